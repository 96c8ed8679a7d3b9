/-
  Layout's laws: rows of numbers that are equal; the seven in a row of one's own; the laws' own small table.
  Layout's laws: the calls that each law makes at the end.
  Layout's laws: the project's answer and the document's are one.
  Layout's laws: LayoutSizes, LayoutFields, LayoutVars, walked.
-/
import Derived.Test.YtnolelgmcmgohaaY10
import Derived.Test.YtnolelgmcmgohaaTg28
import Derived.Test.YtnolelgmcmgohaaTg29
namespace Go.Proofs.Ytnolelgmcmgohaa.Ty
open Go.RowKit hiding Hid
open Go.Proofs.Ytnolelgmcmgohaa.Tx Go.Proofs.Ytnolelgmcmgohaa.Lx Go.Proofs.Ytnolelgmcmgohaa.Tr
set_option linter.unusedVariables false
set_option linter.unusedSimpArgs false
set_option maxRecDepth 100000

set_option maxHeartbeats 2000000 in
theorem same_ints {w : World} {o1 o2 : Option Addr} {l : List Int} (c1 c2 : Nat) (h1 : Cls w o1 (l.map (Value.int .i64))) (h2 : Cls w o2 (l.map (Value.int .i64))) (hl : l.length ≤ 1000000) : Calls Try.prog 32 #[.slice o1 l.length c1, .slice o2 l.length c2] w fun e w' => e = .returned (.bool true) ∧ w.grownBy w' none := by
  have H1 := hide h1
  have H2 := hide h2
  have kl : (l.length : Int) ≤ 1000000 := by omega
  clear h1 h2 hl
  go_enter Try.func32, Try.ntmps32
  go_wp2
  go_loopw [5] (fun iv W => ∃ i : Nat, i ≤ l.length ∧ iv = .int .i64 i ∧ Hid (w.grownBy W none)) (fun iv _ => l.length - (intOf iv).toNat)
  case atStart => exact ⟨0, by omega, rfl, hide (grown_refl w _)⟩
  case round =>
    obtain ⟨i, hi, rfl, HG⟩ := hrel
    by_cases hlt : i < l.length
    · have j1 : (i : Int) < l.length := by omega
      obtain ⟨a, ha⟩ : ∃ a, l[i]? = some a := ⟨l[i], List.getElem?_eq_getElem hlt⟩
      obtain ⟨p1, rfl, e1⟩ := int_at (H1.out.kept HG.out) ha
      obtain ⟨p2, rfl, e2⟩ := int_at (H2.out.kept HG.out) ha
      obtain ⟨A1, hA1⟩ : ∃ A, p1.add i = A := ⟨_, rfl⟩
      obtain ⟨A2, hA2⟩ : ∃ A, p2.add i = A := ⟨_, rfl⟩
      rw [hA1] at e1
      rw [hA2] at e2
      have bl1 := block_lt_of_cell e1
      have bl2 := block_lt_of_cell e2
      clear ha
      go_wp2
      go_quiet (fail)
      go_wp2
      exact ⟨⟨i + 1, by omega, by go_num, hide (gr_then HG.out (drewN_g _ nq))⟩, by simp [intOf]; omega⟩
    · have q1 : ¬ (i : Int) < l.length := by omega
      clear hlt
      go_wp2
      go_ret
      exact ⟨rfl, HG.out⟩
def BaW (w : World) (e : Ending) (w' : World) : Prop := ∃ o cp, e = .returned (.slice o 7 cp) ∧ w.grownBy w' none ∧ w'.ownsRow w.heap.size 32 10 (.slice o 7 cp) 7 (((List.range 7).map bL).flatMap laC)
set_option maxHeartbeats 8000000 in
theorem rbasic_own (w : World) : Calls Try.prog 19 #[] w (BaW w) := by
  have HC := hide ((Cx.start w (fun _ => False)).row_nil 32 10)
  go_enter Try.func19, Try.ntmps19
  go_wp2
  go_loopw [1, 2] (fun lv iv W => ∃ (i : Nat) (oc : Option Addr) (cc : Nat), i ≤ 7 ∧ iv = .int .i64 i ∧ lv = .slice oc i cc ∧ Hid (Cx w (fun _ => False) none [] [⟨.slice oc i cc, 32, 10, i, ((List.range i).map bL).flatMap laC⟩] [] W)) (fun _ iv _ => 7 - (intOf iv).toNat)
  case atStart => exact ⟨0, none, 0, by omega, rfl, rfl, HC⟩
  case round =>
    clear HC
    obtain ⟨i, oc, cc, hi, rfl, rfl, HC⟩ := hrel
    by_cases hlt : i < 7
    · have q1 : (i : Int) < 7 := by omega
      go_wp2_with (first | (refine at_bs 22 rfl ?_; refine wl_bl rfl 22 _ _ rfl 32 (laC (bL i)) HC.out (by kernel_rfl) ?_; intro b w' hn hc; (replace HC := hide hc; clear hc)) | (refine wl_ap rfl _ _ rfl Try.underlying22 infoT (by decide) (by decide) rfl rfl HC.out rfl rfl (by omega) ?_; intro d9 cp9 w' hc; (replace HC := hide hc; clear hc)))
      refine ⟨⟨i + 1, _, _, by omega, by go_num, rfl, hide ?_⟩, by simp [intOf]; omega⟩
      rw [range_one]
      exact HC.out
    · obtain rfl : i = 7 := by omega
      go_wp2
      go_ret
      exact ⟨oc, cc, rfl, HC.out.grown, HC.out.row _ (.head _)⟩
/- The laws' own small table. -/
def f8 : List Fl := [⟨[97], false, 3⟩, ⟨[98], false, 2⟩, ⟨[99], false, 1⟩, ⟨[100], false, 3⟩]
def x8 : Tt := ⟨9, [65], [], 0, 0, 0, f8, [], 0, 0⟩
def T8 : List Tt := basT ++ [x8]
theorem T8_len : T8.length = 8 := rfl
theorem T8_at {i : Nat} {x : Tt} (h : T8[i]? = some x) : (i < 7 ∧ x = bT i) ∨ (i = 7 ∧ x = x8) := by
  rcases i with _ | _ | _ | _ | _ | _ | _ | _ | i
  · cases h; exact .inl ⟨by decide, rfl⟩
  · cases h; exact .inl ⟨by decide, rfl⟩
  · cases h; exact .inl ⟨by decide, rfl⟩
  · cases h; exact .inl ⟨by decide, rfl⟩
  · cases h; exact .inl ⟨by decide, rfl⟩
  · cases h; exact .inl ⟨by decide, rfl⟩
  · cases h; exact .inl ⟨by decide, rfl⟩
  · cases h; exact .inr ⟨rfl, rfl⟩
  · have := (List.getElem?_eq_some_iff.1 h).1
    rw [T8_len] at this
    omega
theorem bT_fm (i : Nat) : (bT i).fm = i := rfl
theorem bas_T (i : Nat) : basicB i (bT i) = true := by unfold basicB bareB bT; simp
theorem bT_parts {i : Nat} (h : i < 7) : partsI (bT i) = [] := by
  unfold partsI
  rw [if_neg (by rw [bT_fm]; omega), if_neg (by rw [bT_fm]; omega)]
theorem good8 : GoodP T8 := by
  refine ⟨⟨by rw [T8_len]; decide, by rw [T8_len]; decide, fun i x hi hx => ?_, fun i x hi hx => ?_⟩, ⟨fun i => if i = 7 then 1 else 0, fun i x hx j hj => ?_⟩, fun i x hx hf => ?_⟩
  · rcases T8_at hx with ⟨_, rfl⟩ | ⟨h, rfl⟩
    · exact bas_T i
    · omega
  · rcases T8_at hx with ⟨h, rfl⟩ | ⟨h, rfl⟩
    · omega
    · exact ⟨by decide, by decide⟩
  · rcases T8_at hx with ⟨h, rfl⟩ | ⟨h, rfl⟩
    · rw [bT_parts h] at hj; cases hj
    · subst h
      have hp : partsI x8 = [3, 2, 1, 3, 0] := rfl
      rw [hp] at hj
      simp only [List.mem_cons, List.not_mem_nil, or_false] at hj
      rcases hj with rfl | rfl | rfl | rfl | rfl <;> decide
  · rcases T8_at hx with ⟨h, rfl⟩ | ⟨h, rfl⟩
    · rw [bT_fm] at hf; omega
    · subst h
      refine ⟨fun k y hk hy hy9 _ _ => ?_, 0, by decide, ⟨x8, rfl, rfl⟩, by decide⟩
      rcases T8_at hy with ⟨h, rfl⟩ | ⟨h, rfl⟩
      · rw [bT_fm] at hy9; omega
      · omega
def s8 (a : Int) : Int := if a = 1 ∨ a = 4 then 4 else if a = 2 ∨ a = 3 then 1 else if a = 7 then 12 else 0
theorem szs8 : Szs T8 s8 := by
  refine ⟨fun i x hx => ?_, fun a => ?_, fun a => ?_⟩
  · rcases T8_at hx with ⟨h, rfl⟩ | ⟨h, rfl⟩
    · rcases i with _ | _ | _ | _ | _ | _ | _ | i
      all_goals first | decide | omega
    · subst h
      decide
  · unfold s8; repeat' split
    all_goals decide
  · unfold s8; repeat' split
    all_goals decide
theorem fd8 : FdI T8 s8 [99] (some (4, 1)) 7 := fun x hx => by
  cases hx
  exact ⟨fun _ => ⟨0, ⟨x8, rfl, rfl⟩, by decide⟩, fun h => absurd rfl h⟩
theorem vr8 : VrP T8 s8 [3, 3, 1] := ⟨by decide, by decide⟩
end Go.Proofs.Ytnolelgmcmgohaa.Ty
namespace Go.Proofs.Ytnolelgmcmgohaa.Ty
open Go.RowKit hiding Hid
open Go.Proofs.Ytnolelgmcmgohaa.Tx Go.Proofs.Ytnolelgmcmgohaa.Lx Go.Proofs.Ytnolelgmcmgohaa.Tr
set_option linter.unusedVariables false
set_option linter.unusedSimpArgs false
set_option maxRecDepth 100000

theorem off8 {w : World} {o : Option Addr} (cp : Nat) (H : Tab w o T8) (hcp : 8 ≤ cp) : Calls Try.prog 28 #[.slice o 8 cp, .int .i64 7, .string ⟨#[99]⟩] w fun e w' => e = .returned (.tuple #[.int .i64 4, .int .i64 1, .bool true]) ∧ w.grownBy w' none := by
  obtain ⟨ad, _, rfl, _⟩ := H.at (i := 7) (x := x8) rfl
  exact poff_good cp H hcp good8 szs8 (a := 7) (by decide) [99] (by decide) (by decide) fd8
theorem size8 {w : World} {o : Option Addr} (cp : Nat) (H : Tab w o T8) (hcp : 8 ≤ cp) : Calls Try.prog 26 #[.slice o 8 cp, .int .i64 7] w fun e w' => e = .returned (.int .i64 12) ∧ w.grownBy w' none :=
  psize_good cp H hcp good8 szs8 (a := 7) (by decide)
theorem vars8 {w : World} {o lo : Option Addr} (cp : Nat) (H : Tab w o T8) (hcp : 8 ≤ cp) (hl : Cls w lo [.int .i64 3, .int .i64 3, .int .i64 1]) : Calls Try.prog 30 #[.slice o 8 cp, .slice lo 3 3] w fun e w' => ∃ o2 c2, e = .returned (.tuple #[.slice o2 3 c2, .int .i64 8]) ∧ w.grownBy w' none ∧ Cls w' o2 [.int .i64 0, .int .i64 1, .int .i64 4] := by
  refine (pvars_good cp 3 (l := [3, 3, 1]) H hcp good8 szs8 hl (by decide)).mono fun e w' ⟨hg, h1, _⟩ => ?_
  obtain ⟨o2, c2, he, hc⟩ := h1 vr8
  exact ⟨o2, c2, he, hg, hc⟩
def fC8 : List Value := [.string (bs [97]), .bool false, .int .i64 3, .string (bs [98]), .bool false, .int .i64 2, .string (bs [99]), .bool false, .int .i64 1, .string (bs [100]), .bool false, .int .i64 3]
def xC8 (b : Nat) : List Value := [.int .i64 9, .string (bs [65]), .string (bs []), .int .i64 0, .int .i64 0, .int .i64 0, .slice (some ⟨b, 0, none⟩) 4 4, .slice none 0 0, .int .i64 0, .int .i64 0]
theorem loc_cls {w0 W : World} {A : Nat → Prop} {X : Option Nat} {L : List Lc} {Rs : List Rw} {Ts : List (List Dt × List Value)} {b : Nat} {cs : List Value} {t : TypeId} (H : Cx w0 A X L Rs Ts W) (hm : ⟨b, cs, t⟩ ∈ L) : Cls W (some ⟨b, 0, none⟩) cs := fun j u hu => by
  have hadd : (⟨b, 0, none⟩ : Addr).add j = ⟨b, j, none⟩ := by unfold Addr.add; split <;> simp_all
  refine ⟨_, rfl, ?_⟩
  rw [hadd]
  exact cf H hm j u hu
theorem tab8 {w W : World} {d : Option Addr} {cp bf : Nat} {L : List Lc} {Ts : List (List Dt × List Value)} (H : Cx w (fun _ => False) none (⟨bf, fC8, 48⟩ :: L) [⟨.slice d (7 + 1) cp, 32, 10, 7 + 1, ((List.range 7).map bL).flatMap laC ++ xC8 bf⟩] Ts W) : Tab W d T8 ∧ 8 ≤ cp := by
  obtain ⟨o9, c9, e9, h9, hc9⟩ := row_clsK (H.row _ (.head _))
  cases e9
  refine ⟨⟨by rw [T8_len]; decide, (List.range 7).map bL ++ [⟨x8, some ⟨bf, 0, none⟩, 4, none, 0⟩], rfl, ?_, fun a ha => ?_⟩, h9⟩
  · rw [List.flatMap_append]
    exact hc9
  · rcases List.mem_append.1 ha with ha | ha
    · obtain ⟨i, _, rfl⟩ := List.mem_map.1 ha
      exact ⟨fun j u hu => by simp [bL, bT] at hu, fun j u hu => by simp [bL, bT] at hu, sm_b i⟩
    · rw [List.mem_singleton] at ha
      subst ha
      refine ⟨loc_cls H (.head _), fun j u hu => by simp [x8] at hu, ⟨show x8.md.length ≤ lim by decide, show x8.nm.length ≤ lim by decide, show x8.fl.length ≤ 1000000 by decide, show x8.pm.length ≤ 1000000 by decide, fun f hf => ?_⟩⟩
      simp only [x8, f8, List.mem_cons, List.not_mem_nil, or_false] at hf
      rcases hf with rfl | rfl | rfl | rfl <;> decide
set_option maxHeartbeats 16000000 in
theorem wakes14 (w : World) : Calls Try.prog 25 #[] w (SzO w (.bool true)) := by
  have HC := hide (Cx.start w (fun _ => False))
  have M1 := True.intro
  go_enter Try.func25, Try.ntmps25
  go_wp2_with (first | (go_at_call 19; refine (rbasic_own _).mono ?_; rintro e w1 ⟨ob, cb, rfl, hg, hr⟩; refine HC.out.row0 hg hr ?_; intro hc; (replace HC := hide hc; clear hc); clear hg hr) | (refine at_bs 29 rfl ?_; refine wl_bl rfl 29 _ _ rfl 48 fC8 HC.out (by kernel_rfl) ?_; intro bf w' hn hc; (replace HC := hide hc; clear hc)) | (refine at_bs 22 rfl ?_; refine wl_bl rfl 22 _ _ rfl 32 (xC8 bf) HC.out (by kernel_rfl) ?_; intro by' w' hn hc; (replace HC := hide hc; clear hc)) | (refine wl_ap rfl _ _ rfl Try.underlying22 infoT (by decide) (by decide) rfl rfl HC.out rfl rfl (by omega) ?_; intro d9 cp9 w' hc; (replace HC := hide hc; clear hc); obtain ⟨ht, hcp⟩ := tab8 HC.out; have HT := hide ht; have HCp := hide hcp; have HG0 := hide HC.out.grown; replace HC := hide (Cx.start w' (fun _ => False)); clear ht hcp) | (go_at_call 28; refine (off8 _ (HT.out.kept HC.out.grown) HCp.out).mono ?_; rintro e w2 ⟨rfl, hg⟩; replace HC := hide (HC.out.g hg); clear hg) | (clear M1; refine at_bs 42 rfl ?_; refine wl_bl rfl 42 _ _ rfl 3 [.int .i64 3, .int .i64 3, .int .i64 1] HC.out (by kernel_rfl) ?_; intro b1 w' hn hc; (replace HC := hide hc; clear hc)) | (go_at_call 30; refine (vars8 _ (HT.out.kept HC.out.grown) HCp.out (loc_cls HC.out (.head _))).mono ?_; rintro e w2 ⟨yo, yc, rfl, hg, hy⟩; replace HC := hide (HC.out.g hg); have HY := hide hy; clear hg hy) | (go_at_call 26; refine (size8 _ (HT.out.kept HC.out.grown) HCp.out).mono ?_; rintro e w2 ⟨rfl, hg⟩; replace HC := hide (HC.out.g hg); replace HY := hide (HY.out.kept hg); clear hg) | (go_at_call 32; refine (same_ints (l := [0, 1, 4]) _ _ (HY.out.kept (World.grownBy_alloc _ _ none)) (loc_cls (HC.out.loc_new [.int .i64 0, .int .i64 1, .int .i64 4] 3) (.head _)) (by decide)).mono ?_; rintro e w3 ⟨rfl, hg⟩; replace HC := hide ((HC.out.g (World.grownBy_alloc _ _ none)).g hg); clear hg))
  go_ret
  exact ⟨rfl, gr_then HG0.out HC.out.grown⟩
end Go.Proofs.Ytnolelgmcmgohaa.Ty
namespace Go.Proofs.Ytnolelgmcmgohaa.Ty
open Go.RowKit hiding Hid
open Go.Proofs.Ytnolelgmcmgohaa.Tx Go.Proofs.Ytnolelgmcmgohaa.Lx Go.Proofs.Ytnolelgmcmgohaa.Tr
set_option linter.unusedVariables false
set_option linter.unusedSimpArgs false
set_option maxRecDepth 100000

theorem Tab.some {w : World} {o : Option Addr} {T : List Tt} (H : Tab w o T) (h : 0 < T.length) : ∃ ad, o = some ad := by
  obtain ⟨ad, _, e, _⟩ := H.at (i := 0) (x := T[0]) (List.getElem?_eq_getElem h)
  exact ⟨ad, e⟩
theorem in_nat {n : Nat} {a : Int} (h : inT n a = true) : ∃ q : Nat, a = (q : Int) ∧ q < n := by
  unfold inT at h
  simp only [Bool.and_eq_true, decide_eq_true_eq] at h
  obtain ⟨q, rfl⟩ := Int.eq_ofNat_of_zero_le h.1
  exact ⟨q, rfl, by omega⟩
def PSz (T : List Tt) (a v : Int) : Prop := ∀ (W : World) (o : Option Addr) (cp : Nat), Tab W o T → T.length ≤ cp → Calls Try.prog 26 #[.slice o T.length cp, .int .i64 a] W (SzO W (.int .i64 v))
def RSz (T : List Tt) (a v : Int) : Prop := ∀ (W : World) (o : Option Addr) (cp : Nat), Tab W o T → Calls Try.prog 27 #[.slice o T.length cp, .int .i64 a] W (SzO W (.int .i64 v))
theorem sizes_pair (T : List Tt) (a : Int) : ∃ v, PSz T a v ∧ RSz T a v ∧ 0 ≤ v ∧ v ≤ 32769 := by
  by_cases h : GoodP T ∧ inT T.length a = true
  · obtain ⟨G, hi⟩ := h
    obtain ⟨s, hs⟩ := szs_of G
    obtain ⟨q, rfl, hq⟩ := in_nat hi
    refine ⟨s (q : Int), fun W o cp H hcp => psize_good cp H hcp G hs hq, fun W o cp H => ?_, hs.lo _, hs.hi _⟩
    obtain ⟨ad, rfl⟩ := H.some (by omega)
    exact rsize_good cp H G hs hq
  · exact ⟨0, fun W o cp H hcp => psize_bad cp H hcp h, fun W o cp H => rsize_bad cp H h, by decide, by decide⟩
def POf (T : List Tt) (a : Int) (nm : Txt) (p : Option (Int × Int)) : Prop := ∀ (W : World) (o : Option Addr) (cp : Nat), Tab W o T → T.length ≤ cp → Calls Try.prog 28 #[.slice o T.length cp, .int .i64 a, .string (bs nm)] W (SzO W (ansV p))
def ROf (T : List Tt) (a : Int) (nm : Txt) (p : Option (Int × Int)) : Prop := ∀ (W : World) (o : Option Addr) (cp : Nat), Tab W o T → Calls Try.prog 29 #[.slice o T.length cp, .int .i64 a, .string (bs nm)] W (SzO W (ansV p))
theorem offs_pair (T : List Tt) (a : Int) (nm : Txt) (hnm : nm.length ≤ lim) : ∃ p, POf T a nm p ∧ ROf T a nm p := by
  by_cases h : GoodP T ∧ inT T.length a = true
  · obtain ⟨G, hi⟩ := h
    obtain ⟨s, hs⟩ := szs_of G
    obtain ⟨q, rfl, hq⟩ := in_nat hi
    by_cases hb : s (q : Int) ≤ 32768
    case neg =>
      refine ⟨none, fun W o cp H hcp => poff_big cp H hcp G hs hq nm (by omega), fun W o cp H => ?_⟩
      obtain ⟨ad, rfl⟩ := H.some (by omega)
      exact roff_big cp H G hs hq nm (by omega)
    obtain ⟨x, hx⟩ : ∃ x, T[q]? = some x := ⟨T[q], List.getElem?_eq_getElem hq⟩
    by_cases hf : x.fm = 9
    · obtain ⟨_, n, _, hl, _⟩ := G.rcd q x hx hf
      have hI : FdI T s nm (fndB T s nm n q) q := fun y hy => by
        rw [hx] at hy
        cases hy
        exact ⟨fun _ => ⟨n, hl, rfl⟩, fun h => absurd hf h⟩
      refine ⟨fndB T s nm n q, fun W o cp H hcp => ?_, fun W o cp H => ?_⟩
      · obtain ⟨ad, rfl⟩ := H.some (by omega)
        exact poff_good cp H hcp G hs hq nm hnm hb hI
      · obtain ⟨ad, rfl⟩ := H.some (by omega)
        exact roff_good cp H G hs hq nm hnm hb (by rw [fmA_at hx]; exact hf) hI
    · have hI : FdI T s nm none q := fun y hy => by
        rw [hx] at hy
        cases hy
        exact ⟨fun h => absurd h hf, fun _ => rfl⟩
      refine ⟨none, fun W o cp H hcp => ?_, fun W o cp H => ?_⟩
      · obtain ⟨ad, rfl⟩ := H.some (by omega)
        exact poff_good cp H hcp G hs hq nm hnm hb hI
      · obtain ⟨ad, rfl⟩ := H.some (by omega)
        exact roff_none cp H G hs hq nm hb (by rw [fmA_at hx]; exact hf)
  · exact ⟨none, fun W o cp H hcp => poff_bad cp H hcp nm h, fun W o cp H => roff_bad cp H nm h⟩
def VsO (w : World) (m : List Int) (v : Int) (e : Ending) (w' : World) : Prop := ∃ o c, e = .returned (.tuple #[.slice o m.length c, .int .i64 v]) ∧ w.grownBy w' none ∧ Cls w' o (m.map (Value.int .i64))
def PVs (T : List Tt) (l m : List Int) (v : Int) : Prop := ∀ (W : World) (o lo : Option Addr) (cp lc : Nat), Tab W o T → T.length ≤ cp → Cls W lo (l.map (Value.int .i64)) → Calls Try.prog 30 #[.slice o T.length cp, .slice lo l.length lc] W (VsO W m v)
def RVs (T : List Tt) (l m : List Int) (v : Int) : Prop := ∀ (W : World) (o lo : Option Addr) (cp lc : Nat), Tab W o T → Cls W lo (l.map (Value.int .i64)) → Calls Try.prog 31 #[.slice o T.length cp, .slice lo l.length lc] W (VsO W m v)
theorem vs_nil {w : World} {e : Ending} {w' : World} (h : SzO w (.tuple #[.slice none 0 0, .int .i64 0]) e w') : VsO w [] 0 e w' := ⟨none, 0, h.1, h.2, fun j u hu => by simp at hu⟩
theorem vs_of {w : World} {T : List Tt} {s : Int → Int} {l : List Int} (hv : VrP T s l) {e : Ending} {w' : World} (h : VrO w T s l e w') : VsO w (atsL s 0 l) (up4 (layE s 0 l)) e w' := by
  obtain ⟨o, c, he, hc⟩ := h.2.1 hv
  exact ⟨o, c, by rw [atsL_len]; exact he, h.1, hc⟩
theorem vs_no {w : World} {T : List Tt} {s : Int → Int} {l : List Int} (hv : ¬ VrP T s l) {e : Ending} {w' : World} (h : VrO w T s l e w') : VsO w [] 0 e w' := vs_nil ⟨h.2.2 hv, h.1⟩
theorem vars_pair (T : List Tt) (l : List Int) (hl : l.length ≤ 1000) : ∃ m v, PVs T l m v ∧ RVs T l m v ∧ m.length ≤ 1000 ∧ 0 ≤ v ∧ v ≤ 40000 := by
  by_cases G : GoodP T
  · obtain ⟨s, hs⟩ := szs_of G
    by_cases hv : VrP T s l
    · refine ⟨atsL s 0 l, up4 (layE s 0 l), fun W o lo cp lc H hcp hc => (pvars_good cp lc H hcp G hs hc hl).mono fun e w' h => vs_of hv h, fun W o lo cp lc H hc => ?_, by rw [atsL_len]; exact hl, ?_, ?_⟩
      · obtain ⟨ad, rfl⟩ := H.some (by have := G.loc.lo; omega)
        exact (rvars_good cp lc H G hs hc hl).mono fun e w' h => vs_of hv h
      · have := up4_le (layE s 0 l)
        have := layE_le hs.lo l 0
        omega
      · have := up4_lt (layE s 0 l)
        have := hv.2
        omega
    · refine ⟨[], 0, fun W o lo cp lc H hcp hc => (pvars_good cp lc H hcp G hs hc hl).mono fun e w' h => vs_no hv h, fun W o lo cp lc H hc => ?_, by decide, by decide, by decide⟩
      obtain ⟨ad, rfl⟩ := H.some (by have := G.loc.lo; omega)
      exact (rvars_good cp lc H G hs hc hl).mono fun e w' h => vs_no hv h
  · exact ⟨[], 0, fun W o lo cp lc H hcp hc => (pvars_bad _ cp lc H hcp G).mono fun e w' h => vs_nil h, fun W o lo cp lc H hc => (rvars_bad _ cp lc H G).mono fun e w' h => vs_nil h, by decide, by decide, by decide⟩
section
variable {P : Program} {ops : Array Oper} {rest : List Oper} {o : Oper} {a : Act} {w w0 : World} {A : Nat → Prop} {X : Option Nat} {L : List Lc} {Rs : List Rw} {Ts : List (List Dt × List Value)} {Q : Exit → Act → World → Prop}
theorem wl_b0 (hgd : o.guard = none) (T e : TypeId) (k : Nat) (ho : o.op = .buildSlice T 0 #[]) (hu : P.underlying T = some (.slice e)) (hie : (P.info? e).isSome = true) (H : Cx w0 A X L Rs Ts w)
    (h : ∀ b w', Cx w0 A X L (⟨.slice (some ⟨b, 0, none⟩) 0 0, e, k, 0, []⟩ :: Rs) Ts w' → wpList P ops Q rest (a.put o.dst (.slice (some ⟨b, 0, none⟩) 0 0)) w') : wpList P ops Q (o :: rest) a w :=
  wpList_plain hgd fun K' hK' => op_b0 T e k ho hu hie H (fun b w' _ _ hc => hK' _ _ (h b w' hc))
theorem wl_apc (hgd : o.guard = none) (s x : Operand) {T : TypeId} (ho : o.op = .call { callee := .builtin .append, args := #[s, x], argTypes := #[T, T] }) {e : TypeId} {k by_ : Nat} (hT : P.underlying T = some (.slice e)) (hi : (P.info? e).map (fun i => (i.zero.map (·.cells.size), i.size, i.bytes)) = some (some k, k, by_)) (hk : 0 < k) (hb : by_ ≤ 100000)
    {v : Value} {n m : Nat} {xs us : List Value} {oo : Option Addr} {c : Nat} (hs : a.eval s = v) (hx : a.eval x = .slice oo m c) (H : Cx w0 A X L (⟨v, e, k, n, xs⟩ :: Rs) Ts w) (hsrc : Cls w oo us) (hlen : us.length = m * k) (hnil : oo = none → m = 0 ∧ c = 0) (h1 : us.all (·.oneCell') = true) (hn : n + m ≤ 900000)
    (h : ∀ d cp w', Cx w0 A X L (⟨.slice d (n + m) cp, e, k, n + m, xs ++ us⟩ :: Rs) Ts w' → wpList P ops Q rest (a.put o.dst (.slice d (n + m) cp)) w') : wpList P ops Q (o :: rest) a w :=
  wpList_plain hgd fun K' hK' => op_apc s x ho hT hi hk hb hs hx H hsrc hlen hnil h1 hn (fun d cp w' _ hc => hK' _ _ (h d cp w' hc))
end
end Go.Proofs.Ytnolelgmcmgohaa.Ty
namespace Go.Proofs.Ytnolelgmcmgohaa.Ty
open Go.RowKit hiding Hid
open Go.Proofs.Ytnolelgmcmgohaa.Tx Go.Proofs.Ytnolelgmcmgohaa.Lx Go.Proofs.Ytnolelgmcmgohaa.Tr
set_option linter.unusedVariables false
set_option linter.unusedSimpArgs false
set_option maxRecDepth 100000

theorem large_T {w : World} {o : Option Addr} {l : List La} {T : List Tt} (cp : Nat) (hT : l.map La.x = T) (H : TabR w o l) (hl : l.length ≤ rch) : Calls Try.prog 12 #[.slice o T.length cp] w (LgO w l) := by
  subst hT
  rw [List.length_map]
  exact large_at cp H hl
def CpO (w : World) (T : List Tt) (e : Ending) (w' : World) : Prop := ∃ oi ci, e = .returned (.slice oi T.length ci) ∧ w.grownBy w' none ∧ Tab w' oi T ∧ T.length ≤ ci
theorem copy_T {w : World} {o : Option Addr} {l : List La} {T : List Tt} (cp : Nat) (hT : l.map La.x = T) (H : TabR w o l) (hf : Few l) : Calls Try.prog 14 #[.slice o T.length cp] w (CpO w T) := by
  subst hT
  obtain ⟨h1, h2, h3⟩ := hf.small H
  have hle := hf.le
  rw [show ((l.map La.x).length) = l.length by rw [List.length_map]]
  refine (copy_go cp h1 h2 h3 (by omega)).mono fun e w' ⟨oi, ci, xs, he, hg, hr, hv⟩ => ?_
  obtain ⟨ht, hc⟩ := CoO.tab (by rw [List.length_map]; omega) (fun x hx => by
    obtain ⟨a, ha, rfl⟩ := List.mem_map.1 hx
    exact (h1.parts a ha).sm) hr hv
  exact ⟨oi, ci, he, hg, ht, hc⟩
set_option maxHeartbeats 8000000 in
theorem lsizes_walk {w : World} {o : Option Addr} {cp : Nat} {l : List La} (H : TabR w o l) (hl : l.length ≤ rch) (a : Int) : Calls Try.prog 7 #[.slice o l.length cp, .int .i64 a] w (SzO w (.bool true)) := by
  obtain ⟨T, hT⟩ : ∃ T, l.map La.x = T := ⟨_, rfl⟩
  obtain ⟨v, h1, h2, _⟩ := sizes_pair T a
  have H1 := hide h1
  have H2 := hide h2
  rw [show l.length = T.length by rw [← hT, List.length_map]]
  have HT := hide H
  have HTe := hide hT
  have HLl := hide hl
  have HC := hide (Cx.start w (fun _ => False))
  clear H hl hT h1 h2
  go_enter Try.func7, Try.ntmps7
  go_wp2_with (first | (go_at_call 12; refine (large_T cp HTe.out (HT.out.kept HC.out.grown) HLl.out).mono ?_; rintro e w1 ⟨d, rfl, hg, hd⟩; replace HC := hide (HC.out.g hg); clear hg; cases d <;> (first | (have HFw := hide (hd rfl); clear hd) | clear hd)) | (go_at_call 25; refine (wakes14 _).mono ?_; rintro e w1 ⟨rfl, hg⟩; replace HC := hide (HC.out.g hg); clear hg) | (go_at_call 14; refine (copy_T cp HTe.out (HT.out.kept HC.out.grown) HFw.out).mono ?_; rintro e w1 ⟨oi, ci, rfl, hg, ht, hci⟩; replace HC := hide (HC.out.g hg); have HTi := hide ht; have HCi := hide hci; clear hg ht hci) | (go_at_call 26; refine (H1.out _ _ _ HTi.out HCi.out).mono ?_; rintro e w1 ⟨rfl, hg⟩; replace HC := hide (HC.out.g hg); (replace HTi := hide (HTi.out.kept hg)); clear hg) | (go_at_call 27; refine (H2.out _ _ _ (by have h := HFw.out.tab HT.out; rw [HTe.out] at h; exact h.kept HC.out.grown)).mono ?_; rintro e w1 ⟨rfl, hg⟩; replace HC := hide (HC.out.g hg); (replace HTi := hide (HTi.out.kept hg)); clear hg) | (go_at_call 17; refine (tables_e _ _ HTi.out (by have h := HFw.out.tab HT.out; rw [HTe.out] at h; exact h.kept HC.out.grown)).mono ?_; rintro e w1 ⟨rfl, hg⟩; replace HC := hide (HC.out.g hg); (replace HTi := hide (HTi.out.kept hg)); clear hg))
  all_goals go_ret
  all_goals (exact ⟨rfl, HC.out.grown⟩)
set_option maxHeartbeats 8000000 in
theorem lfields_walk {w : World} {o : Option Addr} {cp : Nat} {l : List La} (H : TabR w o l) (hl : l.length ≤ rch) (a : Int) (nm : Txt) (hn : nm.length ≤ lim) : Calls Try.prog 8 #[.slice o l.length cp, .int .i64 a, .string (bs nm)] w (SzO w (.bool true)) := by
  obtain ⟨T, hT⟩ : ∃ T, l.map La.x = T := ⟨_, rfl⟩
  obtain ⟨p, h1, h2⟩ := offs_pair T a nm hn
  have H1 := hide h1
  have H2 := hide h2
  rw [show l.length = T.length by rw [← hT, List.length_map]]
  have HT := hide H
  have HTe := hide hT
  have HLl := hide hl
  have HC := hide (Cx.start w (fun _ => False))
  have zz := bs_size nm
  have zl : (nm.length : Int) ≤ 9223372036854775807 := by unfold lim at hn; omega
  clear H hl hT h1 h2 hn
  by_cases hm : 1000 < nm.length
  · have j1 : (1000 : Int) < nm.length := by omega
    clear hm
    go_enter Try.func8, Try.ntmps8
    go_wp2_with (first | (go_at_call 12; refine (large_T cp HTe.out (HT.out.kept HC.out.grown) HLl.out).mono ?_; rintro e w1 ⟨d, rfl, hg, hd⟩; replace HC := hide (HC.out.g hg); clear hg; cases d <;> (first | (have HFw := hide (hd rfl); clear hd) | clear hd)) | (go_at_call 25; refine (wakes14 _).mono ?_; rintro e w1 ⟨rfl, hg⟩; replace HC := hide (HC.out.g hg); clear hg))
    all_goals go_ret
    all_goals (exact ⟨rfl, HC.out.grown⟩)
  have j1 : ¬ (1000 : Int) < nm.length := by omega
  clear hm
  cases p with
  | none =>
    go_enter Try.func8, Try.ntmps8
    go_wp2_with (first | (go_at_call 12; refine (large_T cp HTe.out (HT.out.kept HC.out.grown) HLl.out).mono ?_; rintro e w1 ⟨d, rfl, hg, hd⟩; replace HC := hide (HC.out.g hg); clear hg; cases d <;> (first | (have HFw := hide (hd rfl); clear hd) | clear hd)) | (go_at_call 25; refine (wakes14 _).mono ?_; rintro e w1 ⟨rfl, hg⟩; replace HC := hide (HC.out.g hg); clear hg) | (go_at_call 14; refine (copy_T cp HTe.out (HT.out.kept HC.out.grown) HFw.out).mono ?_; rintro e w1 ⟨oi, ci, rfl, hg, ht, hci⟩; replace HC := hide (HC.out.g hg); have HTi := hide ht; have HCi := hide hci; clear hg ht hci) | (go_at_call 28; refine (H1.out _ _ _ HTi.out HCi.out).mono ?_; unfold ansV; dsimp only; rintro e w1 ⟨rfl, hg⟩; replace HC := hide (HC.out.g hg); (replace HTi := hide (HTi.out.kept hg)); clear hg) | (go_at_call 29; refine (H2.out _ _ _ (by have h := HFw.out.tab HT.out; rw [HTe.out] at h; exact h.kept HC.out.grown)).mono ?_; unfold ansV; dsimp only; rintro e w1 ⟨rfl, hg⟩; replace HC := hide (HC.out.g hg); (replace HTi := hide (HTi.out.kept hg)); clear hg))
    all_goals go_ret
    all_goals (exact ⟨rfl, HC.out.grown⟩)
  | some p =>
    obtain ⟨p1, p2⟩ := p
    go_enter Try.func8, Try.ntmps8
    go_wp2_with (first | (go_at_call 12; refine (large_T cp HTe.out (HT.out.kept HC.out.grown) HLl.out).mono ?_; rintro e w1 ⟨d, rfl, hg, hd⟩; replace HC := hide (HC.out.g hg); clear hg; cases d <;> (first | (have HFw := hide (hd rfl); clear hd) | clear hd)) | (go_at_call 25; refine (wakes14 _).mono ?_; rintro e w1 ⟨rfl, hg⟩; replace HC := hide (HC.out.g hg); clear hg) | (go_at_call 14; refine (copy_T cp HTe.out (HT.out.kept HC.out.grown) HFw.out).mono ?_; rintro e w1 ⟨oi, ci, rfl, hg, ht, hci⟩; replace HC := hide (HC.out.g hg); have HTi := hide ht; have HCi := hide hci; clear hg ht hci) | (go_at_call 28; refine (H1.out _ _ _ HTi.out HCi.out).mono ?_; unfold ansV; dsimp only; rintro e w1 ⟨rfl, hg⟩; replace HC := hide (HC.out.g hg); (replace HTi := hide (HTi.out.kept hg)); clear hg) | (go_at_call 29; refine (H2.out _ _ _ (by have h := HFw.out.tab HT.out; rw [HTe.out] at h; exact h.kept HC.out.grown)).mono ?_; unfold ansV; dsimp only; rintro e w1 ⟨rfl, hg⟩; replace HC := hide (HC.out.g hg); (replace HTi := hide (HTi.out.kept hg)); clear hg))
    all_goals go_ret
    all_goals (exact ⟨rfl, HC.out.grown⟩)
theorem someI : (Try.prog.info? 3).isSome = true := by kernel_rfl
theorem int_one (l : List Int) : (l.map (Value.int .i64)).all (·.oneCell') = true := by
  rw [List.all_eq_true]
  intro u hu
  obtain ⟨f, _, rfl⟩ := List.mem_map.1 hu
  rfl
set_option maxHeartbeats 8000000 in
theorem lvars_walk {w : World} {o lo : Option Addr} {cp lc : Nat} {l : List La} {li : List Int} (H : TabR w o l) (hl : l.length ≤ rch) (hi : Cls w lo (li.map (Value.int .i64))) (hin : lo = none → li.length = 0 ∧ lc = 0) (hm : li.length ≤ lim) : Calls Try.prog 9 #[.slice o l.length cp, .slice lo li.length lc] w (SzO w (.bool true)) := by
  obtain ⟨T, hT⟩ : ∃ T, l.map La.x = T := ⟨_, rfl⟩
  rw [show l.length = T.length by rw [← hT, List.length_map]]
  have HT := hide H
  have HTe := hide hT
  have HLl := hide hl
  have HLo := hide hi
  have HNl := hide hin
  have HC := hide (Cx.start w (fun _ => False))
  have zl : (li.length : Int) ≤ 9223372036854775807 := by unfold lim at hm; omega
  by_cases h3 : 300 < li.length
  · have j1 : (300 : Int) < li.length := by omega
    clear h3 H hl hT hi hin hm
    go_enter Try.func9, Try.ntmps9
    go_wp2_with (first | (go_at_call 12; refine (large_T cp HTe.out (HT.out.kept HC.out.grown) HLl.out).mono ?_; rintro e w1 ⟨d, rfl, hg, hd⟩; replace HC := hide (HC.out.g hg); clear hg; cases d <;> (first | (have HFw := hide (hd rfl); clear hd) | clear hd)) | (go_at_call 25; refine (wakes14 _).mono ?_; rintro e w1 ⟨rfl, hg⟩; replace HC := hide (HC.out.g hg); clear hg))
    all_goals go_ret
    all_goals (exact ⟨rfl, HC.out.grown⟩)
  have j1 : ¬ (300 : Int) < li.length := by omega
  obtain ⟨m, v, h1, h2, hm1, hv0, hv1⟩ := vars_pair T li (by omega)
  have H1 := hide h1
  have H2 := hide h2
  have HMl := hide hm1
  have HLi := hide (show li.length ≤ 1000000 by omega)
  have jn : (li.length : Int) ≤ 300 := by omega
  clear h3 H hl hT hi hin hm h1 h2 hm1 zl
  go_enter Try.func9, Try.ntmps9
  have M1 := True.intro
  go_wp2_with (first | (go_at_call 12; refine (large_T cp HTe.out (HT.out.kept HC.out.grown) HLl.out).mono ?_; rintro e w1 ⟨d, rfl, hg, hd⟩; replace HC := hide (HC.out.g hg); clear hg; cases d <;> (first | (have HFw := hide (hd rfl); clear hd) | clear hd)) | (go_at_call 25; refine (wakes14 _).mono ?_; rintro e w1 ⟨rfl, hg⟩; replace HC := hide (HC.out.g hg); clear hg) | (go_at_call 14; refine (copy_T cp HTe.out (HT.out.kept HC.out.grown) HFw.out).mono ?_; rintro e w1 ⟨oi, ci, rfl, hg, ht, hci⟩; replace HC := hide (HC.out.g hg); have HTi := hide ht; have HCi := hide hci; replace HIn := hide (HIn.out.kept hg); clear hg ht hci) | (refine at_bs 42 rfl ?_; refine wl_b0 rfl 42 3 1 rfl Try.underlying42 someI HC.out ?_; intro bq w' hc; (replace HC := hide hc; clear hc)) | (refine wl_apc rfl _ _ rfl Try.underlying42 infoI (by decide) (by decide) rfl rfl HC.out (HLo.out.kept HC.out.grown) (by rw [List.length_map, Nat.mul_one]) HNl.out (int_one _) (by omega) ?_; intro d9 cp9 w' hc; (replace HC := hide hc; clear hc); simp only [Nat.zero_add, List.nil_append] at HC; (try simp only [Nat.zero_add]); obtain ⟨o9, c9, e9, hin9⟩ := row_cls (HC.out.row _ (.head _)); cases e9; have HIn := hide hin9; have HG0 := hide HC.out.grown; replace HC := hide ((Cx.start w (fun _ => False)).g HG0.out); clear hin9) | (go_at_call 30; refine (H1.out _ _ _ _ _ HTi.out HCi.out HIn.out).mono ?_; rintro e w1 ⟨ko, kc, rfl, hg, hk⟩; replace HC := hide (HC.out.g hg); replace HIn := hide (HIn.out.kept hg); have HK := hide hk; clear hg hk) | (go_at_call 31; refine (H2.out _ _ _ _ _ (by have h := HFw.out.tab HT.out; rw [HTe.out] at h; exact h.kept HC.out.grown) (HLo.out.kept HC.out.grown)).mono ?_; rintro e w1 ⟨jo, jc, rfl, hg, hj⟩; replace HC := hide (HC.out.g hg); replace HIn := hide (HIn.out.kept hg); replace HK := hide (HK.out.kept hg); have HJ := hide hj; clear hg hj) | (clear M1; go_at_call 32; refine (same_ints _ _ HK.out HJ.out (by have := HMl.out; omega)).mono ?_; rintro e w1 ⟨rfl, hg⟩; replace HC := hide (HC.out.g hg); replace HIn := hide (HIn.out.kept hg); clear hg) | (go_at_call 32; refine (same_ints _ _ HIn.out (HLo.out.kept HC.out.grown) HLi.out).mono ?_; rintro e w1 ⟨rfl, hg⟩; replace HC := hide (HC.out.g hg); clear hg))
  all_goals go_ret
  all_goals (exact ⟨rfl, HC.out.grown⟩)
end Go.Proofs.Ytnolelgmcmgohaa.Ty
