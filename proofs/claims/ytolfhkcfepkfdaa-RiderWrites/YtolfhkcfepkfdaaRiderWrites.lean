/-
  For every list of items, the law RiderWrites answers true: any things one behind the other are written as the document says, or it is told why not; no conditions.
-/
import Derived.Test.YtolfhkcfepkfdaaRows
import Derived.Test.YtolfhkcfepkfdaaRiarg
import Derived.WalkKit
import Derived.ProofKit
import Derived.Below
import Derived.Test.YtolfhkcfepkfdaaPt2
namespace Go.Proofs.Ytolfhkcfepkfdaa.riderWrites
open Go.ChangeShapes Go.WideShapes Go.ChangeAt Go.RowKit Go.ChangeMaps Go.Proofs.Ytolfhkcfepkfdaa.Ri Go.Proofs.Ytolfhkcfepkfdaa.Tx
set_option linter.unusedVariables false
set_option linter.unusedSimpArgs false
set_option maxRecDepth 100000

theorem tp_start {w w1 : World} {q : Nat} (hq : q = w.heap.size) (h : Ww w1 w.heap.size q (.slice none 0 0) [] false) (hg : w.grownBy w1 none) : Tp w (w1.alloc (.cells #[.slice none 0 0, .bool false] 28)) q w1.heap.size (.slice none 0 0) (.slice none 0 0) [] false [] false :=
  ⟨h.kept (alloc_g _ _), ⟨heap_alloc_new _ _, ⟨rfl, .inl ⟨rfl, rfl⟩⟩⟩, grown_trans hg (alloc_g _ _), by omega, hg.size, fun k hk => by simp [Value.ownBlock] at hk⟩
/- Both have the same bytes, unless both are spoilt. -/
structure Eqs (xs ys : List UInt8) (sp : Bool) (k : Nat) : Prop where
  same : sp = false → xs = ys
  lx : xs.length ≤ 65 * k
  ly : ys.length ≤ 65 * k
theorem Eqs.next {xs ys : List UInt8} {sp : Bool} {k : Nat} (h : Eqs xs ys sp k) {o : Option (List UInt8)} (ho : few o) : Eqs (pxs xs sp o) (rys ys o) (psp sp o) (k + 1) := by
  have h1 := h.lx
  have h2 := h.ly
  cases o with
  | none => exact ⟨fun e => (by cases e), (by simp [pxs]), (by simp [rys]; omega)⟩
  | some e =>
    have he := ho e rfl
    refine ⟨fun hs => ?_, ?_, ?_⟩
    · have hs : sp = false := hs
      subst hs
      show nxA xs false e = ys ++ e
      rw [h.same rfl]
      rfl
    · have := nxA_len xs sp e
      show (nxA xs sp e).length ≤ _
      omega
    · show (ys ++ e).length ≤ _
      rw [List.length_append]
      omega
set_option maxHeartbeats 2000000 in

theorem walk (w : World) (o0 : Option Addr) (n0 c0 : Nat) (f0 : Nat → It) (S0 : Il w o0 n0 f0) :
    Calls Try.prog 3 #[.slice o0 n0 c0] w fun e w' => e = .returned (.bool true) ∧ w.grownBy w' none := by
  have HS := hide S0
  have hmax : (n0 : Int) ≤ 9223372036854775807 := by have := S0.max; unfold maxLen at this; omega
  clear S0
  go_enter Try.func3, Try.ntmps3
  go_wp2_with (go_at_call 9; refine (write_new _).mono ?_; rintro e w1 ⟨rfl, h1, h2⟩; have H1 := hide (tp_start rfl h1 h2); clear h1 h2)
  go_loopw [5] (fun i W => ∃ (k : Nat) (vp vg : Value) (xs ys : List UInt8) (b : Bool), k ≤ n0 ∧ k ≤ 200 ∧ i = .int .i64 k ∧ Ri.Hid (Tp w W w.heap.size w1.heap.size vp vg xs b ys b) ∧ Ri.Hid (Eqs xs ys b k)) (fun i _ => n0 - (intOf i).toNat)
  case atStart => exact ⟨0, _, _, [], [], false, Nat.zero_le _, Nat.zero_le _, rfl, H1, hide ⟨fun _ => rfl, by simp, by simp⟩⟩
  case round =>
    clear H1
    obtain ⟨k, vp, vg, xs, ys, b, hk, hk2, rfl, HT, HE⟩ := hrel
    by_cases hlt : k < n0 ∧ k < 200
    · obtain ⟨hlt1, hlt2⟩ := hlt
      have i1 : (k : Int) < (n0 : Int) := by omega
      have i2 : (k : Int) < 200 := by omega
      obtain ⟨ad, rfl⟩ : ∃ ad, o0 = some ad := by
        cases o0 with
        | none => have := HS.out.none rfl; omega
        | some ad => exact ⟨ad, rfl⟩
      obtain ⟨A0, hA⟩ : ∃ A, ad.add (k * 3) = A := ⟨_, rfl⟩
      obtain ⟨s0', s1', s2'⟩ := HS.out.at' ad rfl k hlt1
      rw [hA] at s0' s1' s2'
      rw [Addr.add_zero'] at s0'
      rw [Addr.add_succ'] at s1' s2'
      simp only [Nat.zero_add, Nat.reduceAdd] at s1' s2'
      have kp : ∀ {a : Addr} {x : Value}, w.cell? a = some x → wr.cell? a = some x := fun {a x} h => HT.out.gr.cell h (by simp)
      replace s0' := kp s0'
      replace s1' := kp s1'
      replace s2' := kp s2'
      obtain ⟨q0, q1, q2⟩ := HS.out.ok k hlt1
      obtain ⟨ik, hik⟩ : ∃ x, (f0 k).k = x := ⟨_, rfl⟩
      obtain ⟨im, him⟩ : ∃ x, (f0 k).n = x := ⟨_, rfl⟩
      obtain ⟨it, hit⟩ : ∃ x, (f0 k).t = x := ⟨_, rfl⟩
      rw [hik] at s0' q0
      rw [him] at s1' q1
      rw [hit] at s2' q2
      have HB := hide (show -9223372036854775808 ≤ im ∧ im ≤ 9223372036854775807 by
        have e0 : IntKind.i64.min = -9223372036854775808 := by decide
        have e1 : IntKind.i64.max = 9223372036854775807 := by decide
        simp [Lit.wf, e0, e1] at q1
        omega)
      have hzt := bs_size it
      have lt : (it.length : Int) ≤ 9223372036854775807 := by unfold maxLen at q2; omega
      clear kp hik him hit q0 q1 q2
      by_cases hbig : (200000 : Int) < it.length
      · go_wp2_with (go_at_call 10; refine (wakes_any _).mono ?_; rintro e w9 ⟨rfl, hg⟩; have G9 := hide (grown_trans HT.out.gr hg); clear hg)
        go_ret
        exact ⟨rfl, G9.out⟩
      · have HL := hide (show it.length ≤ 1000000 by omega)
        have HX := hide (show xs.length ≤ 100000 by have := HE.out.lx; omega)
        have HY := hide (show ys.length ≤ 100000 by have := HE.out.ly; omega)
        go_wp2_with (go_at_call 11; refine (put_item HT.out HX.out HY.out ik im it HB.out.1 HB.out.2 HL.out).mono ?_; rintro e w2 ⟨rfl, o, v1, v2, ho, h1⟩; have HT2 := hide h1; have HO := hide ho; clear h1 ho)
        go_roundw
        case rel => exact ⟨k + 1, v1, v2, _, _, _, by omega, by omega, by go_num, HT2, hide (HE.out.next HO.out)⟩
        case measure => simp [intOf]; omega
    · rcases (by omega : ¬ k < n0 ∨ (k < n0 ∧ ¬ k < 200)) with h | ⟨h, h'⟩
      · have i1 : ¬ (k : Int) < (n0 : Int) := by omega
        (cases b with | false => (obtain rfl := HE.out.same rfl; have HX := hide (show xs.length ≤ 131072 by have := HE.out.lx; omega); have heq : ((bs xs).toList == (bs xs).toList) = true := (by simp); go_wp2_with (first | (go_at_call 12; refine (pbytes_ok HT.out.pw HX.out).mono ?_; rintro e w' ⟨rfl, hw⟩; replace hw := hw.symm; subst hw) | (go_at_call 13; refine (wbytes_ok HT.out.rw HX.out).mono ?_; rintro e w' ⟨rfl, hw⟩; replace hw := hw.symm; subst hw) | (go_at_call 10; refine (wakes_any _).mono ?_; rintro e w9 ⟨rfl, hg⟩; have G9 := hide (grown_trans HT.out.gr hg); clear hg)); go_ret; exact ⟨rfl, G9.out⟩) | true => (have heq : ((bs []).toList == (bs []).toList) = true := (by simp); go_wp2_with (first | (go_at_call 12; refine (pbytes_bad HT.out.pw).mono ?_; rintro e w' ⟨rfl, hw⟩; replace hw := hw.symm; subst hw) | (go_at_call 13; refine (wbytes_bad HT.out.rw).mono ?_; rintro e w' ⟨rfl, hw⟩; replace hw := hw.symm; subst hw) | (go_at_call 10; refine (wakes_any _).mono ?_; rintro e w9 ⟨rfl, hg⟩; have G9 := hide (grown_trans HT.out.gr hg); clear hg)); go_ret; exact ⟨rfl, G9.out⟩))
      · have i1 : (k : Int) < (n0 : Int) := by omega
        have i2 : ¬ (k : Int) < 200 := by omega
        (cases b with | false => (obtain rfl := HE.out.same rfl; have HX := hide (show xs.length ≤ 131072 by have := HE.out.lx; omega); have heq : ((bs xs).toList == (bs xs).toList) = true := (by simp); go_wp2_with (first | (go_at_call 12; refine (pbytes_ok HT.out.pw HX.out).mono ?_; rintro e w' ⟨rfl, hw⟩; replace hw := hw.symm; subst hw) | (go_at_call 13; refine (wbytes_ok HT.out.rw HX.out).mono ?_; rintro e w' ⟨rfl, hw⟩; replace hw := hw.symm; subst hw) | (go_at_call 10; refine (wakes_any _).mono ?_; rintro e w9 ⟨rfl, hg⟩; have G9 := hide (grown_trans HT.out.gr hg); clear hg)); go_ret; exact ⟨rfl, G9.out⟩) | true => (have heq : ((bs []).toList == (bs []).toList) = true := (by simp); go_wp2_with (first | (go_at_call 12; refine (pbytes_bad HT.out.pw).mono ?_; rintro e w' ⟨rfl, hw⟩; replace hw := hw.symm; subst hw) | (go_at_call 13; refine (wbytes_bad HT.out.rw).mono ?_; rintro e w' ⟨rfl, hw⟩; replace hw := hw.symm; subst hw) | (go_at_call 10; refine (wakes_any _).mono ?_; rintro e w9 ⟨rfl, hg⟩; have G9 := hide (grown_trans HT.out.gr hg); clear hg)); go_ret; exact ⟨rfl, G9.out⟩))

set_option maxRecDepth 100000 in
theorem lifted (os : Os) (started : os.Started) (H : Type) (enc : TypeId × Value → H) :
    ReturnsInHanded {} Try.checked os 3 .any (Rows.riderWritesSpec.pre6 enc Try.prog Try.f3 Rows.riderWritesRow.domain false) (Rows.riderWritesSpec.post enc Try.prog Try.f3 false true false false) := by
  refine returnsInHanded_of_change (C := Try.checked) own started (by kernel_rfl) Try.func3
    (ChangeSpec.witness6 (enc := enc) (C := Try.checked) false ⟨#[], #[.slice none 0 0], []⟩ 8 (by kernel_rfl) (by kernel_rfl) (by kernel_rfl) (by kernel_rfl)) ?_
  intro W base args ds gs before hval0 hW hcnd _
  have hval : ∀ (j : Nat) t v, Try.f3.params[j]? = some t → args[j]? = some v → Value.okWide Try.prog W .any base t v := hval0
  have hW' := hW
  obtain ⟨p, q, hA0, hV, rfl, hfz, hnd⟩ := hW
  have hA : DataW.TrodAll enc Try.prog W 0 (fun _ => true) true Try.f3.params.toList args.toList ds p := hA0
  rw [Try.params3] at hA hval
  obtain ⟨v0, vs0, d0, ds0, p0, q0, hargs, rfl, rfl, h0, r0⟩ := trodAll_cons hA
  obtain ⟨rfl, rfl, rfl⟩ := trodAll_nil r0
  obtain rfl : args = #[v0] := by cases args; simp_all
  obtain ⟨rfl, rfl⟩ := trodVars_none hV
  have k0 := h0
  have lt0 : ∀ x ∈ p0, x.block < W.heap.size := by obtain ⟨m, hm⟩ := k0; exact DataW.trod_lt m _ _ _ hm
  obtain ⟨o0, n0, c0, rfl⟩ := okWide_slice Try.underlying22 (hval 0 22 v0 rfl rfl)
  obtain ⟨f0, S0⟩ := open_items h0
  clear hA0 hval0
  refine (walk W o0 n0 c0 f0 S0).mono fun e W' ⟨he, hg⟩ => ?_
  subst he
  have bel : Below W.heap.size W W' := ⟨hg.os, hg.tape, hg.output, hg.size, fun k hk => hg.block k hk (by simp)⟩
  exact ⟨_, rfl, _, _, _, [], _, [], hW', trodAll_mk1 (shut_bool Try.underlying4 _), (trodAll_cons_mk (Below.trod laidOut (by kernel_rfl) (of_decide_eq_true (by kernel_rfl)) k0 bel lt0) trodAll_mk0), rfl, bel.frame _, fun h => by cases h⟩

theorem proved : Rows.RiderWritesSaid :=
  OpenClaim.holds_of_wide 3 Try.f3 rfl rfl rfl rfl rfl rfl rfl ⟨rfl, rfl, rfl, rfl, rfl⟩ rfl rfl rfl rfl rfl (by kernel_rfl) Try.func3 (by kernel_rfl)
    (of_decide_eq_true (by kernel_rfl)) (by unfold Func.isWrapper; first | (rw [if_pos (by decide +kernel)]; kernel_rfl) | (rw [if_neg (by decide +kernel)]; exact ⟨rfl, rfl⟩))
    (fun os started H enc _ => lifted os started H enc)
end Go.Proofs.Ytolfhkcfepkfdaa.riderWrites

namespace Go.Proofs.Ytolfhkcfepkfdaa
theorem riderWrites_holds : Rows.RiderWritesSaid := riderWrites.proved
#print axioms riderWrites_holds
end Go.Proofs.Ytolfhkcfepkfdaa
