/-
  For every text and every list of items, the law RiderReads answers true: any bytes, read as any things one behind the other, are told as the document says, and the reader stands where it says; no conditions.
-/
import Derived.Test.YtolfhkcfepkfdaaRows
import Derived.Test.YtolfhkcfepkfdaaRiarg
import Derived.WalkKit
import Derived.ProofKit
import Derived.Below
import Derived.Test.YtolfhkcfepkfdaaGt2
namespace Go.Proofs.Ytolfhkcfepkfdaa.riderReads
open Go.ChangeShapes Go.WideShapes Go.ChangeAt Go.RowKit Go.ChangeMaps Go.Proofs.Ytolfhkcfepkfdaa.Ri Go.Proofs.Ytolfhkcfepkfdaa.Tx
set_option linter.unusedVariables false
set_option linter.unusedSimpArgs false
set_option maxRecDepth 100000

theorem tr_start {w w1 : World} {q : Nat} {s : List UInt8} (hq : q = w.heap.size) (h : Pb w1 q s 0 false) (hg : w.grownBy w1 none) : Tr w (w1.alloc (.cells #[.string (bs s), .int .i64 0, .bool false] 43)) q w1.heap.size s 0 false 0 false :=
  ⟨h.kept (alloc_g _ _), ⟨heap_alloc_new _ _, Nat.zero_le _, h.max⟩, grown_trans hg (alloc_g _ _), by omega, hg.size⟩
set_option maxHeartbeats 2000000 in

theorem walk (w : World) (s0 : List UInt8) (z0 : s0.length ≤ maxLen) (o1 : Option Addr) (n1 c1 : Nat) (f1 : Nat → It) (S1 : Il w o1 n1 f1) :
    Calls Try.prog 4 #[.string (bs s0), .slice o1 n1 c1] w fun e w' => e = .returned (.bool true) ∧ w.grownBy w' none := by
  have hsz := bs_size s0
  have l0 : (s0.length : Int) ≤ 9223372036854775807 := by unfold maxLen at z0; omega
  have HS := hide S1
  have hmax : (n1 : Int) ≤ 9223372036854775807 := by have := S1.max; unfold maxLen at this; omega
  clear z0 S1
  by_cases hbig : (200000 : Int) < s0.length
  · go_enter Try.func4, Try.ntmps4
    go_wp2_with (go_at_call 10; refine (wakes_any _).mono ?_; rintro e w9 ⟨rfl, hg⟩; have G9 := hide hg; clear hg)
    go_ret
    exact ⟨rfl, G9.out⟩
  · have HM := hide (show s0.length ≤ 1000000 by omega)
    go_enter Try.func4, Try.ntmps4
    go_wp2_with (go_at_call 14; refine (read_new _ s0 HM.out).mono ?_; rintro e w1 ⟨rfl, h1, h2⟩; have H1 := hide (tr_start rfl h1 h2); clear h1 h2)
    go_loopw [7] (fun i W => ∃ (k p : Nat) (b : Bool), k ≤ n1 ∧ i = .int .i64 k ∧ Ri.Hid (Tr w W w.heap.size w1.heap.size s0 p b p b)) (fun i _ => n1 - (intOf i).toNat)
    case atStart => exact ⟨0, 0, false, Nat.zero_le _, rfl, H1⟩
    case round =>
      clear H1
      obtain ⟨k, p, b, hk, rfl, HT⟩ := hrel
      by_cases hlt : k < n1 ∧ k < 200
      · obtain ⟨hlt1, hlt2⟩ := hlt
        have i1 : (k : Int) < (n1 : Int) := by omega
        have i2 : (k : Int) < 200 := by omega
        obtain ⟨ad, rfl⟩ : ∃ ad, o1 = some ad := by
          cases o1 with
          | none => have := HS.out.none rfl; omega
          | some ad => exact ⟨ad, rfl⟩
        obtain ⟨A0, hA⟩ : ∃ A, ad.add (k * 3) = A := ⟨_, rfl⟩
        obtain ⟨s0', s1', s2'⟩ := HS.out.at' ad rfl k hlt1
        rw [hA] at s0' s1' s2'
        rw [Addr.add_zero'] at s0'
        rw [Addr.add_succ'] at s1' s2'
        simp only [Nat.zero_add, Nat.reduceAdd] at s1' s2'
        have kp : ∀ {a : Addr} {x : Value}, w.cell? a = some x → wr.cell? a = some x := fun {a x} h => HT.out.gr.cell h (by simp)
        replace s0' := kp s0'
        replace s1' := kp s1'
        replace s2' := kp s2'
        obtain ⟨ik, hik⟩ : ∃ x, (f1 k).k = x := ⟨_, rfl⟩
        obtain ⟨im, him⟩ : ∃ x, (f1 k).n = x := ⟨_, rfl⟩
        obtain ⟨it, hit⟩ : ∃ x, (f1 k).t = x := ⟨_, rfl⟩
        rw [hik] at s0'
        rw [him] at s1'
        rw [hit] at s2'
        clear kp hik him hit
        go_wp2_with (go_at_call 15; refine (get_any HT.out ik im it).mono ?_; rintro e w2 ⟨rfl, p', b', h1⟩; have HT2 := hide h1; clear h1)
        go_roundw
        case rel => exact ⟨k + 1, p', b', by omega, by go_num, HT2⟩
        case measure => simp [intOf]; omega
      · rcases (by omega : ¬ k < n1 ∨ (k < n1 ∧ ¬ k < 200)) with h | ⟨h, h'⟩
        · have i1 : ¬ (k : Int) < (n1 : Int) := by omega
          go_wp2_with (go_at_call 10; refine (wakes_any _).mono ?_; rintro e w9 ⟨rfl, hg⟩; have G9 := hide (grown_trans HT.out.gr hg); clear hg)
          go_ret
          exact ⟨rfl, G9.out⟩
        · have i1 : (k : Int) < (n1 : Int) := by omega
          have i2 : ¬ (k : Int) < 200 := by omega
          go_wp2_with (go_at_call 10; refine (wakes_any _).mono ?_; rintro e w9 ⟨rfl, hg⟩; have G9 := hide (grown_trans HT.out.gr hg); clear hg)
          go_ret
          exact ⟨rfl, G9.out⟩

set_option maxRecDepth 100000 in
theorem lifted (os : Os) (started : os.Started) (H : Type) (enc : TypeId × Value → H) :
    ReturnsInHanded {} Try.checked os 4 .any (Rows.riderReadsSpec.pre6 enc Try.prog Try.f4 Rows.riderReadsRow.domain false) (Rows.riderReadsSpec.post enc Try.prog Try.f4 false true false false) := by
  refine returnsInHanded_of_change (C := Try.checked) own started (by kernel_rfl) Try.func4
    (ChangeSpec.witness6 (enc := enc) (C := Try.checked) false ⟨#[], #[.string ⟨#[]⟩, .slice none 0 0], []⟩ 8 (by kernel_rfl) (by kernel_rfl) (by kernel_rfl) (by kernel_rfl)) ?_
  intro W base args ds gs before hval0 hW hcnd _
  have hval : ∀ (j : Nat) t v, Try.f4.params[j]? = some t → args[j]? = some v → Value.okWide Try.prog W .any base t v := hval0
  have hW' := hW
  obtain ⟨p, q, hA0, hV, rfl, hfz, hnd⟩ := hW
  have hA : DataW.TrodAll enc Try.prog W 0 (fun _ => true) true Try.f4.params.toList args.toList ds p := hA0
  rw [Try.params4] at hA hval
  obtain ⟨v0, vs0, d0, ds0, p0, q0, hargs, rfl, rfl, h0, r0⟩ := trodAll_cons hA
  obtain ⟨v1, vs1, d1, ds1, p1, q1, rfl, rfl, rfl, h1, r1⟩ := trodAll_cons r0
  obtain ⟨rfl, rfl, rfl⟩ := trodAll_nil r1
  obtain rfl : args = #[v0, v1] := by cases args; simp_all
  obtain ⟨rfl, rfl⟩ := trodVars_none hV
  have k0 := h0
  have lt0 : ∀ x ∈ p0, x.block < W.heap.size := by obtain ⟨m, hm⟩ := k0; exact DataW.trod_lt m _ _ _ hm
  obtain ⟨s0, rfl, z0⟩ := open_text (hval 0 9 v0 rfl rfl) h0
  have k1 := h1
  have lt1 : ∀ x ∈ p1, x.block < W.heap.size := by obtain ⟨m, hm⟩ := k1; exact DataW.trod_lt m _ _ _ hm
  obtain ⟨o1, n1, c1, rfl⟩ := okWide_slice Try.underlying22 (hval 1 22 v1 rfl rfl)
  obtain ⟨f1, S1⟩ := open_items h1
  clear hA0 hval0
  refine (walk W s0 z0 o1 n1 c1 f1 S1).mono fun e W' ⟨he, hg⟩ => ?_
  subst he
  have bel : Below W.heap.size W W' := ⟨hg.os, hg.tape, hg.output, hg.size, fun k hk => hg.block k hk (by simp)⟩
  exact ⟨_, rfl, _, _, _, [], _, [], hW', trodAll_mk1 (shut_bool Try.underlying4 _), (trodAll_cons_mk (Below.trod laidOut (by kernel_rfl) (of_decide_eq_true (by kernel_rfl)) k0 bel lt0) (trodAll_cons_mk (Below.trod laidOut (by kernel_rfl) (of_decide_eq_true (by kernel_rfl)) k1 bel lt1) trodAll_mk0)), rfl, bel.frame _, fun h => by cases h⟩

theorem proved : Rows.RiderReadsSaid :=
  OpenClaim.holds_of_wide 4 Try.f4 rfl rfl rfl rfl rfl rfl rfl ⟨rfl, rfl, rfl, rfl, rfl⟩ rfl rfl rfl rfl rfl (by kernel_rfl) Try.func4 (by kernel_rfl)
    (of_decide_eq_true (by kernel_rfl)) (by unfold Func.isWrapper; first | (rw [if_pos (by decide +kernel)]; kernel_rfl) | (rw [if_neg (by decide +kernel)]; exact ⟨rfl, rfl⟩))
    (fun os started H enc _ => lifted os started H enc)
end Go.Proofs.Ytolfhkcfepkfdaa.riderReads

namespace Go.Proofs.Ytolfhkcfepkfdaa
theorem riderReads_holds : Rows.RiderReadsSaid := riderReads.proved
#print axioms riderReads_holds
end Go.Proofs.Ytolfhkcfepkfdaa
