/-
  What memory's Byte, PutByte, copied, New, Words and Fork answer.
-/
import Derived.Test.YtfdofleohichiaaGreatDoorMem1
import Derived.Deep.RegionWith
import Derived.StillTailTactics
namespace Go.Proofs.YtfdofleohichiaaGreatDoor.Mem
open Go.RowKit Go.Proofs.YtfdofleohichiaaGreatDoor.Bits

theorem sc_cases (p : Int) : (p % 4 = 0 ∧ sc p = 1) ∨ (p % 4 = 1 ∧ sc p = 256) ∨ (p % 4 = 2 ∧ sc p = 65536) ∨ (p % 4 = 3 ∧ sc p = 16777216) := by
  have : p % 4 = 0 ∨ p % 4 = 1 ∨ p % 4 = 2 ∨ p % 4 = 3 := by omega
  rcases this with h | h | h | h
  · exact .inl ⟨h, by unfold sc; rw [h]; rfl⟩
  · exact .inr (.inl ⟨h, by unfold sc; rw [h]; rfl⟩)
  · exact .inr (.inr (.inl ⟨h, by unfold sc; rw [h]; rfl⟩))
  · exact .inr (.inr (.inr ⟨h, by unfold sc; rw [h]; rfl⟩))
theorem low_any (p : Int) (w : World) (p0 : 0 ≤ p) (p1 : p < 4294967296) : Calls Tryz.prog 158 #[wd p] w fun e w' => e = .returned (wd (p % 4 * 8)) ∧ w' = w := by
  go_enter Tryz.func158, Tryz.ntmps158
  go_wp2
  go_ret
  exact ⟨rfl, rfl⟩
theorem byte_ob {w : World} {v : Value} {b : Nat} {xs : List Int} (h : Ob 98 w v b xs) (p : Int) (p0 : 0 ≤ p) (p1 : p < 4294967296) :
    Calls Tryz.prog 136 #[v, wd p] w fun e w' => e = .returned (.tuple #[wd (byI xs p), .bool (thB xs p)]) ∧ ∃ d, w' = w.drewN d := by
  unfold byI
  cases h0 : thB xs p
  · go_enter Tryz.func136, Tryz.ntmps136
    go_wp2_with (go_at_call 118; refine (hold_ob h _ (by omega) (by omega)).mono ?_; rw [show decide (p / 4 < xs.length) = false from h0]; rintro e w' ⟨rfl, rfl⟩)
    go_ret2
    exact ⟨rfl, 0, rfl⟩
  · obtain ⟨k, hk⟩ := nat_of p p0
    have h0' : decide (p / 4 < xs.length) = true := h0
    have hl : k < xs.length := by simp at h0'; omega
    rcases h with ⟨rfl, rfl⟩ | ⟨a, c, rfl, h⟩
    · simp at hl
    · have hm := h.row.max
      have hle := h.row.le
      unfold maxLen at hm
      have hc := h.cell
      have hd := h.row.cell hl
      have H : Hid (Ob 98 w (.pointer (some ⟨a, 0, none⟩)) b xs) := .inr ⟨a, c, rfl, h⟩
      obtain ⟨X, hX⟩ : ∃ X, at0 xs k = X := ⟨_, rfl⟩
      have hr := rng_at h.row.rng k
      rw [hX] at hd hr
      have hs : 0 ≤ p % 4 * 8 := by omega
      go_enter Tryz.func136, Tryz.ntmps136
      go_wp2_with (go_at_call 118; refine (hold_ob H.out _ (by omega) (by omega)).mono ?_; rw [h0']; rintro e w' ⟨rfl, rfl⟩)
      go_quiet ((go_at_call 158; refine Calls.quiet_of_same (low_any _ _ p0 p1)))
      go_wp2
      go_ret2
      exact ⟨rfl, _, rfl⟩
theorem region_tail {P : Program} {id : Nat} {Q : Exit → Act → World → Prop} {a : Act} {w : World} {l : List Oper} (n : Nat) (hm : P.follows .mixedOrders = true) (hB : Region.lexTailB .any l.toArray n = true)
    (h : wpStill P l.toArray w.drew (fun a' => wpList P l.toArray Q (l.drop n) a' w.drew) (l.take n) a) : (Code.region id l.toArray true).wp P Q a w := wp_region_still_tail n hm hB h
theorem grown_drew {w w' : World} {r : Option Nat} (h : w.grownBy w' r) : w.grownBy w'.drew r := ⟨h.os, h.tape, h.output, h.size, h.block⟩
theorem grown_drewN {w w' : World} {r : Option Nat} (h : w.grownBy w' r) (d : Nat) : w.grownBy (w'.drewN d) r := ⟨h.os, h.tape, h.output, h.size, h.block⟩
theorem Arr.drew {w : World} {b c : Nat} {xs : List Int} (h : Arr w b c xs) : Arr w.drew b c xs := ⟨h.has, h.le, h.max, h.rng⟩
theorem Mm.drew {T : TypeId} {w : World} {a b c : Nat} {xs : List Int} (h : Mm T w a b c xs) : Mm T w.drew a b c xs := ⟨h.head, h.row.drew⟩
theorem put8_range (xs : List Int) (h : inR xs) (k : Nat) (lo v : Int) : 0 ≤ putI (at0 xs k) lo 8 v ∧ putI (at0 xs k) lo 8 v < 4294967296 :=
  put_range _ _ _ _ (rng_at h k).1 (rng_at h k).2
set_option maxRecDepth 100000 in
theorem putb_ob {w : World} {v : Value} {b : Nat} {xs : List Int} (h : Ob 98 w v b xs) (p x : Int) (p0 : 0 ≤ p) (p1 : p < 4294967296) (x0 : 0 ≤ x) (x1 : x < 4294967296) :
    Calls Tryz.prog 132 #[v, wd p, wd x] w fun e w' => e = .returned (.bool (thB xs p)) ∧ w.grownBy w' (some b) ∧ Ob 98 w' v b (pbL xs p x) := by
  unfold pbL
  cases h0 : thB xs p
  · have H : Hid (Ob 98 w v b xs) := h
    go_enter Tryz.func132, Tryz.ntmps132
    go_wp2_with (go_at_call 118; refine (hold_ob H.out _ (by omega) (by omega)).mono ?_; rw [show decide (p / 4 < xs.length) = false from h0]; rintro e w' ⟨rfl, rfl⟩)
    go_ret
    exact ⟨rfl, World.grownBy.refl _ _, H.out⟩
  · obtain ⟨k, hk⟩ := nat_of p p0
    have h0' : decide (p / 4 < xs.length) = true := h0
    have hl : k < xs.length := by simp at h0'; omega
    rcases h with ⟨rfl, rfl⟩ | ⟨a, c, rfl, h⟩
    · simp at hl
    · have hm := h.row.max
      have hle := h.row.le
      unfold maxLen at hm
      have hc := h.cell
      have hd := h.row.cell hl
      have hf := h.row.free k
      have H : Hid (Ob 98 w (.pointer (some ⟨a, 0, none⟩)) b xs) := .inr ⟨a, c, rfl, h⟩
      have hr := rng_at h.row.rng k
      have hu := put8_range xs h.row.rng k (p % 4 * 8) x
      have HS : Hid (Mm 98 (w.setCell ⟨b, k, none⟩ (wd (putI (at0 xs k) (p % 4 * 8) 8 x))) a b c (xs.set k (putI (at0 xs k) (p % 4 * 8) 8 x))) := h.set (by decide) hu.1 hu.2
      obtain ⟨X, hX⟩ : ∃ X, at0 xs k = X := ⟨_, rfl⟩
      have E : Hid (at0 xs k = X) := hX
      rw [hX] at hd hr hu
      obtain ⟨r0, r1⟩ := hr
      have hs : 0 ≤ p % 4 * 8 := by omega
      have hw : IntKind.i64.wrap (p % 4 * 8) = p % 4 * 8 := IntWalk.i64_in (p % 4 * 8) ⟨by omega, by omega⟩
      clear hX h
      go_enter Tryz.func132, Tryz.ntmps132
      go_wp2_with (go_at_call 118; refine (hold_ob H.out _ (by omega) (by omega)).mono ?_; rw [h0']; rintro e w' ⟨rfl, rfl⟩)
      refine region_tail 18 (by kernel_rfl) (by kernel_rfl) ?_
      simp only [List.take_succ_cons, List.take_zero, List.drop_succ_cons, List.drop_zero]
      repeat (first | still_step | still_call (low_any _ _ p0 p1) | still_call (put_any _ _ _ _ _ r0 r1 x0 x1 (by omega)))
      refine wpStill_nil ?_
      go_wp2
      go_ret
      have hS := HS.out
      rw [E.out] at hS
      exact ⟨rfl, grown_drew (grown_set _ _ _ _), .inr ⟨a, c, rfl, by rw [← E.out] at hS ⊢; exact hS.drew⟩⟩

/- Words that lie at an address, or none. -/
def Src (w : World) (ao : Option Addr) (xs : List Int) : Prop := (ao = none → xs = []) ∧ ∀ ad, ao = some ad → ∀ j u, (xs.map wd)[j]? = some u → w.cell? (ad.add j) = some u
theorem Src.mk' {w : World} {ad : Addr} {xs : List Int} (h : ∀ j u, (xs.map wd)[j]? = some u → w.cell? (ad.add j) = some u) : Src w (some ad) xs :=
  ⟨fun h => (by cases h), fun a e => (by cases e; exact h)⟩
theorem Src.nil (w : World) : Src w none [] := ⟨fun _ => rfl, fun a e => (by cases e)⟩
theorem Arr.src {w : World} {b c : Nat} {xs : List Int} (h : Arr w b c xs) : Src w (some ⟨b, 0, none⟩) xs := by
  refine Src.mk' fun j u hu => ?_
  have hj : j < xs.length := by have := (List.getElem?_eq_some_iff.1 hu).1; simpa using this
  rw [Addr.add_lit, Nat.zero_add, h.cell hj]
  simp [hj] at hu
  simp [at0, hj, hu]
theorem Src.kept {w w' : World} {ao : Option Addr} {xs : List Int} (h : Src w ao xs) (hg : w.grownBy w' none) : Src w' ao xs :=
  ⟨h.1, fun ad e j u hu => hg.cell (h.2 ad e j u hu) (by simp)⟩

theorem src_some {w : World} {ao : Option Addr} {xs : List Int} (h : Src w ao xs) {cs : List Value} (hc : cs = xs.map wd) (hp : 0 < cs.length) : ∃ ad, ao = some ad ∧ ∀ j v, cs[j]? = some v → w.cell? (ad.add j) = some v := by
  subst hc
  cases ao with
  | none => rw [h.1 rfl] at hp; simp at hp
  | some ad => exact ⟨ad, rfl, h.2 ad rfl⟩
set_option maxRecDepth 100000 in
theorem Tryz.info34 : (Tryz.prog.info? 44).map (fun i => (i.zero, i.size, i.bytes)) = some (some (.int .u32 0), 1, 4) := by kernel_rfl
set_option maxRecDepth 100000 in
theorem Tryz.size34 : (Tryz.prog.info? 44).map (·.size) = some 1 := by kernel_rfl
theorem grown_below {w w' : World} (h : Below w.heap.size w w') : w.grownBy w' none := ⟨h.os, h.tape, h.output, h.size, fun k hk _ => h.block k hk⟩
theorem below_grown {w w' : World} (h : w.grownBy w' none) : Below w.heap.size w w' := ⟨h.os, h.tape, h.output, h.size, fun k hk => h.block k hk (by simp)⟩
theorem row_made {w : World} {base e g n : Nat} {L : List Value} (h : w.ownsRow base e 1 (.slice (some ⟨g, 0, none⟩) n n) n L) : ∃ cur : List Value, w.heap[g]? = some (.cells cur.toArray e (0, 0)) ∧ cur.length = n := by
  rcases h.2 with ⟨h, _⟩ | ⟨g', cap, cur, hv, _, hg, _, _, hs, _⟩
  · cases h
  · cases hv
    exact ⟨cur.toList, by simpa using hg, by simpa using hs⟩
theorem arr_spliced {w : World} {g n : Nat} {xs : List Int} {cur : List Value} (hn : n = xs.length) (hc : cur.length = n) (hr : inR xs) (hm : n ≤ maxLen) (h : w.heap[g]? = some (.cells (splice cur 0 (xs.map wd)).toArray 44 (0, 0))) : Arr w g n xs := by
  have e : splice cur 0 (xs.map wd) = xs.map wd := by simp [splice]; omega
  rw [e] at h
  refine ⟨⟨_, h, by simpa using hn.symm, ?_⟩, by omega, hm, hr⟩
  rw [List.take_of_length_le (by simp)]
theorem copy_run {w : World} {g n cp : Nat} {ao : Option Addr} {xs : List Int} {cur : List Value} (hs : Src w ao xs) (hn : n = xs.length) (hc : cur.length = n) (hr : inR xs) (hm : n ≤ maxLen)
    (hg : w.heap[g]? = some (.cells cur.toArray 44 (0, 0))) :
    ∃ w2, (Builtin.copy_ #[22, 22] 3 #[.slice (some ⟨g, 0, none⟩) n n, .slice ao n cp]).run Tryz.prog w = .ok (.int .i64 n) w2 ∧ w.grownBy w2 (some g) ∧ Arr w2 g n xs := by
  cases xs with
  | nil =>
    simp at hn
    subst hn
    refine ⟨w, run_copy_none (P := Tryz.prog) w _ _ _ 44 _ _ _ _ _ _ Tryz.underlying22 Tryz.size34 rfl, World.grownBy.refl _ _, ?_⟩
    refine arr_spliced rfl hc hr hm ?_
    simpa [splice] using hg
  | cons x l =>
    obtain ⟨ad, rfl, hsrc⟩ := src_some hs rfl (by simp)
    refine ⟨w.setRow g (splice cur 0 ((x :: l).map wd)).toArray, ?_, ⟨rfl, rfl, rfl, by simp [World.setRow], fun k _ hk => setRow_other w g k _ (fun e => hk (by simp [e]))⟩,
      arr_spliced hn hc hr hm (setRow_heap w g _ _ 44 _ hg)⟩
    have := run_copy_row (P := Tryz.prog) w 22 22 3 44 g 0 n n ad n cp cur.toArray 44 ((x :: l).map wd) Tryz.underlying22 Tryz.size34 hg (by rw [show Nat.min n n = n from Nat.min_self n, hn]; simp) hsrc (by simp at hn ⊢; omega) (ints_oneCell .u32 _)
    rw [show splice cur 0 ((x :: l).map wd) = cur.toArray.toList.take 0 ++ (x :: l).map wd ++ cur.toArray.toList.drop (0 + ((x :: l).map wd).length) by simp [splice], this, show ((x :: l).map wd).length = n by rw [hn]; simp]
    rfl
theorem copied_any {w : World} {ao : Option Addr} {xs : List Int} {cp : Nat} (hs : Src w ao xs) (hr : inR xs) (hn : xs.length ≤ 1000000000000) :
    Calls Tryz.prog 43 #[.slice ao xs.length cp] w fun e w' => e = .returned (.slice (some ⟨w.heap.size, 0, none⟩) xs.length xs.length) ∧ w.grownBy w' none ∧ Arr w' w.heap.size xs.length xs := by
  obtain ⟨i0, hi, hz0, hz1, hz2⟩ := info_parts Tryz.info34
  obtain ⟨n, hnn⟩ : ∃ n, n = xs.length := ⟨_, rfl⟩
  have HN : Hid (n = xs.length) := hnn
  rw [← hnn] at hn ⊢
  have HS : Hid (Src w ao xs) := hs
  have HR : Hid (inR xs) := hr
  clear hnn hs hr
  go_enter Tryz.func43, Tryz.ntmps43
  go_wp2_with (at_make; refine wpList_make_full _ rfl _ _ 22 rfl w.heap.size 44 i0 (.int .u32 0) 1 Tryz.underlying22 hi hz0 hz1 .i64 .i64 _ _ n rfl rfl (by first | rfl | omega) (by first | rfl | omega) (by rw [hz2]; omega) (by unfold maxLen; omega) (Nat.le_refl _) ?_; intro w1 hown1 hgrow1; obtain ⟨cur, hg1, hc1⟩ := row_made hown1; clear hown1; obtain ⟨w2, hrun, hg2, ha2⟩ := copy_run (cp := cp) (HS.out.kept hgrow1) HN.out hc1 HR.out (by unfold maxLen; omega) hg1; have HA : Hid (Arr w2 w.heap.size n xs) := ha2; clear hg1 ha2)
  go_ret
  exact ⟨rfl, ⟨hg2.os.trans hgrow1.os, hg2.tape.trans hgrow1.tape, hg2.output.trans hgrow1.output, Nat.le_trans hgrow1.size hg2.size, fun k hk _ => (hg2.block k (Nat.lt_of_lt_of_le hk hgrow1.size) (by simp; omega)).trans (hgrow1.block k hk (by simp))⟩, HA.out⟩
end Go.Proofs.YtfdofleohichiaaGreatDoor.Mem
