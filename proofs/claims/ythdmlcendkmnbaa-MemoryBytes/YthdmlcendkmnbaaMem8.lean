/-
  What the laws' first look (wakes) answers; how what is known of a memory stays through calls.
-/
import Derived.Test.YthdmlcendkmnbaaMem7
namespace Go.Proofs.Ythdmlcendkmnbaa.Mem
open Go.RowKit Go.Proofs.Ythdmlcendkmnbaa.Bits

theorem hid {p : Prop} (h : p) : Hid p := h
theorem Ob.drewN {T : TypeId} {w : World} {v : Value} {b : Nat} {xs : List Int} (h : Ob T w v b xs) (d : Nat) : Ob T (w.drewN d) v b xs := by
  rcases h with h | ⟨a, c, e, h⟩
  · exact .inl h
  · exact .inr ⟨a, c, e, h.head, h.row.has, h.row.le, h.row.max, h.row.rng⟩
theorem Mm.ob {T : TypeId} {w : World} {a b c : Nat} {xs : List Int} (h : Mm T w a b c xs) : Ob T w (.pointer (some ⟨a, 0, none⟩)) b xs := .inr ⟨a, c, rfl, h⟩
theorem grown_dr (w : World) (d : Nat) : w.grownBy (w.drewN d) none := grown_drewN (World.grownBy.refl _ _) d
theorem src_one (w : World) (x : Int) : Src (w.alloc (.cells #[wd x] 34)) (some ⟨w.heap.size, 0, none⟩) [x] := by
  refine Src.mk' fun j u hj => ?_
  match j, hj with
  | 0, hj => simp at hj; subst hj; simp [Addr.add]
theorem Ob.kept {T : TypeId} {w w' : World} {v : Value} {b : Nat} {xs : List Int} (h : Ob T w v b xs) (hg : w.grownBy w' none) : Ob T w' v b xs := by
  rcases h with h | ⟨a, c, e, h⟩
  · exact .inl h
  · exact .inr ⟨a, c, e, h.kept hg (by simp) (by simp)⟩
theorem byte_v {w : World} {v : Value} {b : Nat} {xs : List Int} (h : Ob 50 w v b xs) (p : Int) (p0 : 0 ≤ p) (p1 : p < 4294967296) :
    Calls Try.prog 17 #[v, wd p] w fun e w' => e = .returned (.tuple #[wd (byI xs p), .bool (thB xs p)]) ∧ w.grownBy w' none :=
  (byte_ob h p p0 p1).mono fun _ _ ⟨he, d, hw⟩ => ⟨he, by rw [hw]; exact grown_dr _ _⟩
theorem rbyte_v {w : World} {v : Value} {b : Nat} {xs : List Int} (h : Ob 52 w v b xs) (p : Int) (p0 : 0 ≤ p) (p1 : p < 4294967296) :
    Calls Try.prog 18 #[v, wd p] w fun e w' => e = .returned (.tuple #[wd (byI xs p), .bool (thB xs p)]) ∧ w.grownBy w' none :=
  (rbyte_ob h p p0 p1).mono fun _ _ ⟨he, d, hw⟩ => ⟨he, by rw [hw]; exact grown_dr _ _⟩
theorem keep_v {w : World} {u v : Value} {xs : List Int} (hu : Rd w u xs) (hv : Rd w v xs) (hm : xs.length ≤ 9223372036854775807) :
    Calls Try.prog 12 #[u, v] w fun e w' => e = .returned (.bool true) ∧ w.grownBy w' none :=
  (keep_same hu hv hm).mono fun _ _ ⟨he, d, hw⟩ => ⟨he, by rw [hw]; exact grown_dr _ _⟩
theorem Ob.other {T T' : TypeId} (hT : T ≠ 34) {w w' : World} {v v' : Value} {b b' : Nat} {xs ys : List Int} (h : Ob T w v b xs) (k : Ob T' w v' b' ys) (hn : v' = .pointer none → v = .pointer none) (hb : b' ≠ b) (hg : w.grownBy w' (some b')) : Ob T w' v b xs := by
  rcases h with h | ⟨a, c, rfl, h⟩
  · exact .inl h
  · rcases k with ⟨e, _⟩ | ⟨a', c', _, k⟩
    · cases hn e
    · refine .inr ⟨a, c, rfl, h.kept hg (fun e => ?_) (fun e => hb (Option.some.inj e))⟩
      obtain rfl := Option.some.inj e
      obtain ⟨cur, h1, _, _⟩ := k.row.has
      rw [h.head] at h1
      simp only [Option.some.injEq, Obj.cells.injEq] at h1
      exact hT h1.2.1
/- What lies below B stays through a call. -/
theorem bn {B : Nat} {w wc w' : World} (HB : Hid (Below B w wc)) (HBB : Hid (B = w.heap.size)) (hg : wc.grownBy w' none) : Hid (Below B w w') :=
  HB.out.grown hg (by rw [HBB.out]; exact HB.out.size) (fun k hk => by cases hk)
theorem bs {B b : Nat} {w wc w' : World} (HB : Hid (Below B w wc)) (HBB : Hid (B = w.heap.size)) (hb : B ≤ b) (hg : wc.grownBy w' (some b)) : Hid (Below B w w') :=
  HB.out.grown hg (by rw [HBB.out]; exact HB.out.size) (fun k hk => by cases hk; exact hb)
theorem bd {B : Nat} {w wc : World} (HB : Hid (Below B w wc)) (HBB : Hid (B = w.heap.size)) (d : Nat) : Hid (Below B w (wc.drewN d)) := bn HB HBB (grown_dr _ _)
theorem bz {B : Nat} {w wc : World} (HB : Hid (Below B w wc)) (HBB : Hid (B = w.heap.size)) : B ≤ wc.heap.size := by rw [HBB.out]; exact HB.out.size
theorem new_n {w : World} {ao : Option Addr} {xs : List Int} {n cp : Nat} (hs : Src w ao xs) (hr : inR xs) (hl : xs.length = n) (hn : n ≤ 65536) :
    Calls Try.prog 8 #[.slice ao n cp] w fun e w' => ∃ a b, e = .returned (.tuple #[.pointer (some ⟨a, 0, none⟩), .int .i64 0]) ∧ w.grownBy w' none ∧ Mm 50 w' a b n xs ∧ w.heap.size ≤ a ∧ w.heap.size ≤ b := by
  subst hl
  exact new_ok hs hr hn
theorem wakes_any (w : World) : Calls Try.prog 7 #[] w fun e w' => e = .returned (.bool true) ∧ w.grownBy w' none := by
  have e1 : byI [67305985] 2 = 3 := by kernel_rfl
  have e2 : thB [67305985] 2 = true := by kernel_rfl
  have e3 : beB [67305985] 2 = false := by kernel_rfl
  have e4 : beB [67305985] 4 = false := by kernel_rfl
  have R : Hid (inR [67305985]) := by intro x hx; simp at hx; omega
  go_enter Try.func7, Try.ntmps7
  go_wp2_with (first
    | (go_at_call 8; refine (new_ok (xs := [67305985]) (src_one _ _) R.out (by decide)).mono ?_; rintro e w1 ⟨a, b, rfl, hg, hm, _, _⟩; have HG := hid hg; have HM := hid hm.ob; clear hg hm)
    | (go_at_call 17; refine (byte_ob HM.out 2 (by decide) (by decide)).mono ?_; rw [e1, e2]; rintro e w' ⟨rfl, d, rfl⟩; have HD := hid (Ob.drewN HM.out d))
    | (go_at_call 13; refine (load_ob HD.out _ (by decide) (by decide)).mono ?_; (first | rw [e3] | rw [e4]); rintro e w' ⟨rfl, rfl⟩)
    | (go_at_call 10; refine (size_ob HD.out).mono ?_; rintro e w' ⟨rfl, rfl⟩))
  all_goals go_ret
  all_goals exact ⟨rfl, grown_trans (grown_trans (World.grownBy_alloc _ _ _) HG.out) (grown_dr _ _)⟩
end Go.Proofs.Ythdmlcendkmnbaa.Mem
