/-
  Package asm: a word's eight digits behind '#'; a line that is a word's, of an instruction or not.
  Package asm: lines of words.
  Package asm: words of lines, read.
  Package asm's lists: lists of words as arguments, copied, held against each other; all tables.
-/
import Derived.Test.YtjeogojgabfbiaaGreatDoorHx2
import Derived.Test.YtjeogojgabfbiaaGreatDoorCw
import Derived.Test.YtjeogojgabfbiaaGreatDoorBld
import Derived.OwnWalk
import Derived.Test.YtjeogojgabfbiaaGreatDoorAlaid
import Derived.Laws.AppendOwnNone
import Derived.ProofKit
import Derived.OpenShut
import Derived.ChangeOld
import Derived.ChangeMaps5
import Derived.Deep.Slices
import Derived.Below
namespace Go.Proofs.YtjeogojgabfbiaaGreatDoor.Asm
open Go.RowKit Go.Maps Go.Proofs.YtjeogojgabfbiaaGreatDoor.Bits Go.Proofs.YtjeogojgabfbiaaGreatDoor.Gw Go.Proofs.YtjeogojgabfbiaaGreatDoor.Risc Go.Proofs.YtjeogojgabfbiaaGreatDoor.Tx Go.Proofs.YtjeogojgabfbiaaGreatDoor.Mp
set_option linter.unusedVariables false
set_option linter.unusedSimpArgs false
set_option maxRecDepth 100000

structure AH (w : World) : Prop where
  al : AL w
  deb : DebAt w
theorem AH.size {w : World} (A : AH w) : 21 ≤ w.heap.size := A.al.nms.size
theorem AH.g {w w' : World} (A : AH w) (h : w.grownBy w' none) : AH w' := ⟨A.al.g h, (gcell h _ _ (by have := A.size; omega)).trans A.deb⟩
def bareL (x : Int) : List UInt8 := 35 :: hexL x
/- The line of a word, whatever it is. -/
def lnT (x : Int) : List UInt8 := if decR x = true then lineX x else bareL x
theorem hexC_facts (d : Nat) (h : d < 16) : isHx (hexC d) = true ∧ hxd (hexC d) = d := by
  have : d = 0 ∨ d = 1 ∨ d = 2 ∨ d = 3 ∨ d = 4 ∨ d = 5 ∨ d = 6 ∨ d = 7 ∨ d = 8 ∨ d = 9 ∨ d = 10 ∨ d = 11 ∨ d = 12 ∨ d = 13 ∨ d = 14 ∨ d = 15 := by omega
  rcases this with h | h | h | h | h | h | h | h | h | h | h | h | h | h | h | h <;> subst h <;> decide
theorem hexF_facts : ∀ (n u : Nat), u < 16 ^ n → (hexF (u : Int) n).all isHx = true ∧ hxVal (hexF (u : Int) n) = u := by
  intro n
  induction n with
  | zero => intro u h; simp at h; subst h; decide
  | succ n ih =>
    intro u h
    obtain ⟨a, b⟩ := ih (u / 16) (by rw [Nat.pow_succ] at h; omega)
    obtain ⟨c, d⟩ := hexC_facts (u % 16) (by omega)
    rw [hexF_snoc]
    refine ⟨by simp only [List.all_append, a, List.all_cons, c, List.all_nil, Bool.and_self], ?_⟩
    rw [hxVal_snoc, b, d]
    omega
theorem hexL_facts {x : Int} (h : U32 x) : hexOk (hexL x) = true ∧ (hxVal (hexL x) : Int) = x ∧ (hexL x).length = 8 := by
  obtain ⟨u, rfl⟩ := Int.eq_ofNat_of_zero_le h.1
  have hu : u < 16 ^ 8 := by have := h.2; have e : (16 : Nat) ^ 8 = 4294967296 := by decide
                             omega
  obtain ⟨a, b⟩ := hexF_facts 8 u hu
  have l : (hexL (u : Int)).length = 8 := hex_len _ 8
  refine ⟨?_, by rw [hexL, b], l⟩
  simp only [hexOk, Bool.and_eq_true, decide_eq_true_eq]
  exact ⟨a, by omega⟩
theorem hexL_inj {x y : Int} (hx : U32 x) (hy : U32 y) (h : hexL x = hexL y) : x = y := by
  rw [← (hexL_facts hx).2.1, ← (hexL_facts hy).2.1, h]
theorem line_head {x : Int} (h : decR x = true) : (lineX x).head? ≠ some 35 ∧ (lineX x) ≠ [] := by
  have hg : goodR (uF x) (uU x) (uV x) (uA x) (uB x) (uC x) (uOp x) (uIm x) = true := by
    simp only [decR, Bool.and_eq_true] at h; exact h.1
  have hs := line_split (u := uU x) (v := uV x) (a := uA x) (b := uB x) (c := uC x) (op := uOp x) (im := uIm x) (good_form hg)
  have hl : lineX x = lineI (uF x) (uU x) (uV x) (uA x) (uB x) (uC x) (uOp x) (uIm x) := rfl
  have hk := List.all_eq_true.1 (show (tab 4).all (fun k => match nmK k with | [] => false | c :: _ => !Nat.beq c.toNat 35) = true by kernel_rfl) _ (good_mem hg)
  rw [hl, hs]
  cases hn : nmK (kdI (uF x) (uU x) (uV x) (uA x) (uOp x)) with
  | nil => rw [hn] at hk; cases hk
  | cons c r =>
    rw [hn] at hk
    refine ⟨?_, by simp⟩
    simp
    rintro rfl
    cases hk
theorem lnT_inj {x y : Int} (hx : U32 x) (hy : U32 y) (h : lnT x = lnT y) : x = y := by
  unfold lnT at h
  by_cases h1 : decR x = true <;> by_cases h2 : decR y = true
  · rw [if_pos h1, if_pos h2] at h; exact line_inj h1 h2 h
  · rw [if_pos h1, if_neg h2] at h; exact absurd (by rw [h]; rfl) (line_head h1).1
  · rw [if_neg h1, if_pos h2] at h; exact absurd (by rw [← h]; rfl) (line_head h2).1
  · rw [if_neg h1, if_neg h2] at h
    exact hexL_inj hx hy (by simpa [bareL] using h)
theorem rep48 : ∀ c, Lib.repeatL [48] c = List.replicate c 48
  | 0 => rfl
  | c + 1 => by rw [Lib.repeatL, rep48 c, List.replicate_succ]; rfl
theorem rep_any (c : Nat) (hc : c ≤ 100) (w : World) : Calls Tryz.prog 66 #[.string ⟨#[48]⟩, .int .i64 c] w fun e w' => e = .returned (.string (bs (List.replicate c 48))) ∧ w.grownBy w' none := by
  refine (Tryz.strings_Repeat ⟨#[48]⟩ c w (by omega) (by show 1 * c ≤ _; omega)).mono ?_
  rintro e w' ⟨rfl, hb⟩
  refine ⟨?_, below_g hb⟩
  have := rep48 c
  show Ending.returned (.string ⟨(Lib.repeatL [48] c).toArray⟩) = _
  rw [this]
  rfl
set_option maxHeartbeats 1000000 in
theorem bare_any (x : Int) (x0 : 0 ≤ x) (x1 : x < 4294967296) (w : World) (A : AH w) : Calls Tryz.prog 35 #[.int .u32 x] w fun e w' => e = .returned (.string (bs (bareL x))) ∧ w.grownBy w' none := by
  obtain ⟨u, rfl⟩ := Int.eq_ofNat_of_zero_le x0
  have FB := hide (fu_16 u (by omega) w A.deb A.size)
  have hp := hexL_pad u (by omega)
  have hn8 := hxN_len 8 u
  obtain ⟨l, hl⟩ : ∃ l, hxN 8 u = l := ⟨_, rfl⟩
  rw [hl] at FB hp hn8
  obtain ⟨m, hm⟩ : ∃ m, 8 - l.length = m := ⟨_, rfl⟩
  rw [hm] at hp
  have hnm : (8 : Int) - (l.length : Int) = (m : Int) := by omega
  have RP := hide (rep_any m (by omega))
  obtain ⟨z, hz⟩ : ∃ z, List.replicate m (48 : UInt8) = z := ⟨_, rfl⟩
  have hzl : z.length ≤ 8 := by rw [← hz]; simp; omega
  rw [hz] at RP hp
  obtain ⟨y, hy⟩ : ∃ y, [35] ++ z = y := ⟨_, rfl⟩
  have hyl : y.length ≤ 9 := by rw [← hy]; simp; omega
  obtain ⟨k, hk⟩ : ∃ k, y ++ l = k := ⟨_, rfl⟩
  have ha1 := add_bs [35] z (by simp; omega)
  have ha2 := add_bs y l (by omega)
  rw [hy] at ha1
  rw [hk] at ha2
  have hb : (⟨#[35]⟩ : ByteArray) = bs [35] := rfl
  have hw64 : IntKind.u64.wrap (u : Int) = (u : Int) := by rw [IntKind.wrap_u64]; omega
  have hsz := bs_size l
  have HP := hide (show k = bareL (u : Int) from by rw [bareL, ← hp, ← hk, ← hy]; rfl)
  clear A hp hl hm x0 x1 hz hy hk
  go_enter Tryz.func35, Tryz.ntmps35
  go_wp2_with fail
  refine FB.out.mono ?_
  rintro e w1 ⟨rfl, hg1⟩
  go_wp2_with fail
  refine (RP.out _).mono ?_
  rintro e w2 ⟨rfl, hg2⟩
  go_wp2_with fail
  go_ret
  exact ⟨by rw [← HP.out]; rfl, grown_trans hg1 hg2⟩
set_option maxHeartbeats 1000000 in
theorem pui_nil (w : World) : Calls Tryz.prog 87 #[.string (bs []), .int .i64 16, .int .i64 32] w fun e w' => e = .returned (.tuple #[.int .u64 0, .iface 144 (.int .i64 2)]) ∧ w' = w := by
  have hemp : (bs []).toList.isEmpty = true := by rw [bs_list]; rfl
  go_enter Tryz.func87, Tryz.ntmps87
  go_wp2
  go_ret2
  exact ⟨rfl, rfl⟩
theorem bytesW_g2 (w : World) (e : TypeId) (t : ByteArray) : w.grownBy (Lib.bytesWorld w e t) none := bytesW_g w e t
theorem pui_all (t : List UInt8) (hmax : t.length ≤ 1000000) (w : World) :
    Calls Tryz.prog 87 #[.string (bs t), .int .i64 16, .int .i64 32] w fun e w' => ∃ v ev, e = .returned (.tuple #[.int .u64 v, ev]) ∧ w.grownBy w' none ∧ PuR t v ev := by
  by_cases h : t = []
  · subst h
    exact (pui_nil w).mono fun e w' ⟨he, hw⟩ => ⟨0, _, he, hw ▸ grown_refl _, by decide, by decide, Or.inr (Or.inl rfl), fun _ => rfl⟩
  · exact (pui_any t h hmax w).mono fun e w' ⟨v, ev, he, hw, hr⟩ => ⟨v, ev, he, hw ▸ bytesW_g _ _ _, hr⟩
theorem toe_any (t : List UInt8) (ht : t.length ≤ 1000000) (w : World) (A : AL w) (c : Int) (hc : c = 2 ∨ c = 1) :
    Calls Tryz.prog 88 #[.string ⟨#[80, 97, 114, 115, 101, 85, 105, 110, 116]⟩, .string (bs t), .int .i64 16, .int .i64 32, .iface 144 (.int .i64 c)] w fun e w' => ∃ ev, e = .returned ev ∧ w.grownBy w' none := by
  have hsz : (bs t).size ≤ 281474976710656 := by rw [bs_size]; omega
  rcases hc with rfl | rfl
  · obtain ⟨ev, h1, h2⟩ := A.errS
    exact (Tryz.strconv_toError_syntax _ (bs t) 16 32 ev w hsz h1 h2).mono fun e w' ⟨N, he, _, _, hb⟩ => ⟨_, he, below_g hb⟩
  · obtain ⟨ev, h1, h2⟩ := A.errR
    exact (Tryz.strconv_toError_range _ (bs t) 16 32 ev w hsz h1 h2).mono fun e w' ⟨N, he, _, _, hb⟩ => ⟨_, he, below_g hb⟩
set_option maxHeartbeats 1000000 in
theorem pu_any (t : List UInt8) (hmax : t.length ≤ 1000000) (w : World) (A : AL w) :
    Calls Tryz.prog 64 #[.string (bs t), .int .i64 16, .int .i64 32] w fun e w' => ∃ v ev, e = .returned (.tuple #[.int .u64 v, ev]) ∧ w.grownBy w' none ∧ 0 ≤ v ∧ v ≤ 4294967295 ∧ (hexOk t = true → v = (hxVal t : Int)) := by
  have PI := hide (pui_all t hmax w)
  have HA := hide A
  have TS := hide (fun W (h : w.grownBy W none) => toe_any t hmax W (A.g h) 2 (Or.inl rfl))
  have TR := hide (fun W (h : w.grownBy W none) => toe_any t hmax W (A.g h) 1 (Or.inr rfl))
  clear A
  go_enter Tryz.func64, Tryz.ntmps64
  go_wp2_with fail
  refine PI.out.mono ?_
  rintro e w1 ⟨v, ev, rfl, hg1, v0, v1, hev, hok⟩
  have HO := hide hok
  clear hok
  rcases hev with rfl | rfl | rfl
  · go_wp2_with fail
    go_ret2
    exact ⟨v, _, rfl, hg1, v0, v1, HO.out⟩
  · go_wp2_with fail
    refine (TS.out _ hg1).mono ?_
    rintro e w2 ⟨ev, rfl, hg2⟩
    go_wp2_with fail
    go_ret2
    exact ⟨v, ev, rfl, grown_trans hg1 hg2, v0, v1, HO.out⟩
  · go_wp2_with fail
    refine (TR.out _ hg1).mono ?_
    rintro e w2 ⟨ev, rfl, hg2⟩
    go_wp2_with fail
    go_ret2
    exact ⟨v, ev, rfl, grown_trans hg1 hg2, v0, v1, HO.out⟩
def WbR (s : List UInt8) (v : Int) (ok : Bool) : Prop := U32 v ∧ (ok = true → lnT v = s) ∧ ((∃ x, U32 x ∧ lnT x = s) → ok = true)
theorem wb_word {s : List UInt8} {v : Int} {ok : Bool} (h : WdR s v ok) (hh : Lib.hasPrefix s [35] = false) : WbR s v ok := by
  refine ⟨h.1, fun e => ?_, fun ⟨x, hx, hl⟩ => h.2.2 ?_⟩
  · obtain ⟨a, b⟩ := h.2.1 e
    rw [lnT, if_pos a]; exact b
  · unfold lnT at hl
    by_cases hd : decR x = true
    · rw [if_pos hd] at hl; exact ⟨x, hd, hl⟩
    · rw [if_neg hd] at hl
      rw [← hl] at hh
      simp [bareL, Lib.hasPrefix] at hh
theorem wb_bare {s : List UInt8} {v : Int} (hv : U32 v) (hh : Lib.hasPrefix s [35] = true) (hok : hexOk (s.drop 1) = true → v = (hxVal (s.drop 1) : Int)) : WbR s v (!decR v && (bareL v == s)) := by
  refine ⟨hv, fun e => ?_, fun ⟨x, hx, hl⟩ => ?_⟩
  · simp at e
    rw [lnT, if_neg (by simp [e.1])]; exact e.2
  · unfold lnT at hl
    by_cases hd : decR x = true
    · rw [if_pos hd] at hl
      have := (line_head hd).1
      rw [hl] at this
      cases s with
      | nil => simp [Lib.hasPrefix] at hh
      | cons c r => simp [Lib.hasPrefix] at hh; subst hh; simp at this
    · rw [if_neg hd] at hl
      obtain ⟨a, b, _⟩ := hexL_facts hx
      have e : s.drop 1 = hexL x := by rw [← hl]; rfl
      rw [e, b] at hok
      have := hok a
      subst this
      simp [hd, hl]
theorem has35_any (t : List UInt8) (w : World) : Calls Tryz.prog 50 #[.string (bs t), .string ⟨#[35]⟩] w fun e w' => e = .returned (.bool (Lib.hasPrefix t [35])) ∧ w' = w := by
  have hd : (bs t).data.toList = t := by simp [bs]
  have := Tryz.strings_HasPrefix (bs t) ⟨#[35]⟩ w
  rw [hd] at this
  exact this
theorem ext_drop (s : List UInt8) (i : Nat) : (bs s).extract i s.length = bs (s.drop i) := by rw [bs_ext, List.take_of_length_le (by simp)]
set_option maxHeartbeats 2000000 in
theorem wob_any (s : List UInt8) (hs : s.length ≤ 200000) (w : World) (A : AH w) {b : Nat} (M : MapL Tryz.prog 81 w b ((tab 4).map enK)) :
    Calls Tryz.prog 33 #[.map (some b), .string (bs s)] w fun e w' => ∃ v ok, e = .returned (.tuple #[.int .u32 v, .bool ok]) ∧ w.grownBy w' none ∧ WbR s v ok := by
  have HA := hide A
  cases hh : Lib.hasPrefix s [35]
  · have WC := hide (word_code s hs w A.al M)
    have HS := has35_any s w
    rw [hh] at HS
    have HH := hide HS
    have HW := hide (fun v ok h => wb_word (s := s) (v := v) (ok := ok) h hh)
    clear A M HS hh
    go_enter Tryz.func33, Tryz.ntmps33
    go_wp2_with fail
    refine HH.out.mono ?_
    rintro e w1 ⟨rfl, rfl⟩
    go_wp2_with fail
    refine WC.out.mono ?_
    rintro e w2 ⟨v, ok, rfl, hg2, hW⟩
    have HV := hide (HW.out v ok hW)
    clear hW
    go_wp2_with fail
    go_ret2
    exact ⟨v, ok, rfl, hg2, HV.out⟩
  · have HS := has35_any s w
    rw [hh] at HS
    have HH := hide HS
    have hs1 : 1 ≤ s.length := by cases s with | nil => simp [Lib.hasPrefix] at hh | cons c r => simp
    obtain ⟨t, ht⟩ : ∃ t, s.drop 1 = t := ⟨_, rfl⟩
    have htl : t.length ≤ 200000 := by rw [← ht]; simp; omega
    have PU := hide (fun W (h : w.grownBy W none) => pu_any t (by omega) W (A.al.g h))
    have HWB := hide (fun v hv hok => wb_bare (s := s) (v := v) hv hh hok)
    rw [ht] at HWB
    have hsl : (bs s).extract 1 s.length = bs t := by rw [← ht]; exact ext_drop s 1
    have hsz := bs_size s
    clear A M HS hh ht
    go_enter Tryz.func33, Tryz.ntmps33
    go_wp2_with fail
    refine HH.out.mono ?_
    rintro e w1 ⟨rfl, rfl⟩
    go_wp2_with fail
    refine (PU.out _ (grown_refl _)).mono ?_
    rintro e w2 ⟨v, ev, rfl, hg2, v0, v1, hok⟩
    have HWV := hide (HWB.out v ⟨v0, by omega⟩ hok)
    clear hok
    have hw32 : IntKind.u32.wrap v = v := by rw [IntKind.wrap_u32]; omega
    have DC := decode_any v w2 (HA.out.g hg2).al.risc v0 (by omega)
    rw [dec_eq] at DC
    by_cases hd : decR v = true
    · rw [if_pos hd] at DC
      have HD := hide DC
      rw [hd] at HWV
      clear DC hd
      go_wp2_with fail
      refine HD.out.mono ?_
      rintro e w3 ⟨rfl, q, rfl⟩
      go_wp2_with fail
      go_ret2
      exact ⟨v, false, rfl, grown_trans (grown_trans hg2 (gr_g _ _)) (World.grownBy_alloc _ _ _), by simpa using HWV.out⟩
    · rw [if_neg hd] at DC
      have HD := hide DC
      have hdf : decR v = false := by simpa using hd
      rw [hdf] at HWV
      have BA := hide (fun W (h : w1.grownBy W none) => bare_any v v0 (by omega) W (HA.out.g h))
      clear DC hd hdf
      by_cases hbs : bareL v = s
      · have hne : ((bs (bareL v)).toList == (bs s).toList) = true := by rw [test_bs]; simpa using hbs
        go_wp2_with fail
        refine HD.out.mono ?_
        rintro e w3 ⟨rfl, q, rfl⟩
        go_wp2_with fail
        refine (BA.out _ (grown_trans (grown_trans hg2 (gr_g _ _)) (World.grownBy_alloc _ _ _))).mono ?_
        rintro e w4 ⟨rfl, hg4⟩
        go_wp2_with fail
        go_ret2
        exact ⟨v, true, rfl, grown_trans (grown_trans (grown_trans hg2 (gr_g _ _)) (World.grownBy_alloc _ _ _)) hg4, by simpa [hbs] using HWV.out⟩
      · have hne : ((bs (bareL v)).toList == (bs s).toList) = false := by rw [test_bs]; simpa using hbs
        go_wp2_with fail
        refine HD.out.mono ?_
        rintro e w3 ⟨rfl, q, rfl⟩
        go_wp2_with fail
        refine (BA.out _ (grown_trans (grown_trans hg2 (gr_g _ _)) (World.grownBy_alloc _ _ _))).mono ?_
        rintro e w4 ⟨rfl, hg4⟩
        go_wp2_with fail
        go_ret2
        exact ⟨v, false, rfl, grown_trans (grown_trans (grown_trans hg2 (gr_g _ _)) (World.grownBy_alloc _ _ _)) hg4, by have hbf : (bareL v == s) = false := by simpa using hbs
                                                                                                                         simpa [hbf] using HWV.out⟩
end Go.Proofs.YtjeogojgabfbiaaGreatDoor.Asm
namespace Go.Proofs.YtjeogojgabfbiaaGreatDoor.Asm
open Go.RowKit Go.Maps Go.Proofs.YtjeogojgabfbiaaGreatDoor.Bits Go.Proofs.YtjeogojgabfbiaaGreatDoor.Gw Go.Proofs.YtjeogojgabfbiaaGreatDoor.Risc Go.Proofs.YtjeogojgabfbiaaGreatDoor.Tx Go.Proofs.YtjeogojgabfbiaaGreatDoor.Mp
set_option linter.unusedVariables false
set_option linter.unusedSimpArgs false
set_option maxRecDepth 100000

/- Words that lie at an address. -/
structure Sr (w : World) (ao : Option Addr) (xs : List Int) : Prop where
  at_ : ∀ j x, xs[j]? = some x → ∃ a, ao = some a ∧ w.cell? (a.add j) = some (.int .u32 x)
  rng : ∀ x ∈ xs, U32 x
theorem cell_g {w w' : World} (hg : w.grownBy w' none) {a : Addr} {v : Value} (h : w.cell? a = some v) : w'.cell? a = some v := by
  rw [World.cell?_of_block (hg.block a.block (block_lt_of_cell h) (by simp))]
  exact h
theorem Sr.g {w w' : World} {ao : Option Addr} {xs : List Int} (h : Sr w ao xs) (hg : w.grownBy w' none) : Sr w' ao xs :=
  ⟨fun j x hx => by obtain ⟨a, h1, h2⟩ := h.at_ j x hx; exact ⟨a, h1, cell_g hg h2⟩, h.rng⟩
def linesT (xs : List Int) : List UInt8 := xs.flatMap fun x => lnT x ++ [10]
theorem linesT_snoc (xs : List Int) (x : Int) : linesT (xs ++ [x]) = linesT xs ++ lnT x ++ [10] := by simp [linesT]
theorem hexL_len (x : Int) : (hexL x).length = 8 := hex_len x 8
theorem lnT_len (x : Int) : (lnT x).length ≤ 80 := by
  unfold lnT
  split
  · rename_i h
    have hg : goodR (uF x) (uU x) (uV x) (uA x) (uB x) (uC x) (uOp x) (uIm x) = true := by
      simp only [decR, Bool.and_eq_true] at h; exact h.1
    have hs := line_split (u := uU x) (v := uV x) (a := uA x) (b := uB x) (c := uC x) (op := uOp x) (im := uIm x) (good_form hg)
    have hl : lineX x = lineI (uF x) (uU x) (uV x) (uA x) (uB x) (uC x) (uOp x) (uIm x) := rfl
    have h1 := nmK_len (kdI (uF x) (uU x) (uV x) (uA x) (uOp x))
    have h2 := opn_len (uF x) (uU x) (uA x) (uB x) (uC x) (uIm x)
    rw [hl, hs]
    simp; omega
  · have := hexL_len x
    simp [bareL]; omega
theorem linesT_len (xs : List Int) : (linesT xs).length ≤ 81 * xs.length := by
  induction xs with
  | nil => simp [linesT]
  | cons x xs ih =>
    have := lnT_len x
    have e : linesT (x :: xs) = lnT x ++ [10] ++ linesT xs := rfl
    rw [e]
    simp; omega
theorem below_gg {w W W' : World} (h : w.grownBy W none) (k : Below w.heap.size W W') : w.grownBy W' none :=
  ⟨k.os.trans h.os, k.tape.trans h.tape, k.output.trans h.output, Nat.le_trans h.size k.size, fun j hj _ => (k.block j hj).trans (h.block j hj (by simp))⟩
set_option maxHeartbeats 4000000 in
theorem clines_any {ao : Option Addr} {xs : List Int} (cp : Nat) (hn : xs.length ≤ 20000) (w : World) (A : AH w) (S : Sr w ao xs) :
    Calls Tryz.prog 14 #[.slice ao xs.length cp] w fun e w' => e = .returned (.string (bs (linesT xs))) ∧ w.grownBy w' none := by
  have HA := hide A
  have HS := hide S
  clear A S
  go_enter Tryz.func14, Tryz.ntmps14
  go_wp2_with fail
  refine (names_any w HA.out.al.nms).mono ?_
  rintro e wN ⟨b, rfl, hgN, hbN, M⟩
  have HM := hide M
  clear M
  go_wp2
  go_loopw [12] (fun i W => ∃ k : Nat, k ≤ xs.length ∧ i = .int .i64 k ∧ wN.grownBy W none ∧ Bd wN.heap.size wN.heap.size (linesT (xs.take k)) W) (fun i _ => xs.length - (intOf i).toNat)
  case atStart => exact ⟨0, by omega, rfl, World.grownBy_alloc _ _ _, Bd.fresh wN⟩
  case round =>
    obtain ⟨k, hk, rfl, hG, hB⟩ := hrel
    have HG := hide hG
    have HB := hide hB
    clear hG hB
    by_cases hkl : k < xs.length
    · obtain ⟨x, hx⟩ : ∃ x, xs[k]? = some x := ⟨_, List.getElem?_eq_getElem hkl⟩
      have hxr := HS.out.rng x (List.mem_of_getElem? hx)
      obtain ⟨a, rfl, hcell⟩ := (HS.out.g (grown_trans hgN HG.out)).at_ k x hx
      have htk : linesT (xs.take (k + 1)) = linesT (xs.take k) ++ lnT x ++ [10] := by
        rw [List.take_add_one, hx]
        exact linesT_snoc _ _
      have HTK := hide htk
      have hll := linesT_len (xs.take k)
      have hlk : (xs.take k).length ≤ 20000 := by simp; omega
      have hlx := lnT_len x
      have x0 := hxr.1
      have x1 := hxr.2
      clear hx htk hxr
      have LC := line_code x x0 x1 wr (HA.out.g (grown_trans hgN HG.out)).al (HM.out.kept HG.out (by simp))
      have HLN := hide (show lnT x = if decR x = true then lineX x else bareL x from rfl)
      by_cases hd : decR x = true
      · rw [if_pos hd] at LC HLN
        have HL := hide LC
        clear LC hd
        go_wp2_with fail
        refine HL.out.mono ?_
        rintro e w1 ⟨rfl, hg1⟩
        go_wp2_with fail
        refine (bws_any _ (HB.out.kept hg1) (by rw [← HLN.out]; omega) (Nat.le_trans HG.out.size hg1.size)).mono ?_
        rintro e w2 ⟨v2, rfl, hb2, hl2⟩
        have HB2 := hide hb2
        have HG2 := hide (below_gg (grown_trans HG.out hg1) hl2)
        clear hb2 hl2
        go_wp2_with fail
        refine (bwb_any 10 HB2.out (by rw [← HLN.out, List.length_append]; omega) HG2.out.size).mono ?_
        rintro e w3 ⟨v3, rfl, hb3, hl3⟩
        have HB3 := hide hb3
        have HG3 := hide (below_gg HG2.out hl3)
        clear hb3 hl3
        go_wp2
        go_roundw
        case rel => exact ⟨k + 1, by omega, by go_num, HG3.out, by rw [HTK.out, HLN.out]; exact HB3.out⟩
        case measure => simp [intOf]; omega
      · rw [if_neg hd] at LC HLN
        have HL := hide LC
        clear LC hd
        go_wp2_with fail
        refine HL.out.mono ?_
        rintro e w0 ⟨rfl, hg0⟩
        have HC := hide (bare_any x x0 x1 w0 (HA.out.g (grown_trans (grown_trans hgN HG.out) hg0)))
        go_wp2_with fail
        refine HC.out.mono ?_
        rintro e w1 ⟨rfl, hg01⟩
        have hg1 := grown_trans hg0 hg01
        go_wp2_with fail
        refine (bws_any _ (HB.out.kept hg1) (by rw [← HLN.out]; omega) (Nat.le_trans HG.out.size hg1.size)).mono ?_
        rintro e w2 ⟨v2, rfl, hb2, hl2⟩
        have HB2 := hide hb2
        have HG2 := hide (below_gg (grown_trans HG.out hg1) hl2)
        clear hb2 hl2
        go_wp2_with fail
        refine (bwb_any 10 HB2.out (by rw [← HLN.out, List.length_append]; omega) HG2.out.size).mono ?_
        rintro e w3 ⟨v3, rfl, hb3, hl3⟩
        have HB3 := hide hb3
        have HG3 := hide (below_gg HG2.out hl3)
        clear hb3 hl3
        go_wp2
        go_roundw
        case rel => exact ⟨k + 1, by omega, by go_num, HG3.out, by rw [HTK.out, HLN.out]; exact HB3.out⟩
        case measure => simp [intOf]; omega
    · have hk' : k = xs.length := by omega
      subst hk'
      have HB4 := hide (show Bd wN.heap.size wN.heap.size (linesT xs) wr by have := HB.out; rwa [List.take_length] at this)
      clear HB
      go_wp2_with fail
      refine (bst_any HB4.out HG.out.size).mono ?_
      rintro e w1 ⟨rfl, hl1⟩
      go_wp2
      go_ret
      exact ⟨rfl, grown_trans hgN (below_gg HG.out hl1)⟩
end Go.Proofs.YtjeogojgabfbiaaGreatDoor.Asm
namespace Go.Proofs.YtjeogojgabfbiaaGreatDoor.Asm
open Go.RowKit Go.Maps Go.Proofs.YtjeogojgabfbiaaGreatDoor.Bits Go.Proofs.YtjeogojgabfbiaaGreatDoor.Gw Go.Proofs.YtjeogojgabfbiaaGreatDoor.Risc Go.Proofs.YtjeogojgabfbiaaGreatDoor.Tx Go.Proofs.YtjeogojgabfbiaaGreatDoor.Mp
set_option linter.unusedVariables false
set_option linter.unusedSimpArgs false
set_option maxRecDepth 100000

theorem nm_no10 {k : K4} (h : k ∈ tab 4) : (10 : UInt8) ∉ nmK k := by
  have := List.all_eq_true.1 (show (tab 4).all (fun k => (nmK k).all fun c => !Nat.beq c.toNat 10) = true by kernel_rfl) k h
  intro hm
  have := List.all_eq_true.1 this 10 hm
  cases this
theorem line_no10 {x : Int} (h : decR x = true) : (10 : UInt8) ∉ lineX x := by
  have hg : goodR (uF x) (uU x) (uV x) (uA x) (uB x) (uC x) (uOp x) (uIm x) = true := by
    simp only [decR, Bool.and_eq_true] at h; exact h.1
  have hl : lineX x = lineI (uF x) (uU x) (uV x) (uA x) (uB x) (uC x) (uOp x) (uIm x) := rfl
  rw [hl, line_split (u := uU x) (v := uV x) (a := uA x) (b := uB x) (c := uC x) (op := uOp x) (im := uIm x) (good_form hg)]
  have R := good_rng hg
  have ra := R.a
  have rb := R.b
  have rc := R.c
  have q := hg
  have hf := good_form hg
  simp only [goodR, Bool.and_eq_true] at q
  have him : -100000000 ≤ uIm x ∧ uIm x ≤ 100000000 := by
    rcases hf with hf | hf | hf | hf
    · rw [hf] at q; simp at q; omega
    · have := R.f1 hf; omega
    · have := R.f2 hf; omega
    · exact R.f3 hf
  have A : (10 : UInt8) ∉ regI (uA x) := mem_reg (by omega) (by omega) (by decide) (by decide) (by decide)
  have B : (10 : UInt8) ∉ regI (uB x) := mem_reg (by omega) (by omega) (by decide) (by decide) (by decide)
  have C : (10 : UInt8) ∉ regI (uC x) := mem_reg (by omega) (by omega) (by decide) (by decide) (by decide)
  have I : (10 : UInt8) ∉ decI (uIm x) := mem_dec (by omega) (by omega) (by decide) (by decide)
  have N := nm_no10 (good_mem hg)
  have O : (10 : UInt8) ∉ opnI (uF x) (uU x) (uA x) (uB x) (uC x) (uIm x) := by
    unfold opnI
    split
    · split
      · exact I
      · exact C
    · split
      · simp [A, B, C]
      · simp [A, B, I]
  simp [N, O]
theorem lnT_no10 {x : Int} (h : U32 x) : (10 : UInt8) ∉ lnT x := by
  unfold lnT
  split
  · rename_i h; exact line_no10 h
  · have := (hexL_facts h).1
    simp only [hexOk, Bool.and_eq_true] at this
    intro hm
    rcases List.mem_cons.1 hm with hm | hm
    · cases hm
    · have := List.all_eq_true.1 this.1 10 hm
      cases this
theorem cut_no (t : List UInt8) (h : (10 : UInt8) ∉ t) : Lib.cut t [10] = (t, [], false) := by
  unfold Lib.cut
  rw [idx_no 10 [] t h, if_neg (by omega)]
theorem cut_yes (p r : List UInt8) (h : (10 : UInt8) ∉ p) : Lib.cut (p ++ 10 :: r) [10] = (p, r, true) := by
  have := lcut_at 10 [] p r h
  simpa using this
/- Does a text begin with a line? -/
def stl (t : List UInt8) : Prop := ∃ x r, U32 x ∧ t = lnT x ++ 10 :: r
/- A text: the lines of words, and what is no line. -/
structure Sp (s : List UInt8) (ys : List Int) (t : List UInt8) : Prop where
  eq : s = linesT ys ++ t
  rng : ∀ y ∈ ys, U32 y
  no : ¬ stl t
theorem stl_nil : ¬ stl [] := fun ⟨x, r, _, h⟩ => by simp at h
theorem line_eq {p p' r r' : List UInt8} (hp : (10 : UInt8) ∉ p) (hp' : (10 : UInt8) ∉ p') (h : p ++ 10 :: r = p' ++ 10 :: r') : p = p' ∧ r = r' := by
  have e := cut_yes p r hp
  rw [h, cut_yes p' r' hp'] at e
  simp only [Prod.mk.injEq] at e
  exact ⟨e.1.symm, e.2.1.symm⟩
theorem linesT_cons (x : Int) (xs : List Int) (t : List UInt8) : linesT (x :: xs) ++ t = lnT x ++ 10 :: (linesT xs ++ t) := by
  simp [linesT]
theorem Sp.uniq : ∀ {ys ys' : List Int} {s t t' : List UInt8}, Sp s ys t → Sp s ys' t' → ys = ys' ∧ t = t'
  | [], [], s, t, t', h, h' => ⟨rfl, by have a := h.eq; have b := h'.eq; rw [a] at b; simpa [linesT] using b⟩
  | [], y :: ys', s, t, t', h, h' => by
    have a := h.eq
    have b := h'.eq
    rw [linesT_cons] at b
    exact absurd ⟨y, _, h'.rng y (by simp), by rw [← b, a]; simp [linesT]⟩ h.no
  | y :: ys, [], s, t, t', h, h' => by
    have a := h.eq
    have b := h'.eq
    rw [linesT_cons] at a
    exact absurd ⟨y, _, h.rng y (by simp), by rw [← a, b]; simp [linesT]⟩ h'.no
  | y :: ys, y' :: ys', s, t, t', h, h' => by
    have a := h.eq
    have b := h'.eq
    rw [linesT_cons] at a b
    rw [a] at b
    obtain ⟨e1, e2⟩ := line_eq (lnT_no10 (h.rng y (by simp))) (lnT_no10 (h'.rng y' (by simp))) b
    obtain rfl := lnT_inj (h.rng y (by simp)) (h'.rng y' (by simp)) e1
    obtain ⟨e3, e4⟩ := Sp.uniq (s := linesT ys ++ t) ⟨rfl, fun z hz => h.rng z (by simp [hz]), h.no⟩ ⟨e2, fun z hz => h'.rng z (by simp [hz]), h'.no⟩
    exact ⟨by rw [e3], e4⟩
theorem Sp.ended {ys : List Int} (h : ∀ y ∈ ys, U32 y) : Sp (linesT ys) ys [] := ⟨by simp, h, stl_nil⟩
theorem no_end {t : List UInt8} (h : (10 : UInt8) ∉ t) : ¬ stl t := fun ⟨x, r, _, e⟩ => h (by rw [e]; simp)
theorem no_word {p r : List UInt8} {v : Int} (hp : (10 : UInt8) ∉ p) (h : WbR p v false) : ¬ stl (p ++ 10 :: r) := fun ⟨x, r', hx, e⟩ => by
  obtain ⟨e1, _⟩ := line_eq hp (lnT_no10 hx) e
  have := h.2.2 ⟨x, hx, e1.symm⟩
  cases this
theorem cut10_any (t : List UInt8) (hs : t.length ≤ 1000000) (w : World) (A : AL w) : Calls Tryz.prog 32 #[.string (bs t), .string ⟨#[10]⟩] w fun e w' => e = .returned (.tuple #[.string (bs (Lib.cut t [10]).1), .string (bs (Lib.cut t [10]).2.1), .bool (Lib.cut t [10]).2.2]) ∧ w.grownBy w' none := by
  obtain ⟨m, hm⟩ := A.maxl
  have hd : (bs t).data.toList = t := by simp [bs]
  refine (Tryz.strings_Cut (bs t) ⟨#[10]⟩ m w (by rw [bs_size]; omega) hm).mono ?_
  rintro e w' ⟨rfl, n, rfl⟩
  rw [hd]
  exact ⟨rfl, drewN_g _ _⟩
theorem cnt10_any (t : List UInt8) (w : World) : Calls Tryz.prog 31 #[.string (bs t), .string ⟨#[10]⟩] w fun e w' => e = .returned (.int .i64 (t.count 10 : Nat)) ∧ w' = w := by
  have hd : (bs t).data.toList = t := by simp [bs]
  have := Tryz.strings_Count_one (bs t) 10 w
  rw [hd] at this
  exact this
theorem infoU : (Tryz.prog.info? 22).map (fun i => (i.zero, i.size, i.bytes)) = some (some (.int .u32 0), 1, 4) := by kernel_rfl
theorem g_below {w w' : World} (h : w.grownBy w' none) : Below w.heap.size w w' := ⟨h.os, h.tape, h.output, h.size, fun k hk => h.block k hk (by simp)⟩
theorem bs_emp (t : List UInt8) : (bs t).toList.isEmpty = t.isEmpty := by rw [bs_list]
theorem own_base {w : World} {B B' : Nat} {e : TypeId} {n : Nat} {v : Value} {k : Nat} {xs : List Value} (h : w.ownsRow B e n v k xs) (hB : B' ≤ B) : w.ownsRow B' e n v k xs :=
  ⟨h.1, h.2.imp id fun ⟨g, c, cur, a, b, r⟩ => ⟨g, c, cur, a, Nat.le_trans hB b, r⟩⟩
theorem own_shape {w : World} {B : Nat} {e : TypeId} {k : Nat} {v : Value} {xs : List Value} (h : w.ownsRow B e 1 v k xs) : ∃ ao cp, v = .slice ao k cp := by
  rcases h.2 with ⟨rfl, rfl⟩ | ⟨g, c, cur, rfl, _⟩
  · exact ⟨_, _, rfl⟩
  · exact ⟨_, _, rfl⟩
theorem lines_ge (ys : List Int) : ys.length ≤ (linesT ys).length := by
  induction ys with
  | nil => simp
  | cons y ys ih => have := linesT_cons y ys []
                    rw [List.append_nil, List.append_nil] at this
                    rw [this]; simp; omega
theorem g_below_at {w w' : World} {B : Nat} (h : w.grownBy w' none) (hB : B ≤ w.heap.size) : Below B w w' := ⟨h.os, h.tape, h.output, h.size, fun k hk => h.block k (by omega) (by simp)⟩
theorem below_trans {B : Nat} {a b c : World} (h : Below B a b) (k : Below B b c) : Below B a c := ⟨k.os.trans h.os, k.tape.trans h.tape, k.output.trans h.output, Nat.le_trans h.size k.size, fun j hj => (k.block j hj).trans (h.block j hj)⟩
theorem cell_one_new' (w : World) (v : Value) (e : TypeId) : ∀ (j : Nat) (u : Value), [v][j]? = some u → (w.alloc (.cells #[v] e)).cell? ((⟨w.heap.size, 0, none⟩ : Addr).add j) = some u := by
  intro j u hj
  match j, hj with
  | 0, hj => simp at hj; subst hj; simp [Addr.add]
def sLen : Value → Nat | .string b => b.size | _ => 0
def wdU (x : Int) : Value := .int .u32 x
set_option maxHeartbeats 4000000 in
theorem cwords_any (s : List UInt8) (hs : s.length ≤ 200000) (hc : s.count 10 ≤ 65536) (w : World) (A : AH w) :
    Calls Tryz.prog 12 #[.string (bs s)] w fun e w' => ∃ ys t, Sp s ys t ∧ w.grownBy w' none ∧ ((t = [] ∧ ∃ v, e = .returned (.tuple #[v, .int .i64 0, .int .i64 0]) ∧ w'.ownsRow w.heap.size 22 1 v ys.length (ys.map wdU)) ∨ (t ≠ [] ∧ e = .returned (.tuple #[.slice none 0 0, .int .i64 (ys.length : Nat), .int .i64 60]))) := by
  have HA := hide A
  clear A
  have HC := hide (cnt10_any s w)
  generalize s.count 10 = n at HC hc
  have hcn : ¬ ((65536 : Int) < n) := by omega
  obtain ⟨i0, hi, hz0, hz1, hz2⟩ := info_parts infoU
  go_enter Tryz.func12, Tryz.ntmps12
  go_wp2_with fail
  refine HC.out.mono ?_
  rintro e w0 ⟨rfl, rfl⟩
  go_wp2_with fail
  refine (kinds_any w0 HA.out.al.nms).mono ?_
  rintro e wN ⟨b, rfl, hgN, hbN, M⟩
  have HM := hide M
  clear M
  go_wp2_with (at_make; refine wpList_make_own _ rfl _ _ _ rfl wN.heap.size 22 i0 (.int .u32 0) 1 Tryz.underlying35 hi hz0 hz1 .i64 .i64 _ n rfl rfl rfl ?b2 ?b3 ?b4 ?_)
  case b2 => rw [hz2]; omega
  case b3 => unfold maxLen; omega
  case b4 => exact Nat.le_refl _
  intro wM hown hgM
  have HO0 := hide hown
  clear hown
  go_wp2
  go_loopw [0, 7] (fun tv v W => ∃ t ys, tv = .string (bs t) ∧ s = linesT ys ++ t ∧ (∀ y ∈ ys, U32 y) ∧ ys.length ≤ s.length ∧ Below wN.heap.size wN W ∧ W.ownsRow wN.heap.size 22 1 v ys.length (ys.map wdU)) (fun tv _ _ => sLen tv)
  case atStart => exact ⟨s, [], rfl, rfl, by simp, by simp, g_below hgM, HO0.out⟩
  case round =>
    obtain ⟨t, ys, rfl, hst, hr, hyl, hb, ho⟩ := hrel
    obtain ⟨ao, cp, rfl⟩ := own_shape ho
    have HST := hide hst
    have HR := hide hr
    have HB := hide hb
    have HO := hide ho
    have htl : t.length ≤ 200000 := by have := congrArg List.length hst; simp at this; omega
    clear hst hr hb ho
    by_cases ht : t = []
    · have he : (bs t).toList.isEmpty = true := by rw [bs_emp, ht]; rfl
      have HT := hide ht
      clear ht
      go_wp2_with fail
      go_ret3
      obtain rfl := HT.out
      have e := HST.out
      rw [List.append_nil] at e
      subst e
      exact ⟨ys, [], Sp.ended HR.out, grown_trans hgN (below_g HB.out), .inl ⟨rfl, _, rfl, own_base HO.out hgN.size⟩⟩
    · have he : (bs t).toList.isEmpty = false := by rw [bs_emp]; simpa using ht
      have HT := hide ht
      clear ht
      have AR := hide (HA.out.g (grown_trans hgN (below_g HB.out)))
      have HC0 := cut10_any t (by omega) wr AR.out.al
      have HMR := hide (HM.out.kept (below_g HB.out) (by simp))
      by_cases hm : (10 : UInt8) ∈ t
      · obtain ⟨p, r, hpr, hp⟩ := List.eq_append_cons_of_mem hm
        rw [hpr, cut_yes p r hp, ← hpr] at HC0
        have HC := hide HC0
        have HP := hide hp
        have hpl : p.length ≤ 200000 := by rw [hpr] at htl; simp at htl; omega
        have HPR := hide hpr
        clear hm HC0 hp hpr
        go_wp2_with fail
        refine HC.out.mono ?_
        rintro e w1 ⟨rfl, hg1⟩
        go_wp2_with fail
        refine (wob_any p hpl w1 (AR.out.g hg1) (HMR.out.kept hg1 (by simp))).mono ?_
        rintro e w2 ⟨v, ok, rfl, hg2, hW⟩
        have HW := hide hW
        clear hW
        cases ok
        · go_wp2_with fail
          go_ret3
          refine ⟨ys, t, ⟨HST.out, HR.out, ?_⟩, grown_trans hgN (grown_trans (below_g HB.out) (grown_trans hg1 hg2)), .inr ⟨HT.out, rfl⟩⟩
          rw [HPR.out]
          exact no_word HP.out HW.out
        · have HO2 := hide ((HO.out.kept (grown_trans hg1 hg2) (by cases ao <;> simp [Value.ownBlock])))
          go_wp2_with (at_builtin; refine wpList_append_own _ rfl _ _ 35 rfl wN.heap.size 22 i0 (.int .u32 0) 1 4 Tryz.underlying35 hi hz0 hz1 hz2 rfl (by decide) _ _ _ rfl (HO2.out.alloc _) ⟨w2.heap.size, 0, none⟩ 1 1 [wdU v] rfl rfl ?c1 ?c2 ?c3 ?c4 ?c5 ?_)
          case c1 => exact cell_one_new' _ _ _
          case c2 => intro u hu; simp at hu; subst hu; rfl
          case c3 => unfold maxLen; omega
          case c4 => omega
          case c5 => have := HB.out.size; have := hg1.size; have := hg2.size; simp; omega
          intro v' w3 hown' hgrow _
          have hlt := (HO2.out.alloc (.cells #[wdU v] 22)).lt
          have HB3 := hide (show Below wN.heap.size wN w3 from ((below_trans (below_trans HB.out (g_below_at hg1 HB.out.size)) (g_below_at hg2 (Nat.le_trans HB.out.size hg1.size))).alloc (by have := HB.out.size; have := hg1.size; have := hg2.size; omega) _).grown hgrow (by have := HB.out.size; have := hg1.size; have := hg2.size; simp; omega) (fun g hg => (hlt g hg).1))
          have HO3 := hide hown'
          clear hown' hgrow hlt
          go_wp2
          go_roundw
          case rel =>
            refine ⟨r, ys ++ [v], rfl, ?_, ?_, ?_, HB3.out, ?_⟩
            · rw [linesT_snoc, HW.out.2.1 rfl, List.append_assoc, List.append_assoc]
              have := HST.out
              rw [HPR.out] at this
              exact this
            · intro y hy
              rcases List.mem_append.1 hy with hy | hy
              · exact HR.out y hy
              · simp at hy; subst hy; exact HW.out.1
            · have h1 := congrArg List.length HST.out
              have h2 := congrArg List.length HPR.out
              have h3 := lines_ge ys
              simp at h1 h2 ⊢; omega
            · simpa using HO3.out
          case measure =>
            have := congrArg List.length HPR.out
            simp [sLen, bs_size] at this ⊢; omega
      · rw [cut_no t hm] at HC0
        have HC := hide HC0
        have HN := hide hm
        clear hm HC0
        go_wp2_with fail
        refine HC.out.mono ?_
        rintro e w1 ⟨rfl, hg1⟩
        go_wp2_with fail
        refine (wob_any t htl w1 (AR.out.g hg1) (HMR.out.kept hg1 (by simp))).mono ?_
        rintro e w2 ⟨v, ok, rfl, hg2, hW⟩
        clear hW
        go_wp2_with fail
        go_ret3
        exact ⟨ys, t, ⟨HST.out, HR.out, no_end HN.out⟩, grown_trans hgN (grown_trans (below_g HB.out) (grown_trans hg1 hg2)), .inr ⟨HT.out, rfl⟩⟩
end Go.Proofs.YtjeogojgabfbiaaGreatDoor.Asm
namespace Go.Proofs.YtjeogojgabfbiaaGreatDoor.Asm
open Go.ChangeShapes Go.WideShapes Go.ChangeAt Go.RowKit Go.Deep Go.Maps Go.Joins Go.Proofs.YtjeogojgabfbiaaGreatDoor.Bits Go.Proofs.YtjeogojgabfbiaaGreatDoor.Gw Go.Proofs.YtjeogojgabfbiaaGreatDoor.Risc Go.Proofs.YtjeogojgabfbiaaGreatDoor.Tx Go.Proofs.YtjeogojgabfbiaaGreatDoor.Mp
set_option linter.unusedVariables false
set_option linter.unusedSimpArgs false
set_option maxRecDepth 100000

theorem Sr.nil (w : World) (ao : Option Addr) : Sr w ao [] := ⟨fun j x h => by simp at h, fun x h => by simp at h⟩
/- The argument '.slice ao n cp' is the list of words xs. -/
structure Wl (w : World) (ao : Option Addr) (n cp : Nat) (xs : List Int) : Prop where
  src : Sr w ao xs
  len : xs.length = n
  none : ao = .none → cp = 0 ∧ n = 0
  max : n ≤ maxLen
theorem cellsU : Tryz.prog.cellsOf 22 = 1 := by kernel_rfl
section
variable {H : Type} {enc : TypeId × Value → H} {W : World} {base b0 : Nat} {spare : Nat → Bool} {held : Bool} {r : Reach}
theorem choose_lt' {α : Type} [Inhabited α] {n : Nat} {p : Nat → α → Prop} (h : ∀ i, i < n → ∃ x, p i x) : ∃ f : Nat → α, ∀ i, i < n → p i (f i) :=
  ⟨fun i => if hi : i < n then (h i hi).choose else default, fun i hi => by simp only [hi, dite_true]; exact (h i hi).choose_spec⟩
theorem open_words {ao : Option Addr} {n cp : Nat} {d : DataW H} {p : List MemPlace} (h : DataW.Trod enc Tryz.prog W base spare held 35 (.slice ao n cp) d p) : ∃ xs, Wl W ao n cp xs := by
  obtain ⟨fuel, hf⟩ := h
  rcases open_slice1 Tryz.underlying35 cellsU hf with ⟨hcs, _⟩ | ⟨a, len, cap, m, k, V, D, Pl, hcs, _, hl, hm, hmm, _, hx⟩
  · simp [Value.cells] at hcs
    obtain ⟨rfl, rfl, rfl⟩ := hcs
    exact ⟨[], Sr.nil _ _, rfl, fun _ => ⟨rfl, rfl⟩, Nat.zero_le _⟩
  · simp [Value.cells] at hcs
    obtain ⟨rfl, rfl, rfl⟩ := hcs
    have hlm : n ≤ m := by rw [hmm]; split <;> omega
    obtain ⟨f, hf⟩ := choose_lt' (α := Int) (n := n) (p := fun i x => W.cell? (a.add i) = some (.int .u32 x) ∧ 0 ≤ x ∧ x < 4294967296) (fun i hi => by
      obtain ⟨h1, h2⟩ := hx i (by omega)
      obtain ⟨x, e, _, hw⟩ := DataW.trod_int Tryz.underlying22 h2
      simp at e
      have := bounds_u32 hw
      exact ⟨x, by rw [h1, e], by omega, by omega⟩)
    refine ⟨(List.range n).map f, ⟨fun j u hu => ⟨a, rfl, ?_⟩, fun x hx => ?_⟩, by simp, fun e => (by cases e), by omega⟩
    · have hj : j < n := by have := (List.getElem?_eq_some_iff.1 hu).1; simpa using this
      simp [hj] at hu
      rw [(hf j hj).1, hu]
    · obtain ⟨i, hi, rfl⟩ := List.mem_map.1 hx
      exact (hf i (List.mem_range.1 hi)).2
end
theorem own_sr {w : World} {B n : Nat} {v : Value} {xs : List Int} (h : w.ownsRow B 22 1 v n (xs.map wdU)) (hr : ∀ x ∈ xs, U32 x) : ∃ ao cp, v = .slice ao xs.length cp ∧ Sr w ao xs := by
  have hl : xs.length = n := by simpa using h.1
  subst hl
  rcases h.2 with ⟨rfl, h0⟩ | ⟨g, cap, cur, rfl, hb, hg, hc, hm, hs, ht⟩
  · have : xs = [] := List.length_eq_zero_iff.1 h0
    subst this
    exact ⟨none, 0, rfl, Sr.nil _ _⟩
  · refine ⟨some ⟨g, 0, none⟩, cap, rfl, fun j x hx => ⟨_, rfl, ?_⟩, hr⟩
    have e := congrArg (fun l => l[j]?) ht
    have hj : j < xs.length := (List.getElem?_eq_some_iff.1 hx).1
    simp only [Nat.mul_one, List.getElem?_map, hx, Option.map_some] at e
    rw [List.getElem?_take, if_pos hj, Array.getElem?_toList] at e
    have k : (⟨g, 0, none⟩ : Addr).add j = ⟨g, j, none⟩ := by unfold Addr.add; split <;> simp_all
    rw [k, cell_of_row _ _ _ _ _ _ hg]
    exact e
theorem news_of {w : World} {ad : Addr} {xs : List Int} (S : Sr w (some ad) xs) : ∀ (j : Nat) u, (xs.map wdU)[j]? = some u → w.cell? (ad.add j) = some u := by
  intro j u hu
  rw [List.getElem?_map] at hu
  cases hx : xs[j]? with
  | none => rw [hx] at hu; cases hu
  | some x =>
    rw [hx] at hu
    cases hu
    obtain ⟨a, e, hc⟩ := S.at_ j x hx
    cases e
    exact hc
/- 'append([]uint32{}, words...)'. -/
theorem wpList_append_src {w : World} {ops : Array Oper} {rest : List Oper} {o : Oper} {a : Act} {Q : Exit → Act → World → Prop} (hgd : o.guard = none) (s x : Operand)
    (ho : o.op = .call { callee := .builtin .append, args := #[s, x], argTypes := #[35, 35] }) (g : Nat) (hs : a.eval s = .slice (some ⟨g, 0, none⟩) 0 0) (hg : w.heap[g]? = some (.cells #[] 22 (0, 0)))
    (ao : Option Addr) (n c : Nat) (hx : a.eval x = .slice ao n c) (xs : List Int) (hsrc : Wl w ao n c xs) (hlen : n ≤ 2000)
    (B : Nat) (hB : B ≤ g)
    (h : ∀ ao' c' w', Sr w' ao' xs → Below B w w' → wpList Tryz.prog ops Q rest (a.put o.dst (.slice ao' n c')) w') : wpList Tryz.prog ops Q (o :: rest) a w := by
  obtain ⟨i0, hi, hz0, hz1, hz2⟩ := info_parts infoU
  have hgl : g < w.heap.size := (Array.getElem?_eq_some_iff.1 hg).1
  have hown : w.ownsRow B 22 1 (.slice (some ⟨g, 0, none⟩) 0 0) 0 (([] : List Int).map wdU) := ⟨by simp, .inr ⟨g, 0, #[], rfl, hB, hg, Nat.le_refl _, by unfold maxLen; omega, by simp, by simp⟩⟩
  cases ao with
  | none =>
    obtain ⟨rfl, rfl⟩ := hsrc.none rfl
    have hx0 : xs = [] := List.length_eq_zero_iff.1 hsrc.len
    subst hx0
    refine wpList_append_own_none hgd s x 35 ho B 22 i0 1 Tryz.underlying35 hi _ 0 _ hs hown hx ?_
    exact h _ _ _ (Sr.nil _ _) ⟨rfl, rfl, rfl, Nat.le_refl _, fun _ _ => rfl⟩
  | some ad =>
    refine wpList_append_own w hgd s x 35 ho B 22 i0 (.int .u32 0) 1 4 Tryz.underlying35 hi hz0 hz1 hz2 rfl (by decide) _ 0 _ hs hown ad n c (xs.map wdU) hx (by simp [hsrc.len]) (news_of hsrc.src) (by intro u hu; obtain ⟨x, _, rfl⟩ := List.mem_map.1 hu; rfl) (by unfold maxLen; omega) (by omega) (by omega) ?_
    intro v' w' ho' hg' hv'
    simp only [Nat.zero_add, List.map_nil, List.nil_append] at ho'
    obtain ⟨ao', c', rfl, S⟩ := own_sr ho' hsrc.src.rng
    rw [hsrc.len]
    refine h ao' c' w' S ⟨hg'.os, hg'.tape, hg'.output, hg'.size, fun k hk => hg'.block k (by omega) ?_⟩
    simp [Value.ownBlock]; omega
set_option maxHeartbeats 2000000 in
theorem kwords_any {ao ao' : Option Addr} {xs : List Int} {w : World} (cp cp' : Nat) (S : Sr w ao xs) (S' : Sr w ao' xs) (hn : xs.length ≤ 200000) :
    Calls Tryz.prog 16 #[.slice ao xs.length cp, .slice ao' xs.length cp'] w fun e w' => e = .returned (.bool true) ∧ w.grownBy w' none := by
  have HS := hide S
  have HS' := hide S'
  clear S S'
  go_enter Tryz.func16, Tryz.ntmps16
  go_wp2
  go_loopw [5] (fun i W => ∃ k d : Nat, k ≤ xs.length ∧ i = .int .i64 k ∧ W = w.drewN d) (fun i _ => xs.length - (intOf i).toNat)
  case atStart => exact ⟨0, 0, by omega, rfl, rfl⟩
  case round =>
    obtain ⟨k, d, hk, rfl, rfl⟩ := hrel
    by_cases hkl : k < xs.length
    · obtain ⟨x, hx⟩ : ∃ x, xs[k]? = some x := ⟨_, List.getElem?_eq_getElem hkl⟩
      obtain ⟨a, rfl, hc⟩ := HS.out.at_ k x hx
      obtain ⟨a', rfl, hc'⟩ := HS'.out.at_ k x hx
      clear hx
      go_wp2
      go_quiet (fail)
      go_wp2
      exact ⟨⟨k + 1, d + nq, by omega, by go_num, rfl⟩, by simp [intOf]; omega⟩
    · go_wp2
      go_ret
      exact ⟨rfl, drewN_g _ _⟩
theorem count_lines : ∀ (xs : List Int), (∀ x ∈ xs, U32 x) → (linesT xs).count 10 = xs.length
  | [], _ => rfl
  | x :: xs, h => by
    have := linesT_cons x xs []
    rw [List.append_nil, List.append_nil] at this
    rw [this, List.count_append, List.count_cons_self, count_lines xs (fun y hy => h y (by simp [hy])), List.count_eq_zero_of_not_mem (lnT_no10 (h x (by simp)))]
    simp
def debT : List Int := [0, 1, 56, 2, 57, 49, 28, 3, 61, 58, 42, 50, 38, 29, 17, 4, 62, 47, 59, 36, 45, 43, 51, 22, 53, 39, 33, 30, 24, 18, 12, 5, 63, 55, 48, 27, 60, 41, 37, 16, 46, 35, 44, 21, 52, 32, 23, 11, 54, 26, 40, 15, 34, 20, 31, 10, 25, 14, 19, 9, 13, 8, 7, 6]
theorem of_laid_ah {W : World} (h : laidMetH Tryz.prog laid11 W) (hs : W.ShapedOpen Tryz.prog) : AH W := by
  refine ⟨of_laid_al h hs, ?_⟩
  rw [MakeChecks.laidMetH_plain _ _ _ (by kernel_rfl)] at h
  obtain ⟨ps, hl, _⟩ := h
  obtain ⟨g, t, cs, f, p, hg, ht, hv, hd⟩ := laid_get hl 1 rfl
  obtain rfl : g = 20 := Option.some.inj (hg.symm.trans (by kernel_rfl))
  obtain rfl : t = 184 := Option.some.inj (ht.symm.trans (by kernel_rfl))
  have hc := Lib.cells_of_tab (k := .u8) (zs := debT) Tryz.underlying184 Tryz.underlying5 (by kernel_rfl) (by kernel_rfl) hd
  have := World.var?_cell hg hv 15
  rw [← Array.getElem?_toList, hc] at this
  exact this
end Go.Proofs.YtjeogojgabfbiaaGreatDoor.Asm
