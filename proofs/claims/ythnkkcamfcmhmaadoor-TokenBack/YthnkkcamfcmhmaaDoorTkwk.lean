/-
  Lex as the laws call it; the laws' own wakes.
-/
import Derived.Test.YthnkkcamfcmhmaaDoorPk8
import Derived.Test.YthnkkcamfcmhmaaDoorLr8
import Derived.Test.YthnkkcamfcmhmaaDoorLx6
namespace Go.Proofs.YthnkkcamfcmhmaaDoor.Lx
open Go.RowKit Go.Proofs.YthnkkcamfcmhmaaDoor.Tx
set_option linter.unusedVariables false
set_option linter.unusedSimpArgs false
set_option maxRecDepth 100000

theorem lexG_len : ∀ (n : Nat) (s : List UInt8) (q : Nat) (ok : Bool) (k : Nat) (ts : List Tk), lexG n s q ok k = .ok ts → ts.length ≤ n
  | 0, s, q, ok, k, ts, h => by
    rw [lexG] at h
    cases h
    simp
  | n + 1, s, q, ok, k, ts, h => by
    rw [lexG] at h
    split at h
    · cases h
    split at h
    · split at h
      · cases h
      · split at h
        · cases h
        · rename_i t len _ _
          cases hr : lexG n s (q + len + (skP (s.drop (q + len))).1) (skP (s.drop (q + len))).2 (k + 1) with
          | error e => rw [hr] at h; cases h
          | ok us =>
            rw [hr] at h
            simp [Except.map] at h
            subst h
            have := lexG_len n _ _ _ _ _ hr
            simp
            omega
    · cases h
      simp
theorem lexP_len {s : List UInt8} {ts : List Tk} (h : lexP s = .ok ts) : ts.length ≤ 16385 ∧ s.length ≤ 16384 := by
  unfold lexP at h
  split at h
  · cases h
  · have := lexG_len _ _ _ _ _ _ h
    omega
theorem sameT_refl (t : Tk) (p : Bool) : sameT t t p = true := by simp [sameT]
theorem sameL_refl (p : Bool) : ∀ ts : List Tk, sameL p ts ts = true
  | [] => rfl
  | t :: ts => by rw [sameL, sameT_refl, sameL_refl p ts]; rfl
theorem plex_all (s : List UInt8) (w : World) (A : Gt w) (hm : s.length ≤ maxLen) :
    Calls Tryd.prog 9 #[.string (bs s)] w fun e w' => LexR w w' (lexP s) e ∧ w.grownBy w' none := by
  by_cases h : 16384 < s.length
  · exact plex_long s w hm h
  · exact plex_at s w A (by omega)
/- Tokens in a row of the call's own. -/
structure Own (w w' : World) (o : Option Addr) (cp : Nat) (ts : List Tk) : Prop where
  row : w'.ownsRow w.heap.size 37 4 (.slice o ts.length cp) ts.length (tkL ts)
  at' : TkS w' o ts
theorem Own.kept {w W W' : World} {o : Option Addr} {cp : Nat} {ts : List Tk} (h : Own w W o cp ts) (hg : W.grownBy W' none) : Own w W' o cp ts := ⟨h.row.kept hg (none_or _), h.at'.kept hg⟩
theorem plex_ok (s : List UInt8) (w : World) (A : Gt w) (hm : s.length ≤ maxLen) {ts : List Tk} (h : lexP s = .ok ts) :
    Calls Tryd.prog 9 #[.string (bs s)] w fun e w' => ∃ o cp, e = .returned (.tuple #[.slice o ts.length cp, .int .i64 0, .int .i64 0]) ∧ Own w w' o cp ts ∧ w.grownBy w' none := by
  refine (plex_all s w A hm).mono ?_
  rw [h]
  rintro e w' ⟨⟨v, rfl, hv⟩, hg⟩
  obtain ⟨o, cp, rfl⟩ := own_shape4 hv
  exact ⟨o, cp, rfl, ⟨hv, own_tks hv rfl⟩, hg⟩
theorem plex_err (s : List UInt8) (w : World) (A : Gt w) (hm : s.length ≤ maxLen) {a c : Int} (h : lexP s = .error (a, c)) :
    Calls Tryd.prog 9 #[.string (bs s)] w fun e w' => e = .returned (.tuple #[.slice none 0 0, .int .i64 a, .int .i64 c]) ∧ w.grownBy w' none := by
  refine (plex_all s w A hm).mono ?_
  rw [h]
  rintro e w' ⟨he, hg⟩
  exact ⟨he, hg⟩
theorem rlex_all (s : List UInt8) (w : World) (hm : s.length ≤ maxLen) :
    Calls Tryd.prog 10 #[.string (bs s)] w fun e w' => LexR w w' (lexP s) e ∧ w.grownBy w' none := by
  by_cases h : 16384 < s.length
  · exact lex_long s w hm h
  · exact lex_at s w (by omega)
theorem rlex_ok (s : List UInt8) (w : World) (hm : s.length ≤ maxLen) {ts : List Tk} (h : lexP s = .ok ts) :
    Calls Tryd.prog 10 #[.string (bs s)] w fun e w' => ∃ o cp, e = .returned (.tuple #[.slice o ts.length cp, .int .i64 0, .int .i64 0]) ∧ Own w w' o cp ts ∧ w.grownBy w' none := by
  refine (rlex_all s w hm).mono ?_
  rw [h]
  rintro e w' ⟨⟨v, rfl, hv⟩, hg⟩
  obtain ⟨o, cp, rfl⟩ := own_shape4 hv
  exact ⟨o, cp, rfl, ⟨hv, own_tks hv rfl⟩, hg⟩
theorem rlex_err (s : List UInt8) (w : World) (hm : s.length ≤ maxLen) {a c : Int} (h : lexP s = .error (a, c)) :
    Calls Tryd.prog 10 #[.string (bs s)] w fun e w' => e = .returned (.tuple #[.slice none 0 0, .int .i64 a, .int .i64 c]) ∧ w.grownBy w' none := by
  refine (rlex_all s w hm).mono ?_
  rw [h]
  rintro e w' ⟨he, hg⟩
  exact ⟨he, hg⟩
def wk1 : List UInt8 := [120, 58, 61, 48, 70, 70, 72, 59, 40, 42, 32, 97, 32, 40, 42, 32, 98, 32, 42, 41, 32, 42, 41]
def wk2 : List UInt8 := [97, 32, 49, 46, 53]
def wkT : List Tk := [⟨1, [120], 0, 0⟩, ⟨6, [58, 61], 0, 1⟩, ⟨3, [], 255, 3⟩, ⟨6, [59], 0, 7⟩]
theorem wk1_is : lexP wk1 = .ok wkT := by kernel_rfl
theorem wk2_is : lexP wk2 = .error (2, 90) := by kernel_rfl
theorem wk_cell {w w' : World} {o : Option Addr} {cp : Nat} (h : Own w w' o cp wkT) : ∃ g, o = some ⟨g, 0, none⟩ ∧ w'.cell? ⟨g, 10, none⟩ = some (.int .i64 255) := by
  rcases h.row.2 with ⟨h1, h0⟩ | ⟨g, cap, cur, h1, _⟩
  · cases h0
  · cases h1
    refine ⟨g, rfl, ?_⟩
    have := (h.at'.at' _ rfl 2 (by decide)).2.2.1
    simpa [Addr.add, wkT] using this
set_option maxHeartbeats 4000000 in
theorem wakes_at (w : World) (A : Gt w) : Calls Tryd.prog 8 #[] w fun e w' => e = .returned (.bool true) ∧ w.grownBy w' none := by
  have b1 : (⟨#[120, 58, 61, 48, 70, 70, 72, 59, 40, 42, 32, 97, 32, 40, 42, 32, 98, 32, 42, 41, 32, 42, 41]⟩ : ByteArray) = bs wk1 := rfl
  have b2 : (⟨#[97, 32, 49, 46, 53]⟩ : ByteArray) = bs wk2 := rfl
  have H1 := hide (plex_ok wk1 w A (by decide) wk1_is)
  have H2 := hide (fun W (h : w.grownBy W none) => plex_err wk2 W (A.g h) (by decide) wk2_is)
  have hln : wkT.length = 4 := rfl
  rw [hln] at H1
  clear A hln
  go_enter Tryd.func8, Tryd.ntmps8
  go_wp2_with (first
    | (go_at_call 9; refine (H2.out _ G1.out).mono ?_; rintro e w2 ⟨rfl, hg⟩; have hc2 := (gcell hg _ _ (block_lt_of_cell hc)).trans hc; have G2 := hide (grown_trans G1.out hg); clear hg)
    | (go_at_call 9; refine H1.out.mono ?_; rintro e w1 ⟨o, cp, rfl, ho, hg⟩; obtain ⟨g, rfl, hc⟩ := wk_cell ho; have G1 := hide hg; clear hg ho))
  go_ret
  exact ⟨rfl, G2.out⟩
end Go.Proofs.YthnkkcamfcmhmaaDoor.Lx
