/-
  The document's own tables (package spinetref13): one type, whatever it is.
-/
import Derived.Test.YthmldhppmpbadaaTg3
import Derived.Test.YthmldhppmpbadaaTg4
import Derived.Test.YthmldhppmpbadaaTg5
import Derived.Test.YthmldhppmpbadaaTg6
import Derived.Test.YthmldhppmpbadaaTg7
import Derived.Test.YthmldhppmpbadaaTg10
import Derived.Test.YthmldhppmpbadaaTg16
namespace Go.Proofs.Ythmldhppmpbadaa.Ty
open Go.RowKit hiding Hid
open Go.Maps Go.Proofs.Ythmldhppmpbadaa.Tx Go.Proofs.Ythmldhppmpbadaa.Lx Go.Proofs.Ythmldhppmpbadaa.Tr Go.Proofs.Ythmldhppmpbadaa.Mp
set_option linter.unusedVariables false
set_option linter.unusedSimpArgs false
set_option maxRecDepth 100000

def nmOk (x : Tt) : Prop := if x.fm = 9 then x.md ≠ [] ∧ wordB x.md = true ∧ (x.nm = [] ∨ wordB x.nm = true) ∧ -1 ≤ x.ds ∧ x.ds ≤ 63 else x.ds = 0 ∧ ((x.md = [] ∧ x.nm = []) ∨ (x.md ≠ [] ∧ x.nm ≠ [] ∧ wordB x.md = true ∧ wordB x.nm = true))
def pt7 (T : List Tt) (x : Tt) : Bool := (x.ba == 0) && ((x.fl.length == 0) && ((x.pm.length == 0) && ((x.rs == 0) && (decide (1 ≤ x.ln) && (decide (x.ln ≤ 4096) && holdsA T x.el)))))
def pt8 (T : List Tt) (x : Tt) : Bool := (x.ln == 0) && ((x.ba == 0) && ((x.fl.length == 0) && ((x.pm.length == 0) && ((x.rs == 0) && (holdsA T x.el || (inT T.length x.el && fmA T x.el == 8))))))
def pt10 (T : List Tt) (x : Tt) : Bool := (x.ln == 0) && ((x.ba == 0) && ((x.fl.length == 0) && ((x.pm.length == 0) && ((x.rs == 0) && (inT T.length x.el && fmA T x.el == 9)))))
def pt11 (T : List Tt) (x : Tt) : Bool := (x.ln == 0) && ((x.el == 0) && ((x.ba == 0) && ((x.fl.length == 0) && prB T x.pm x.rs)))
def pt9 (T : List Tt) (i : Nat) (x : Tt) : Prop := x.ln = 0 ∧ x.el = 0 ∧ x.pm.length = 0 ∧ x.rs = 0 ∧ RdP T i x
def ptOk (T : List Tt) (i : Nat) (x : Tt) : Prop := if x.fm = 7 then pt7 T x = true else if x.fm = 8 then pt8 T x = true else if x.fm = 9 then pt9 T i x else if x.fm = 10 then pt10 T x = true else if x.fm = 11 then pt11 T x = true else False
theorem to_no {w : World} {F : FuncId} {vs : Array Value} {p : Prop} (h : Calls Try.prog F vs w fun e w' => e = .returned (.bool false) ∧ w.grownBy w' none) (hp : ¬ p) : Calls Try.prog F vs w (RdO w p) := h.mono (fun e w' ⟨h1, h2⟩ => ⟨false, h1, h2, rd_no hp⟩)
theorem to_b {w : World} {F : FuncId} {vs : Array Value} {p : Prop} {b : Bool} (h : Calls Try.prog F vs w fun e w' => e = .returned (.bool b) ∧ w.grownBy w' none) (hp : b = true ↔ p) : Calls Try.prog F vs w (RdO w p) := h.mono (fun e w' ⟨h1, h2⟩ => ⟨b, h1, h2, hp⟩)
theorem to_p {w : World} {F : FuncId} {vs : Array Value} {p q : Prop} (h : Calls Try.prog F vs w (RdO w p)) (hp : p ↔ q) : Calls Try.prog F vs w (RdO w q) := h.mono (fun e w' ⟨d, h1, h2, h3⟩ => ⟨d, h1, h2, h3.trans hp⟩)
theorem one_at {w : World} {ad : Addr} {T : List Tt} {i cp : Nat} {x : Tt} (H : Tab w (some ad) T) (hx : T[i]? = some x) : Calls Try.prog 51 #[.slice (some ad) T.length cp, .int .i64 i] w (RdO w (nmOk x ∧ ptOk T i x)) := by
  have hi := (List.getElem?_eq_some_iff.1 hx).1
  have j1 : (i : Int) < T.length := by omega
  obtain ⟨ad', ⟨⟨fm, md, nm, ln, el, ba, fl, pr, rs, ds⟩, fo, fc, po, pc⟩, e1, rfl, hcl, hp⟩ := H.at hx
  cases e1
  obtain ⟨B, hB⟩ : ∃ B, ad.add (i * 10) = B := ⟨_, rfl⟩
  rw [hB] at hcl
  have hel : ∀ W, w.grownBy W none → ∀ j u, ([.int .i64 fm, .string (bs md), .string (bs nm), .int .i64 ln, .int .i64 el, .int .i64 ba, .slice fo fl.length fc, .slice po pr.length pc, .int .i64 rs, .int .i64 ds] : List Value)[j]? = some u → W.cell? (B.add j) = some u := fun W hW j u hu => hW.cell (hcl j u hu) (by simp)
  have hmd : md.length ≤ lim := hp.sm.md
  have hnm : nm.length ≤ lim := hp.sm.nm
  by_cases f9 : fm = 9
  · have nn : ∀ {q : Prop}, ¬ (md ≠ [] ∧ wordB md = true ∧ (nm = [] ∨ wordB nm = true) ∧ -1 ≤ ds ∧ ds ≤ 63) → ¬ (nmOk (⟨fm, md, nm, ln, el, ba, fl, pr, rs, ds⟩ : Tt) ∧ q) := fun h k => h (by have := k.1; unfold nmOk at this; rwa [if_pos f9] at this)
    by_cases q2 : md = []
    · exact to_no (one_r1 H hB hel j1 hmd hnm f9 q2) (nn (fun h => h.1 q2))
    by_cases d1 : -1 ≤ ds
    case neg => exact to_no (one_r2 H hB hel j1 hmd hnm f9 q2 (by omega)) (nn (fun h => d1 h.2.2.2.1))
    by_cases d2 : ds ≤ 63
    case neg => exact to_no (one_r3 H hB hel j1 hmd hnm f9 q2 d1 (by omega)) (nn (fun h => d2 h.2.2.2.2))
    cases w1 : wordB md with
    | false => exact to_no (one_r4 H hB hel j1 hmd hnm f9 q2 d1 d2 w1) (nn (fun h => by rw [w1] at h; cases h.2.1))
    | true =>
      by_cases q3 : nm = []
      · have hn : nmOk (⟨fm, md, nm, ln, el, ba, fl, pr, rs, ds⟩ : Tt) := by unfold nmOk; rw [if_pos f9]; exact ⟨q2, w1, .inl q3, d1, d2⟩
        subst f9
        exact to_p (one_9a H hB hel j1 hmd hnm hx d1 d2 q2 w1 q3) ⟨fun h => ⟨hn, h⟩, fun h => h.2⟩
      · cases w2 : wordB nm with
        | false => exact to_no (one_r5 H hB hel j1 hmd hnm f9 q2 d1 d2 w1 q3 w2) (nn (fun h => by rcases h.2.2.1 with h | h; exact q3 h; rw [w2] at h; cases h))
        | true =>
          have hn : nmOk (⟨fm, md, nm, ln, el, ba, fl, pr, rs, ds⟩ : Tt) := by unfold nmOk; rw [if_pos f9]; exact ⟨q2, w1, .inr w2, d1, d2⟩
          subst f9
          exact to_p (one_9b H hB hel j1 hmd hnm hx d1 d2 q2 w1 q3 w2) ⟨fun h => ⟨hn, h⟩, fun h => h.2⟩
  · have nn : ∀ {q : Prop}, ¬ (ds = 0 ∧ ((md = [] ∧ nm = []) ∨ (md ≠ [] ∧ nm ≠ [] ∧ wordB md = true ∧ wordB nm = true))) → ¬ (nmOk (⟨fm, md, nm, ln, el, ba, fl, pr, rs, ds⟩ : Tt) ∧ q) := fun h k => h (by have := k.1; unfold nmOk at this; rwa [if_neg f9] at this)
    by_cases hd : ds = 0
    case neg => exact to_no (one_n1 H hB hel j1 hmd hnm f9 hd) (nn (fun h => hd h.1))
    have fin : nmOk (⟨fm, md, nm, ln, el, ba, fl, pr, rs, ds⟩ : Tt) → (∀ b, (b = true ↔ ptOk T i (⟨fm, md, nm, ln, el, ba, fl, pr, rs, ds⟩ : Tt)) → (b = true ↔ nmOk (⟨fm, md, nm, ln, el, ba, fl, pr, rs, ds⟩ : Tt) ∧ ptOk T i (⟨fm, md, nm, ln, el, ba, fl, pr, rs, ds⟩ : Tt))) := fun hn b hb => ⟨fun h => ⟨hn, hb.1 h⟩, fun h => hb.2 h.2⟩
    by_cases q2 : md = []
    · by_cases q3 : nm = []
      case neg => exact to_no (one_n2 H hB hel j1 hmd hnm f9 hd q2 q3) (nn (fun h => by rcases h.2 with h | h; exact q3 h.2; exact h.1 q2))
      have hn : nmOk (⟨fm, md, nm, ln, el, ba, fl, pr, rs, ds⟩ : Tt) := by unfold nmOk; rw [if_neg f9]; exact ⟨hd, .inl ⟨q2, q3⟩⟩
      by_cases f7 : fm = 7
      · subst f7; exact to_b (one_7a H hB hel j1 hmd hnm hd q2 q3) (fin hn _ Iff.rfl)
      by_cases f8 : fm = 8
      · subst f8; exact to_b (one_8a H hB hel j1 hmd hnm hd q2 q3) (fin hn _ Iff.rfl)
      by_cases f10 : fm = 10
      · subst f10; exact to_b (one_10a H hB hel j1 hmd hnm hd q2 q3) (fin hn _ Iff.rfl)
      by_cases f11 : fm = 11
      · subst f11; exact to_b (one_11a H hB hel j1 hmd hnm hp.pm hp.sm.pm hd q2 q3) (fin hn _ Iff.rfl)
      refine to_b (one_xa H hB hel j1 hmd hnm hd q2 q3 f7 f8 f9 f10 f11) (fin hn _ ?_)
      unfold ptOk
      simp [f7, f8, f9, f10, f11]
    · by_cases q3 : nm = []
      · exact to_no (one_n3 H hB hel j1 hmd hnm f9 hd q2 q3) (nn (fun h => by rcases h.2 with h | h; exact q2 h.1; exact h.2.1 q3))
      cases w1 : wordB md with
      | false => exact to_no (one_n4 H hB hel j1 hmd hnm f9 hd q2 q3 w1) (nn (fun h => by rcases h.2 with h | h; exact q2 h.1; rw [w1] at h; cases h.2.2.1))
      | true =>
        cases w2 : wordB nm with
        | false => exact to_no (one_n5 H hB hel j1 hmd hnm f9 hd q2 q3 w1 w2) (nn (fun h => by rcases h.2 with h | h; exact q2 h.1; rw [w2] at h; cases h.2.2.2))
        | true =>
          have hn : nmOk (⟨fm, md, nm, ln, el, ba, fl, pr, rs, ds⟩ : Tt) := by unfold nmOk; rw [if_neg f9]; exact ⟨hd, .inr ⟨q2, q3, w1, w2⟩⟩
          by_cases f7 : fm = 7
          · subst f7; exact to_b (one_7b H hB hel j1 hmd hnm hd q2 q3 w1 w2) (fin hn _ Iff.rfl)
          by_cases f8 : fm = 8
          · subst f8; exact to_b (one_8b H hB hel j1 hmd hnm hd q2 q3 w1 w2) (fin hn _ Iff.rfl)
          by_cases f10 : fm = 10
          · subst f10; exact to_b (one_10b H hB hel j1 hmd hnm hd q2 q3 w1 w2) (fin hn _ Iff.rfl)
          by_cases f11 : fm = 11
          · subst f11; exact to_b (one_11b H hB hel j1 hmd hnm hp.pm hp.sm.pm hd q2 q3 w1 w2) (fin hn _ Iff.rfl)
          refine to_b (one_xb H hB hel j1 hmd hnm hd q2 q3 w1 w2 f7 f8 f9 f10 f11) (fin hn _ ?_)
          unfold ptOk
          simp [f7, f8, f9, f10, f11]
end Go.Proofs.Ythmldhppmpbadaa.Ty
