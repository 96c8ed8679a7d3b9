/-
  The document's own tables (package spinetref13): a record's bases and fields.
-/
import Derived.Test.YtmoekalagollhaaTg2
namespace Go.Proofs.Ytmoekalagollhaa.Ty
open Go.RowKit hiding Hid
open Go.Maps Go.Proofs.Ytmoekalagollhaa.Tx Go.Proofs.Ytmoekalagollhaa.Lx Go.Proofs.Ytmoekalagollhaa.Tr Go.Proofs.Ytmoekalagollhaa.Mp
set_option linter.unusedVariables false
set_option linter.unusedSimpArgs false
set_option maxRecDepth 100000

/- Fields of several types, one behind the other: each a word of its own, of a type that may stand there. -/
def fdsA (T : List Tt) (a : Int) : List Fl := match T[a.toNat]? with
  | some x => x.fl
  | none => []
def fdB (T : List Tt) (f : Fl) : Bool := wordB f.n && holdsA T f.t
def RcP (T : List Tt) (l : List Int) : Prop := (∀ a ∈ l, (fdsA T a).length ≤ 64 ∧ (fdsA T a).all (fdB T) = true) ∧ (l.flatMap (fun a => (fdsA T a).map Fl.n)).Nodup
def RdP (T : List Tt) (i : Nat) (x : Tt) : Prop := ∃ l, basesR T i = some l ∧ l.length ≤ 5 ∧ x.fl.length ≤ 64 ∧ RcP T l
def RdO (w : World) (p : Prop) (e : Ending) (w' : World) : Prop := ∃ d, e = .returned (.bool d) ∧ w.grownBy w' none ∧ (d = true ↔ p)
theorem rd_no {p : Prop} (h : ¬ p) : (false = true) ↔ p := ⟨(fun e => by cases e), fun g => absurd g h⟩
set_option maxHeartbeats 8000000 in
theorem record_none {w : World} {ad : Addr} {T : List Tt} {i cp : Nat} {x : Tt} (H : Tab w (some ad) T) (hx : T[i]? = some x) (hb : basesR T i = none) : Calls Try.prog 76 #[.slice (some ad) T.length cp, .int .i64 i] w (RdO w (RdP T i x)) := by
  have HT := hide H
  have HI0 := hide (List.getElem?_eq_some_iff.1 hx).1
  have HR := hide hb
  have HN := hide (show ¬ RdP T i x from fun ⟨l, h, _⟩ => by rw [hb] at h; cases h)
  clear H hx hb
  go_enter Try.func76, Try.ntmps76
  go_wp2_with (go_at_call 93; refine (bases_at _ HT.out HI0.out).mono ?_; rw [HR.out]; rintro e w2 ⟨hg, ⟨_, rfl⟩ | ⟨l, lo, lc, hl, hl6, rfl, hcl⟩⟩ <;> (first | (cases hl; done) | (have HG := hide hg; clear hg)))
  go_ret
  exact ⟨false, rfl, HG.out, rd_no HN.out⟩
set_option maxHeartbeats 8000000 in
theorem record_far {w : World} {ad : Addr} {T : List Tt} {i cp : Nat} {x : Tt} {l : List Int} (H : Tab w (some ad) T) (hx : T[i]? = some x) (hb : basesR T i = some l) (h5 : ¬ l.length ≤ 5 ∨ ¬ x.fl.length ≤ 64) : Calls Try.prog 76 #[.slice (some ad) T.length cp, .int .i64 i] w (RdO w (RdP T i x)) := by
  have HT := hide H
  have hi := (List.getElem?_eq_some_iff.1 hx).1
  have HI0 := hide hi
  have HR := hide hb
  have HN := hide (show ¬ RdP T i x from fun ⟨l', h, h1, h2, _⟩ => by
    rw [hb] at h
    cases h
    rcases h5 with h5 | h5
    · exact h5 h1
    · exact h5 h2)
  have j1 : (i : Int) < T.length := by omega
  obtain ⟨ad', la, e1, rfl, hcl, hp⟩ := H.at hx
  cases e1
  obtain ⟨B, hB⟩ : ∃ B, ad.add (i * 10) = B := ⟨_, rfl⟩
  rw [hB] at hcl
  obtain ⟨_, _, _, _, _, _, c6, _⟩ := ten_of hcl
  have bl := block_lt_of_cell c6
  have k6 := hp.sm.fl
  clear H hx hb hcl hp
  by_cases q5 : l.length ≤ 5
  · have q6 : ¬ la.x.fl.length ≤ 64 := h5.resolve_left (fun h => h q5)
    have k5 : (l.length : Int) ≤ 5 := by omega
    have k7 : (64 : Int) < la.x.fl.length := by omega
    clear h5
    go_enter Try.func76, Try.ntmps76
    go_wp2_with (go_at_call 93; refine (bases_at _ HT.out HI0.out).mono ?_; rw [HR.out]; rintro e w2 ⟨hg, ⟨hl, _⟩ | ⟨l', lo, lc, hl, hl6, rfl, hcl⟩⟩ <;> (first | (cases hl; done) | (injection hl with hl; subst hl; have HG := hide hg; have HLs := hide hcl; have d6 := hg.cell c6 (by simp); clear hg hcl)))
    go_ret
    exact ⟨false, rfl, HG.out, rd_no HN.out⟩
  · have k5 : ¬ (l.length : Int) ≤ 5 := by omega
    clear h5
    go_enter Try.func76, Try.ntmps76
    go_wp2_with (go_at_call 93; refine (bases_at _ HT.out HI0.out).mono ?_; rw [HR.out]; rintro e w2 ⟨hg, ⟨hl, _⟩ | ⟨l', lo, lc, hl, hl6, rfl, hcl⟩⟩ <;> (first | (cases hl; done) | (injection hl with hl; subst hl; have HG := hide hg; have HLs := hide hcl; have d6 := hg.cell c6 (by simp); clear hg hcl)))
    go_ret
    exact ⟨false, rfl, HG.out, rd_no HN.out⟩
end Go.Proofs.Ytmoekalagollhaa.Ty
