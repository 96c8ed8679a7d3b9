/-
  Package types: a type's names, fields, parameters.
-/
import Derived.Test.YthmldhppmpbadaaY2
namespace Go.Proofs.Ythmldhppmpbadaa.Ty
open Go.RowKit hiding Hid
open Go.Proofs.Ythmldhppmpbadaa.Tx Go.Proofs.Ythmldhppmpbadaa.Lx Go.Proofs.Ythmldhppmpbadaa.Tr
set_option linter.unusedVariables false
set_option linter.unusedSimpArgs false
set_option maxRecDepth 100000

theorem tyS_of {P : Program} {T k : Nat} {d : TypeDesc} (hu : P.underlying T = some d) (hd : (match d with | .struct _ | .array _ _ => true | _ => false) = true) (hs : (P.info? T).map (·.size) = some k) : TyS P T k := ⟨fun w => by
  unfold isAgg
  rw [Sem.run_bind, run_underlying hu w]
  cases d <;> simp_all, hs⟩
theorem tyC_of {P : Program} {T : Nat} {d : TypeDesc} (hu : P.underlying T = some d) (hd : (match d with | .struct _ | .array _ _ => true | _ => false) = false) (hs : (P.info? T).map (·.size) = some 1) : TyC P T := ⟨fun w => by
  unfold isAgg
  rw [Sem.run_bind, run_underlying hu w]
  cases d <;> simp_all, hs⟩
theorem tyF : TyS Try.prog 75 3 := tyS_of Try.underlying75 rfl (by kernel_rfl)
theorem tyP : TyS Try.prog 55 2 := tyS_of Try.underlying55 rfl (by kernel_rfl)
theorem tyT : TyS Try.prog 48 10 := tyS_of Try.underlying48 rfl (by kernel_rfl)
theorem tcI : TyC Try.prog 3 := tyC_of Try.underlying3 rfl (by kernel_rfl)
theorem tcS : TyC Try.prog 9 := tyC_of Try.underlying9 rfl (by kernel_rfl)
theorem tcB : TyC Try.prog 4 := tyC_of Try.underlying4 rfl (by kernel_rfl)
theorem tcLF : TyC Try.prog 45 := tyC_of Try.underlying45 rfl (by kernel_rfl)
theorem tcLP : TyC Try.prog 46 := tyC_of Try.underlying46 rfl (by kernel_rfl)
theorem tcLT : TyC Try.prog 24 := tyC_of Try.underlying24 rfl (by kernel_rfl)
theorem zF : (Try.prog.info? 75).bind (fun i => i.zero.map (·.cells)) = some ([.string (bs []), .bool false, .int .i64 0] : List Value).toArray := by kernel_rfl
theorem zP : (Try.prog.info? 55).bind (fun i => i.zero.map (·.cells)) = some ([.bool false, .int .i64 0] : List Value).toArray := by kernel_rfl
def zT : List Value := [.int .i64 0, .string (bs []), .string (bs []), .int .i64 0, .int .i64 0, .int .i64 0, .slice none 0 0, .slice none 0 0, .int .i64 0, .int .i64 0]
theorem zTy : (Try.prog.info? 48).bind (fun i => i.zero.map (·.cells)) = some zT.toArray := by kernel_rfl
theorem cf {w0 w : World} {A : Nat → Prop} {X : Option Nat} {L : List Lc} {Rs : List Rw} {Ts : List (List Dt × List Value)} {b : Nat} {cs : List Value} {t : TypeId} (H : Cx w0 A X L Rs Ts w) (hm : ⟨b, cs, t⟩ ∈ L) : ∀ j u, cs[j]? = some u → w.cell? ⟨b, j, none⟩ = some u := fun j u hu => by
  rw [cell_of_row _ _ _ _ _ _ (H.loc _ hm)]
  simpa using hu
theorem two_f {w0 w : World} {A : Nat → Prop} {X : Option Nat} {L : List Lc} {Rs : List Rw} {Ts : List (List Dt × List Value)} {b : Nat} {u0 u1 : Value} {t : TypeId} (H : Cx w0 A X (⟨b, [u0, u1], t⟩ :: L) Rs Ts w) : w.cell? ⟨b, 0, none⟩ = some u0 ∧ w.cell? ⟨b, 1, none⟩ = some u1 := ⟨cf H (.head _) 0 _ rfl, cf H (.head _) 1 _ rfl⟩
theorem three_f {w0 w : World} {A : Nat → Prop} {X : Option Nat} {L : List Lc} {Rs : List Rw} {Ts : List (List Dt × List Value)} {b : Nat} {u0 u1 u2 : Value} {t : TypeId} (H : Cx w0 A X (⟨b, [u0, u1, u2], t⟩ :: L) Rs Ts w) : w.cell? ⟨b, 0, none⟩ = some u0 ∧ w.cell? ⟨b, 1, none⟩ = some u1 ∧ w.cell? ⟨b, 2, none⟩ = some u2 := ⟨cf H (.head _) 0 _ rfl, cf H (.head _) 1 _ rfl, cf H (.head _) 2 _ rfl⟩
/- Names. -/
def namesB (x : Tt) : Bool := if x.nm = [] then (if x.fm = 9 then wordB x.md else x.md == []) else wordB x.md && wordB x.nm
set_option maxHeartbeats 4000000 in
theorem names_at {w : World} {a : La} (H : Sm a.x) : Calls Try.prog 60 #[.agg (laC a).toArray] w fun e w' => e = .returned (.bool (namesB a.x)) ∧ w.grownBy w' none := by
  obtain ⟨⟨fm, md, nm, ln, el, ba, fl, pm, rs, ds⟩, fo, fc, po, pc⟩ := a
  unfold namesB laC
  dsimp only at H ⊢
  have H1 := hide (fun W : World => isName_any md W H.md)
  have H2 := hide (fun W : World => isName_any nm W H.nm)
  clear H
  cases hw1 : wordB md <;> rw [hw1] at H1
  all_goals cases hw2 : wordB nm <;> rw [hw2] at H2
  all_goals by_cases hn : nm = []
  all_goals first | (have e0 : ((bs nm).toList == []) = true := by rw [bs_toList, hn]; rfl) | (have e0 : ((bs nm).toList == []) = false := by rw [bs_toList]; simpa using hn)
  all_goals by_cases hm : md = []
  all_goals first | (have e1 : ((bs md).toList == []) = true := by rw [bs_toList, hm]; rfl) | (have e1 : ((bs md).toList == []) = false := by rw [bs_toList]; simpa using hm)
  all_goals by_cases hf : fm = 9
  all_goals clear hn hm
  all_goals (have HN := hide e0; have HM := hide e1)
  all_goals (go_enter Try.func60, Try.ntmps60)
  all_goals (have M1 := True.intro)
  all_goals (go_wp2_with (first | (clear M1; go_at_call 90; refine (H1.out _).mono ?_; rintro e w' ⟨rfl, hw⟩; replace hw := hw.symm; subst hw) | (go_at_call 90; refine (H2.out _).mono ?_; rintro e w' ⟨rfl, hw⟩; replace hw := hw.symm; subst hw)))
  all_goals go_ret
  all_goals (refine ⟨?_, gx _ _⟩)
  all_goals (have e0 := HN.out; have e1 := HM.out; rw [bs_toList] at e0 e1; clear HN HM H1 H2; simp_all)
end Go.Proofs.Ythmldhppmpbadaa.Ty
