/- Closed texts as the lists read them. -/
import Derived.Test.YtinofjbnfmalkaaGreatDoorParU
namespace Go.Proofs.YtinofjbnfmalkaaGreatDoor.Pa
open Go.RowKit Go.WideElems Go.Maps
set_option maxRecDepth 100000
def owF (W : Bs → Bool) (s : RS) : RS := if W (nx s).t then nmS s else fl (nmS s) (nx s) 202
def hd2F (W : Bs → Bool) (s : RS) : RS := tkS 0 (owF W (wnS policyW s))
def hdVF (W : Bs → Bool) (s : RS) : PolM := ⟨(nx (wnS policyW s)).t, actV (wnS defaultW (hd2F W s)), [], 0, [], []⟩
def hdEF (W : Bs → Bool) (s : RS) : RS := tkS 0 (actS (wnS defaultW (hd2F W s)))
def readF (W : Bs → Bool) (L : List Tok) : PolM × RS := linesF (L.length + 1) (hdVF W ⟨L, noW⟩) (hdEF W ⟨L, noW⟩)
def parsF (W : Bs → Bool) (s : Bs) : PolM × Wr :=
  if (lexB s).2 ≠ noW then (zP, (lexB s).2) else if (readF W (lexB s).1).2.wr ≠ noW then (zP, (readF W (lexB s).1).2.wr) else ((readF W (lexB s).1).1, noW)
theorem parsF_eq (s : Bs) : parsB s = parsF wordB s := rfl
instance (i c : Nat) : Decidable (goodP i c) := by unfold goodP letterP behindP; infer_instance
def wordC (s : Bs) : Bool := decide (1 ≤ s.length) && decide (s.length ≤ 14) && (List.range s.length).all fun i => decide (goodP i (s.getD i 0).toNat)
theorem wordB_eq : wordB = wordC := by
  funext s
  have hw : wordB s = true ↔ wordP ⟨s.toArray⟩ := by unfold wordB; exact @decide_eq_true_iff _ (Classical.propDecidable _)
  rw [Bool.eq_iff_iff, hw]
  simp only [wordC, decide_eq_true_eq, Bool.and_eq_true, List.all_eq_true, List.mem_range, and_assoc]
  constructor
  · rintro ⟨h1, h2, h3⟩
    refine ⟨h1, h2, fun i hi => ?_⟩
    have := h3 i hi
    rw [show s.getD i 0 = s[i] by simp [List.getD, hi]]; exact this
  · rintro ⟨h1, h2, h3⟩
    refine ⟨h1, h2, fun i hi => ?_⟩
    have hi' : i < s.length := hi
    have := h3 i hi'
    rw [show s.getD i 0 = s[i] by simp [List.getD, hi']] at this; exact this
theorem pars_eq (s : Bs) : parsB s = parsF wordC s := by rw [parsF_eq, wordB_eq]
def awP : Bs := [112, 111, 108, 105, 99, 121, 32, 112, 10, 100, 101, 102, 97, 117, 108, 116, 32, 97, 108, 108, 111, 119, 10, 99, 97, 108, 108, 32, 119, 114, 105, 116, 101, 32, 107, 105, 108, 108, 10]
theorem aw_parsB : parsB awP = (⟨[112], 2147418112, [⟨1, 2147483648, []⟩], 0, [], []⟩, noW) := by rw [pars_eq]; kernel_rfl
end Go.Proofs.YtinofjbnfmalkaaGreatDoor.Pa
