/- A region that draws its order, in a round of a range over a function, with what is held; the end of many orders shown once. -/
import Derived.Test.YtcageojoafkojaaRound
import Derived.Deep.RegionHeld3
import Derived.Lib.Hide
namespace Go.Proofs.Ytcageojoafkojaa.Ju
open Go.RowKit
section
variable {P : Program} {Q : Exit → Act → World → Prop} {L n : Nat}
theorem region_round_any {id : Nat} {a : Act} {w : World} {l : List Oper} (hm : P.follows .mixedOrders = true) (hd : noDefer l = true) (hQ : ¬ LetsOut Q)
    (h : wpAny P .any l.toArray Q l.toArray.size (Array.replicate l.toArray.size false) a w.drew) : (Code.region id l.toArray true).wpIn (Fence.wide.inRound L) n P Q a w := by
  refine wpIn_region_draw fun t => ops_round (noDefer_at hd) hQ _ _ _ ?_
  simp only [Region.schedule, hm, Bool.true_or, if_true]
  exact wpAny_sound l.toArray.size t _ a _ h
theorem region_round_held {S : World → Prop} {id : Nat} {a : Act} {w : World} {l : List Oper} (hm : P.follows .mixedOrders = true) (hd : noDefer l = true) (hQ : ¬ LetsOut Q) (hS : S w.drew)
    (h : S w.drew → wpAnyH P .any l.toArray Q S l.toArray.size (Array.replicate l.toArray.size false) a w.drew) : (Code.region id l.toArray true).wpIn (Fence.wide.inRound L) n P Q a w :=
  region_round_any hm hd hQ (wpAny_of_held _ _ _ _ (h hS))
end
/-- The walk ends normally, in this frame, in a world of which R holds. -/
def OnlyR (fr : Act) (R : World → Prop) : Exit → Act → World → Prop
  | .normal, a, w => a = fr ∧ R w
  | _, _, _ => False
theorem OnlyR.here {fr : Act} {R : World → Prop} {w : World} (h : R w) : OnlyR fr R .normal fr w := ⟨rfl, h⟩
theorem wp_onceIn {F : Fence} {n : Nat} {P : Program} {c : Code} {Q : Exit → Act → World → Prop} {a : Act} {w : World} (fr : Act) (R : World → Prop) (h : c.wpIn F n P (OnlyR fr R) a w) (hK : ∀ w', R w' → Q .normal fr w') : c.wpIn F n P Q a w :=
  Code.wpIn_mono (fun e a w h => by
    cases e with
    | normal =>
      obtain ⟨h1, h2⟩ := h
      subst h1
      exact hK _ h2
    | _ => exact (h : False).elim) h
theorem onlyR_in (fr : Act) (R : World → Prop) : ¬ LetsOut (OnlyR fr R) := by rintro ⟨_, _, h⟩; exact h
end Go.Proofs.Ytcageojoafkojaa.Ju

