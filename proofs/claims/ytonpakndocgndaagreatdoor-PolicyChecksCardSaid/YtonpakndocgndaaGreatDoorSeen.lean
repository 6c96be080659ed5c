/- What was seen: a map of texts, of numbers, to true; and rows beside it. -/
import Derived.Test.YtonpakndocgndaaGreatDoorRights
import Derived.Test.YtonpakndocgndaaGreatDoorNamed
import Derived.Maps.OwnOps
import Derived.Maps.Views
namespace Go.Proofs.YtonpakndocgndaaGreatDoor
open Go.RowKit Go.Maps Go.WideMaps Go.WideElems Go.ChangeMaps
def boolR (v : Value) : Option (DataW Unit × List MemPlace) := match v with | .bool b => some (.lit (.bool b), []) | _ => none
theorem boolR_inv {v : Value} {b : Bool} {ps : List MemPlace} (h : boolR v = some (.lit (.bool b), ps)) : v = .bool b := by
  unfold boolR at h
  split at h
  · simp at h; rw [h.1]
  · cases h
def seenD (keys : List Lit) : DataW Unit := keys.foldl (fun d k => d.put k (.lit (.bool true))) (.map [])
theorem seenD_snoc (keys : List Lit) (k : Lit) : seenD (keys ++ [k]) = (seenD keys).put k (.lit (.bool true)) := by unfold seenD; rw [List.foldl_append]; rfl
theorem seenD_map : ∀ (keys : List Lit) (D : DataW Unit), IsMap D → IsMap (keys.foldl (fun d k => d.put k (.lit (.bool true))) D)
  | [], _, h => h
  | _ :: r, _, h => seenD_map r _ (h.put _ _)
open Classical in
theorem seen_at (keys : List Lit) (hk : ∀ k ∈ keys, WideAt.IsKeyLit k) (k : Lit) : (seenD keys).atKey k (.lit (.bool false)) = .lit (.bool (decide (k ∈ keys))) := by
  suffices ∀ l : List Lit, (∀ k ∈ l, WideAt.IsKeyLit k) → (seenD l.reverse).atKey k (.lit (.bool false)) = .lit (.bool (decide (k ∈ l.reverse))) by
    have := this keys.reverse (fun k hk' => hk k (by simpa using hk'))
    rwa [List.reverse_reverse] at this
  intro l
  induction l with
  | nil => intro _; rfl
  | cons a l ih =>
    intro h
    rw [List.reverse_cons, seenD_snoc]
    by_cases e : k = a
    · subst e
      have hm : IsMap (seenD l.reverse) := seenD_map _ _ ⟨[], rfl⟩
      rw [atKey_put_same hm (h k (by simp))]
      simp
    · rw [atKey_put_other e, ih (fun x hx => h x (by simp [hx]))]
      congr 2
      simp [e]
theorem strK : Keyed Tryz.prog 9 := string_keyed Tryz.underlying9
theorem u16K : Keyed Tryz.prog 25 := int_keyed Tryz.underlying25
/-- The maps of what was seen. -/
def SeenS (w : World) (mB n : Nat) (l : List Bs) : Prop := w.ownsMap Tryz.prog 9 boolR mB n (seenD (l.map fun s => Lit.string s))
def SeenN (w : World) (mB n : Nat) (l : List Nat) : Prop := w.ownsMap Tryz.prog 25 boolR mB n (seenD (l.map fun (s : Nat) => Lit.int .u16 s))
theorem SeenS.blk {w : World} {mB n : Nat} {l : List Bs} (h : SeenS w mB n l) : ∃ es c, w.heap[mB]? = some (.map es c) := by obtain ⟨es, c, hb, _⟩ := h; exact ⟨es, c, hb⟩
theorem SeenN.blk {w : World} {mB n : Nat} {l : List Nat} (h : SeenN w mB n l) : ∃ es c, w.heap[mB]? = some (.map es c) := by obtain ⟨es, c, hb, _⟩ := h; exact ⟨es, c, hb⟩
theorem SeenS.below {w w' : World} {mB n : Nat} {l : List Bs} (h : SeenS w mB n l) (hb : Below w.heap.size w w') : SeenS w' mB n l := by
  obtain ⟨es, c, h1, h2⟩ := h
  exact ⟨es, c, (hb.block _ (Array.getElem?_eq_some_iff.1 h1).1).trans h1, h2⟩
theorem SeenN.below {w w' : World} {mB n : Nat} {l : List Nat} (h : SeenN w mB n l) (hb : Below w.heap.size w w') : SeenN w' mB n l := by
  obtain ⟨es, c, h1, h2⟩ := h
  exact ⟨es, c, (hb.block _ (Array.getElem?_eq_some_iff.1 h1).1).trans h1, h2⟩
theorem SeenS.grown {w w' : World} {mB n g : Nat} {l : List Bs} (h : SeenS w mB n l) (hg : w.grownBy w' (some g)) (hne : mB ≠ g) : SeenS w' mB n l := by
  obtain ⟨es, c, h1, h2⟩ := h
  exact ⟨es, c, (hg.block _ (Array.getElem?_eq_some_iff.1 h1).1 (fun e => hne (Option.some.inj e))).trans h1, h2⟩
theorem SeenN.grown {w w' : World} {mB n g : Nat} {l : List Nat} (h : SeenN w mB n l) (hg : w.grownBy w' (some g)) (hne : mB ≠ g) : SeenN w' mB n l := by
  obtain ⟨es, c, h1, h2⟩ := h
  exact ⟨es, c, (hg.block _ (Array.getElem?_eq_some_iff.1 h1).1 (fun e => hne (Option.some.inj e))).trans h1, h2⟩
theorem TyB.nemap {w : World} {b mB : Nat} {T : TypeId} (h : TyB w b T) (hm : ∃ es c, w.heap[mB]? = some (.map es c)) : b ≠ mB := by
  rintro rfl
  obtain ⟨_, _, h⟩ := h
  obtain ⟨_, _, hm⟩ := hm
  rw [h] at hm; cases hm
theorem SeenS.appended {w w' : World} {mB n : Nat} {l : List Bs} {v : Value} {U : TypeId} (h : SeenS w mB n l) (hg : w.grownBy w' v.ownBlock) (hv : ∀ b, v.ownBlock = some b → TyB w b U) : SeenS w' mB n l := by
  cases hb : v.ownBlock with
  | none => rw [hb] at hg; exact h.below ⟨hg.os, hg.tape, hg.output, hg.size, fun i hi => hg.block i hi (by simp)⟩
  | some g => rw [hb] at hg; exact h.grown hg (fun e => (hv g hb).nemap h.blk e.symm)
theorem SeenN.appended {w w' : World} {mB n : Nat} {l : List Nat} {v : Value} {U : TypeId} (h : SeenN w mB n l) (hg : w.grownBy w' v.ownBlock) (hv : ∀ b, v.ownBlock = some b → TyB w b U) : SeenN w' mB n l := by
  cases hb : v.ownBlock with
  | none => rw [hb] at hg; exact h.below ⟨hg.os, hg.tape, hg.output, hg.size, fun i hi => hg.block i hi (by simp)⟩
  | some g => rw [hb] at hg; exact h.grown hg (fun e => (hv g hb).nemap h.blk e.symm)
theorem zeroB (w : World) : (zeroValue 4).run Tryz.prog w = .ok (.bool false) w := by kernel_rfl
theorem SeenS.look {w : World} {mB n : Nat} {l : List Bs} (h : SeenS w mB n l) (s : Bs) (hs : s.length ≤ maxLen) : (Instr.lookup 99 (.map (some mB)) (.string ⟨s.toArray⟩) false).run Tryz.prog w = .ok (.bool (decide (s ∈ l))) w := by
  obtain ⟨v, ps, hr, hv⟩ := World.ownsMap.lookup h strK Tryz.underlying99 (zeroB w) (zd := .lit (.bool false)) (zp := []) rfl (keyOf_string_mk Tryz.underlying9 (s := ⟨s.toArray⟩) (by rw [Lib.size_eq]; exact hs))
  rw [show (⟨s.toArray⟩ : ByteArray).data.toList = s from rfl, seen_at _ (fun k hk => by obtain ⟨x, _, rfl⟩ := List.mem_map.1 hk; trivial)] at hv
  obtain rfl := boolR_inv hv
  rw [hr]
  refine congrArg (fun b => Result.ok (Value.bool b) w) ?_
  exact decide_eq_decide.2 ⟨fun h => by obtain ⟨x, hx, e⟩ := List.mem_map.1 h; cases e; exact hx, fun h => List.mem_map.2 ⟨s, h, rfl⟩⟩
theorem SeenN.look {w : World} {mB n : Nat} {l : List Nat} (h : SeenN w mB n l) (s : Nat) (hs : s < 65536) : (Instr.lookup 102 (.map (some mB)) (.int .u16 s) false).run Tryz.prog w = .ok (.bool (decide (s ∈ l))) w := by
  have hwf : (Lit.int .u16 (s : Int)).wf = true := WalkArith.wf_u16 ⟨by omega, by omega⟩
  obtain ⟨v, ps, hr, hv⟩ := World.ownsMap.lookup h u16K Tryz.underlying102 (zeroB w) (zd := .lit (.bool false)) (zp := []) rfl (keyOf_int_mk Tryz.underlying25 hwf)
  rw [seen_at _ (fun k hk => by obtain ⟨x, _, rfl⟩ := List.mem_map.1 hk; trivial)] at hv
  obtain rfl := boolR_inv hv
  rw [hr]
  refine congrArg (fun b => Result.ok (Value.bool b) w) ?_
  exact decide_eq_decide.2 ⟨fun h => by
    obtain ⟨x, hx, e⟩ := List.mem_map.1 h
    have : (x : Int) = (s : Int) := by injection e
    have : x = s := by omega
    subst this
    exact hx, fun h => List.mem_map.2 ⟨s, h, rfl⟩⟩
/-- Rows stay where a map alone turns. -/
theorem RB.mapped {K : Kd} {w wr w' : World} {B B1 B2 mB : Nat} {z1 : List Value} {v0 v1 v2 v3 v4 v5 : Value} {rs : List RuleV} {pt : List (Bs × Nat)} {po : List (Nat × Nat)} (h : RB K w wr B B1 B2 z1 v0 v1 v2 v3 v4 v5 rs pt po) (hg : wr.grownBy w' (some mB)) (hm : ∃ es c, wr.heap[mB]? = some (.map es c)) (hB : w.heap.size ≤ mB) : RB K w w' B B1 B2 z1 v0 v1 v2 v3 v4 v5 rs pt po := by
  have ho : ∀ {e z n v xs}, wr.ownsRow B e z v n xs → w'.ownsRow B e z v n xs := fun {e z n v xs} hh => by
    obtain ⟨_, _, _, _, _, ht, _⟩ := own_typed hh
    exact own_keep hh hg (fun b hb => (ht b hb).nemap hm)
  exact ⟨h.out.grown hg (fun e => h.out.tyb.nemap hm (Option.some.inj e)), h.res.grown hg (fun e => h.res.tyb.nemap hm (Option.some.inj e)), ho h.r, fun x hx => (h.c x hx).grown hg ((h.c x hx).ty.imp id fun ⟨a, e, k⟩ b hb => by cases e.symm.trans hb; exact k.nemap hm), ho h.p, ho h.q, h.bel.grown hg h.bel.size (fun g hg2 => by cases hg2; exact hB), ⟨h.hB.1, Nat.le_trans h.hB.2 hg.size⟩, h.hB2, h.hB1⟩
end Go.Proofs.YtonpakndocgndaaGreatDoor
