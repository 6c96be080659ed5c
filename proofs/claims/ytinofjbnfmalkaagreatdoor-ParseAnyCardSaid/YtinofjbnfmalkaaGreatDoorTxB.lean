/- A builder beside a table of calls; what an action's text, a call's, is: the walks. -/
import Derived.Test.YtinofjbnfmalkaaGreatDoorTxC
import Derived.Deep.QuietTactic
import Derived.BigQuiet
namespace Go.Proofs.YtinofjbnfmalkaaGreatDoor.Tx
open Go.RowKit Go.WideElems Pa
def BF (B : Nat) (t : Bs) (wr : World) : Prop := Lib.IsBuilderF 166 5 B B (Lib.byteCells t) wr
theorem ownF_keep {w w' : World} {base : Nat} {e : TypeId} {z n : Nat} {v : Value} {xs : List Value} (h : w.ownsRowF base e z v n xs) (hb : ∀ g, base ≤ g → g < w.heap.size → w'.heap[g]? = w.heap[g]?) : w'.ownsRowF base e z v n xs := by
  unfold World.ownsRowF at h ⊢
  refine ⟨h.1, h.2.imp id fun ⟨g, cap, cur, fz, h1, h2, h3, h4⟩ => ⟨g, cap, cur, fz, h1, h2, ?_, h4⟩⟩
  rw [hb g h2 (Array.getElem?_eq_some_iff.1 h3).1]; exact h3
theorem BF.kept {B : Nat} {t : Bs} {w w' : World} (h : BF B t w) (hb : ∀ g, B ≤ g → g < w.heap.size → w'.heap[g]? = w.heap[g]?) : BF B t w' := by
  rcases h with h | h
  · obtain ⟨h1, v, h2, h3, h4⟩ := h
    exact .inl ⟨h1, v, (hb _ (Nat.le_refl _) (Array.getElem?_eq_some_iff.1 h2).1).trans h2, ownF_keep h3 hb, h4⟩
  · obtain ⟨h1, v, h2, h3, h4⟩ := h
    exact .inr ⟨h1, v, (hb _ (Nat.le_refl _) (Array.getElem?_eq_some_iff.1 h2).1).trans h2, ownF_keep h3 hb, h4⟩
theorem BF.below {B : Nat} {t : Bs} {w w' : World} (h : BF B t w) (hb : Below w.heap.size w w') : BF B t w' := h.kept (fun g _ hg => hb.block g hg)
theorem BF.grown {B tb : Nat} {t : Bs} {w w' : World} (h : BF B t w) (hg : w.grownBy w' (some tb)) (ht : tb < B) : BF B t w' := h.kept (fun g h1 h2 => hg.block g h2 (fun e => by have := Option.some.inj e; omega))
theorem BF.lt {B : Nat} {t : Bs} {w : World} (h : BF B t w) : B < w.heap.size := by
  rcases h with h | h
  · exact h.lt
  · exact h.lt
theorem BF.start (w : World) : BF w.heap.size [] (w.alloc (.cells #[.pointer none, .slice none 0 0] 166)) :=
  Lib.IsBuilderF.of (.inl ⟨Nat.le_refl _, _, heap_alloc_new w _, World.ownsRow_nil _ _ _ _, by simp [Value.ownBlock]⟩)
theorem writeBF {B : Nat} {t : Bs} {wr : World} (h : BF B t wr) (s : ByteArray) (hlen : t.length + s.size ≤ 140737488355328) :
    Calls Tryz.prog 65 #[.pointer (some ⟨B, 0, none⟩), .string s] wr fun e w' => e = .returned (.tuple #[.int .i64 s.size, .nilIface]) ∧ BF B (t ++ s.data.toList) w' ∧ Below B wr w' ∧ Lib.OthersKept 5 (some B) wr w' := by
  refine (Any.Builder_WriteString_k (ρ := Tryz.lays156_ren) { Tryz.lays156 with } Tryz.Builder_Extra_156 B B (Lib.byteCells t) s wr h (by rw [Lib.byteCells_length]; exact hlen) (Nat.le_of_lt h.lt)).mono ?_
  rintro e w' ⟨he, hB, hb, ho⟩
  refine ⟨he, .inr ?_, hb, ho⟩
  have : Lib.byteCells (t ++ s.data.toList) = Lib.byteCells t ++ Lib.strCells s := by simp [Lib.byteCells, Lib.strCells]
  rw [this]
  exact hB
theorem stringBF {B : Nat} {t : Bs} {wr : World} (h : BF B t wr) : Calls Tryz.prog 68 #[.pointer (some ⟨B, 0, none⟩)] wr fun e w' => e = .returned (.string ⟨t.toArray⟩) ∧ Below B wr w' ∧ Lib.OthersKept 5 (some B) wr w' := by
  refine (Tryz.Builder_String_any_k B B t wr h (Nat.le_of_lt h.lt)).mono ?_
  rintro e w' ⟨he, _, hb, ho⟩
  exact ⟨he, hb, ho⟩
theorem TS.others {w w' : World} {tb m B : Nat} (h : TS w tb m) (ho : Lib.OthersKept 5 (some B) w w') (hne : tb ≠ B) (hnm : ∀ es c, w.heap[B]? ≠ some (.map es c)) : TS w' tb m := by
  have hT : ∀ {u l s asked made : Int} {m5 m6 : Value}, Tab w tb u l s asked made m5 m6 → Tab w' tb u l s asked made m5 m6 := fun h => ho _ _ h (fun e => hne (Option.some.inj e)) (fun c fz e => by cases e)
  have hM : ∀ {k : TypeId} {R : Value → Option (DataW Unit × List MemPlace)} {b n : Nat} {D : DataW Unit}, w.ownsMap Tryz.prog k R b n D → w'.ownsMap Tryz.prog k R b n D := fun ⟨es, c, h1, h2⟩ =>
    ⟨es, c, ho _ _ h1 (fun e => by have := Option.some.inj e; subst this; exact hnm _ _ h1) (fun c fz e => by cases e), h2⟩
  obtain ⟨a, h1, h2, h⟩ := h
  refine ⟨a, h1, h2, ?_⟩
  rcases h with ⟨h0, h⟩ | ⟨m1, n1, hm, hn', h, k1, k2⟩
  · exact .inl ⟨h0, hT h⟩
  · exact .inr ⟨m1, n1, hm, hn', hT h, hM k1, hM k2⟩
theorem BF.nomap {B : Nat} {t : Bs} {w : World} (h : BF B t w) : ∀ es c, w.heap[B]? ≠ some (.map es c) := by
  intro es c e
  rcases h with h | h
  · obtain ⟨_, v, h2, _⟩ := h; rw [h2] at e; cases e
  · obtain ⟨_, v, h2, _⟩ := h; rw [h2] at e; cases e
theorem PowAt.asked {w w' : World} {tb m : Nat} (h : PowAt w) (hT : TS w tb m) (hg : w.grownBy w' (some tb)) : PowAt w' := by
  have h0 := h
  unfold PowAt Lib.TabIs World.var? at h ⊢
  cases hgl : Tryz.prog.globalNamed "internal/strconv.uint64pow10" with
  | none => simp [hgl] at h
  | some g =>
    simp only [hgl, Option.bind_some] at h ⊢
    have hlt : g < w.heap.size := by
      rcases Nat.lt_or_ge g w.heap.size with h' | h'
      · exact h'
      · rw [Array.getElem?_eq_none h'] at h; simp at h
    have hc : w.cell? ⟨g, 0, none⟩ = some (.int .u64 1) := by
      have := World.var?_cell (w := w) (P := Tryz.prog) hgl h0 0
      rw [this]; rfl
    have hne := ne_tab hT hc (by intro u e; cases e)
    rw [hg.block g hlt (fun e => hne (Option.some.inj e))]
    exact h
theorem E2.asked {w w' : World} {tb m : Nat} (h : E2 w) (hT : TS w tb m) (hg : w.grownBy w' (some tb)) : E2 w' := ⟨h.g.asked hT hg, PowAt.asked h.pow hT hg⟩
set_option maxRecDepth 100000 in
theorem actionText_any (a : Nat) (w : World) (h : a < 4294967296) (hE : E2 w) :
    Calls Tryz.prog 32 #[.int .u32 a] w fun e w' => e = .returned (.string ⟨(actT a).toArray⟩) ∧ Below w.heap.size w w' := by
  have hk := Lib.hid (fun W => Rec.kind_any a W h)
  have hn := Lib.hid (fun W => Rec.number_any a W h)
  have hp := Lib.hid (fun W => prt_any (Rec.numN a) (by have := num_le a; omega) w W hE)
  have hl : (Lib.decDigits (Rec.numN a)).length ≤ 20 := dec20 (by have := num_le a; omega)
  have HT := Lib.hid (show actT a = if Rec.strN a = 2 then [101, 114, 114, 110, 111, 32] ++ Lib.decDigits (Rec.numN a) else if Rec.strN a = 1 then logW else if Rec.strN a = 0 then allowW else killW from rfl)
  have hnl := num_le a
  obtain ⟨nn, hnn⟩ : ∃ n, n = Rec.numN a := ⟨_, rfl⟩
  rw [← hnn] at hn hp hl HT hnl
  have hs := Rec.strN_le a
  obtain ⟨s, hse⟩ : ∃ s, s = Rec.strN a := ⟨_, rfl⟩
  rw [← hse] at hk HT hs
  have wn : IntKind.u64.wrap (nn : Int) = (nn : Int) := by rw [IntKind.wrap_u64]; omega
  clear hse hnn hE h
  rcases (by omega : s = 0 ∨ s = 1 ∨ s = 2 ∨ s = 3) with rfl | rfl | rfl | rfl
  · simp only [Rec.kdOf] at hk
    go_enter Tryz.func32, Tryz.ntmps32
    go_wp2_with fail
    refine (hk.out _).mono ?_
    rintro e w' ⟨rfl, rfl⟩
    go_wp2_with fail
    go_ret
    exact ⟨ret_str (by rw [HT.out]; rfl), Below.refl _ _⟩
  · simp only [Rec.kdOf] at hk
    go_enter Tryz.func32, Tryz.ntmps32
    go_wp2_with fail
    refine (hk.out _).mono ?_
    rintro e w' ⟨rfl, rfl⟩
    go_wp2_with fail
    go_ret
    exact ⟨ret_str (by rw [HT.out]; rfl), Below.refl _ _⟩
  · simp only [Rec.kdOf] at hk
    go_enter Tryz.func32, Tryz.ntmps32
    go_wp2_with fail
    refine (hk.out _).mono ?_
    rintro e w' ⟨rfl, rfl⟩
    go_wp2_with fail
    refine (hn.out _).mono ?_
    rintro e w' ⟨rfl, rfl⟩
    go_wp2_with fail
    refine (hp.out _ (Below.refl _ _)).mono ?_
    rintro e w2 ⟨rfl, hb⟩
    have HB := Lib.hid hb
    clear hb
    go_wp2_with fail
    go_ret
    exact ⟨ret_str (by rw [HT.out]; simp), HB.out⟩
  · simp only [Rec.kdOf] at hk
    go_enter Tryz.func32, Tryz.ntmps32
    go_wp2_with fail
    refine (hk.out _).mono ?_
    rintro e w' ⟨rfl, rfl⟩
    go_wp2_with fail
    go_ret
    exact ⟨ret_str (by rw [HT.out]; rfl), Below.refl _ _⟩
def TxtP (t : Bs) (tb m : Nat) (w : World) (e : Ending) (w' : World) : Prop := e = .returned (.string ⟨t.toArray⟩) ∧ TS w' tb m ∧ w.grownBy w' (some tb)
set_option maxRecDepth 100000 in
theorem callText_any (num tb m : Nat) (w : World) (hT : TS w tb m) (hm : m ≤ 900000000) (hnum : num < 4294967296) (hs : (byNum num).isSome = true) :
    Calls Tryz.prog 66 #[.int .u32 num, .pointer (some ⟨tb, 0, none⟩)] w (TxtP (callN num) tb (m + 1) w) := by
  obtain ⟨asked, ha0, ha1, hTS⟩ := hT
  have hnb := Lib.hid (numbered_any tb asked num w hTS ha0 (by omega) (WalkArith.wf_u32 (by omega)))
  have htl := hTS.lt
  clear hTS
  obtain ⟨row, hrow⟩ : ∃ row, row = (byNum num).getD zeroRow := ⟨_, rfl⟩
  rw [← hrow, hs] at hnb
  have HRow := Lib.hid (show callN num = row.2.1 by unfold callN; rw [← hrow])
  clear hrow hs
  go_enter Tryz.func66, Tryz.ntmps66
  go_wp2_with fail
  refine hnb.out.mono ?_
  clear hnb
  rintro e w1 ⟨rfl, hM, hg⟩
  have HT1 := Lib.hid (show TS w1 tb (m + 1) from ⟨asked + 1, by omega, by omega, .inr hM⟩)
  have HG1 := Lib.hid hg
  unfold rowV
  clear hM hg ha0 ha1 asked
  go_wp2_with fail
  go_ret
  exact ⟨ret_str (by rw [HRow.out]), HT1.out.alloc _, grow_al HG1.out _⟩
end Go.Proofs.YtinofjbnfmalkaaGreatDoor.Tx
