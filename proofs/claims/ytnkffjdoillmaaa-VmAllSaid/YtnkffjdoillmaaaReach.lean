/- Reached: to which instructions a way goes. -/
import Derived.Test.YtnkffjdoillmaaaCheck
namespace Go.Proofs.Ytnkffjdoillmaaa
open Go.RowKit
def bools (l : List Bool) : List Value := l.map Value.bool
theorem bools_set (l : List Bool) (j : Nat) (v : Bool) : (bools l).set j (.bool v) = bools (l.set j v) := by simp [bools, List.map_set]
theorem infoBool : (Try.prog.info? 4).map (fun i => (i.zero, i.size, i.bytes)) = some (some (.bool false), 1, 1) := by kernel_rfl
/-- The memory of a round. -/
structure RMem (w wr : World) (g : Nat) (rs : List Bool) : Prop where
  bk : Bk wr g 4 (bools rs)
  hg : w.heap.size ≤ g
  bel : Below w.heap.size w wr
theorem RMem.alloc {w wr : World} {g : Nat} {rs : List Bool} (h : RMem w wr g rs) (o : Obj) : RMem w (wr.alloc o) g rs := ⟨h.bk.alloc _, h.hg, h.bel.alloc h.bel.size _⟩
theorem RMem.kept {w wr w' : World} {g : Nat} {rs : List Bool} (h : RMem w wr g rs) (hb : Below wr.heap.size wr w') : RMem w w' g rs := ⟨h.bk.kept hb, h.hg, h.bel.trans (hb.mono h.bel.size)⟩
theorem RMem.set {w wr : World} {g : Nat} {rs : List Bool} (h : RMem w wr g rs) (j : Nat) (v : Bool) : RMem w (wr.setCell ⟨g, j, none⟩ (.bool v)) g (rs.set j v) := by
  refine ⟨?_, h.hg, only_below h.bel (only_set wr g j (.bool v)) h.bel.size h.hg⟩
  rw [← bools_set]; exact h.bk.set j _
theorem RMem.cell {w wr : World} {g : Nat} {rs : List Bool} (h : RMem w wr g rs) (j : Nat) (hj : j < rs.length) : wr.cell? ⟨g, j, none⟩ = some (.bool (rs.getD j false)) :=
  h.bk.cell j (by simp [bools, List.getD_eq_getElem?_getD, List.getElem?_eq_getElem hj])
theorem setAll_cons (rs : List Bool) (tos : List Nat) (to : Nat) : setAll rs (tos ++ [to]) = (setAll rs tos).set to true := by unfold setAll; rw [List.foldl_append]; rfl
theorem reach_start {w w2 w3 : World} {n : Nat} (hn : 0 < n) (hb2 : Below w.heap.size w w2) (hown : w3.ownsRow w.heap.size 4 1 (.slice (some ⟨w2.heap.size, 0, none⟩) n n) n (madeCells (Value.bool false).cells (n * 1)).toList) (hg : w2.grownBy w3 none) :
    Hid (RMem w w3 w2.heap.size (List.replicate n false)) ∧ w3.cell? ⟨w2.heap.size, 0, none⟩ = some (.bool false) ∧ w3.frozen? ⟨w2.heap.size, 0, none⟩ = false := by
  rw [show (Value.bool false).cells = #[Value.bool false] from rfl, toList_madeCells_one, Nat.mul_one] at hown
  have hb := bk_full hown
  have HM : RMem w w3 w2.heap.size (List.replicate n false) := ⟨by unfold bools; rw [List.map_replicate]; exact hb, hb2.size, hb2.grown hg hb2.size (fun k hk => by cases hk)⟩
  refine ⟨HM, ?_, HM.bk.fz 0⟩
  have := HM.cell 0 (by simpa using hn)
  simpa [List.getD_eq_getElem?_getD, hn] using this
def ReachPost (l : List Ins) (w : World) (e : Ending) (w' : World) : Prop :=
  Below w.heap.size w w' ∧ ((Good l ∧ ∃ g, e = .returned (.slice (some ⟨g, 0, none⟩) l.length l.length) ∧ w.heap.size ≤ g ∧ Bk w' g 4 (bools (rc l))) ∨ (¬ Good l ∧ e = .returned (.slice none 0 0)))
set_option maxRecDepth 100000 in
theorem reached_not (l : List Ins) (n : Nat) (A : Option Addr) (cp : Nat) (w : World) (hl : l.length = n) (hok : ∀ i ∈ l, i.ok) (hr : Rd w 4 n A (l.flatMap Ins.cells)) (hm : n ≤ maxLen) (hg : ¬ Good l) :
    Calls Try.prog 51 #[.slice A n cp] w (ReachPost l w) := by
  have C := Lib.hid (loadable_any l n A cp w hl hok hr hm)
  clear hl hok hr
  go_enter Try.func51, Try.ntmps51
  go_wp2_with fail
  refine C.out.mono ?_
  rintro e w2 ⟨b, rfl, hb, hb2⟩
  obtain rfl : b = false := by
    cases b
    · rfl
    · exact absurd (hb.1 rfl) hg
  have Hb2 := Lib.hid hb2
  clear hb hb2
  go_wp2_with fail
  go_ret
  exact ⟨Hb2.out, .inr ⟨hg, rfl⟩⟩
set_option maxRecDepth 100000 in
set_option maxHeartbeats 2000000 in
theorem reached_good (l : List Ins) (n : Nat) (A : Option Addr) (cp : Nat) (w : World) (hl : l.length = n) (hok : ∀ i ∈ l, i.ok) (hr : Rd w 4 n A (l.flatMap Ins.cells)) (hg : Good l) :
    Calls Try.prog 51 #[.slice A n cp] w (ReachPost l w) := by
  obtain ⟨i0, hi, hz0, hz1, hz2⟩ := info_parts infoBool
  have hn : n ≤ 4096 := hl ▸ hg.many
  have hn0 : 0 < n := hl ▸ hg.pos
  have C := Lib.hid (loadable_any l n A cp w hl hok hr (by unfold maxLen; omega))
  have Hl := Lib.hid hl
  have Hok := Lib.hid hok
  have Hr := Lib.hid hr
  have Hg := Lib.hid hg
  clear hl hok hr hg
  go_enter Try.func51, Try.ntmps51
  go_wp2_with fail
  refine C.out.mono ?_
  rintro e w2 ⟨b, rfl, hb, hb2⟩
  obtain rfl : b = true := hb.2 Hg.out
  have Hb2 := Lib.hid hb2
  clear hb hb2
  go_wp2_with (at_make; refine wpList_make_full _ rfl _ _ 115 rfl w.heap.size 4 i0 (.bool false) 1 Try.underlying115 hi hz0 hz1 .i64 .i64 _ _ n rfl rfl (by omega) (by omega) (by rw [hz2]; omega) (by unfold maxLen; omega) Hb2.out.size ?_; intro w3 hown3 hg3; obtain ⟨HM, hc0, hf0⟩ := reach_start hn0 Hb2.out hown3 hg3; clear hown3 hg3)
  have HM2 := Lib.hid (show RMem w (w3.setCell ⟨w2.heap.size, 0, none⟩ (.bool true)) w2.heap.size (rcf l 0) from by have := HM.out.set 0 true; unfold rcf; rw [Hl.out]; exact this)
  clear HM hc0 hf0
  obtain ⟨gr, hgr⟩ : ∃ gr, gr = w2.heap.size := ⟨_, rfl⟩
  rw [← hgr] at HM2 ⊢
  clear hgr Hb2
  go_loopw [18] (fun i wr => ∃ k : Nat, k ≤ n ∧ i = .int .i64 k ∧ Hid (RMem w wr gr (rcf l k))) (fun i _ => n - (intOf i).toNat)
  case atStart => exact ⟨0, by omega, rfl, HM2⟩
  case round =>
    obtain ⟨k, hk, rfl, HM⟩ := hrel
    clear HM2
    by_cases hlt : k < n
    · obtain ⟨x, hx⟩ : ∃ x, l[k]? = some x := ⟨_, List.getElem?_eq_getElem (by have := Hl.out; omega)⟩
      obtain ⟨b, o, hA, hbl, hcells⟩ := Hr.out.pos (by omega)
      obtain ⟨q0, q1, q2, q3⟩ := four_cells hcells hx
      have hkeep : ∀ j, wr.cell? ⟨b, j, none⟩ = w.cell? ⟨b, j, none⟩ := fun j => HM.out.bel.cell (p := ⟨b, j, none⟩) hbl
      rw [← hkeep] at q0 q1 q2 q3
      have Nx := Lib.hid (fun w => next_any x k w (Hok.out x (List.mem_of_getElem? hx)) (by omega))
      have Hx := Lib.hid hx
      have Hws := Lib.hid (fun to hto => Hg.out.inr k x hx to hto)
      obtain ⟨bb, hbb⟩ : ∃ bb, bb = (rcf l k).getD k false := ⟨_, rfl⟩
      have hcS : wr.cell? ⟨gr, k, none⟩ = some (.bool bb) := by rw [hbb]; exact HM.out.cell k (by rw [rcf_len, Hl.out]; exact hlt)
      have Hstep := Lib.hid (rcf_step hx)
      rw [← hbb] at Hstep
      obtain ⟨c, t, f, y⟩ := x
      dsimp only at *
      subst hA
      clear hkeep hcells hx hbb
      have hcS1 := (((Below.refl wr.heap.size wr).alloc (Nat.le_refl _) (.cells #[.int .u16 c, .int .u8 t, .int .u8 f, .int .u32 y] 60)).cell (p := ⟨gr, k, none⟩) HM.out.bk.lt).trans hcS
      have HMa := Lib.hid (HM.out.alloc (.cells #[.int .u16 c, .int .u8 t, .int .u8 f, .int .u32 y] 60))
      have hgg : gr < wr.heap.size := HM.out.bk.lt
      cases bb with
      | false =>
        have HE := Lib.hid (show RMem w (wr.alloc (.cells #[.int .u16 c, .int .u8 t, .int .u8 f, .int .u32 y] 60)) gr (rcf l (k + 1)) from by
          have := Hstep.out
          rw [if_neg (by simp)] at this
          rw [this]; exact HMa.out)
        clear Hstep HMa
        go_wp2_with fail
        go_roundw
        case rel => exact ⟨k + 1, by omega, by go_num, HE⟩
        case measure => simp [intOf]; omega
      | true =>
        have Hst := Lib.hid (show rcf l (k + 1) = setAll (rcf l k) (ways ⟨c, t, f, y⟩ k) from by
          have := Hstep.out
          rw [if_pos rfl] at this; exact this)
        clear Hstep
        go_wp2_with fail
        refine (Nx.out _).mono ?_
        rintro e wc ⟨A', cp', rfl, hcp', hseg, hbc⟩
        have HMc := Lib.hid (HMa.out.kept hbc)
        obtain ⟨B, hB⟩ : ∃ B, B = (wr.alloc (.cells #[.int .u16 c, .int .u8 t, .int .u8 f, .int .u32 y] 60)).heap.size := ⟨_, rfl⟩
        have hgB : gr < B := by rw [hB, World.size_alloc]; omega
        rw [← hB] at hseg
        have Hseg := Lib.hid hseg
        obtain ⟨ws, hws⟩ : ∃ ws, ws = ways ⟨c, t, f, y⟩ k := ⟨_, rfl⟩
        have Hws2 := Lib.hid (show ∀ to ∈ ws, to < l.length from fun to hto => Hws.out to (hws ▸ hto))
        have hm2 : ws.length ≤ 2 := by
          rw [hws]; unfold ways rel
          rw [List.length_map]
          split
          · simp
          · split
            · simp
            · split <;> simp
        rw [← hws] at hcp' Hseg Hst ⊢
        obtain ⟨m, hm⟩ : ∃ m, m = ws.length := ⟨_, rfl⟩
        rw [← hm] at hcp' Hseg hm2 ⊢
        have Hm := Lib.hid hm
        clear hbc hseg hB hws hm Hws q0 q1 q2 q3 HMa hcS hcS1 hgg HM
        go_wp2_with fail
        generalize wr.heap.size = gi
        clear wr
        go_loopw [32] (fun i wr => ∃ q : Nat, q ≤ m ∧ i = .int .i64 q ∧ Hid (RMem w wr gr (setAll (rcf l k) (ws.take q))) ∧ Hid (Seg wr B 1 m A' (ints ws))) (fun i _ => m - (intOf i).toNat)
        case atStart => exact ⟨0, by omega, rfl, HMc, Hseg⟩
        case round =>
          obtain ⟨q, hq, rfl, HMx, Hsx⟩ := hrel
          clear HMc Hseg
          by_cases hqm : q < m
          · obtain ⟨to, hto⟩ : ∃ to, ws[q]? = some to := ⟨_, List.getElem?_eq_getElem (by have := Hm.out; omega)⟩
            have hton := Hws2.out to (List.mem_of_getElem? hto)
            rw [Hl.out] at hton
            obtain ⟨b', o', rfl, hBb, hbl', hcw⟩ := Hsx.out.pos (by omega)
            have r0 := hcw q _ (ints_at hto)
            have c2 := HMx.out.cell to (by rw [setAll_len, rcf_len, Hl.out]; exact hton)
            have fz := HMx.out.bk.fz to
            have Hend := Lib.hid (show RMem w (wr.setCell ⟨gr, to, none⟩ (.bool true)) gr (setAll (rcf l k) (ws.take (q + 1))) from by
              rw [take_snoc' ws q to hto, setAll_cons]; exact HMx.out.set to true)
            have Hsn := Lib.hid (Hsx.out.grown (only_set wr gr to (.bool true)) hgB)
            clear hcw hto
            go_wp2_with fail
            go_roundw
            case rel => exact ⟨q + 1, by omega, by go_num, Hend, Hsn⟩
            case measure => simp [intOf]; omega
          · obtain rfl : q = m := by omega
            have HE := Lib.hid (show RMem w wr gr (rcf l (k + 1)) from by
              have h1 := HMx.out
              rw [List.take_of_length_le (by have := Hm.out; omega), ← Hst.out] at h1
              exact h1)
            clear HMx Hst
            go_wp2_with fail
            go_roundw
            case rel => exact ⟨k + 1, by omega, by go_num, HE⟩
            case measure => simp [intOf]; omega
    · obtain rfl : k = n := by omega
      have HM1 := Lib.hid (show RMem w wr gr (rc l) from by unfold rc; rw [Hl.out]; exact HM.out)
      clear HM
      go_wp2_with fail
      go_ret
      exact ⟨HM1.out.bel, .inl ⟨Hg.out, gr, (by rw [Hl.out]; rfl), HM1.out.hg, HM1.out.bk⟩⟩
theorem reached_any (l : List Ins) (n : Nat) (A : Option Addr) (cp : Nat) (w : World) (hl : l.length = n) (hok : ∀ i ∈ l, i.ok) (hr : Rd w 4 n A (l.flatMap Ins.cells)) (hm : n ≤ maxLen) :
    Calls Try.prog 51 #[.slice A n cp] w (ReachPost l w) := by
  by_cases hg : Good l
  · exact reached_good l n A cp w hl hok hr hg
  · exact reached_not l n A cp w hl hok hr hm hg
end Go.Proofs.Ytnkffjdoillmaaa

