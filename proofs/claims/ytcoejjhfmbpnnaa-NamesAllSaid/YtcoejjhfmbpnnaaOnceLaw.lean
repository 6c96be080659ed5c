/- A table is made once, however often and by whichever call it is asked. -/
import Derived.Test.YtcoejjhfmbpnnaaAwake
import Derived.Test.YtcoejjhfmbpnnaaAll
import Derived.Test.YtcoejjhfmbpnnaaFind
import Derived.OpenShut
import Derived.SliceStrings
namespace Go.Proofs.Ytcoejjhfmbpnnaa
open Go.RowKit

/-- A list of texts that came in: nil; or it leads to a row of cells. -/
def StrRow (w : World) (a : Option Addr) (len cap : Nat) (zs : List ByteArray) : Prop :=
  (a = none ∧ len = 0 ∧ cap = 0 ∧ zs = []) ∨
  ∃ x, a = some x ∧ len ≤ cap ∧ cap ≤ maxLen ∧ zs.length = cap ∧ (∀ i, i < zs.length → w.cell? (x.add i) = some (.string (zs.getD i ByteArray.empty))) ∧ ∀ s ∈ zs, s.size ≤ maxLen

theorem cell_lt {w : World} {b o : Nat} {v : Value} (h : w.cell? ⟨b, o, none⟩ = some v) : b < w.heap.size := by
  by_cases hb : b < w.heap.size
  · exact hb
  · simp [World.cell?, Array.getElem?_eq_none (Nat.le_of_not_lt hb)] at h

theorem str_at {w : World} {a : Option Addr} {len cap : Nat} {zs : List ByteArray} (h : StrRow w a len cap zs) (j : Nat) (hj : j < len) :
    ∃ blk off s, a = some ⟨blk, off, none⟩ ∧ blk < w.heap.size ∧ w.cell? ⟨blk, off + j, none⟩ = some (.string s) ∧ s.size ≤ maxLen := by
  rcases h with ⟨_, h, _⟩ | ⟨x, rfl, hl, _, hz, hc, hs⟩
  · omega
  · have hj' : j < zs.length := by omega
    have h0 := hc j hj'
    obtain ⟨blk, off, spot⟩ := x
    have hsp : spot = none := by
      have := hc 0 (by omega)
      simpa [Addr.add] using World.cell?_spot this
    subst hsp
    rw [Addr.add_lit] at h0
    refine ⟨blk, off, _, rfl, ?_, h0, ?_⟩
    · exact cell_lt h0
    · rw [List.getD_eq_getElem?_getD, List.getElem?_eq_getElem hj']; exact hs _ (List.getElem_mem _)

structure OnceRel (w : World) (tb : Nat) (asked : Int) (wr : World) : Prop where
  below : Below w.heap.size w wr
  tab : TState wr tb asked
  new : w.heap.size ≤ tb

theorem once_step {w : World} {tb : Nat} {asked asked' : Int} {wr wr' : World} (h : OnceRel w tb asked wr) (hm : Made wr' tb asked') (hg : wr.grownBy wr' (some tb)) : OnceRel w tb asked' wr' :=
  ⟨below_of_grown h.below hg h.new, .inr hm, h.new⟩
theorem once_alloc {w : World} {tb : Nat} {asked : Int} {wr : World} (h : OnceRel w tb asked wr) (o : Obj) : OnceRel w tb asked (wr.alloc o) :=
  ⟨h.below.alloc h.below.size o, h.tab.alloc o, h.new⟩

set_option maxRecDepth 100000 in
set_option maxHeartbeats 2000000 in
theorem walk_namesOnce (a : Option Addr) (len cap : Nat) (zs : List ByteArray) (n : Int) (w : World) (hz : StrRow w a len cap zs) (hn : (Lit.int .u8 n).wf = true) :
    Calls Try.prog 5 #[.slice a len cap, .int .u8 n] w fun e w' => e = .returned (.bool true) ∧ Below w.heap.size w w' := by
  obtain ⟨n0, n1⟩ := bounds_u8 hn
  have Hz := Lib.hid hz
  have hlen : len ≤ 9223372036854775807 := by
    rcases hz with ⟨_, h, _⟩ | ⟨x, _, hl, hm, _⟩
    · omega
    · unfold maxLen at hm; omega
  clear hz hn
  by_cases h40 : 40 < len
  · have h40' : (40 : Int) < (len : Int) := by omega
    go_enter Try.func5, Try.ntmps5
    go_wp2_with fail
    refine (awake_any _).mono ?_
    rintro e w1 ⟨rfl, hb⟩
    go_wp2_with fail
    go_ret
    exact ⟨rfl, hb⟩
  · have h40' : ¬ (40 : Int) < (len : Int) := by omega
    go_enter Try.func5, Try.ntmps5
    go_wp2_with fail
    refine (awake_any _).mono ?_
    rintro e w1 ⟨rfl, hb⟩
    have Hb := Lib.hid hb
    clear hb
    go_wp2_with fail
    refine (new_any _).mono ?_
    rintro e w2 ⟨rfl, hT, o, hw2⟩
    have hb2 : Below w.heap.size w w2 := by rw [hw2]; exact Hb.out.alloc Hb.out.size _
    have Hr2 := Lib.hid (show OnceRel w w1.heap.size 0 w2 from ⟨hb2, hT, Hb.out.size⟩)
    clear hb2 hw2 o Hb
    go_wp2_with fail
    refine (counts_any _ _ _ hT).mono ?_
    rintro e w3 ⟨rfl, rfl⟩
    clear hT
    go_wp2_with fail
    obtain ⟨q, hq⟩ : ∃ q : Nat, n % 5 = (q : Int) := ⟨(n % 5).toNat, by omega⟩
    have hq5 : q < 5 := by omega
    rw [hq]
    clear hq
    go_loopw [31] (fun i wr => ∃ j : Nat, j ≤ q ∧ i = .int .i64 j ∧ OnceRel w w1.heap.size (2 * j) wr) (fun i _ => q - (intOf i).toNat)
    case atStart => exact ⟨0, by omega, rfl, Hr2.out⟩
    case round =>
      clear Hr2
      obtain ⟨j, hj, rfl, hrel⟩ := hrel
      have Hrel := Lib.hid hrel
      clear hrel
      by_cases hlt : j < q
      · have h0 := Lib.hid (numbered_any w1.heap.size (2 * j) 0 wr Hrel.out.tab (by omega) (by omega) (by decide))
        go_wp2_with fail
        refine h0.out.mono ?_
        clear h0
        rintro e v1 ⟨rfl, hm1, hg1⟩
        have H1 := Lib.hid (once_step Hrel.out hm1 hg1)
        clear hm1 hg1
        have e0 : byNum 0 = some (0, [114, 101, 97, 100], 2) := by decide
        rw [e0]
        clear e0
        simp only [Option.getD_some, Option.isSome_some, rowV]
        have h2 := Lib.hid (fun o => all_any w1.heap.size (2 * j + 1) (v1.alloc o) (once_alloc H1.out o).tab (by omega) (by omega))
        go_wp2_with fail
        refine (h2.out _).mono ?_
        clear h2
        rintro e v2 ⟨g, gcap, rfl, _, _, _, hm2, hg2⟩
        have H2 := Lib.hid (once_step (once_alloc H1.out _) hm2 hg2)
        clear hm2 hg2
        go_wp2_with fail
        go_roundw
        case rel => exact ⟨j + 1, by omega, by go_num, by
          have := H2.out
          rw [show (2 * (j : Int) + 1 + 1) = 2 * ((j + 1 : Nat) : Int) from by omega] at this
          exact this⟩
        case measure => simp [intOf]; omega
      · obtain rfl : j = q := by omega
        have Hlt := Lib.hid hlt
        clear hlt hj
        go_wp2_with fail
        go_loopw [49] (fun i wr => ∃ k : Nat, k ≤ len ∧ i = .int .i64 k ∧ OnceRel w w1.heap.size (2 * j + k) wr) (fun i _ => len - (intOf i).toNat)
        case atStart => exact ⟨0, by omega, rfl, by simpa using Hrel.out⟩
        case round =>
          clear Hrel
          obtain ⟨k, hk, rfl, hrel⟩ := hrel
          have Hrel := Lib.hid hrel
          clear hrel
          by_cases hlt : k < len
          · obtain ⟨blk, off, s, rfl, hblk, hcell, hsz⟩ := str_at Hz.out k hlt
            have hc := (Hrel.out.below.cell (p := ⟨blk, off + k, none⟩) hblk).trans hcell
            have h0 := Lib.hid (named_any w1.heap.size (2 * j + k) s wr Hrel.out.tab (by omega) (by omega) hsz)
            clear hcell
            go_wp2_with fail
            refine h0.out.mono ?_
            clear h0
            rintro e v1 ⟨rfl, hm1, hg1⟩
            have H1 := Lib.hid (once_step Hrel.out hm1 hg1)
            clear hm1 hg1 hc
            go_wp2_with fail
            go_roundw
            case rel => exact ⟨k + 1, by omega, by go_num, by
              have := H1.out
              rw [show (2 * (j : Int) + (k : Int) + 1) = 2 * (j : Int) + ((k + 1 : Nat) : Int) from by omega] at this
              exact this⟩
            case measure => simp [intOf]; omega
          · obtain rfl : k = len := by omega
            have Hlt2 := Lib.hid hlt
            clear hlt hk
            have hcnt := counts_any w1.heap.size (2 * j + k) wr Hrel.out.tab
            have Hb := Lib.hid Hrel.out.below
            by_cases hz : j + k = 0
            · obtain rfl : j = 0 := by omega
              obtain rfl : k = 0 := by omega
              have hcnt' := Lib.hid hcnt
              clear hcnt hz
              go_wp2_with fail
              refine hcnt'.out.mono ?_
              rintro e v1 ⟨rfl, rfl⟩
              go_wp2_with fail
              go_ret
              exact ⟨rfl, Hb.out⟩
            · rw [if_neg (by omega)] at hcnt
              have hpos : (0 : Int) < (j : Int) + (k : Int) := by omega
              have hcnt' := Lib.hid hcnt
              clear hcnt
              go_wp2_with fail
              refine hcnt'.out.mono ?_
              rintro e v1 ⟨rfl, rfl⟩
              go_wp2_with fail
              go_ret
              exact ⟨rfl, Hb.out⟩
end Go.Proofs.Ytcoejjhfmbpnnaa
