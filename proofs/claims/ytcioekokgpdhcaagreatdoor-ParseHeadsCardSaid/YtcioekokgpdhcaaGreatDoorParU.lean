/- parse.New, Calls, and parsers that are nil. -/
import Derived.Test.YtcioekokgpdhcaaGreatDoorParP
namespace Go.Proofs.YtcioekokgpdhcaaGreatDoor.Pa
open Go.RowKit Go.WideElems Go.Maps
set_option maxRecDepth 100000 in
theorem rightNew_any (w : World) : Calls Tryz.prog 21 #[] w fun e w' => e = .returned (.pointer (some ⟨w.heap.size, 0, none⟩)) ∧ Below w.heap.size w w' := by
  go_enter Tryz.func21, Tryz.ntmps21
  go_wp2
  go_ret
  exact ⟨rfl, (Below.refl _ _).alloc (Nat.le_refl _) _⟩
set_option maxRecDepth 100000 in
theorem parseNew_any (w : World) : Calls Tryz.prog 10 #[] w fun e w' => ∃ pb tb qa, e = .returned (.pointer (some ⟨pb, 0, none⟩)) ∧ PrA w' pb tb 0 qa ∧ Below w.heap.size w w' ∧ w.heap.size ≤ pb ∧ w.heap.size ≤ tb := by
  go_enter Tryz.func10, Tryz.ntmps10
  go_wp2_with fail
  refine (new_any w).mono ?_
  rintro e w1 ⟨rfl, hT, o, rfl⟩
  have hb1 := oneb w o
  generalize w.alloc o = w1 at hT hb1 ⊢
  go_wp2_with fail
  refine (rightNew_any _).mono ?_
  rintro e w2 ⟨rfl, hb2⟩
  go_wp2_with fail
  have hb12 := hb1.trans (hb2.mono hb1.size)
  have hbl := oneb w2 (.cells #[.pointer (some ⟨w.heap.size, 0, none⟩), .pointer (some ⟨w1.heap.size, 0, none⟩)] 79)
  have hk := Bk.new w2 79 #[.pointer (some ⟨w.heap.size, 0, none⟩), .pointer (some ⟨w1.heap.size, 0, none⟩)] (l := [.pointer (some ⟨w.heap.size, 0, none⟩), .pointer (some ⟨w1.heap.size, 0, none⟩)]) rfl
  have hts : TS w1 w.heap.size 0 := ⟨0, by omega, by omega, hT⟩
  go_ret
  exact ⟨_, _, _, rfl, ⟨hk, (hts.kept hb2).kept hbl⟩, hb12.trans (hbl.mono hb12.size), hb12.size, Nat.le_refl _⟩
set_option maxRecDepth 100000 in
theorem parse_nil (s : ByteArray) (w : World) : Calls Tryz.prog 15 #[.pointer none, .string s] w fun e w' => e = .returned (.tuple #[.agg (TV.l T0).toArray, .agg (wrl ⟨0, 0, 201⟩).toArray]) ∧ Below w.heap.size w w' := by
  go_enter Tryz.func15, Tryz.ntmps15
  go_wp2_with fail
  have hb1 := oneb w (.cells #[.string ⟨#[]⟩, .int .u32 0, .slice none 0 0, .int .u16 0, .slice none 0 0, .slice none 0 0] 35)
  have hk1 := Bk.new w 35 #[.string ⟨#[]⟩, .int .u32 0, .slice none 0 0, .int .u16 0, .slice none 0 0, .slice none 0 0] (l := [.string ⟨#[]⟩, .int .u32 0, .slice none 0 0, .int .u16 0, .slice none 0 0, .slice none 0 0]) rfl
  have hz : (w.alloc (.cells #[.string ⟨#[]⟩, .int .u32 0, .slice none 0 0, .int .u16 0, .slice none 0 0, .slice none 0 0] 35)).heap.size = w.heap.size + 1 := by simp
  generalize w.alloc _ = w1 at hb1 hk1 hz ⊢
  have hb2 := oneb w1 (.cells #[.int .i64 0, .int .i64 0, .int .i64 201] 48)
  have hk2 := Bk.new w1 48 #[.int .i64 0, .int .i64 0, .int .i64 201] (l := [.int .i64 0, .int .i64 0, .int .i64 201]) rfl
  have hk1' := hk1.kept hb2
  rw [hz] at hk2
  refine bodyPost_ret (v := .tuple #[.agg #[.string ⟨#[]⟩, .int .u32 0, .slice none 0 0, .int .u16 0, .slice none 0 0, .slice none 0 0], .agg #[.int .i64 0, .int .i64 0, .int .i64 201]]) ?_ rfl ?_
  · exact res_parse rfl rfl hk1' hk2
  · exact ⟨by simp [TV.l, T0, wrl], hb1.trans (hb2.mono hb1.size)⟩
set_option maxRecDepth 100000 in
theorem parseCalls_nil (w : World) : Calls Tryz.prog 13 #[.pointer none] w fun e w' => e = .returned (.pointer none) ∧ w' = w := by
  go_enter Tryz.func13, Tryz.ntmps13
  go_wp2_with fail
  go_ret
  exact ⟨rfl, rfl⟩
end Go.Proofs.YtcioekokgpdhcaaGreatDoor.Pa
