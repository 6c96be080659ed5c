/- Instructions as a text. -/
import Derived.Test.YthiohihbcfahhaaDoorTold
namespace Go.Proofs.YthiohihbcfahhaaDoor
open Go.RowKit
theorem write_any (B b : Nat) (bs : List Value) (s : ByteArray) (w : World) (h : Lib.IsBuilder 63 5 B b bs w) (hlen : bs.length + s.size ≤ 140737488355328) (hBw : B ≤ w.heap.size) :
    Calls Tryd.prog 24 #[.pointer (some ⟨b, 0, none⟩), .string s] w fun e w' => e = .returned (.tuple #[.int .i64 s.size, .nilIface]) ∧ (Lib.BuilderAt 63 5 B b (.pointer (some ⟨b, 0, none⟩)) (bs ++ Lib.strCells s) w' ∧ Below B w w') :=
  Any.Builder_WriteString (ρ := Tryd.lays156_ren) { Tryd.lays156 with } Tryd.Builder_Extra_156 B b bs s w h hlen hBw
theorem builder_kept {T e : TypeId} {B b : Nat} {bs : List Value} {w w' : World} (h : Lib.IsBuilder T e B b bs w) (hb : Below w.heap.size w w') : Lib.IsBuilder T e B b bs w' := by
  rcases h with h | h
  · obtain ⟨h1, v, h2, h3, h4⟩ := h
    exact .inl ⟨h1, v, (hb.block b (Array.getElem?_eq_some_iff.1 h2).1).trans h2, own_below h3 hb, h4⟩
  · obtain ⟨h1, v, h2, h3, h4⟩ := h
    exact .inr ⟨h1, v, (hb.block b (Array.getElem?_eq_some_iff.1 h2).1).trans h2, own_below h3 hb, h4⟩
def Bld (w : World) (t : Bs) (wr : World) : Prop := Lib.IsBuilder 63 5 w.heap.size w.heap.size (Lib.byteCells t) wr ∧ Below w.heap.size w wr
theorem Bld.kept {w wr w' : World} {t : Bs} (h : Bld w t wr) (hb : Below wr.heap.size wr w') : Bld w t w' := ⟨builder_kept h.1 hb, h.2.trans (hb.mono h.2.size)⟩
theorem Bld.start (w : World) : Bld w [] (w.alloc (.cells #[.pointer none, .slice none 0 0] 63)) :=
  ⟨.inl ⟨Nat.le_refl _, _, heap_alloc_new w _, World.ownsRow_nil _ _ _ _, by simp [Value.ownBlock]⟩, (Below.refl _ _).alloc (Nat.le_refl _) _⟩
theorem write_bld {w wr : World} {t : Bs} (h : Bld w t wr) (s : ByteArray) (hlen : t.length + s.size ≤ 140737488355328) :
    Calls Tryd.prog 24 #[.pointer (some ⟨w.heap.size, 0, none⟩), .string s] wr fun e w' => e = .returned (.tuple #[.int .i64 s.size, .nilIface]) ∧ Bld w (t ++ s.data.toList) w' := by
  refine (write_any w.heap.size w.heap.size _ s wr h.1 (by rw [Lib.byteCells_length]; exact hlen) h.2.size).mono ?_
  rintro e w' ⟨he, hB, hb⟩
  refine ⟨he, .inr ?_, h.2.trans hb⟩
  have : Lib.byteCells (t ++ s.data.toList) = Lib.byteCells t ++ Lib.strCells s := by simp [Lib.byteCells, Lib.strCells]
  rw [this]
  exact hB
theorem string_bld {w wr : World} {t : Bs} (h : Bld w t wr) : Calls Tryd.prog 26 #[.pointer (some ⟨w.heap.size, 0, none⟩)] wr fun e w' => e = .returned (.string ⟨t.toArray⟩) ∧ Below w.heap.size w w' := by
  refine (Tryd.Builder_String_any w.heap.size w.heap.size t wr h.1 h.2.size).mono ?_
  rintro e w' ⟨he, hb⟩
  exact ⟨he, h.2.trans hb⟩
theorem app_list (a b : ByteArray) : (a ++ b).data.toList = a.data.toList ++ b.data.toList := by simp
theorem take_le_text (L : List Ins) (hL : ∀ i ∈ L, i.ok) (k : Nat) : (text (L.take k)).length ≤ L.length * 51 := by
  have h := text_len (L.take k) (fun i hi => hL i (List.mem_of_mem_take hi))
  have : (L.take k).length ≤ L.length := List.length_take_le' _ _
  have := Nat.mul_le_mul_right 51 this
  omega
theorem told_nl {t : Bs} {n : Nat} (h : t.length ≤ n) : ((⟨t.toArray⟩ : ByteArray) ++ ⟨#[10]⟩).size ≤ n + 1 := by
  rw [Lib.size_eq, app_list]
  simp
  omega
set_option maxHeartbeats 2000000 in
theorem text_any (L : List Ins) (A : Option Addr) (cap : Nat) (w : World) (hL : ∀ i ∈ L, i.ok) (hn : L.length ≤ 5000) (hR : Rd w 4 L.length A (L.flatMap Ins.cells)) (hE : Env w) :
    Calls Tryd.prog 13 #[.slice A L.length cap] w fun e w' => e = .returned (.string ⟨(text L).toArray⟩) ∧ Below w.heap.size w w' := by
  have HE := Lib.hid hE
  have HL := Lib.hid hL
  have HR := Lib.hid hR
  have HB := Lib.hid (Bld.start w)
  clear hE hL hR
  go_enter Tryd.func13, Tryd.ntmps13
  go_wp2_with fail
  go_loopw [8] (fun c wr => ∃ k : Nat, k ≤ L.length ∧ c = .int .i64 k ∧ Hid (Bld w (text (L.take k)) wr)) (fun c _ => L.length - (intOf c).toNat)
  case atStart => exact ⟨0, by omega, rfl, HB.out⟩
  case round =>
    obtain ⟨k, hk, rfl, HB⟩ := hrel
    by_cases hlt : k < L.length
    · obtain ⟨i, hi⟩ : ∃ i, L[k]? = some i := ⟨_, List.getElem?_eq_getElem hlt⟩
      obtain ⟨b, o, rfl, hbs, hcell⟩ := Rd.pos (HR.out.below HB.out.2) (by omega)
      obtain ⟨c0, c1, c2, c3⟩ := four_cells hcell hi
      have Hi := Lib.hid (HL.out i (List.mem_of_getElem? hi))
      have HT := Lib.hid (show text (L.take (k + 1)) = text (L.take k) ++ (told i ++ [10]) by rw [take_snoc' _ _ _ hi, text_snoc])
      have Hle := Lib.hid (take_le_text L HL.out k)
      have Hti := Lib.hid (told_len i Hi.out)
      have HB2 := Lib.hid (HB.out.kept ((Below.refl _ _).alloc (Nat.le_refl _) (.cells #[.int .u16 i.c, .int .u8 i.t, .int .u8 i.f, .int .u32 i.k] 38)))
      clear hcell hi HB
      go_wp2_with fail
      refine (told_any i _ (HE.out.below HB2.out.2) Hi.out).mono ?_
      rintro e w2 ⟨rfl, hb2⟩
      have HB3 := Lib.hid (HB2.out.kept hb2)
      clear hb2 HB2
      have hti := Hti.out
      go_wp2_with fail
      refine (write_bld HB3.out _ (Nat.le_trans (Nat.add_le_add Hle.out (told_nl Hti.out)) (by omega))).mono ?_
      rintro e w3 ⟨rfl, hB4⟩
      have HB4 := Lib.hid (show Bld w (text (L.take (k + 1))) w3 from by rw [HT.out]; simpa using hB4)
      clear hB4 HB3
      go_wp2_with fail
      go_roundw
      case rel => exact ⟨k + 1, by omega, by go_num, HB4.out⟩
      case measure => simp [intOf]; omega
    · obtain rfl : k = L.length := by omega
      have HB5 := Lib.hid (show Bld w (text L) wr from by have := HB.out; rwa [List.take_length] at this)
      clear HB
      go_wp2_with fail
      refine (string_bld HB5.out).mono ?_
      rintro e w4 ⟨rfl, hb4⟩
      have HB6 := Lib.hid hb4
      clear hb4
      go_wp2_with fail
      go_ret
      exact ⟨rfl, HB6.out⟩
end Go.Proofs.YthiohihbcfahhaaDoor
