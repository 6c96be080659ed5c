/- An instruction as its line. -/
import Derived.Test.YthiohihbcfahhaaDoorLineOf
import Derived.Test.YthiohihbcfahhaaDoorTxtM
import Derived.Test.YthiohihbcfahhaaDoorNum
import Derived.Maps.AppendAt
namespace Go.Proofs.YthiohihbcfahhaaDoor
open Go.RowKit
theorem infoStr : (Tryd.prog.info? 9).map (fun i => (i.zero, i.size, i.bytes)) = some (some (.string ByteArray.empty), 1, 16) := by kernel_rfl
def strs (ws : List Bs) : List Value := ws.map fun x => Value.string ⟨x.toArray⟩
theorem strs_len (ws : List Bs) : (strs ws).length = ws.length := by simp [strs]
theorem strs_snoc (ws : List Bs) (x : Bs) : strs ws ++ [.string ⟨x.toArray⟩] = strs (ws ++ [x]) := by simp [strs]
theorem Seg.grownO {w w' : World} {B z n : Nat} {A : Option Addr} {xs : List Value} {r : Option Nat} (h : Seg w B z n A xs) (hg : w.grownBy w' r) (hr : n ≠ 0 → ∀ a, A = some a → r ≠ some a.block) : Seg w' B z n A xs := by
  refine ⟨h.len, ?_⟩
  by_cases hn : n = 0
  · exact .inl hn
  · rcases h.at_ with e | ⟨b, o, e, h0, hl, hc⟩
    · exact absurd e hn
    · refine .inr ⟨b, o, e, h0, Nat.lt_of_lt_of_le hl hg.size, fun j u hu => ?_⟩
      rw [← hc j u hu]
      unfold World.cell?
      rw [hg.block b hl (fun h => hr hn _ e h.symm)]
def toldW (i : Ins) (k : Nat) : List Bs := (lineOf i).w :: ((flds (lineOf i).s).take k).map fun f => Lib.decDigits (getF f i)
theorem toldW_step {i : Ins} {k f : Nat} (h : (flds (lineOf i).s)[k]? = some f) : toldW i (k + 1) = toldW i k ++ [Lib.decDigits (getF f i)] := by
  unfold toldW
  rw [take_snoc' _ _ _ h]
  simp
theorem toldW_all (i : Ins) : toldW i (flds (lineOf i).s).length = words i := by unfold toldW words; rw [List.take_length]
theorem toldW_len (i : Ins) (k : Nat) : (toldW i k).length ≤ 5 := by
  unfold toldW
  have := flds_le (lineOf i).s
  simp
  omega
theorem Seg.mono0 {w : World} {B z n : Nat} {A : Option Addr} {xs : List Value} (h : Seg w B z n A xs) : Seg w 0 z n A xs := ⟨h.len, h.at_.imp id fun ⟨b, o, e, _, hl, hc⟩ => ⟨b, o, e, Nat.zero_le _, hl, hc⟩⟩
structure ToldR (w : World) (i : Ins) (A : Option Addr) (v : Value) (ws : List Bs) (wr : World) : Prop where
  box : Bk wr w.heap.size 38 i.cells
  fld : Seg wr 0 1 (flds (lineOf i).s).length A (u8s (flds (lineOf i).s))
  own : wr.ownsRow w.heap.size 9 1 v ws.length (strs ws)
  apart : (flds (lineOf i).s).length ≠ 0 → ∀ a, A = some a → v.ownBlock ≠ some a.block ∧ a.block < wr.heap.size
  nbox : v.ownBlock ≠ some w.heap.size
  bel : Below w.heap.size w wr
theorem ToldR.kept {w wr w' : World} {i : Ins} {A : Option Addr} {v : Value} {ws : List Bs} (h : ToldR w i A v ws wr) (hb : Below wr.heap.size wr w') : ToldR w i A v ws w' :=
  ⟨h.box.kept hb, h.fld.below hb, own_below h.own hb, fun hn a ha => ⟨(h.apart hn a ha).1, Nat.lt_of_lt_of_le (h.apart hn a ha).2 hb.size⟩, h.nbox, h.bel.trans (hb.mono h.bel.size)⟩
theorem ToldR.put {w wr w' : World} {i : Ins} {A : Option Addr} {v v' : Value} {ws : List Bs} {x : Bs} (h : ToldR w i A v ws wr) (o : Obj) (hown : w'.ownsRow w.heap.size 9 1 v' (ws.length + 1) (strs ws ++ [.string ⟨x.toArray⟩]))
    (hg : (wr.alloc o).grownBy w' v.ownBlock) (hat : v'.ownBlock = v.ownBlock ∨ v'.ownBlock = some (wr.alloc o).heap.size) : ToldR w i A v' (ws ++ [x]) w' := by
  have hsz : (wr.alloc o).heap.size = wr.heap.size + 1 := by simp
  have hsz' := hg.size
  refine ⟨(h.box.alloc o).grown hg (fun e => h.nbox e.symm), ?_, ?_, ?_, ?_, ?_⟩
  · exact Seg.grownO (Seg.below h.fld ((Below.refl _ _).alloc (Nat.le_refl _) _)) hg (fun hn a ha => (h.apart hn a ha).1)
  · rw [← strs_snoc, List.length_append]; exact hown
  · intro hn a ha
    obtain ⟨h1, h2⟩ := h.apart hn a ha
    refine ⟨?_, by omega⟩
    rcases hat with e | e
    · rw [e]; exact h1
    · rw [e]; intro he; have := Option.some.inj he; omega
  · rcases hat with e | e
    · rw [e]; exact h.nbox
    · rw [e]; have := h.bel.size; intro he; have := Option.some.inj he; omega
  · exact (h.bel.alloc h.bel.size _).grown hg (by have := h.bel.size; omega) (fun k hk => (h.own.lt k hk).1)
theorem join_any (ws : List Bs) (base : Nat) (v : Value) (wr : World) (hne : ws ≠ []) (hown : wr.ownsRow base 9 1 v ws.length (strs ws)) (hl : ws.length ≤ 1000) (hlen : (Lib.join ws [32]).length ≤ 100000) :
    ∃ g cap, v = .slice (some ⟨g, 0, none⟩) ws.length cap ∧ Calls Tryd.prog 42 #[v, .string ⟨#[32]⟩] wr fun e w' => e = .returned (.string ⟨(Lib.join ws [32]).toArray⟩) ∧ Below wr.heap.size wr w' := by
  rcases hown.2 with ⟨_, h0⟩ | ⟨g, cap, cur, rfl, hb, hh, hn, hm, hs, htk⟩
  · exact absurd (List.length_eq_zero_iff.1 h0) hne
  · have hmm : (ws.map (fun x => (⟨x.toArray⟩ : ByteArray))).map (·.data.toList) = ws := by
      rw [List.map_map]
      conv => rhs; rw [← List.map_id ws]
      exact List.map_congr_left (fun x _ => by simp)
    have hj := Tryd.strings_Join g 0 cap (ws.map fun x => (⟨x.toArray⟩ : ByteArray)) ⟨#[32]⟩ wr (fun j x hx => by
      have hc := hown.cells (g := g) rfl j (.string x) (by
        unfold strs
        rw [List.getElem?_map] at hx ⊢
        cases hw : ws[j]? with
        | none => rw [hw] at hx; cases hx
        | some y => rw [hw] at hx; cases hx; rfl)
      rw [← hc]
      simp [Addr.add]
      by_cases hj : j = 0 <;> simp [hj]) (Array.getElem?_eq_some_iff.1 hh).1 (by simp; omega) (by simpa using hn) (by rw [hmm]; show (Lib.join ws [32]).length ≤ _; omega)
    rw [hmm, List.length_map] at hj
    exact ⟨g, cap, rfl, hj⟩
set_option maxRecDepth 100000 in
set_option maxHeartbeats 2000000 in
theorem told_any (i : Ins) (w : World) (hE : Env w) (hi : i.ok) : Calls Tryd.prog 25 #[.agg #[.int .u16 i.c, .int .u8 i.t, .int .u8 i.f, .int .u32 i.k]] w fun e w' => e = .returned (.string ⟨(told i).toArray⟩) ∧ Below w.heap.size w w' := by
  have HE := Lib.hid hE
  have Hi := Lib.hid hi
  have Hlo := Lib.hid (lineOf_ok i)
  clear hE hi
  obtain ⟨i0, hi0, hz0, hz1, hz2⟩ := info_parts infoStr
  go_enter Tryd.func25, Tryd.ntmps25
  go_wp2_with fail
  refine (lineOf_any i _ (HE.out.tab.below ((Below.refl _ _).alloc (Nat.le_refl _) _)) Hi.out).mono ?_
  rintro e w1 ⟨rfl, hb1⟩
  have HX := Lib.hid ((Bk.new w 38 #[.int .u16 i.c, .int .u8 i.t, .int .u8 i.f, .int .u32 i.k] (l := i.cells) rfl).kept hb1)
  have HB1 := Lib.hid (((Below.refl w.heap.size w).alloc (Nat.le_refl _) (.cells #[.int .u16 i.c, .int .u8 i.t, .int .u8 i.f, .int .u32 i.k] 38)).trans (hb1.mono (by simp)))
  have hs1 : w.heap.size < w1.heap.size := HX.out.lt
  clear hb1
  go_wp2_with fail
  refine (fields_any (lineOf i).s _ Hlo.out.2.1).mono ?_
  rintro e w2 ⟨A, cp, rfl, hcp, hseg, hb2⟩
  have hs2 := hb2.size
  have HT := Lib.hid (show ToldR w i A (.slice (some ⟨w1.heap.size + 1, 0, none⟩) 1 1) (toldW i 0) w2 from by
    have hown := World.ownsRow_lit (base := w.heap.size) (size := 1) (e := 9) (w1.alloc (.cells #[.string ⟨(lineOf i).w.toArray⟩, .int .u16 (lineOf i).c, .int .u8 (lineOf i).s] 81)) #[.string ⟨(lineOf i).w.toArray⟩] 1 (by simp; omega) (by decide) rfl
    rw [show (w1.alloc (.cells #[.string ⟨(lineOf i).w.toArray⟩, .int .u16 (lineOf i).c, .int .u8 (lineOf i).s] 81)).heap.size = w1.heap.size + 1 by simp] at hown
    simp at hs2
    refine ⟨((HX.out.alloc _).alloc _).kept hb2, hseg.mono0, own_below hown hb2, ?_, ?_, ?_⟩
    · intro hn a ha
      obtain ⟨b, o, e, hB, hl, _⟩ := hseg.pos (by omega)
      rw [ha] at e
      obtain rfl := Option.some.inj e
      simp at hB
      refine ⟨?_, hl⟩
      simp [Value.ownBlock]
      omega
    · simp [Value.ownBlock]; omega
    · exact ((HB1.out.alloc HB1.out.size _).alloc (by simp; omega) _).trans (hb2.mono (by simp; omega)))
  clear hseg hb2
  go_wp2_with fail
  have hfl := flds_le (lineOf i).s
  go_loopw [4, 16] (fun v c wr => ∃ k : Nat, k ≤ (flds (lineOf i).s).length ∧ c = .int .i64 k ∧ Hid (ToldR w i A v (toldW i k) wr)) (fun _ c _ => (flds (lineOf i).s).length - (intOf c).toNat)
  case atStart => exact ⟨0, by omega, rfl, HT.out⟩
  case round =>
    obtain ⟨k, hk, rfl, HT⟩ := hrel
    by_cases hlt : k < (flds (lineOf i).s).length
    · obtain ⟨f, hf⟩ : ∃ f, (flds (lineOf i).s)[k]? = some f := ⟨_, List.getElem?_eq_getElem hlt⟩
      obtain ⟨b, o, rfl, _, hbs, hcell⟩ := Seg.pos HT.out.fld (by omega)
      have c0 := hcell k _ (u8s_at hf)
      have hf4 := flds_lt _ _ (List.mem_of_getElem? hf)
      have hge := getF_le f i Hi.out hf4
      have hm4 : most f ≤ 4294967295 := by unfold most; (repeat' split) <;> omega
      have HS := Lib.hid (toldW_step hf)
      have hwl := toldW_len i k
      have d0 := HT.out.box.cell 0 rfl
      have d1 := HT.out.box.cell 1 rfl
      have d2 := HT.out.box.cell 2 rfl
      have d3 := HT.out.box.cell 3 rfl
      clear hcell hf
      go_wp2_with fail
      refine (of_any f i _ hf4 Hi.out).mono ?_
      rintro e w3 ⟨rfl, hb3⟩
      have HT3 := Lib.hid (HT.out.kept hb3)
      clear hb3 d0 d1 d2 d3 c0
      go_wp2_with fail
      refine (printed_any (getF f i) (by omega) _ (HE.out.below HT3.out.bel).pow).mono ?_
      rintro e w4 ⟨rfl, hb4⟩
      have HT4 := Lib.hid (HT3.out.kept hb4)
      clear hb4
      have Hbw := Lib.hid (HT4.out.bel.size)
      go_wp2_with (at_builtin; refine wpList_append_own_at _ rfl (.tmp 20) (.tmp 25) 68 rfl w.heap.size 9 i0 (.string ByteArray.empty) 1 16 Tryd.underlying68 hi0 hz0 hz1 hz2 rfl (by decide) _ _ _ rfl (HT4.out.own.alloc _) ⟨w4.heap.size, 0, none⟩ 1 1 [Value.string ⟨(Lib.decDigits (getF f i)).toArray⟩] rfl rfl (cell_one_new _ _ _) (by intro u hu; simp at hu; subst hu; rfl) (by unfold maxLen; omega) (by omega) (by simp; exact Nat.le_succ_of_le Hbw.out) ?_; intro v' w5 hown' hgrow _ hat; have HT5 := Lib.hid (HT4.out.put _ hown' hgrow hat); clear hown' hgrow hat)
      go_roundw
      case rel => exact ⟨k + 1, by omega, by go_num, by rw [HS.out]; exact HT5.out⟩
      case measure => simp [intOf]; omega
    · obtain rfl : k = (flds (lineOf i).s).length := by omega
      have hw := toldW_all i
      have hlen := told_len i Hi.out
      have hown := HT.out.own
      rw [hw] at hown
      have hwl : (words i).length ≤ 5 := by rw [← hw]; exact toldW_len i _
      obtain ⟨g, cap, hv, hj⟩ := join_any (words i) _ _ _ (words_ne i) hown (by omega) (by unfold told at hlen; omega)
      subst hv
      have HB := Lib.hid HT.out.bel
      clear hown hw hwl hlen
      go_wp2_with fail
      refine hj.mono ?_
      rintro e w6 ⟨rfl, hb6⟩
      have HB6 := Lib.hid (HB.out.trans (hb6.mono HB.out.size))
      clear hb6
      go_wp2_with fail
      go_ret
      exact ⟨rfl, HB6.out⟩
end Go.Proofs.YthiohihbcfahhaaDoor
