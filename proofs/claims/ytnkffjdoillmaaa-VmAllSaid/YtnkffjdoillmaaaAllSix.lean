/- VmAll. -/
import Derived.Test.YtnkffjdoillmaaaMade
namespace Go.Proofs.Ytnkffjdoillmaaa
open Go.RowKit Go.Shelf
theorem getD_lt6 {L : List Nat} (hL : ∀ a ∈ L, a < 4294967296) (j : Nat) : L.getD j 0 < 4294967296 := by
  rw [List.getD_eq_getElem?_getD]
  cases hj : L[j]? with
  | none => simp
  | some a => simpa using hL a (List.mem_of_getElem? hj)
theorem u32s_get {L : List Nat} {j : Nat} (h : j < L.length) : (u32s L)[j]? = some (.int .u32 (L.getD j 0 : Nat)) := by
  unfold u32s
  rw [List.getElem?_map, List.getElem?_eq_getElem h, List.getD_eq_getElem?_getD, List.getElem?_eq_getElem h]; rfl
theorem ld_wanted {w : World} {g t ty n : Nat} {d : Array Field} {l : List Value} {ops : Array Oper} {rest : List Oper} {o : Oper} {a : Act} {Q : Exit → Act → World → Prop} (h : Bk w g t l) (hw : Region.wanted o (yielded ops a.tmps) = true) (x : Operand) (ho : o.op = .load ty x) (hx : a.eval x = .pointer (some ⟨g, 0, none⟩)) (hu : Try.prog.underlying ty = some (.struct d)) (hi : (Try.prog.info? ty).map (·.size) = some n) (hl : l.length = n)
    (hK : wpList Try.prog ops Q rest (a.put o.dst (.agg l.toArray)) w) : wpList Try.prog ops Q (o :: rest) a w :=
  wpList_step fun K hK' => by
    simp only [hw, if_true]
    exact wp_load_row ty x ho g hx t l.toArray (0, 0) _ h hu rfl (by rw [hi, List.size_toArray, hl]) (hK' _ _ hK)
theorem one_cell_new (w : World) (t : Nat) (v : Value) : ∀ j u, [v][j]? = some u → (w.alloc (.cells #[v] t)).cell? ((⟨w.heap.size, 0, none⟩ : Addr).add j) = some u := by
  intro j u hu
  cases j with
  | zero => simp only [List.getElem?_cons_zero, Option.some.injEq] at hu; subst hu; exact (Bk.new (l := [v]) w t #[v] rfl).cell 0 rfl
  | succ j => simp at hu
theorem step_made {w wr w5 wz w4 : World} {L : List Nat} {Rv : List Value} {k a p b fo fc : Nat} {v v' : Value} {P q o c : Nat → Nat} (ha : a = L.getD k 0) (h : Made w wr L k v P q o c) (hb : Below wr.heap.size wr wz) (hw : w.heap.size < wr.heap.size) (hF : Fil w5 w5.heap.size p b fo fc [ret a] 0 0)
    (ht : ∃ cs fr, w5.heap[b]? = some (.cells cs 60 fr)) (hp : wr.heap.size ≤ p) (hb' : wr.heap.size ≤ b) (h5 : Below w5.heap.size w5 wz) (hown : w4.ownsRow w.heap.size 28 1 v' (k + 1) (ptrs P k ++ [.pointer (some ⟨p, 0, none⟩)])) (hg : wz.grownBy w4 v.ownBlock)
    (hB : Bk wr w.heap.size 39 Rv) (hW : Below w.heap.size w wr) :
    ∃ P' q' o' c', Hid (Made w w4 L (k + 1) v' P' q' o' c') ∧ Hid (Bk w4 w.heap.size 39 Rv) ∧ Hid (Below w.heap.size w w4) := by
  obtain ⟨cs, fr, ht⟩ := ht
  obtain ⟨P', q', o', c', hm⟩ := made_step h hb hw (by rw [← ha]; exact (hF.below h5).more h5.size (Nat.le_refl _)) ⟨cs, fr, (h5.block _ hF.lb).trans ht⟩ hp hb' hown hg
  have hz := own_below h.own hb
  refine ⟨P', q', o', c', hm, (hB.below hb hw).grown hg (own_ty hz _ _ _ _ (hB.below hb hw) (by decide)), (hW.trans (hb.mono hW.size)).grown hg (Nat.le_trans hW.size hb.size) (fun r e => (hz.lt r e).1)⟩
/-- All over the filters made. -/
theorem all_made {w wr : World} {L : List Nat} {k : Nat} {v : Value} {R : List Value} {bs : List Nat} {P q o c : Nat → Nat} (h0n : 0 < k) (hk : k ≤ 20) (hL : ∀ a ∈ L, a < 4294967296) (h : Made w wr L k v P q o c)
    (AA : ∀ (w : World) (b off cap B D : Nat) (P q o c : Nat → Nat) (ls : Nat → List Ins) (Y : Nat → Nat) (h0n : 0 < k) (_ : k ≤ 65536) (_ : Fils bs w B D b k P q o c ls Y) (_ : b < w.heap.size) (_ : ∀ j, j < k → w.cell? ⟨b, off + j, none⟩ = some (.pointer (some ⟨P j, 0, none⟩))),
      Calls Try.prog 25 #[.slice (some ⟨b, off, none⟩) k cap, .agg R.toArray] w (fun e w' => e = .returned (.int .u32 (strongF Y (down h0n k) : Nat)) ∧ Below D w w'))
    (hlt : w.heap.size < wr.heap.size) (_hb : Below w.heap.size w wr) :
    Calls Try.prog 25 #[v, .agg R.toArray] wr (fun e w' => e = .returned (.int .u32 (strongF (fun j => L.getD j 0) (down h0n k) : Nat)) ∧ Below (w.heap.size + 1) wr w') := by
  have hown := h.own
  rcases h.own.2 with ⟨_, hz⟩ | ⟨g, cap, cur, hv, hb, hh, hn, hm, hs, hx⟩
  · omega
  · subst hv
    have hF := made_fils (bs := bs) (D := w.heap.size + 1) (b := g) h hL (Below.refl _ _) hlt (Nat.le_refl _) rfl
    refine AA wr g 0 cap _ _ P q o c _ _ h0n (by omega) hF (Array.getElem?_eq_some_iff.1 hh).1 fun j hj => ?_
    rw [Nat.zero_add]
    have := hown.cells (g := g) rfl j (.pointer (some ⟨P j, 0, none⟩)) (by unfold ptrs; rw [List.getElem?_map, List.getElem?_range hj]; rfl)
    rw [← this]
    unfold Addr.add
    split <;> simp_all
set_option maxRecDepth 100000 in
set_option maxHeartbeats 4000000 in
theorem walk_all6 (bs L : List Nat) (n : Nat) (A : Option Addr) (cp : Nat) (w : World) (hl : L.length = n) (hL : ∀ a ∈ L, a < 4294967296) (hr : Rd w 1 n A (u32s L)) (hbs : Rec.IsRec bs) :
    Calls Try.prog 5 #[.slice A n cp, .agg (Rec.recL bs).toArray] w (Yes w) := by
  obtain ⟨i0, hi, hz0, hz1, hz2⟩ := info_parts infoPtrF
  have HR := Lib.hid (recL_len bs)
  have Hl := Lib.hid hl
  have HL := Lib.hid hL
  have Hr := Lib.hid hr
  have AN := Lib.hid (fun w => all_nil (Rec.recL bs) w 0)
  have AA := Lib.hid (fun w b off cap B D P q o c ls Y h0n hn hF hbl hc => all_any bs w b off n cap B D P q o c ls Y h0n hn hF hbs hbl hc)
  obtain ⟨R, hR⟩ : ∃ R, R = Rec.recL bs := ⟨_, rfl⟩
  rw [← hR] at HR AN AA ⊢
  have Hbx := Lib.hid (Bk.new w 39 R.toArray rfl)
  clear hR hl hL hr hbs
  go_enter Try.func5, Try.ntmps5
  go_wp2_with fail
  refine (awake6 _).mono ?_
  rintro e w1 ⟨rfl, hb1⟩
  have Hb1 := Lib.hid ((one_below w _).trans (hb1.mono (by simp)))
  have Hbx1 := Lib.hid (Hbx.out.kept hb1)
  clear hb1 Hbx
  by_cases h20 : 20 < n
  · go_wp2_with fail
    go_ret
    exact ⟨rfl, Hb1.out⟩
  · have hh : n ≤ 20 := by omega
    go_wp2_with fail
    go_loopw [5, 19] (fun v i wr => ∃ (k : Nat) (P q o c : Nat → Nat), k ≤ n ∧ i = .int .i64 k ∧ Hid (Made w wr L k v P q o c) ∧ Hid (k = 0 → v = .slice none 0 0) ∧ Hid (Bk wr w.heap.size 39 R) ∧ Hid (Below w.heap.size w wr)) (fun _ i _ => n - (intOf i).toNat)
    case atStart => exact ⟨0, _, _, _, _, Nat.zero_le _, rfl, made_nil _ _ _, fun _ => rfl, Hbx1, Hb1⟩
    case round =>
      obtain ⟨k, P, q, o, c, hk, rfl, HM, H0, HB, Hb⟩ := hrel
      clear Hbx1 Hb1
      by_cases hlt : k < n
      · obtain ⟨b, off, rfl, hbl, hcells⟩ := Hr.out.pos (by omega)
        have q0 := hcells k _ (u32s_get (by rw [Hl.out]; exact hlt))
        rw [← Hb.out.cell (p := ⟨b, off + k, none⟩) hbl] at q0
        obtain ⟨a, ha⟩ : ∃ a, a = L.getD k 0 := ⟨_, rfl⟩
        have hal : a < 4294967296 := by rw [ha]; exact getD_lt6 HL.out k
        rw [← ha] at q0
        have Ha := Lib.hid ha
        have Hal := Lib.hid hal
        have hsz : w.heap.size < wr.heap.size := HB.out.lt
        have Hcs := Lib.hid hcells
        clear ha hal hcells hbl
        go_wp2_with fail
        refine (return_of _ _).mono ?_
        rintro e w3 ⟨rfl, hb3⟩
        have Hb3 := Lib.hid hb3
        clear hb3
        go_wp2_with fail
        refine (load_typed [ret a] 1 _ _ _ rfl (ret_ok Hal.out) (lit_rd [ret a] rfl) (by unfold maxLen; omega) (ret_good a)).mono ?_
        rintro e w5 ⟨p, fb, fo, fc, cs, fr, hp, hfb, rfl, hF, hty, hb5⟩
        have HF := Lib.hid hF
        have Hty := Lib.hid hty
        have Hb5 := Lib.hid hb5
        have HP := Lib.hid (And.intro hp hfb)
        clear hF hty hb5 hp hfb
        have HZ := Lib.hid ((((Hb3.out.alloc Hb3.out.size (.cells #[.int .u16 6, .int .u8 0, .int .u8 0, .int .u32 a] 60)).trans (Hb5.out.mono (by have := Hb3.out.size; simp; omega))).alloc (Nat.le_trans (by have := Hb3.out.size; simp; omega) Hb5.out.size) (.cells #[.int .i64 0, .int .i64 0] 31)).alloc (by have := Hb3.out.size; have := Hb5.out.size; simp at *; omega) (.cells #[.pointer (some ⟨p, 0, none⟩)] 28))
        have Hnews := Lib.hid (one_cell_new (w5.alloc (.cells #[.int .i64 0, .int .i64 0] 31)) 28 (.pointer (some ⟨p, 0, none⟩)))
        rw [show (w5.alloc (.cells #[.int .i64 0, .int .i64 0] 31)).heap.size = w5.heap.size + 1 by simp] at Hnews
        have HO := Lib.hid (own_below HM.out.own HZ.out)
        have hzs := HZ.out.size
        have hk20 : k < 20 := by omega
        go_wp2_with (at_builtin; refine wpList_append_own _ rfl (.tmp 30) (.tmp 32) 63 rfl w.heap.size 28 i0 _ 1 8 Try.underlying63 hi hz0 hz1 hz2 rfl (by decide) _ k (ptrs P k) rfl HO.out ⟨w5.heap.size + 1, 0, none⟩ 1 1 [.pointer (some ⟨p, 0, none⟩)] rfl rfl Hnews.out (by simp [Value.oneCell']) (by unfold maxLen; omega) (by omega) (by omega) ?_; intro v' w4 hown' hgrow _; have Hown4 := Lib.hid hown'; have Hgr := Lib.hid hgrow; clear hown' hgrow)
        have s3 := Hb3.out.size
        have p1 : wr.heap.size ≤ p := by have := HP.out.1; simp at this; omega
        have p2 : wr.heap.size ≤ fb := by have := HP.out.2; simp at this; omega
        have Hst := Lib.hid (step_made Ha.out HM.out HZ.out hsz HF.out ⟨_, _, Hty.out⟩ p1 p2 ((one_below w5 _).trans ((one_below _ _).mono (by simp))) Hown4.out Hgr.out HB.out Hb.out)
        obtain ⟨P', q', o', c', HM', HB', Hb'⟩ := Hst.out
        go_wp2_with fail
        go_roundw
        case rel => exact ⟨k + 1, P', q', o', c', by omega, by go_num, HM', Lib.hid (fun h => by omega), HB', Hb'⟩
        case measure => simp [intOf]; omega
      · obtain rfl : k = n := by omega
        by_cases h0n : 0 < k
        · obtain ⟨b, off, rfl, hbl, hcells⟩ := Hr.out.pos h0n
          have Hcs := Lib.hid (fun j (hj : j < k) => (Hb.out.cell (p := ⟨b, off + j, none⟩) hbl).trans (hcells j _ (u32s_get (by rw [Hl.out]; exact hj))))
          have Hy := Lib.hid (fun j => getD_lt6 HL.out j)
          clear hcells hlt
          have AS := Lib.hid (all_made h0n hh HL.out HM.out AA.out HB.out.lt Hb.out)
          go_wp2_with fail
          go_loopw [6, 11] (fun v i wq => ∃ (p : Nat) (z : Int) (y : Nat), p ≤ k ∧ z + 1 = p ∧ i = .int .i64 z ∧ v = .int .u32 y ∧ y < 4294967296 ∧ Hid (y = strongF (fun j => L.getD j 0) (down h0n (k - p))) ∧ wq = wr) (fun _ i _ => (intOf i + 1).toNat)
          case atStart => exact ⟨k, (k : Int) - 1, 2147418112, Nat.le_refl _, by omega, rfl, rfl, by omega, Lib.hid (by rw [Nat.sub_self]; rfl), rfl⟩
          case round =>
            obtain ⟨p, z, y, hp, hz, rfl, rfl, hy, HY, rfl⟩ := hrel
            by_cases hlt2 : 0 < p
            · obtain ⟨r, rfl⟩ : ∃ r, p = r + 1 := ⟨p - 1, by omega⟩
              obtain rfl : z = (r : Int) := by omega
              have hrk : r < k := by omega
              have q0 := Hcs.out r hrk
              have hx := Hy.out r
              have HE := Lib.hid (show Rec.stg y (L.getD r 0) = strongF (fun j => L.getD j 0) (down h0n (k - r)) from by
                rw [HY.out, show k - r = k - (r + 1) + 1 by omega, down_succ, strongF_snoc]
                congr 2
                show r = k - 1 - (k - (r + 1))
                omega)
              obtain ⟨x, hxd⟩ : ∃ x, x = L.getD r 0 := ⟨_, rfl⟩
              rw [← hxd] at q0 hx HE
              have St := Lib.hid (Rec.refStronger_any y x wr hy hx)
              have hst := Rec.stg_lt hy hx
              clear hxd hz
              go_wp2_with fail
              refine St.out.mono ?_
              rintro e wx ⟨rfl, rfl⟩
              go_wp2_with fail
              go_roundw
              case rel => exact ⟨r, (r : Int) - 1, _, by omega, by omega, by go_num, rfl, hst, HE, by trivial⟩
              case measure => simp [intOf]
            · obtain rfl : p = 0 := by omega
              obtain rfl : z = -1 := by omega
              go_wp2_with (refine Rec.ld_any HB.out rfl _ rfl rfl Try.underlying39 Rec.size9 HR.out ?_)
              rw [Nat.sub_zero] at HY
              rw [← HY.out] at AS
              refine AS.out.mono ?_
              rintro e wa ⟨rfl, hba⟩
              have HBa := Lib.hid (Hb.out.trans (hba.mono (Nat.le_succ _)))
              have HRa := Lib.hid (HB.out.below hba (Nat.lt_succ_self _))
              clear hba
              go_wp2_with (refine ld_wanted HRa.out (by rfl) _ rfl rfl Try.underlying39 Rec.size9 HR.out ?_)
              refine (AN.out _).mono ?_
              rintro e wb ⟨rfl, hbb⟩
              have HBb := Lib.hid (HBa.out.trans (hbb.mono HBa.out.size))
              clear hbb
              go_wp2_with fail
              go_ret
              exact ⟨rfl, HBb.out⟩
        · obtain rfl : k = 0 := by omega
          obtain rfl := H0.out rfl
          go_wp2_with fail
          go_loopw [6, 11] (fun v i wq => i = .int .i64 (-1) ∧ v = .int .u32 2147418112 ∧ wq = wr) (fun _ _ _ => 0)
          case atStart => exact ⟨rfl, rfl, rfl⟩
          case round =>
            obtain ⟨rfl, rfl, rfl⟩ := hrel
            go_wp2_with (refine Rec.ld_any HB.out rfl _ rfl rfl Try.underlying39 Rec.size9 HR.out ?_)
            refine (AN.out _).mono ?_
            rintro e wa ⟨rfl, hba⟩
            have HBa := Lib.hid (Hb.out.trans (hba.mono Hb.out.size))
            have HRa := Lib.hid (HB.out.below hba HB.out.lt)
            clear hba
            go_wp2_with (refine ld_wanted HRa.out (by rfl) _ rfl rfl Try.underlying39 Rec.size9 HR.out ?_)
            refine (AN.out _).mono ?_
            rintro e wb ⟨rfl, hbb⟩
            have HBb := Lib.hid (HBa.out.trans (hbb.mono HBa.out.size))
            clear hbb
            go_wp2_with fail
            go_ret
            exact ⟨rfl, HBb.out⟩
end Go.Proofs.Ytnkffjdoillmaaa
