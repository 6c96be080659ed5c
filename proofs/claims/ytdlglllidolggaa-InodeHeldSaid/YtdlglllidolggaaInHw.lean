/- InodeHeld: the walk. -/
import Derived.Test.YtdlglllidolggaaInHm
import Derived.Test.YtdlglllidolggaaInR
import Derived.Test.YtdlglllidolggaaInTx
import Derived.Test.YtdlglllidolggaaInU
import Derived.Deep.RegionHeld3
import Derived.IntWalk
namespace Go.Proofs.Ytdlglllidolggaa.In
open Go.RowKit Go.Maps Go.WideMaps Go.WideElems
theorem op_append {o : Oper} {a : Act} {w : World} {K : Act → World → Prop} {Q : Exit → Act → World → Prop} (s x : Operand) (t : TypeId) (ho : o.op = .call { callee := .builtin .append, args := #[s, x], argTypes := #[t, t] })
    (v y v' : Value) (w' : World) (hs : a.eval s = v) (hx : a.eval x = y) (hr : (Builtin.append_ #[t, t] o.type #[v, y]).run Try.prog w = .ok v' w') (h : K (a.put o.dst v') w') : Oper.wp Try.prog o a w K Q := by
  unfold Oper.wp execOp
  simp only [ho, resolve, invoke, builtin, Sem.run_bind, Sem.run_pure, Result.andThen_ok, List.map_toArray, List.map_cons, List.map_nil, hs, hx, hr]
  exact h
theorem op_make {o : Oper} {a : Act} {w : World} {K : Act → World → Prop} {Q : Exit → Act → World → Prop} (l c : Operand) (t : TypeId) (ho : o.op = Op.makeSlice t l c)
    (x y v' : Value) (w' : World) (hl : a.eval l = x) (hc : a.eval c = y) (hr : (Instr.makeSlice t x y).run Try.prog w = .ok v' w') (h : K (a.put o.dst v') w') : Oper.wp Try.prog o a w K Q := by
  unfold Oper.wp
  simp [execOp, ho, hl, hc, hr, Result.andThen]
  exact h
theorem run_none8 {w : World} (base : Nat) (t ty e : TypeId) (i : TypeInfo) (size : Nat) (ht : Try.prog.underlying t = some (.slice e)) (hi : Try.prog.info? e = some i) (c : Nat) (v : Value) (n : Nat) (xs : List Value) (hown : w.ownsRow base e size v n xs) :
    (Builtin.append_ #[t, t] ty #[v, .slice none 0 c]).run Try.prog w = .ok v w := by
  rcases hown.2 with ⟨rfl, rfl⟩ | ⟨g, cap, cur, rfl, _, _, hnc, _⟩
  · simp [Builtin.append_, run_underlying ht, sizeOf, typeInfo, hi, Builtin.lenOf, Builtin.firstCells]
  · simp [Builtin.append_, run_underlying ht, sizeOf, typeInfo, hi, Builtin.lenOf, Builtin.firstCells, hnc, storeCells]

theorem run_list8 {w : World} (t ty e : TypeId) (zero : Value) (size bytes : Nat) (hinfo : (Try.prog.info? e).map (fun i => (i.zero, i.size, i.bytes)) = some (some zero, size, bytes)) (ht : Try.prog.underlying t = some (.slice e)) (hzs : zero.cells.size = size) (hsz : 0 < size) (hby : bytes ≤ 128)
    (base : Nat) (v : Value) (n : Nat) (xs : List Value) (hown : w.ownsRow base e size v n xs) (A : Option Addr) (m c : Nat) (news : List Value) (hR : Rd w size m A news) (h1 : ∀ u ∈ news, u.oneCell' = true) (hn : n + m ≤ 100000) (hbase : base ≤ w.heap.size) :
    ∃ v' w', (Builtin.append_ #[t, t] ty #[v, .slice A m c]).run Try.prog w = .ok v' w' ∧ w'.ownsRow base e size v' (n + m) (xs ++ news) ∧ w.grownBy w' v.ownBlock ∧ (v'.ownBlock = v.ownBlock ∨ v'.ownBlock = some w.heap.size) := by
  obtain ⟨i0, hi, hz0, hz1, hz2⟩ := info_parts hinfo
  cases A with
  | none =>
    obtain rfl : m = 0 := by
      rcases Nat.eq_zero_or_pos m with h | h
      · exact h
      · obtain ⟨b, o, e, _⟩ := hR.pos h
        cases e
    have hnil : news = [] := by have := hR.len; simp at this; exact this
    subst hnil
    exact ⟨v, w, run_none8 base t ty e i0 size ht hi c v n xs hown, by simpa using hown, ⟨rfl, rfl, rfl, Nat.le_refl _, fun _ _ _ => rfl⟩, .inl rfl⟩
  | some ad =>
    obtain ⟨v', w', h2, h3, h4, _, h5⟩ := run_append_own_at (P := Try.prog) w base t ty e i0 zero size bytes ht hi hz0 hz1 hz2 hzs hsz v n xs hown ad m c news hR.len (fun j u hu => by
      have hlt := (List.getElem?_eq_some_iff.1 hu).1
      rw [hR.len] at hlt
      obtain ⟨b, o, e, hb, hc⟩ := hR.pos (by cases m with | zero => simp at hlt | succ m => omega)
      cases e
      rw [addr_at]; exact hc j u hu) h1 (by unfold maxLen; omega) (by have : (n + m) * bytes ≤ 100000 * 128 := Nat.mul_le_mul hn hby; omega) hbase
    exact ⟨v', w', h2, h3, h4, h5⟩
/-- A name that may not be added: nothing is made. -/
theorem make_not {w : World} {B tb A : Nat} {T : TrM} {nb mb : Nat → Nat} (h : TabR w B tb T A nb mb) {i : Nat} (hi : i ≤ 65535) (k : Int) (s text : ByteArray) (hs : s.size ≤ maxLen) (q : Nat) (hq : roomE T i s.data.toList = q) (hq0 : q ≠ 0) :
    Calls Try.prog 12 #[tP tb, .int .u16 i, .string s, .int .u8 k, .string text] w fun e w' => e = .returned (.tuple #[.int .u16 0, .int .i64 q]) ∧ Below w.heap.size w w' := by
  have htk := taking_no h hi s hs (by rw [hq]; exact hq0)
  rw [hq] at htk
  have hq2 : ((q : Int) != 0) = true := by simp; omega
  clear hq hq0
  go_enter Try.func12, Try.ntmps12
  go_wp2_with fail
  refine htk.mono ?_
  rintro e w1 ⟨rfl, hb⟩
  have Hb := Lib.hid hb
  clear htk hb
  go_wp2
  go_ret2
  exact ⟨rfl, Hb.out⟩
def txtD (D : List Nat) : ByteArray := strOfNums (D.map fun (x : Nat) => (x : Int))
/-- What stays of a node while others are made. -/
theorem held_s {w0 : World} {g n m K : Nat} {x : NdM} (hR : NodeR w0 g n x m) (hl : x.links = 0) (hh : x.held = K) : ∃ dv, ∀ W, Below w0.heap.size w0 W →
    (W.cell? ⟨g, 6, none⟩ = some (.int .i64 0) ∧ W.cell? ⟨g, 7, none⟩ = some (.int .i64 K) ∧ W.cell? ⟨g, 2, none⟩ = some dv ∧ (convert 38 9 dv).run Try.prog W = .ok (.string (txtD x.data)) W ∧ g < W.heap.size) := by
  obtain ⟨dv, hB, A1, c, rfl, hc, hd⟩ := hR.cells
  refine ⟨.slice A1 x.data.length c, fun W hb => ?_⟩
  have hB2 := hB.kept hb
  have hd2 := hd.below hb
  refine ⟨by have := hB2.cell 6 rfl; rwa [hl] at this, by have := hB2.cell 7 rfl; rwa [hh] at this, hB2.cell 2 rfl, text_of hd2.rd, hB2.lt⟩

theorem text5 {w : World} {N len c : Nat} {A1 : Option Addr} {bl : List Nat} (hbl : bl.length = len) (h : Rd w 1 (N + len) A1 (List.replicate N (.int .u8 0) ++ u8s bl)) :
    (convert 38 9 (.slice A1 (N + len) c)).run Try.prog w = .ok (.string (txtD (List.replicate N 0 ++ bl))) w := by
  have e : List.replicate N (Value.int .u8 0) ++ u8s bl = (List.replicate N 0 ++ bl).map (fun (x : Nat) => Value.int .u8 x) := by simp [u8s]
  rw [e] at h
  exact text_of h
set_option maxRecDepth 100000 in
set_option maxHeartbeats 8000000 in
theorem walk_inodeHeld (many : Int) (x : Option Addr) (len cap : Nat) (zs : List Int) (at_ : Int) (dir : Bool) (w : World) (hmn : (Lit.int .u8 many).wf = true) (hrow : IsRow .u8 w x len cap zs) (hat : (Lit.int .u8 at_).wf = true) :
    Calls Try.prog 8 #[.int .u8 many, .slice x len cap, .int .u8 at_, .bool dir] w (BoolP true w) := by
  obtain ⟨m0, m1⟩ := bounds_u8 hmn
  obtain ⟨a0, a1⟩ := bounds_u8 hat
  obtain ⟨M, rfl⟩ : ∃ M : Nat, many = (M : Int) := ⟨many.toNat, by omega⟩
  obtain ⟨N, rfl⟩ : ∃ N : Nat, at_ = (N : Int) := ⟨at_.toNat, by omega⟩
  have hM : M ≤ 255 := by omega
  have hN : N ≤ 255 := by omega
  obtain ⟨i0, hi, hz0, hz1, hz2⟩ := info_parts info8
  obtain ⟨bl, hbl, _, hRb, hlm⟩ := row_u8 hrow
  have Hbl := Lib.hid hbl
  have HRw := Lib.hid hRb
  have HOut := Lib.hid (show ∀ w1 wx : World, Below w.heap.size w w1 → Outer wx w1.heap.size len x from fun w1 wx hb => by
    rcases hRb.at_ with e | ⟨b, q, e, hlt, _⟩
    · exact .inl e
    · exact .inr ⟨_, e, .inl (Nat.lt_of_lt_of_le hlt hb.size)⟩)
  unfold maxLen at hlm
  clear hmn hat m0 m1 a0 a1 hbl hRb hrow
  obtain ⟨K, hK⟩ : ∃ K, K = M % 5 := ⟨_, rfl⟩
  have hK4 : K ≤ 4 := by omega
  have HKM := Lib.hid (show ((M : Int) % 5) = (K : Int) by omega)
  clear hK
  by_cases hlen : len ≤ 100
  case neg =>
    have hl1 : (100 : Int) < len := by omega
    go_enter Try.func8, Try.ntmps8
    go_wp2_with fail
    refine (awake_any w).mono ?_
    rintro e w1 ⟨rfl, hb⟩
    have HB1 := Lib.hid hb
    clear hb
    go_wp2
    go_ret
    exact ⟨rfl, HB1.out⟩
  have hl1 : ¬ (100 : Int) < len := by omega
  cases dir
  case false =>
    go_enter Try.func8, Try.ntmps8
    go_wp2_with fail
    refine (awake_any w).mono ?_
    rintro e w1 ⟨rfl, hb⟩
    have HB1 := Lib.hid hb
    clear hb
    go_wp2_with fail
    refine (new_any w1 9 (by decide)).mono ?_
    rintro e w2 ⟨tb, rfl, htb, ⟨A0, nb0, mb0, h⟩, hb⟩
    rw [newH] at h
    have HC2 := Lib.hid hb
    have HOut := Lib.hid (fun wx => HOut.out w1 wx HB1.out)
    clear hb htb

    have hm : Calls _ _ _ _ (MakeP w2 w1.heap.size tb (makeF (stH [] ndZ 0) 0 1 xB 1 ⟨#[]⟩)) := make_any h (i := 1) (k := 1) (by decide) (by decide) ⟨#[120]⟩ ⟨#[]⟩ (small_str _ (by decide)) (small_str _ (by decide)) (by decide) 0 (fun e => by cases e)
    rw [mkH xB 1 (by decide) 0 (by decide)] at hm
    have HM := Lib.hid hm
    clear hm h
    go_wp2_with fail
    refine HM.out.mono ?_
    rintro e w3 ⟨rfl, hT3, hF3⟩
    have HT3 := Lib.hid (show Tab w3 w1.heap.size tb (stH [(xB, 2)] (freshN 1 1 ⟨#[]⟩) 1) from hT3)
    have HC3 := Lib.hid (HC2.out.trans (hF3.below HC2.out.size))
    clear hT3 hF3 HM
    go_wp2_with fail
    rw [HKM.out]
    go_loopw [38] (fun i wx => ∃ k : Nat, k ≤ K ∧ i = .int .i64 k ∧ Hid (Tab wx w1.heap.size tb (stH [(xB, 2)] { (freshN 1 1 ⟨#[]⟩) with held := k } 1)) ∧ Hid (Below w1.heap.size w1 wx)) (fun i _ => K - (intOf i).toNat)
    case atStart => exact ⟨0, by omega, rfl, HT3.out, HC3.out⟩
    case round =>
      clear HT3 HC3
      obtain ⟨k, hk, rfl, HT, HC⟩ := hrel
      by_cases hlt : k < K
      · obtain ⟨A, nb, mb, h5⟩ := HT.out
        have hh : Calls _ _ _ _ (OneP wr w1.heap.size tb A nb mb (holdF (stH [(xB, 2)] { (freshN 1 1 ⟨#[]⟩) with held := k } 1) 2 true)) := hold_any h5 (n := 2) (by decide) true (by show k < 1000000000; omega)
        rw [holdH _ _ _ (by show (1 : Nat) ≠ 0; decide)] at hh
        have HH := Lib.hid hh
        clear hh h5
        go_wp2_with fail
        refine HH.out.mono ?_
        rintro e w6 ⟨rfl, hT6, hF6⟩
        have HT6 := Lib.hid (show Tab w6 w1.heap.size tb (stH [(xB, 2)] { (freshN 1 1 ⟨#[]⟩) with held := k + 1 } 1) from ⟨A, nb, mb, hT6⟩)
        have HC6 := Lib.hid (HC.out.trans (hF6.below HC.out.size))
        clear hT6 hF6 HH
        go_wp2
        go_roundw
        case rel => exact ⟨k + 1, by omega, by go_num, HT6.out, HC6.out⟩
        case measure => simp [intOf]; omega
      · obtain rfl : k = K := by omega
        clear hlt hk
        obtain ⟨A, nb, mb, h5⟩ := HT.out
        clear HT
        by_cases hk0 : k = 0
        · have HK0 := Lib.hid hk0
          have k1 : ¬ (0 : Int) < (k : Int) := by omega
          have k2 : ((k : Int) == 0) = true := by simp; omega
          clear hk0
          have hw : Calls _ _ _ _ (OneP wr w1.heap.size tb A nb mb (writeF (stH [(xB, 2)] { (freshN 1 1 ⟨#[]⟩) with held := k } 1) 2 N bl)) := write_any h5 (n := 2) (by decide) (N : Int) (by omega) len cap x bl Hbl.out (by unfold maxLen; omega) (HRw.out.below ((HB1.out.trans (HC.out.mono HB1.out.size)))) (HOut.out wr) (by show (1 : Nat) < 1000000000; decide)
          rw [writeH _ _ _ N bl rfl (by rw [Hbl.out]; omega)] at hw
          have HW := Lib.hid hw
          clear hw h5
          go_wp2_with fail
          refine HW.out.mono ?_
          rintro e w4 ⟨rfl, hT4, hF4⟩
          have h4 : TabR w4 w1.heap.size tb (stH [(xB, 2)] { (freshN 1 1 ⟨#[]⟩) with held := k, data := over (sized [] (max ([] : List Nat).length (N + bl.length))) N bl } 2) A nb mb := hT4
          rw [over_new] at h4
          have HC4 := Lib.hid (HC.out.trans (hF4.below HC.out.size))
          clear hT4 hF4 HW
          have hd : Calls _ _ _ _ (OneP w4 w1.heap.size tb A nb mb (dropF (stH [(xB, 2)] { (freshN 1 1 ⟨#[]⟩) with held := k, data := List.replicate N 0 ++ bl } 2) 1 xB false)) := drop_any h4 (i := 1) (by decide) ⟨#[120]⟩ (small_str _ (by decide)) false (liveH _ _ _ (by show (1 : Nat) ≠ 0; decide) (by show 1 ≤ (1 : Nat); decide) rfl) (by show (2 : Nat) < 1000000000; decide)
          rw [dropH xB _ 2 false rfl rfl rfl] at hd
          have HD := Lib.hid hd
          clear hd h4
          go_wp2_with fail
          refine HD.out.mono ?_
          rintro e w7 ⟨rfl, hT7, hF7⟩
          have h7 : TabR w7 w1.heap.size tb (stH [] (if k = 0 then ndZ else { (freshN 1 1 ⟨#[]⟩) with links := 0, held := k, data := List.replicate N 0 ++ bl }) 3) A nb mb := hT7
          rw [if_pos HK0.out] at h7
          have HC7 := Lib.hid (HC4.out.trans (hF7.below HC4.out.size))
          clear hT7 hF7 HD
          have hg := get_no h7 (n := 2) (by decide) rfl
          have hmn : Calls _ _ _ _ (fun e w' => e = .returned (.tuple #[.int .u16 0, .int .i64 (2 : Nat)]) ∧ Below w7.heap.size w7 w') := make_not h7 (i := 2) (by decide) 1 ⟨#[105, 110]⟩ ⟨#[]⟩ (small_str _ (by decide)) 2 (inH ndZ 3 (fun e => by cases e)) (by decide)
          have HMN := Lib.hid hmn
          have H7 := Lib.hid h7
          clear hmn h7
          go_wp2_with fail
          refine hg.mono ?_
          rintro e w8 ⟨rfl, rfl⟩
          clear hg
          go_wp2_with fail
          refine HMN.out.mono ?_
          rintro e w8 ⟨rfl, hb8⟩
          have h8 := H7.out.below hb8
          have HC8 := Lib.hid (HC7.out.trans (hb8.mono HC7.out.size))
          have HT8 := Lib.hid (show Tab w8 w1.heap.size tb (stH [] ndZ 3) from ⟨A, nb, mb, h8⟩)
          clear hb8 h8 H7 HMN
          go_wp2_with fail
          try go_quiet (fail)
          try go_wp2_with fail
          go_loopw [125] (fun i wx => i = .int .i64 0 ∧ Hid (Tab wx w1.heap.size tb (stH [] ndZ 3)) ∧ Hid (Below w1.heap.size w1 wx)) (fun i _ => 0)
          case atStart => first | exact ⟨rfl, HT8.out, HC8.out⟩ | exact ⟨rfl, HT8.out.below (below_drewN (Below.refl _ _) _), below_drewN HC8.out _⟩
          case round =>
            obtain ⟨rfl, HT9, HC9⟩ := hrel
            obtain ⟨A9, nb9, mb9, h9⟩ := HT9.out
            clear HT9
            have hm : Calls _ _ _ _ (MakeP _ w1.heap.size tb (makeF (stH [] ndZ 3) 0 1 yB 1 ⟨#[]⟩)) := make_any h9 (i := 1) (k := 1) (by decide) (by decide) ⟨#[121]⟩ ⟨#[]⟩ (small_str _ (by decide)) (small_str _ (by decide)) (by decide) 0 (fun e => by cases e)
            rw [mkH yB 1 (by decide) 3 (by decide)] at hm
            have HM := Lib.hid hm
            clear hm h9
            go_wp2_with fail
            refine HM.out.mono ?_
            rintro e wa ⟨rfl, ⟨A9, nb9, mb9, hTa⟩, hFa⟩
            have HCa := Lib.hid (HC9.out.trans (hFa.below HC9.out.size))
            have hl : Calls _ _ _ _ (OneP wa w1.heap.size tb A9 nb9 mb9 (holdF (stH [(yB, 2)] (freshN 1 1 ⟨#[]⟩) (3 + 1)) 2 false)) := hold_any hTa (n := 2) (by decide) false (by decide)
            rw [lastH] at hl
            have HL := Lib.hid hl
            clear hl hTa hFa HM
            go_wp2_with fail
            refine HL.out.mono ?_
            rintro e wb ⟨rfl, _, hFb⟩
            have HCb := Lib.hid (HCa.out.trans (hFb.below HCa.out.size))
            clear hFb HL
            go_wp2
            go_ret
            exact ⟨rfl, HB1.out.trans (HCb.out.mono HB1.out.size)⟩
        · have HK0 := Lib.hid hk0
          have k1 : (0 : Int) < (k : Int) := by omega
          have k1n : 0 < k := by omega
          have k2 : ((k : Int) == 0) = false := by simp; omega
          clear hk0
          have hw : Calls _ _ _ _ (OneP wr w1.heap.size tb A nb mb (writeF (stH [(xB, 2)] { (freshN 1 1 ⟨#[]⟩) with held := k } 1) 2 N bl)) := write_any h5 (n := 2) (by decide) (N : Int) (by omega) len cap x bl Hbl.out (by unfold maxLen; omega) (HRw.out.below ((HB1.out.trans (HC.out.mono HB1.out.size)))) (HOut.out wr) (by show (1 : Nat) < 1000000000; decide)
          rw [writeH _ _ _ N bl rfl (by rw [Hbl.out]; omega)] at hw
          have HW := Lib.hid hw
          clear hw h5
          go_wp2_with fail
          refine HW.out.mono ?_
          rintro e w4 ⟨rfl, hT4, hF4⟩
          have h4 : TabR w4 w1.heap.size tb (stH [(xB, 2)] { (freshN 1 1 ⟨#[]⟩) with held := k, data := over (sized [] (max ([] : List Nat).length (N + bl.length))) N bl } 2) A nb mb := hT4
          rw [over_new] at h4
          have HC4 := Lib.hid (HC.out.trans (hF4.below HC.out.size))
          clear hT4 hF4 HW
          have hd : Calls _ _ _ _ (OneP w4 w1.heap.size tb A nb mb (dropF (stH [(xB, 2)] { (freshN 1 1 ⟨#[]⟩) with held := k, data := List.replicate N 0 ++ bl } 2) 1 xB false)) := drop_any h4 (i := 1) (by decide) ⟨#[120]⟩ (small_str _ (by decide)) false (liveH _ _ _ (by show (1 : Nat) ≠ 0; decide) (by show 1 ≤ (1 : Nat); decide) rfl) (by show (2 : Nat) < 1000000000; decide)
          rw [dropH xB _ 2 false rfl rfl rfl] at hd
          have HD := Lib.hid hd
          clear hd h4
          go_wp2_with fail
          refine HD.out.mono ?_
          rintro e w7 ⟨rfl, hT7, hF7⟩
          have h7 : TabR w7 w1.heap.size tb (stH [] (if k = 0 then ndZ else { (freshN 1 1 ⟨#[]⟩) with links := 0, held := k, data := List.replicate N 0 ++ bl }) 3) A nb mb := hT7
          rw [if_neg HK0.out] at h7
          have HC7 := Lib.hid (HC4.out.trans (hF7.below HC4.out.size))
          clear hT7 hF7 HD
          have hg := get_yes h7 (n := 2) (by show (1 : Nat) ≠ 0; decide)
          have hmn : Calls _ _ _ _ (fun e w' => e = .returned (.tuple #[.int .u16 0, .int .i64 (20 : Nat)]) ∧ Below w7.heap.size w7 w') := make_not h7 (i := 2) (by decide) 1 ⟨#[105, 110]⟩ ⟨#[]⟩ (small_str _ (by decide)) 20 (inH _ 3 (fun _ => ⟨rfl, rfl⟩)) (by decide)
          have HMN := Lib.hid hmn
          have H7 := Lib.hid h7
          obtain ⟨g, hgg⟩ : ∃ g, g = nb 2 := ⟨_, rfl⟩
          rw [← hgg] at hg
          have HGG := Lib.hid hgg
          clear hmn h7 hgg
          go_wp2_with fail
          refine hg.mono ?_
          rintro e w8 ⟨rfl, rfl⟩
          clear hg
          go_wp2_with fail
          refine HMN.out.mono ?_
          rintro e w8 ⟨rfl, hb8⟩
          have h8 := H7.out.below hb8
          have HC8 := Lib.hid (HC7.out.trans (hb8.mono HC7.out.size))
          have HT8 := Lib.hid h8
          have hN8 := h8.node 2 (by show (1 : Nat) ≠ 0; decide)
          rw [show nb 2 = g from HGG.out.symm] at hN8
          obtain ⟨dv, HS0⟩ := held_s (K := k) hN8 rfl rfl
          clear hb8 h8 H7 HMN hN8
          obtain ⟨sx, hsx⟩ : ∃ sx, sx = txtD (List.replicate N 0 ++ bl) := ⟨_, rfl⟩
          have HmkS := Lib.hid (show ∀ W, Below w8.heap.size w8 W → (W.cell? ⟨g, 6, none⟩ = some (.int .i64 0) ∧ W.cell? ⟨g, 7, none⟩ = some (.int .i64 k) ∧ W.cell? ⟨g, 2, none⟩ = some dv ∧ (convert 38 9 dv).run Try.prog W = .ok (.string sx) W ∧ g < W.heap.size) from fun W hb => by rw [hsx]; exact HS0 W hb)
          have HBv := Lib.hid ((Below.refl w8.heap.size w8).drew)
          have HRb := Lib.hid (HRw.out.below (HB1.out.trans (HC8.out.mono HB1.out.size)))
          have HSX := Lib.hid hsx
          have hwr : IntKind.i64.wrap (N : Int) = (N : Int) := IntWalk.i64_in _ (by omega)
          clear HS0 hsx
          go_wp2_with fail
          refine wp_region_held_drew (S := (fun W => W.cell? ⟨g, 6, none⟩ = some (.int .i64 0) ∧ W.cell? ⟨g, 7, none⟩ = some (.int .i64 k) ∧ W.cell? ⟨g, 2, none⟩ = some dv ∧ (convert 38 9 dv).run Try.prog W = .ok (.string sx) W ∧ g < W.heap.size)) (by kernel_rfl) ?_ (fun hHeld0 => ?_)
          · exact HmkS.out _ (Below.refl _ _).drew
          refine wpAnyH_take (i := 0) (v := ?_) (by first | (simp only [List.getElem?_toArray, List.getElem?_cons_zero] <;> rfl) | rfl) (by kernel_rfl) (by kernel_rfl) (by kernel_rfl) (by exact fun _ _ _ h => h) (Or.inl ⟨by rfl, ?_⟩) hHeld0 ?_
          rotate_left 1
          · intro w hSw
            try dsimp only at hSw
            (go_simp) <;> (with_reducible rfl)
          try simp only [Act.put, List.setIfInBounds_toArray, List.set_cons_zero, List.set_cons_succ]
          refine wpAnyH_take (i := 1) (v := ?_) (by first | (simp only [List.getElem?_toArray, List.getElem?_cons_succ, List.getElem?_cons_zero] <;> rfl) | rfl) (by kernel_rfl) (by kernel_rfl) (by kernel_rfl) (by exact fun _ _ _ h => h) (Or.inl ⟨by rfl, ?_⟩) hHeld0 ?_
          rotate_left 1
          · intro w hSw
            try dsimp only at hSw
            (go_simp) <;> (with_reducible rfl)
          try simp only [Act.put, List.setIfInBounds_toArray, List.set_cons_zero, List.set_cons_succ]
          refine wpAnyH_take (i := 2) (v := ?_) (by first | (simp only [List.getElem?_toArray, List.getElem?_cons_succ, List.getElem?_cons_zero] <;> rfl) | rfl) (by kernel_rfl) (by kernel_rfl) (by kernel_rfl) (by exact fun _ _ _ h => h) (Or.inl ⟨by rfl, ?_⟩) hHeld0 ?_
          rotate_left 1
          · intro w hSw
            try dsimp only at hSw
            (go_simp) <;> (with_reducible rfl)
          try simp only [Act.put, List.setIfInBounds_toArray, List.set_cons_zero, List.set_cons_succ]
          refine wpAnyH_take (i := 3) (v := ?_) (by first | (simp only [List.getElem?_toArray, List.getElem?_cons_succ, List.getElem?_cons_zero] <;> rfl) | rfl) (by kernel_rfl) (by kernel_rfl) (by kernel_rfl) (by exact fun _ _ _ h => h) (Or.inl ⟨by rfl, ?_⟩) hHeld0 ?_
          rotate_left 1
          · intro w hSw
            try dsimp only at hSw
            (go_simp) <;> (with_reducible rfl)
          try simp only [Act.put, List.setIfInBounds_toArray, List.set_cons_zero, List.set_cons_succ]
          refine wpAnyH_take (i := 4) (v := ?_) (by first | (simp only [List.getElem?_toArray, List.getElem?_cons_succ, List.getElem?_cons_zero] <;> rfl) | rfl) (by kernel_rfl) (by kernel_rfl) (by kernel_rfl) (by exact fun _ _ _ h => h) (Or.inl ⟨by rfl, ?_⟩) hHeld0 ?_
          rotate_left 1
          · intro w hSw
            try dsimp only at hSw
            (go_simp) <;> (with_reducible rfl)
          try simp only [Act.put, List.setIfInBounds_toArray, List.set_cons_zero, List.set_cons_succ]
          refine wpAnyH_take (i := 5) (v := ?_) (by first | (simp only [List.getElem?_toArray, List.getElem?_cons_succ, List.getElem?_cons_zero] <;> rfl) | rfl) (by kernel_rfl) (by kernel_rfl) (by kernel_rfl) (by exact fun _ _ _ h => h) (Or.inl ⟨by rfl, ?_⟩) hHeld0 ?_
          rotate_left 1
          · intro w hSw
            try dsimp only at hSw
            (go_simp) <;> (with_reducible rfl)
          try simp only [Act.put, List.setIfInBounds_toArray, List.set_cons_zero, List.set_cons_succ]
          refine wpAnyH_take (i := 6) (v := ?_) (by first | (simp only [List.getElem?_toArray, List.getElem?_cons_succ, List.getElem?_cons_zero] <;> rfl) | rfl) (by kernel_rfl) (by kernel_rfl) (by kernel_rfl) (by exact fun _ _ _ h => h) (Or.inl ⟨by rfl, ?_⟩) hHeld0 ?_
          rotate_left 1
          · intro w hSw
            try dsimp only at hSw
            (go_simp) <;> (with_reducible rfl)
          try simp only [Act.put, List.setIfInBounds_toArray, List.set_cons_zero, List.set_cons_succ]
          refine wpAnyH_take (i := 7) (v := ?_) (by first | (simp only [List.getElem?_toArray, List.getElem?_cons_succ, List.getElem?_cons_zero] <;> rfl) | rfl) (by kernel_rfl) (by kernel_rfl) (by kernel_rfl) (by exact fun _ _ _ h => h) (Or.inl ⟨by rfl, ?_⟩) hHeld0 ?_
          rotate_left 1
          · intro w hSw
            try dsimp only at hSw
            (go_simp) <;> (with_reducible rfl)
          try simp only [Act.put, List.setIfInBounds_toArray, List.set_cons_zero, List.set_cons_succ]
          refine wpAnyH_take (i := 8) (v := ?_) (by first | (simp only [List.getElem?_toArray, List.getElem?_cons_succ, List.getElem?_cons_zero] <;> rfl) | rfl) (by kernel_rfl) (by kernel_rfl) (by kernel_rfl) (by exact fun _ _ _ h => h) (Or.inl ⟨by rfl, ?_⟩) hHeld0 ?_
          rotate_left 1
          · intro w hSw
            try dsimp only at hSw
            (go_simp) <;> (with_reducible rfl)
          try simp only [Act.put, List.setIfInBounds_toArray, List.set_cons_zero, List.set_cons_succ]
          refine wpAnyH_take (i := 9) (v := ?_) (by first | (simp only [List.getElem?_toArray, List.getElem?_cons_succ, List.getElem?_cons_zero] <;> rfl) | rfl) (by kernel_rfl) (by kernel_rfl) (by kernel_rfl) (by exact fun _ _ _ h => h) (Or.inl ⟨by rfl, ?_⟩) hHeld0 ?_
          rotate_left 1
          · intro w hSw
            try dsimp only at hSw
            (go_simp) <;> (with_reducible rfl)
          try simp only [Act.put, List.setIfInBounds_toArray, List.set_cons_zero, List.set_cons_succ]
          refine wpAnyH_take (i := 10) (v := ?_) (by first | (simp only [List.getElem?_toArray, List.getElem?_cons_succ, List.getElem?_cons_zero] <;> rfl) | rfl) (by kernel_rfl) (by kernel_rfl) (by kernel_rfl) (by exact fun _ _ _ h => h) (Or.inl ⟨by rfl, ?_⟩) hHeld0 ?_
          rotate_left 1
          · intro w hSw
            try dsimp only at hSw
            (go_simp) <;> (with_reducible rfl)
          try simp only [Act.put, List.setIfInBounds_toArray, List.set_cons_zero, List.set_cons_succ]
          refine wpAnyH_take (i := 11) (v := ?_) (by first | (simp only [List.getElem?_toArray, List.getElem?_cons_succ, List.getElem?_cons_zero] <;> rfl) | rfl) (by kernel_rfl) (by kernel_rfl) (by kernel_rfl) (by exact fun _ _ _ h => h) (Or.inl ⟨by rfl, ?_⟩) hHeld0 ?_
          rotate_left 1
          · intro w hSw
            try dsimp only at hSw
            (go_simp) <;> (with_reducible rfl)
          try simp only [Act.put, List.setIfInBounds_toArray, List.set_cons_zero, List.set_cons_succ]
          refine wpAnyH_take (i := 12) (v := ?_) (by first | (simp only [List.getElem?_toArray, List.getElem?_cons_succ, List.getElem?_cons_zero] <;> rfl) | rfl) (by kernel_rfl) (by kernel_rfl) (by kernel_rfl) (by exact fun _ _ _ h => h) (Or.inl ⟨by rfl, ?_⟩) hHeld0 ?_
          rotate_left 1
          · intro w hSw
            try dsimp only at hSw
            (go_simp) <;> (with_reducible rfl)
          try simp only [Act.put, List.setIfInBounds_toArray, List.set_cons_zero, List.set_cons_succ]
          refine wpAnyH_take (i := 13) (v := ?_) (by first | (simp only [List.getElem?_toArray, List.getElem?_cons_succ, List.getElem?_cons_zero] <;> rfl) | rfl) (by kernel_rfl) (by kernel_rfl) (by kernel_rfl) (by exact fun _ _ _ h => h) (Or.inl ⟨by rfl, ?_⟩) hHeld0 ?_
          rotate_left 1
          · intro w hSw
            try dsimp only at hSw
            (go_simp) <;> (with_reducible rfl)
          try simp only [Act.put, List.setIfInBounds_toArray, List.set_cons_zero, List.set_cons_succ]
          refine wpAnyH_take (i := 14) (v := ?_) (by first | (simp only [List.getElem?_toArray, List.getElem?_cons_succ, List.getElem?_cons_zero] <;> rfl) | rfl) (by kernel_rfl) (by kernel_rfl) (by kernel_rfl) (by exact fun _ _ _ h => h) (Or.inl ⟨by rfl, ?_⟩) hHeld0 ?_
          rotate_left 1
          · intro w hSw
            try dsimp only at hSw
            (go_simp) <;> (with_reducible rfl)
          try simp only [Act.put, List.setIfInBounds_toArray, List.set_cons_zero, List.set_cons_succ]
          refine wpAnyH_take (i := 15) (v := ?_) (by first | (simp only [List.getElem?_toArray, List.getElem?_cons_succ, List.getElem?_cons_zero] <;> rfl) | rfl) (by kernel_rfl) (by kernel_rfl) (by kernel_rfl) (by exact fun _ _ _ h => h) (Or.inl ⟨by rfl, ?_⟩) hHeld0 ?_
          rotate_left 1
          · intro w hSw
            try dsimp only at hSw
            (go_simp) <;> (with_reducible rfl)
          try simp only [Act.put, List.setIfInBounds_toArray, List.set_cons_zero, List.set_cons_succ]
          refine wpAnyH_take (i := 16) (v := ?_) (by first | (simp only [List.getElem?_toArray, List.getElem?_cons_succ, List.getElem?_cons_zero] <;> rfl) | rfl) (by kernel_rfl) (by kernel_rfl) (by kernel_rfl) (by exact fun _ _ _ h => h) (Or.inl ⟨by rfl, ?_⟩) hHeld0 ?_
          rotate_left 1
          · intro w hSw
            try dsimp only at hSw
            (go_simp) <;> (with_reducible rfl)
          try simp only [Act.put, List.setIfInBounds_toArray, List.set_cons_zero, List.set_cons_succ]
          refine wpAnyH_take (i := 17) (v := ?_) (by first | (simp only [List.getElem?_toArray, List.getElem?_cons_succ, List.getElem?_cons_zero] <;> rfl) | rfl) (by kernel_rfl) (by kernel_rfl) (by kernel_rfl) (by exact fun _ _ _ h => h) (Or.inl ⟨by rfl, ?_⟩) hHeld0 ?_
          rotate_left 1
          · intro w hSw
            try dsimp only at hSw
            (go_simp) <;> (with_reducible rfl)
          try simp only [Act.put, List.setIfInBounds_toArray, List.set_cons_zero, List.set_cons_succ]
          refine wpAnyH_take (i := 18) (v := ?_) (by first | (simp only [List.getElem?_toArray, List.getElem?_cons_succ, List.getElem?_cons_zero] <;> rfl) | rfl) (by kernel_rfl) (by kernel_rfl) (by kernel_rfl) (by exact fun _ _ _ h => h) (Or.inl ⟨by rfl, ?_⟩) hHeld0 ?_
          rotate_left 1
          · intro w hSw
            try dsimp only at hSw
            (go_simp) <;> (with_reducible rfl)
          try simp only [Act.put, List.setIfInBounds_toArray, List.set_cons_zero, List.set_cons_succ]
          refine wpAnyH_take (i := 19) (v := ?_) (by first | (simp only [List.getElem?_toArray, List.getElem?_cons_succ, List.getElem?_cons_zero] <;> rfl) | rfl) (by kernel_rfl) (by kernel_rfl) (by kernel_rfl) (by exact fun _ _ _ h => h) (Or.inl ⟨by rfl, ?_⟩) hHeld0 ?_
          rotate_left 1
          · intro w hSw
            try dsimp only at hSw
            (go_simp) <;> (with_reducible rfl)
          try simp only [Act.put, List.setIfInBounds_toArray, List.set_cons_zero, List.set_cons_succ]
          refine wpAnyH_take (i := 20) (v := ?_) (by first | (simp only [List.getElem?_toArray, List.getElem?_cons_succ, List.getElem?_cons_zero] <;> rfl) | rfl) (by kernel_rfl) (by kernel_rfl) (by kernel_rfl) (by exact fun _ _ _ h => h) (Or.inl ⟨by rfl, ?_⟩) hHeld0 ?_
          rotate_left 1
          · intro w hSw
            try dsimp only at hSw
            (go_simp) <;> (with_reducible rfl)
          try simp only [Act.put, List.setIfInBounds_toArray, List.set_cons_zero, List.set_cons_succ]
          refine wpAnyH_take (i := 21) (v := ?_) (by first | (simp only [List.getElem?_toArray, List.getElem?_cons_succ, List.getElem?_cons_zero] <;> rfl) | rfl) (by kernel_rfl) (by kernel_rfl) (by kernel_rfl) (by exact fun _ _ _ h => h) (Or.inl ⟨by rfl, ?_⟩) hHeld0 ?_
          rotate_left 1
          · intro w hSw
            try dsimp only at hSw
            (go_simp) <;> (with_reducible rfl)
          try simp only [Act.put, List.setIfInBounds_toArray, List.set_cons_zero, List.set_cons_succ]
          refine wpAnyH_take (i := 22) (v := ?_) (by first | (simp only [List.getElem?_toArray, List.getElem?_cons_succ, List.getElem?_cons_zero] <;> rfl) | rfl) (by kernel_rfl) (by kernel_rfl) (by kernel_rfl) (by exact fun _ _ _ h => h) (Or.inl ⟨by rfl, ?_⟩) hHeld0 ?_
          rotate_left 1
          · intro w hSw
            try dsimp only at hSw
            (go_simp) <;> (with_reducible rfl)
          try simp only [Act.put, List.setIfInBounds_toArray, List.set_cons_zero, List.set_cons_succ]
          refine wpAnyH_take (i := 23) (v := ?_) (by first | (simp only [List.getElem?_toArray, List.getElem?_cons_succ, List.getElem?_cons_zero] <;> rfl) | rfl) (by kernel_rfl) (by kernel_rfl) (by kernel_rfl) (by exact fun _ _ _ h => h) (Or.inl ⟨by rfl, ?_⟩) hHeld0 ?_
          rotate_left 1
          · intro w hSw
            try dsimp only at hSw
            (go_simp) <;> (with_reducible rfl)
          try simp only [Act.put, List.setIfInBounds_toArray, List.set_cons_zero, List.set_cons_succ]
          refine wpAnyH_take (i := 24) (v := ?_) (by first | (simp only [List.getElem?_toArray, List.getElem?_cons_succ, List.getElem?_cons_zero] <;> rfl) | rfl) (by kernel_rfl) (by kernel_rfl) (by kernel_rfl) (by exact fun _ _ _ h => h) (Or.inl ⟨by rfl, ?_⟩) hHeld0 ?_
          rotate_left 1
          · intro w hSw
            try dsimp only at hSw
            (go_simp) <;> (with_reducible rfl)
          try simp only [Act.put, List.setIfInBounds_toArray, List.set_cons_zero, List.set_cons_succ]
          refine wpAnyH_take (i := 25) (v := ?_) (by first | (simp only [List.getElem?_toArray, List.getElem?_cons_succ, List.getElem?_cons_zero] <;> rfl) | rfl) (by kernel_rfl) (by kernel_rfl) (by kernel_rfl) (by exact fun _ _ _ h => h) (Or.inl ⟨by rfl, ?_⟩) hHeld0 ?_
          rotate_left 1
          · intro w hSw
            try dsimp only at hSw
            (go_simp) <;> (with_reducible rfl)
          try simp only [Act.put, List.setIfInBounds_toArray, List.set_cons_zero, List.set_cons_succ]
          refine wpAnyH_take (i := 26) (v := ?_) (by first | (simp only [List.getElem?_toArray, List.getElem?_cons_succ, List.getElem?_cons_zero] <;> rfl) | rfl) (by kernel_rfl) (by kernel_rfl) (by kernel_rfl) (by exact fun _ _ _ h => h) (Or.inl ⟨by rfl, ?_⟩) hHeld0 ?_
          rotate_left 1
          · intro w hSw
            try dsimp only at hSw
            (go_simp) <;> (with_reducible rfl)
          try simp only [Act.put, List.setIfInBounds_toArray, List.set_cons_zero, List.set_cons_succ]
          refine wpAnyH_take (i := 27) (v := ?_) (by first | (simp only [List.getElem?_toArray, List.getElem?_cons_succ, List.getElem?_cons_zero] <;> rfl) | rfl) (by kernel_rfl) (by kernel_rfl) (by kernel_rfl) (by exact fun _ _ _ h => h) (Or.inl ⟨by rfl, ?_⟩) hHeld0 ?_
          rotate_left 1
          · intro w hSw
            try dsimp only at hSw
            (go_simp) <;> (with_reducible rfl)
          try simp only [Act.put, List.setIfInBounds_toArray, List.set_cons_zero, List.set_cons_succ]
          refine wpAnyH_take (i := 28) (v := ?_) (by first | (simp only [List.getElem?_toArray, List.getElem?_cons_succ, List.getElem?_cons_zero] <;> rfl) | rfl) (by kernel_rfl) (by kernel_rfl) (by kernel_rfl) (by exact fun _ _ _ h => h) (Or.inl ⟨by rfl, ?_⟩) hHeld0 ?_
          rotate_left 1
          · intro w hSw
            try dsimp only at hSw
            (go_simp) <;> (with_reducible rfl)
          try simp only [Act.put, List.setIfInBounds_toArray, List.set_cons_zero, List.set_cons_succ]
          refine wpAnyH_take (i := 29) (v := ?_) (by first | (simp only [List.getElem?_toArray, List.getElem?_cons_succ, List.getElem?_cons_zero] <;> rfl) | rfl) (by kernel_rfl) (by kernel_rfl) (by kernel_rfl) (by exact fun _ _ _ h => h) (Or.inl ⟨by rfl, ?_⟩) hHeld0 ?_
          rotate_left 1
          · intro w hSw
            try dsimp only at hSw
            (go_simp) <;> (with_reducible rfl)
          try simp only [Act.put, List.setIfInBounds_toArray, List.set_cons_zero, List.set_cons_succ]
          refine wpAnyH_take (i := 30) (v := ?_) (by first | (simp only [List.getElem?_toArray, List.getElem?_cons_succ, List.getElem?_cons_zero] <;> rfl) | rfl) (by kernel_rfl) (by kernel_rfl) (by kernel_rfl) (by exact fun _ _ _ h => h) (Or.inl ⟨by rfl, ?_⟩) hHeld0 ?_
          rotate_left 1
          · intro w hSw
            try dsimp only at hSw
            (go_simp) <;> (with_reducible rfl)
          try simp only [Act.put, List.setIfInBounds_toArray, List.set_cons_zero, List.set_cons_succ]
          refine wpAnyH_take (i := 32) (v := ?_) (by first | (simp only [List.getElem?_toArray, List.getElem?_cons_succ, List.getElem?_cons_zero] <;> rfl) | rfl) (by kernel_rfl) (by kernel_rfl) (by kernel_rfl) (by exact fun _ _ _ h => h) (Or.inl ⟨by rfl, ?_⟩) hHeld0 ?_
          rotate_left 1
          · intro w hSw
            try dsimp only at hSw
            (go_simp) <;> (with_reducible rfl)
          try simp only [Act.put, List.setIfInBounds_toArray, List.set_cons_zero, List.set_cons_succ]
          refine wpAnyH_ready (rs := [31]) (by kernel_rfl) (by simp) ?_
          refine AllReadyH.cons (by first | (simp only [List.getElem?_toArray, List.getElem?_cons_succ, List.getElem?_cons_zero] <;> rfl) | rfl) (fun K hK => ?_) ?_
          · skip
            obtain ⟨vhHeld1, hr, ho, hg⟩ := run_make_full (P := Try.prog) _ w8.heap.size 38 5 i0 (.int .u8 0) 1 Try.underlying38 hi hz0 hz1 .i64 .i64 N (by rw [hz2]; omega) (by unfold maxLen; omega) HBv.out.size
            have HBn := Lib.hid (HBv.out.trans ((grown_none_below hg).mono HBv.out.size))
            refine op_make (.tmp 107) (.tmp 107) 38 rfl _ _ _ vhHeld1 rfl rfl hr ?_
            refine hK.out _ _ (HmkS.out _ HBn.out) (fun hHeld1 => ?_)
            clear hK K
            rw [Nat.mul_one, show (Value.int .u8 0).cells = #[Value.int .u8 0] from rfl, toList_madeCells_one] at ho
            have HO := Lib.hid ho
            have HBv := HBn
            clear ho hg hr HBn hHeld0
            try simp only [Act.put, List.setIfInBounds_toArray, List.set_cons_zero, List.set_cons_succ]
            refine wpAnyH_ready (rs := [33]) (by kernel_rfl) (by simp) ?_
            refine AllReadyH.cons (by first | (simp only [List.getElem?_toArray, List.getElem?_cons_succ, List.getElem?_cons_zero] <;> rfl) | rfl) (fun K hK => ?_) ?_
            · skip
              obtain ⟨v5, vhHeld2, hr, ho, hg, _⟩ := run_list8 38 38 5 _ 1 1 info8 Try.underlying38 rfl (by decide) (by decide) w8.heap.size _ N _ HO.out x len cap (u8s bl) (HRb.out.below HBv.out) (u8s_one bl) (by omega) HBv.out.size
              have HBn := Lib.hid (HBv.out.grown hg HBv.out.size (fun g e => (HO.out.lt g e).1))
              refine op_append (.tmp 108) (.tmp 109) 38 rfl _ _ _ vhHeld2 rfl rfl hr ?_
              refine hK.out _ _ (HmkS.out _ HBn.out) (fun hHeld2 => ?_)
              clear hK K
              obtain ⟨A5, c5, hve, _, hR5⟩ := own_form ho
              subst hve
              have hcv := text5 (c := c5) Hbl.out hR5
              rw [← HSX.out] at hcv
              have HBv := HBn
              clear ho hg hr HBn hHeld1 hR5
              try simp only [Act.put, List.setIfInBounds_toArray, List.set_cons_zero, List.set_cons_succ]
              refine wpAnyH_ready (rs := [34]) (by kernel_rfl) (by simp) ?_
              refine AllReadyH.cons (by first | (simp only [List.getElem?_toArray, List.getElem?_cons_succ, List.getElem?_cons_zero] <;> rfl) | rfl) (fun K hK => ?_) ?_
              · skip
                go_simp
                refine hK.out _ _ (HmkS.out _ HBv.out) (fun hHeld3 => ?_)
                clear hK K
                clear hHeld2 hcv
                try simp only [Act.put, List.setIfInBounds_toArray, List.set_cons_zero, List.set_cons_succ]
                refine wpAnyH_take (i := 35) (v := ?_) (by first | (simp only [List.getElem?_toArray, List.getElem?_cons_succ, List.getElem?_cons_zero] <;> rfl) | rfl) (by kernel_rfl) (by kernel_rfl) (by kernel_rfl) (by exact fun _ _ _ h => h) (Or.inl ⟨by rfl, ?_⟩) hHeld3 ?_
                rotate_left 1
                · intro w hSw
                  try dsimp only at hSw
                  (go_simp) <;> (with_reducible rfl)
                try simp only [Act.put, List.setIfInBounds_toArray, List.set_cons_zero, List.set_cons_succ]
                refine wpAnyH_take (i := 36) (v := ?_) (by first | (simp only [List.getElem?_toArray, List.getElem?_cons_succ, List.getElem?_cons_zero] <;> rfl) | rfl) (by kernel_rfl) (by kernel_rfl) (by kernel_rfl) (by exact fun _ _ _ h => h) (Or.inl ⟨by rfl, ?_⟩) hHeld3 ?_
                rotate_left 1
                · intro w hSw
                  try dsimp only at hSw
                  (go_simp) <;> (with_reducible rfl)
                try simp only [Act.put, List.setIfInBounds_toArray, List.set_cons_zero, List.set_cons_succ]
                refine wpAnyH_take (i := 37) (v := ?_) (by first | (simp only [List.getElem?_toArray, List.getElem?_cons_succ, List.getElem?_cons_zero] <;> rfl) | rfl) (by kernel_rfl) (by kernel_rfl) (by kernel_rfl) (by exact fun _ _ _ h => h) (Or.inl ⟨by rfl, ?_⟩) hHeld3 ?_
                rotate_left 1
                · intro w hSw
                  try dsimp only at hSw
                  (go_simp) <;> (with_reducible rfl)
                try simp only [Act.put, List.setIfInBounds_toArray, List.set_cons_zero, List.set_cons_succ]
                refine wpAnyH_take (i := 38) (v := ?_) (by first | (simp only [List.getElem?_toArray, List.getElem?_cons_succ, List.getElem?_cons_zero] <;> rfl) | rfl) (by kernel_rfl) (by kernel_rfl) (by kernel_rfl) (by exact fun _ _ _ h => h) (Or.inl ⟨by rfl, ?_⟩) hHeld3 ?_
                rotate_left 1
                · intro w hSw
                  try dsimp only at hSw
                  (go_simp) <;> (with_reducible rfl)
                try simp only [Act.put, List.setIfInBounds_toArray, List.set_cons_zero, List.set_cons_succ]
                refine wpAnyH_take (i := 39) (v := ?_) (by first | (simp only [List.getElem?_toArray, List.getElem?_cons_succ, List.getElem?_cons_zero] <;> rfl) | rfl) (by kernel_rfl) (by kernel_rfl) (by kernel_rfl) (by exact fun _ _ _ h => h) (Or.inl ⟨by rfl, ?_⟩) hHeld3 ?_
                rotate_left 1
                · intro w hSw
                  try dsimp only at hSw
                  (go_simp) <;> (with_reducible rfl)
                try simp only [Act.put, List.setIfInBounds_toArray, List.set_cons_zero, List.set_cons_succ]
                refine wpAnyH_take (i := 40) (v := ?_) (by first | (simp only [List.getElem?_toArray, List.getElem?_cons_succ, List.getElem?_cons_zero] <;> rfl) | rfl) (by kernel_rfl) (by kernel_rfl) (by kernel_rfl) (by exact fun _ _ _ h => h) (Or.inl ⟨by rfl, ?_⟩) hHeld3 ?_
                rotate_left 1
                · intro w hSw
                  try dsimp only at hSw
                  (go_simp) <;> (with_reducible rfl)
                try simp only [Act.put, List.setIfInBounds_toArray, List.set_cons_zero, List.set_cons_succ]
                refine wpAnyH_take (i := 41) (v := ?_) (by first | (simp only [List.getElem?_toArray, List.getElem?_cons_succ, List.getElem?_cons_zero] <;> rfl) | rfl) (by kernel_rfl) (by kernel_rfl) (by kernel_rfl) (by exact fun _ _ _ h => h) (Or.inl ⟨by rfl, ?_⟩) hHeld3 ?_
                rotate_left 1
                · intro w hSw
                  try dsimp only at hSw
                  (go_simp) <;> (with_reducible rfl)
                try simp only [Act.put, List.setIfInBounds_toArray, List.set_cons_zero, List.set_cons_succ]
                refine wpAnyH_take (i := 42) (v := ?_) (by first | (simp only [List.getElem?_toArray, List.getElem?_cons_succ, List.getElem?_cons_zero] <;> rfl) | rfl) (by kernel_rfl) (by kernel_rfl) (by kernel_rfl) (by exact fun _ _ _ h => h) (Or.inl ⟨by rfl, ?_⟩) hHeld3 ?_
                rotate_left 1
                · intro w hSw
                  try dsimp only at hSw
                  (go_simp) <;> (with_reducible rfl)
                try simp only [Act.put, List.setIfInBounds_toArray, List.set_cons_zero, List.set_cons_succ]
                refine wpAnyH_take (i := 43) (v := undef) (by first | (simp only [List.getElem?_toArray, List.getElem?_cons_succ, List.getElem?_cons_zero] <;> rfl) | rfl) (by kernel_rfl) (by kernel_rfl) (by kernel_rfl) (by exact fun _ _ _ h => h) (Or.inr ⟨by rfl, rfl⟩) hHeld3 ?_
                try simp only [Act.put, List.setIfInBounds_toArray, List.set_cons_zero, List.set_cons_succ]
                refine wpAnyH_take (i := 44) (v := undef) (by first | (simp only [List.getElem?_toArray, List.getElem?_cons_succ, List.getElem?_cons_zero] <;> rfl) | rfl) (by kernel_rfl) (by kernel_rfl) (by kernel_rfl) (by exact fun _ _ _ h => h) (Or.inr ⟨by rfl, rfl⟩) hHeld3 ?_
                try simp only [Act.put, List.setIfInBounds_toArray, List.set_cons_zero, List.set_cons_succ]
                refine wpAnyH_take (i := 45) (v := ?_) (by first | (simp only [List.getElem?_toArray, List.getElem?_cons_succ, List.getElem?_cons_zero] <;> rfl) | rfl) (by kernel_rfl) (by kernel_rfl) (by kernel_rfl) (by exact fun _ _ _ h => h) (Or.inl ⟨by rfl, ?_⟩) hHeld3 ?_
                rotate_left 1
                · intro w hSw
                  try dsimp only at hSw
                  (go_simp) <;> (with_reducible rfl)
                try simp only [Act.put, List.setIfInBounds_toArray, List.set_cons_zero, List.set_cons_succ]
                refine wpAnyH_take (i := 46) (v := ?_) (by first | (simp only [List.getElem?_toArray, List.getElem?_cons_succ, List.getElem?_cons_zero] <;> rfl) | rfl) (by kernel_rfl) (by kernel_rfl) (by kernel_rfl) (by exact fun _ _ _ h => h) (Or.inl ⟨by rfl, ?_⟩) hHeld3 ?_
                rotate_left 1
                · intro w hSw
                  try dsimp only at hSw
                  (go_simp) <;> (with_reducible rfl)
                try simp only [Act.put, List.setIfInBounds_toArray, List.set_cons_zero, List.set_cons_succ]
                refine wpAnyH_done (by kernel_rfl) ?_ _
                have HC9x := Lib.hid (HC8.out.trans (HBv.out.mono HC8.out.size))
                clear hHeld3
                go_wp2_with fail
                go_loopw [125] (fun i wx => ∃ j : Nat, j ≤ k ∧ i = .int .i64 j ∧ Hid (TabR wx w1.heap.size tb (stH [] (if k - j = 0 then ndZ else { { (freshN 1 1 ⟨#[]⟩) with links := 0, held := k, data := List.replicate N 0 ++ bl } with held := k - j }) 3) A nb mb) ∧ Hid (Below w1.heap.size w1 wx)) (fun i _ => k - (intOf i).toNat)
                case atStart => exact ⟨0, by omega, rfl, ⟨Lib.hid ((HT8.out.below HBv.out).eqT (by rw [if_neg (by have := HK0.out; omega)]; rfl)), HC9x.out⟩⟩
                case round =>
                  obtain ⟨j, hj, rfl, HT9, HC9⟩ := hrel
                  by_cases hlt : j < k
                  · have h9 := HT9.out
                    rw [if_neg (by omega)] at h9
                    have hg9 := get_yes h9 (n := 2) (by show (1 : Nat) ≠ 0; decide)
                    have hh : Calls _ _ _ _ (OneP wr w1.heap.size tb A nb mb (holdF (stH [] { { (freshN 1 1 ⟨#[]⟩) with links := 0, held := k, data := List.replicate N 0 ++ bl } with held := k - j } 3) 2 false)) := hold_any h9 (n := 2) (by decide) false (by show k - j < 1000000000; omega)
                    rw [unholdH _ _ (by show (1 : Nat) ≠ 0; decide) rfl (by show 1 ≤ k - j; omega)] at hh
                    have HH := Lib.hid hh
                    clear hh h9 HT9
                    by_cases ej : j + 1 = k
                    · have e1 : ((j : Int) == (k : Int) - 1) = true := by simp; omega
                      have EJ := Lib.hid ej
                      clear ej
                      go_wp2_with fail
                      refine hg9.mono ?_
                      rintro e w9 ⟨rfl, rfl⟩
                      clear hg9
                      go_wp2_with fail
                      refine HH.out.mono ?_
                      rintro e wa ⟨rfl, hTa, hFa⟩
                      have hTa : TabR wa w1.heap.size tb (stH [] (if k - j = 1 then ndZ else { { (freshN 1 1 ⟨#[]⟩) with links := 0, held := k, data := List.replicate N 0 ++ bl } with held := k - j - 1 }) 3) A nb mb := hTa
                      rw [if_pos (by have := EJ.out; omega)] at hTa
                      have HTa := Lib.hid hTa
                      have HCa := Lib.hid (HC9.out.trans (hFa.below HC9.out.size))
                      have hga := get_no hTa (n := 2) (by decide) rfl
                      clear hTa hFa HH
                      go_wp2_with fail
                      refine hga.mono ?_
                      rintro e w9 ⟨rfl, rfl⟩
                      clear hga
                      go_wp2
                      go_roundw
                      case rel => exact ⟨j + 1, by omega, by go_num, Lib.hid (HTa.out.eqT (by rw [if_pos (by have := EJ.out; omega)])), HCa.out⟩
                      case measure => simp [intOf]; omega
                    · have e1 : ((j : Int) == (k : Int) - 1) = false := by simp; omega
                      have EJ := Lib.hid ej
                      clear ej
                      go_wp2_with fail
                      refine hg9.mono ?_
                      rintro e w9 ⟨rfl, rfl⟩
                      clear hg9
                      go_wp2_with fail
                      refine HH.out.mono ?_
                      rintro e wa ⟨rfl, hTa, hFa⟩
                      have hTa : TabR wa w1.heap.size tb (stH [] (if k - j = 1 then ndZ else { { (freshN 1 1 ⟨#[]⟩) with links := 0, held := k, data := List.replicate N 0 ++ bl } with held := k - j - 1 }) 3) A nb mb := hTa
                      rw [if_neg (by have := EJ.out; omega)] at hTa
                      have HTa := Lib.hid hTa
                      have HCa := Lib.hid (HC9.out.trans (hFa.below HC9.out.size))
                      have hga := get_yes hTa (n := 2) (by show (1 : Nat) ≠ 0; decide)
                      clear hTa hFa HH
                      go_wp2_with fail
                      refine hga.mono ?_
                      rintro e w9 ⟨rfl, rfl⟩
                      clear hga
                      go_wp2
                      go_roundw
                      case rel => exact ⟨j + 1, by omega, by go_num, Lib.hid (HTa.out.eqT (by rw [if_neg (by have := EJ.out; omega), show k - (j + 1) = k - j - 1 from by omega])), HCa.out⟩
                      case measure => simp [intOf]; omega
                  · obtain rfl : j = k := by omega
                    have h9 := HT9.out
                    rw [if_pos (by omega)] at h9
                    clear HT9 hlt hj
                    have hm : Calls _ _ _ _ (MakeP _ w1.heap.size tb (makeF (stH [] ndZ 3) 0 1 yB 1 ⟨#[]⟩)) := make_any h9 (i := 1) (k := 1) (by decide) (by decide) ⟨#[121]⟩ ⟨#[]⟩ (small_str _ (by decide)) (small_str _ (by decide)) (by decide) 0 (fun e => by cases e)
                    rw [mkH yB 1 (by decide) 3 (by decide)] at hm
                    have HM := Lib.hid hm
                    clear hm h9
                    go_wp2_with fail
                    refine HM.out.mono ?_
                    rintro e wa ⟨rfl, ⟨A9, nb9, mb9, hTa⟩, hFa⟩
                    have HCa := Lib.hid (HC9.out.trans (hFa.below HC9.out.size))
                    have hl : Calls _ _ _ _ (OneP wa w1.heap.size tb A9 nb9 mb9 (holdF (stH [(yB, 2)] (freshN 1 1 ⟨#[]⟩) (3 + 1)) 2 false)) := hold_any hTa (n := 2) (by decide) false (by decide)
                    rw [lastH] at hl
                    have HL := Lib.hid hl
                    clear hl hTa hFa HM
                    go_wp2_with fail
                    refine HL.out.mono ?_
                    rintro e wb ⟨rfl, _, hFb⟩
                    have HCb := Lib.hid (HCa.out.trans (hFb.below HCa.out.size))
                    clear hFb HL
                    go_wp2
                    go_ret
                    exact ⟨rfl, HB1.out.trans (HCb.out.mono HB1.out.size)⟩
              exact AllReadyH.nil
            exact AllReadyH.nil
          exact AllReadyH.nil
  case true =>
    go_enter Try.func8, Try.ntmps8
    go_wp2_with fail
    refine (awake_any w).mono ?_
    rintro e w1 ⟨rfl, hb⟩
    have HB1 := Lib.hid hb
    clear hb
    go_wp2_with fail
    refine (new_any w1 9 (by decide)).mono ?_
    rintro e w2 ⟨tb, rfl, htb, ⟨A0, nb0, mb0, h⟩, hb⟩
    rw [newH] at h
    have HC2 := Lib.hid hb
    have HOut := Lib.hid (fun wx => HOut.out w1 wx HB1.out)
    clear hb htb

    have hm : Calls _ _ _ _ (MakeP w2 w1.heap.size tb (makeF (stH [] ndZ 0) 0 1 xB 2 ⟨#[]⟩)) := make_any h (i := 1) (k := 2) (by decide) (by decide) ⟨#[120]⟩ ⟨#[]⟩ (small_str _ (by decide)) (small_str _ (by decide)) (by decide) 0 (fun _ _ => ⟨1, [1], by decide, by decide, rfl⟩)
    rw [mkH xB 2 (by decide) 0 (by decide)] at hm
    have HM := Lib.hid hm
    clear hm h
    go_wp2_with fail
    refine HM.out.mono ?_
    rintro e w3 ⟨rfl, hT3, hF3⟩
    have HT3 := Lib.hid (show Tab w3 w1.heap.size tb (stH [(xB, 2)] (freshN 2 1 ⟨#[]⟩) 1) from hT3)
    have HC3 := Lib.hid (HC2.out.trans (hF3.below HC2.out.size))
    clear hT3 hF3 HM
    go_wp2_with fail
    rw [HKM.out]
    go_loopw [38] (fun i wx => ∃ k : Nat, k ≤ K ∧ i = .int .i64 k ∧ Hid (Tab wx w1.heap.size tb (stH [(xB, 2)] { (freshN 2 1 ⟨#[]⟩) with held := k } 1)) ∧ Hid (Below w1.heap.size w1 wx)) (fun i _ => K - (intOf i).toNat)
    case atStart => exact ⟨0, by omega, rfl, HT3.out, HC3.out⟩
    case round =>
      clear HT3 HC3
      obtain ⟨k, hk, rfl, HT, HC⟩ := hrel
      by_cases hlt : k < K
      · obtain ⟨A, nb, mb, h5⟩ := HT.out
        have hh : Calls _ _ _ _ (OneP wr w1.heap.size tb A nb mb (holdF (stH [(xB, 2)] { (freshN 2 1 ⟨#[]⟩) with held := k } 1) 2 true)) := hold_any h5 (n := 2) (by decide) true (by show k < 1000000000; omega)
        rw [holdH _ _ _ (by show (2 : Nat) ≠ 0; decide)] at hh
        have HH := Lib.hid hh
        clear hh h5
        go_wp2_with fail
        refine HH.out.mono ?_
        rintro e w6 ⟨rfl, hT6, hF6⟩
        have HT6 := Lib.hid (show Tab w6 w1.heap.size tb (stH [(xB, 2)] { (freshN 2 1 ⟨#[]⟩) with held := k + 1 } 1) from ⟨A, nb, mb, hT6⟩)
        have HC6 := Lib.hid (HC.out.trans (hF6.below HC.out.size))
        clear hT6 hF6 HH
        go_wp2
        go_roundw
        case rel => exact ⟨k + 1, by omega, by go_num, HT6.out, HC6.out⟩
        case measure => simp [intOf]; omega
      · obtain rfl : k = K := by omega
        clear hlt hk
        obtain ⟨A, nb, mb, h5⟩ := HT.out
        clear HT
        by_cases hk0 : k = 0
        · have HK0 := Lib.hid hk0
          have k1 : ¬ (0 : Int) < (k : Int) := by omega
          have k2 : ((k : Int) == 0) = true := by simp; omega
          clear hk0
          have hd : Calls _ _ _ _ (OneP wr w1.heap.size tb A nb mb (dropF (stH [(xB, 2)] { (freshN 2 1 ⟨#[]⟩) with held := k } 1) 1 xB true)) := drop_any h5 (i := 1) (by decide) ⟨#[120]⟩ (small_str _ (by decide)) true (liveH _ _ _ (by show (2 : Nat) ≠ 0; decide) (by show 1 ≤ (1 : Nat); decide) rfl) (by show (1 : Nat) < 1000000000; decide)
          rw [dropH xB _ 1 true rfl rfl rfl] at hd
          have HD := Lib.hid hd
          clear hd h5
          go_wp2_with fail
          refine HD.out.mono ?_
          rintro e w7 ⟨rfl, hT7, hF7⟩
          have h7 : TabR w7 w1.heap.size tb (stH [] (if k = 0 then ndZ else { (freshN 2 1 ⟨#[]⟩) with links := 0, held := k }) 2) A nb mb := hT7
          rw [if_pos HK0.out] at h7
          have HC7 := Lib.hid (HC.out.trans (hF7.below HC.out.size))
          clear hT7 hF7 HD
          have hg := get_no h7 (n := 2) (by decide) rfl
          have hmn : Calls _ _ _ _ (fun e w' => e = .returned (.tuple #[.int .u16 0, .int .i64 (2 : Nat)]) ∧ Below w7.heap.size w7 w') := make_not h7 (i := 2) (by decide) 1 ⟨#[105, 110]⟩ ⟨#[]⟩ (small_str _ (by decide)) 2 (inH ndZ 2 (fun e => by cases e)) (by decide)
          have HMN := Lib.hid hmn
          have H7 := Lib.hid h7
          clear hmn h7
          go_wp2_with fail
          refine hg.mono ?_
          rintro e w8 ⟨rfl, rfl⟩
          clear hg
          go_wp2_with fail
          refine HMN.out.mono ?_
          rintro e w8 ⟨rfl, hb8⟩
          have h8 := H7.out.below hb8
          have HC8 := Lib.hid (HC7.out.trans (hb8.mono HC7.out.size))
          have HT8 := Lib.hid (show Tab w8 w1.heap.size tb (stH [] ndZ 2) from ⟨A, nb, mb, h8⟩)
          clear hb8 h8 H7 HMN
          go_wp2_with fail
          try go_quiet (fail)
          try go_wp2_with fail
          go_loopw [125] (fun i wx => i = .int .i64 0 ∧ Hid (Tab wx w1.heap.size tb (stH [] ndZ 2)) ∧ Hid (Below w1.heap.size w1 wx)) (fun i _ => 0)
          case atStart => first | exact ⟨rfl, HT8.out, HC8.out⟩ | exact ⟨rfl, HT8.out.below (below_drewN (Below.refl _ _) _), below_drewN HC8.out _⟩
          case round =>
            obtain ⟨rfl, HT9, HC9⟩ := hrel
            obtain ⟨A9, nb9, mb9, h9⟩ := HT9.out
            clear HT9
            have hm : Calls _ _ _ _ (MakeP _ w1.heap.size tb (makeF (stH [] ndZ 2) 0 1 yB 1 ⟨#[]⟩)) := make_any h9 (i := 1) (k := 1) (by decide) (by decide) ⟨#[121]⟩ ⟨#[]⟩ (small_str _ (by decide)) (small_str _ (by decide)) (by decide) 0 (fun e => by cases e)
            rw [mkH yB 1 (by decide) 2 (by decide)] at hm
            have HM := Lib.hid hm
            clear hm h9
            go_wp2_with fail
            refine HM.out.mono ?_
            rintro e wa ⟨rfl, ⟨A9, nb9, mb9, hTa⟩, hFa⟩
            have HCa := Lib.hid (HC9.out.trans (hFa.below HC9.out.size))
            have hl : Calls _ _ _ _ (OneP wa w1.heap.size tb A9 nb9 mb9 (holdF (stH [(yB, 2)] (freshN 1 1 ⟨#[]⟩) (2 + 1)) 2 false)) := hold_any hTa (n := 2) (by decide) false (by decide)
            rw [lastH] at hl
            have HL := Lib.hid hl
            clear hl hTa hFa HM
            go_wp2_with fail
            refine HL.out.mono ?_
            rintro e wb ⟨rfl, _, hFb⟩
            have HCb := Lib.hid (HCa.out.trans (hFb.below HCa.out.size))
            clear hFb HL
            go_wp2
            go_ret
            exact ⟨rfl, HB1.out.trans (HCb.out.mono HB1.out.size)⟩
        · have HK0 := Lib.hid hk0
          have k1 : (0 : Int) < (k : Int) := by omega
          have k1n : 0 < k := by omega
          have k2 : ((k : Int) == 0) = false := by simp; omega
          clear hk0
          have hd : Calls _ _ _ _ (OneP wr w1.heap.size tb A nb mb (dropF (stH [(xB, 2)] { (freshN 2 1 ⟨#[]⟩) with held := k } 1) 1 xB true)) := drop_any h5 (i := 1) (by decide) ⟨#[120]⟩ (small_str _ (by decide)) true (liveH _ _ _ (by show (2 : Nat) ≠ 0; decide) (by show 1 ≤ (1 : Nat); decide) rfl) (by show (1 : Nat) < 1000000000; decide)
          rw [dropH xB _ 1 true rfl rfl rfl] at hd
          have HD := Lib.hid hd
          clear hd h5
          go_wp2_with fail
          refine HD.out.mono ?_
          rintro e w7 ⟨rfl, hT7, hF7⟩
          have h7 : TabR w7 w1.heap.size tb (stH [] (if k = 0 then ndZ else { (freshN 2 1 ⟨#[]⟩) with links := 0, held := k }) 2) A nb mb := hT7
          rw [if_neg HK0.out] at h7
          have HC7 := Lib.hid (HC.out.trans (hF7.below HC.out.size))
          clear hT7 hF7 HD
          have hg := get_yes h7 (n := 2) (by show (2 : Nat) ≠ 0; decide)
          have hmn : Calls _ _ _ _ (fun e w' => e = .returned (.tuple #[.int .u16 0, .int .i64 (2 : Nat)]) ∧ Below w7.heap.size w7 w') := make_not h7 (i := 2) (by decide) 1 ⟨#[105, 110]⟩ ⟨#[]⟩ (small_str _ (by decide)) 2 (inH _ 2 (fun _ => ⟨rfl, rfl⟩)) (by decide)
          have HMN := Lib.hid hmn
          have H7 := Lib.hid h7
          obtain ⟨g, hgg⟩ : ∃ g, g = nb 2 := ⟨_, rfl⟩
          rw [← hgg] at hg
          have HGG := Lib.hid hgg
          clear hmn h7 hgg
          go_wp2_with fail
          refine hg.mono ?_
          rintro e w8 ⟨rfl, rfl⟩
          clear hg
          go_wp2_with fail
          refine HMN.out.mono ?_
          rintro e w8 ⟨rfl, hb8⟩
          have h8 := H7.out.below hb8
          have HC8 := Lib.hid (HC7.out.trans (hb8.mono HC7.out.size))
          have HT8 := Lib.hid h8
          have hN8 := h8.node 2 (by show (2 : Nat) ≠ 0; decide)
          rw [show nb 2 = g from HGG.out.symm] at hN8
          obtain ⟨dv, HS0⟩ := held_s (K := k) hN8 rfl rfl
          clear hb8 h8 H7 HMN hN8
          obtain ⟨s6, s7, _, _, s5⟩ := HS0 w8 (Below.refl _ _)
          go_wp2_with fail
          try go_quiet (fail)
          try go_wp2_with fail
          go_loopw [125] (fun i wx => ∃ j : Nat, j ≤ k ∧ i = .int .i64 j ∧ Hid (TabR wx w1.heap.size tb (stH [] (if k - j = 0 then ndZ else { { (freshN 2 1 ⟨#[]⟩) with links := 0, held := k } with held := k - j }) 2) A nb mb) ∧ Hid (Below w1.heap.size w1 wx)) (fun i _ => k - (intOf i).toNat)
          case atStart => exact ⟨0, by omega, rfl, by first | exact ⟨Lib.hid (HT8.out.eqT (by rw [if_neg (by have := HK0.out; omega)]; rfl)), HC8.out⟩ | exact ⟨Lib.hid ((HT8.out.below (below_drewN (Below.refl _ _) _)).eqT (by rw [if_neg (by have := HK0.out; omega)]; rfl)), below_drewN HC8.out _⟩⟩
          case round =>
            obtain ⟨j, hj, rfl, HT9, HC9⟩ := hrel
            by_cases hlt : j < k
            · have h9 := HT9.out
              rw [if_neg (by omega)] at h9
              have hg9 := get_yes h9 (n := 2) (by show (2 : Nat) ≠ 0; decide)
              have hh : Calls _ _ _ _ (OneP wr w1.heap.size tb A nb mb (holdF (stH [] { { (freshN 2 1 ⟨#[]⟩) with links := 0, held := k } with held := k - j } 2) 2 false)) := hold_any h9 (n := 2) (by decide) false (by show k - j < 1000000000; omega)
              rw [unholdH _ _ (by show (2 : Nat) ≠ 0; decide) rfl (by show 1 ≤ k - j; omega)] at hh
              have HH := Lib.hid hh
              clear hh h9 HT9
              by_cases ej : j + 1 = k
              · have e1 : ((j : Int) == (k : Int) - 1) = true := by simp; omega
                have EJ := Lib.hid ej
                clear ej
                go_wp2_with fail
                refine hg9.mono ?_
                rintro e w9 ⟨rfl, rfl⟩
                clear hg9
                go_wp2_with fail
                refine HH.out.mono ?_
                rintro e wa ⟨rfl, hTa, hFa⟩
                have hTa : TabR wa w1.heap.size tb (stH [] (if k - j = 1 then ndZ else { { (freshN 2 1 ⟨#[]⟩) with links := 0, held := k } with held := k - j - 1 }) 2) A nb mb := hTa
                rw [if_pos (by have := EJ.out; omega)] at hTa
                have HTa := Lib.hid hTa
                have HCa := Lib.hid (HC9.out.trans (hFa.below HC9.out.size))
                have hga := get_no hTa (n := 2) (by decide) rfl
                clear hTa hFa HH
                go_wp2_with fail
                refine hga.mono ?_
                rintro e w9 ⟨rfl, rfl⟩
                clear hga
                go_wp2
                go_roundw
                case rel => exact ⟨j + 1, by omega, by go_num, Lib.hid (HTa.out.eqT (by rw [if_pos (by have := EJ.out; omega)])), HCa.out⟩
                case measure => simp [intOf]; omega
              · have e1 : ((j : Int) == (k : Int) - 1) = false := by simp; omega
                have EJ := Lib.hid ej
                clear ej
                go_wp2_with fail
                refine hg9.mono ?_
                rintro e w9 ⟨rfl, rfl⟩
                clear hg9
                go_wp2_with fail
                refine HH.out.mono ?_
                rintro e wa ⟨rfl, hTa, hFa⟩
                have hTa : TabR wa w1.heap.size tb (stH [] (if k - j = 1 then ndZ else { { (freshN 2 1 ⟨#[]⟩) with links := 0, held := k } with held := k - j - 1 }) 2) A nb mb := hTa
                rw [if_neg (by have := EJ.out; omega)] at hTa
                have HTa := Lib.hid hTa
                have HCa := Lib.hid (HC9.out.trans (hFa.below HC9.out.size))
                have hga := get_yes hTa (n := 2) (by show (2 : Nat) ≠ 0; decide)
                clear hTa hFa HH
                go_wp2_with fail
                refine hga.mono ?_
                rintro e w9 ⟨rfl, rfl⟩
                clear hga
                go_wp2
                go_roundw
                case rel => exact ⟨j + 1, by omega, by go_num, Lib.hid (HTa.out.eqT (by rw [if_neg (by have := EJ.out; omega), show k - (j + 1) = k - j - 1 from by omega])), HCa.out⟩
                case measure => simp [intOf]; omega
            · obtain rfl : j = k := by omega
              have h9 := HT9.out
              rw [if_pos (by omega)] at h9
              clear HT9 hlt hj
              have hm : Calls _ _ _ _ (MakeP _ w1.heap.size tb (makeF (stH [] ndZ 2) 0 1 yB 1 ⟨#[]⟩)) := make_any h9 (i := 1) (k := 1) (by decide) (by decide) ⟨#[121]⟩ ⟨#[]⟩ (small_str _ (by decide)) (small_str _ (by decide)) (by decide) 0 (fun e => by cases e)
              rw [mkH yB 1 (by decide) 2 (by decide)] at hm
              have HM := Lib.hid hm
              clear hm h9
              go_wp2_with fail
              refine HM.out.mono ?_
              rintro e wa ⟨rfl, ⟨A9, nb9, mb9, hTa⟩, hFa⟩
              have HCa := Lib.hid (HC9.out.trans (hFa.below HC9.out.size))
              have hl : Calls _ _ _ _ (OneP wa w1.heap.size tb A9 nb9 mb9 (holdF (stH [(yB, 2)] (freshN 1 1 ⟨#[]⟩) (2 + 1)) 2 false)) := hold_any hTa (n := 2) (by decide) false (by decide)
              rw [lastH] at hl
              have HL := Lib.hid hl
              clear hl hTa hFa HM
              go_wp2_with fail
              refine HL.out.mono ?_
              rintro e wb ⟨rfl, _, hFb⟩
              have HCb := Lib.hid (HCa.out.trans (hFb.below HCa.out.size))
              clear hFb HL
              go_wp2
              go_ret
              exact ⟨rfl, HB1.out.trans (HCb.out.mono HB1.out.size)⟩
end Go.Proofs.Ytdlglllidolggaa.In
