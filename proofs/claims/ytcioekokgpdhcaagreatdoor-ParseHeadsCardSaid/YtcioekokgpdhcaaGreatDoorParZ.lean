/- ParseHeads: the walk. -/
import Derived.Test.YtcioekokgpdhcaaGreatDoorParY
namespace Go.Proofs.YtcioekokgpdhcaaGreatDoor.Pa
open Go.RowKit Go.WideElems Go.Maps
def headL : List Value := [.string ⟨#[]⟩, .int .i64 0, .int .i64 0, .int .i64 203, .string ⟨#[100, 101, 102, 97, 117, 108, 116, 32, 97, 108, 108, 111, 119, 10]⟩, .int .i64 1, .int .i64 1, .int .i64 203, .string ⟨#[112, 111, 108, 105, 99, 121, 10]⟩, .int .i64 1, .int .i64 7, .int .i64 203, .string ⟨#[112, 111, 108, 105, 99, 121, 32, 97, 44, 98, 10]⟩, .int .i64 1, .int .i64 8, .int .i64 203, .string ⟨#[112, 111, 108, 105, 99, 121, 32, 97, 98, 99, 100, 101, 102, 103, 104, 105, 106, 107, 108, 109, 110, 111, 10]⟩, .int .i64 1, .int .i64 8, .int .i64 202, .string ⟨#[112, 111, 108, 105, 99, 121, 32, 112, 32, 113, 10]⟩, .int .i64 1, .int .i64 10, .int .i64 203, .string ⟨#[112, 111, 108, 105, 99, 121, 32, 112, 10]⟩, .int .i64 0, .int .i64 0, .int .i64 203, .string ⟨#[112, 111, 108, 105, 99, 121, 32, 112, 10, 99, 97, 108, 108, 32, 111, 112, 101, 110, 32, 97, 108, 108, 111, 119, 10]⟩, .int .i64 2, .int .i64 1, .int .i64 203, .string ⟨#[112, 111, 108, 105, 99, 121, 32, 112, 10, 100, 101, 102, 97, 117, 108, 116, 10]⟩, .int .i64 2, .int .i64 8, .int .i64 203, .string ⟨#[112, 111, 108, 105, 99, 121, 32, 112, 10, 100, 101, 102, 97, 117, 108, 116, 32, 110, 111, 10]⟩, .int .i64 2, .int .i64 9, .int .i64 202, .string ⟨#[112, 111, 108, 105, 99, 121, 32, 112, 10, 100, 101, 102, 97, 117, 108, 116, 32, 101, 114, 114, 110, 111, 32, 53, 32, 54, 10]⟩, .int .i64 2, .int .i64 17, .int .i64 203, .string ⟨#[112, 111, 108, 105, 99, 121, 32, 112, 10, 100, 101, 102, 97, 117, 108, 116, 32, 36, 10]⟩, .int .i64 2, .int .i64 9, .int .i64 202]
theorem head_row : ∀ r, r < 12 → ∃ (tx : ByteArray) (l c e : Nat), parsB tx.data.toList = (zP, ⟨l, c, e⟩) ∧ headL[r * 4]? = some (.string tx) ∧ headL[r * 4 + 1]? = some (.int .i64 l) ∧ headL[r * 4 + 2]? = some (.int .i64 c) ∧ headL[r * 4 + 3]? = some (.int .i64 e)
  | 0, _ => ⟨⟨#[]⟩, 0, 0, 203, head_0, rfl, rfl, rfl, rfl⟩
  | 1, _ => ⟨⟨#[100, 101, 102, 97, 117, 108, 116, 32, 97, 108, 108, 111, 119, 10]⟩, 1, 1, 203, head_1, rfl, rfl, rfl, rfl⟩
  | 2, _ => ⟨⟨#[112, 111, 108, 105, 99, 121, 10]⟩, 1, 7, 203, head_2, rfl, rfl, rfl, rfl⟩
  | 3, _ => ⟨⟨#[112, 111, 108, 105, 99, 121, 32, 97, 44, 98, 10]⟩, 1, 8, 203, head_3, rfl, rfl, rfl, rfl⟩
  | 4, _ => ⟨⟨#[112, 111, 108, 105, 99, 121, 32, 97, 98, 99, 100, 101, 102, 103, 104, 105, 106, 107, 108, 109, 110, 111, 10]⟩, 1, 8, 202, head_4, rfl, rfl, rfl, rfl⟩
  | 5, _ => ⟨⟨#[112, 111, 108, 105, 99, 121, 32, 112, 32, 113, 10]⟩, 1, 10, 203, head_5, rfl, rfl, rfl, rfl⟩
  | 6, _ => ⟨⟨#[112, 111, 108, 105, 99, 121, 32, 112, 10]⟩, 0, 0, 203, head_6, rfl, rfl, rfl, rfl⟩
  | 7, _ => ⟨⟨#[112, 111, 108, 105, 99, 121, 32, 112, 10, 99, 97, 108, 108, 32, 111, 112, 101, 110, 32, 97, 108, 108, 111, 119, 10]⟩, 2, 1, 203, head_7, rfl, rfl, rfl, rfl⟩
  | 8, _ => ⟨⟨#[112, 111, 108, 105, 99, 121, 32, 112, 10, 100, 101, 102, 97, 117, 108, 116, 10]⟩, 2, 8, 203, head_8, rfl, rfl, rfl, rfl⟩
  | 9, _ => ⟨⟨#[112, 111, 108, 105, 99, 121, 32, 112, 10, 100, 101, 102, 97, 117, 108, 116, 32, 110, 111, 10]⟩, 2, 9, 202, head_9, rfl, rfl, rfl, rfl⟩
  | 10, _ => ⟨⟨#[112, 111, 108, 105, 99, 121, 32, 112, 10, 100, 101, 102, 97, 117, 108, 116, 32, 101, 114, 114, 110, 111, 32, 53, 32, 54, 10]⟩, 2, 17, 203, head_10, rfl, rfl, rfl, rfl⟩
  | 11, _ => ⟨⟨#[112, 111, 108, 105, 99, 121, 32, 112, 10, 100, 101, 102, 97, 117, 108, 116, 32, 36, 10]⟩, 2, 9, 202, head_11, rfl, rfl, rfl, rfl⟩
  | r + 12, h => absurd h (by omega)
/-- What the parse leaves: its two results laid. -/
def HeadR (w3 : World) (l c er : Nat) (v : Value) (wx : World) : Prop := ∃ g8 : Nat, v = .pointer (some ⟨g8, 0, none⟩) ∧ Hid (Bk wx g8 48 [.int .i64 l, .int .i64 c, .int .i64 er]) ∧ Hid (Below w3.heap.size w3 wx)
theorem heads_end {w3 w : World} {g7 g8 l c er : Nat} {a0 a1 a2 a3 a4 a5 b0 b1 b2 v0 v1 v2 v3 v4 v5 : Value} (h7 : Bk w g7 35 [a0, a1, a2, a3, a4, a5]) (h8 : Bk w g8 48 [b0, b1, b2]) (hne : g7 ≠ g8) (hg7 : w3.heap.size ≤ g7) (hg8 : w3.heap.size ≤ g8) (hb : Below w3.heap.size w3 w) :
    ∃ g, Value.pointer (some ⟨g8, 0, none⟩) = .pointer (some ⟨g, 0, none⟩) ∧ Hid (Bk (((((((((w.setCell ⟨g7, 0, none⟩ v0).setCell ⟨g7, 1, none⟩ v1).setCell ⟨g7, 2, none⟩ v2).setCell ⟨g7, 3, none⟩ v3).setCell ⟨g7, 4, none⟩ v4).setCell ⟨g7, 5, none⟩ v5).setCell ⟨g8, 0, none⟩ (.int .i64 l)).setCell ⟨g8, 1, none⟩ (.int .i64 c)).setCell ⟨g8, 2, none⟩ (.int .i64 er)) g 48 [.int .i64 l, .int .i64 c, .int .i64 er]) ∧
      Hid (Below w3.heap.size w3 (((((((((w.setCell ⟨g7, 0, none⟩ v0).setCell ⟨g7, 1, none⟩ v1).setCell ⟨g7, 2, none⟩ v2).setCell ⟨g7, 3, none⟩ v3).setCell ⟨g7, 4, none⟩ v4).setCell ⟨g7, 5, none⟩ v5).setCell ⟨g8, 0, none⟩ (.int .i64 l)).setCell ⟨g8, 1, none⟩ (.int .i64 c)).setCell ⟨g8, 2, none⟩ (.int .i64 er))) :=
  ⟨g8, rfl, (both_a h7 h8 hne v0 v1 v2 v3 v4 v5 (.int .i64 l) (.int .i64 c) (.int .i64 er)).2, (hb.grown (set6_grown w g7 v0 v1 v2 v3 v4 v5) hb.size (fun g e => by cases e; exact hg7)).grown (set3_grown _ g8 _ _ _) (Nat.le_trans hb.size (set6_grown w g7 v0 v1 v2 v3 v4 v5).size) (fun g e => by cases e; exact hg8)⟩
set_option maxHeartbeats 16000000 in
set_option maxRecDepth 100000 in
theorem walk_heads (k : Nat) (hk : k < 256) (s : ByteArray) (w : World) (hG : G w) : Calls Tryz.prog 6 #[.int .u8 k, .string s] w fun e w' => e = .returned (.bool true) ∧ Below w.heap.size w w' := by
  have Ha := Lib.hid (awake_any w hG)
  have HG := Lib.hid hG
  clear hG
  go_enter Tryz.func6, Tryz.ntmps6
  go_wp2_with fail
  refine Ha.out.mono ?_
  clear Ha
  rintro e w1 ⟨rfl, hb⟩
  have HB := Lib.hid hb
  have HG := Lib.hid (HG.out.kept hb)
  clear hb
  by_cases hl : 100 < s.size
  · go_wp2_with fail
    go_ret
    exact ⟨rfl, HB.out⟩
  · go_upto_region 6 with fail
    generalize hw2 : w1.alloc _ = w2
    have hk2 : ∃ t, Bk w2 w1.heap.size t headL := by subst hw2; exact ⟨_, Bk.new w1 _ _ rfl⟩
    have hb2 : Below w1.heap.size w1 w2 := by subst hw2; exact oneb w1 _
    clear hw2
    obtain ⟨ty, hk2⟩ := hk2
    obtain ⟨tx, l, c, er, hp, h0, h1, h2, h3⟩ := head_row (k % 12) (by omega)
    have HB := Lib.hid (HB.out.trans (hb2.mono HB.out.size))
    have HG := Lib.hid (HG.out.kept hb2)
    have x0 := hk2.cell _ h0
    have x1 := hk2.cell _ h1
    have x2 := hk2.cell _ h2
    have x3 := hk2.cell _ h3
    have xl := hk2.lt
    have HP := Lib.hid hp
    clear h0 h1 h2 h3 hk2 hp hb2
    go_wp2_with fail
    clear x0 x1 x2 x3 xl
    generalize hw3 : w2.alloc _ = w3
    have hk3 : ∃ t, Bk w3 w2.heap.size t [.string tx, .int .i64 l, .int .i64 c, .int .i64 er] := by subst hw3; exact ⟨_, Bk.new w2 _ _ rfl⟩
    have hb3 : Below w2.heap.size w2 w3 := by subst hw3; exact oneb w2 _
    clear hw3
    obtain ⟨ty3, hk3⟩ := hk3
    have hgl := hk3.lt
    have HB0 := Lib.hid (HB.out.trans (hb3.mono HB.out.size))
    have HK3 := Lib.hid hk3
    have hGd := (HG.out.kept hb3).kept (Below.refl w3.heap.size w3).drew
    have hHd := (Below.refl w3.heap.size w3).drew
    have hc0 := (hk3.drew).cell 0 rfl
    clear HB HG hb3 hk3
    generalize w2.heap.size = g at hgl HK3 hc0 ⊢
    go_cut [8] from 9 to 77 (fun v wx => HeadR w3 l c er v wx)
    case first =>
      refine wp_region_held_drew (S := fun w' => w'.cell? ⟨g, 0, none⟩ = some (.string tx)) (by kernel_rfl) ?_ (fun hHeld0 => ?_)
      · exact hc0
      generalize w3.drew = vh0 at hHeld0 hGd hHd hc0 ⊢
      have HB := Lib.hid hHd
      have HGx := Lib.hid hGd
      clear hGd hHd hc0
      refine wpAnyH_take (i := 1) (v := ?_) (by first | (simp only [List.getElem?_toArray, List.getElem?_cons_succ, List.getElem?_cons_zero] <;> rfl) | rfl) (by kernel_rfl) (by kernel_rfl) (by kernel_rfl) (by exact fun _ _ _ h => h) (Or.inl ⟨by rfl, ?_⟩) hHeld0 ?_
      rotate_left 1
      · intro w hSw
        try dsimp only at hSw
        (go_simp) <;> (with_reducible rfl)
      try simp only [Act.put, List.setIfInBounds_toArray, List.set_cons_zero, List.set_cons_succ]
      refine wpAnyH_take (i := 2) (v := ?_) (by first | (simp only [List.getElem?_toArray, List.getElem?_cons_succ, List.getElem?_cons_zero] <;> rfl) | rfl) (by kernel_rfl) (by kernel_rfl) (by kernel_rfl) (by exact fun _ _ _ h => h) (Or.inl ⟨by rfl, ?_⟩) hHeld0 ?_
      rotate_left 1
      · intro w hSw
        try dsimp only at hSw
        (go_simp) <;> (with_reducible rfl)
      try simp only [Act.put, List.setIfInBounds_toArray, List.set_cons_zero, List.set_cons_succ]
      refine wpAnyH_ready (rs := [0, 7, 8]) (by kernel_rfl) (by simp) ?_
      refine AllReadyH.cons (by first | (simp only [List.getElem?_toArray, List.getElem?_cons_zero] <;> rfl) | rfl) (fun K hK => ?_) ?_
      · go_simp
        refine (parseNew_any _).mono ?_
        rintro e vh1 ⟨pb, tb, qa, rfl, hP, hbb, hpb, htb⟩
        refine hK.out _ _ ?_ (fun hHeld1 => ?_)
        · exact cell_below hHeld0 hbb
        clear hK K
        first | (clear n0 nz0 n1 nz1 n2 nz2 n3 nz3 n4 nz4 n5 nz5 nl) | skip
        first | (clear m0 mz0 m1 mz1 m2 mz2 ml) | skip
        have HPr := Lib.hid hP
        have HTb := Lib.hid (show w3.heap.size ≤ tb from Nat.le_trans HB.out.size htb)
        have HB := Lib.hid (HB.out.trans (hbb.mono HB.out.size))
        have HGx := Lib.hid (HGx.out.kept hbb)
        first | (have HN7 := Lib.hid (HN7.out.kept hbb)) | skip
        first | (have HN8 := Lib.hid (HN8.out.kept hbb)) | skip
        clear hP hbb hpb htb hHeld0
        first | (have n0 := HN7.out.cell 0 rfl; have nz0 := HN7.out.fz 0; have n1 := HN7.out.cell 1 rfl; have nz1 := HN7.out.fz 1; have n2 := HN7.out.cell 2 rfl; have nz2 := HN7.out.fz 2; have n3 := HN7.out.cell 3 rfl; have nz3 := HN7.out.fz 3; have n4 := HN7.out.cell 4 rfl; have nz4 := HN7.out.fz 4; have n5 := HN7.out.cell 5 rfl; have nz5 := HN7.out.fz 5; have nl := HN7.out.lt) | skip
        first | (have m0 := HN8.out.cell 0 rfl; have mz0 := HN8.out.fz 0; have m1 := HN8.out.cell 1 rfl; have mz1 := HN8.out.fz 1; have m2 := HN8.out.cell 2 rfl; have mz2 := HN8.out.fz 2; have ml := HN8.out.lt) | skip
        first | (have hne := HN7.out.tyb.ne HN8.out.tyb (by decide); have hne2 : g8 ≠ g7 := Ne.symm hne) | skip
        try simp only [Act.put, List.setIfInBounds_toArray, List.set_cons_zero, List.set_cons_succ]
        refine wpAnyH_ready (rs := [3, 7, 8]) (by kernel_rfl) (by simp) ?_
        refine AllReadyH.cons (by first | (simp only [List.getElem?_toArray, List.getElem?_cons_succ, List.getElem?_cons_zero] <;> rfl) | rfl) (fun K hK => ?_) ?_
        · go_simp
          have hp := parse_any tx pb tb 0 qa _ HPr.out HGx.out (by omega)
          rw [HP.out] at hp
          refine hp.mono ?_
          clear hp
          rintro e vh2 ⟨⟨nm, d, hd, rv, bv, qv, rs, pt, po⟩, rfl, hTm, hPT, hTS, hgr, -⟩
          simp only [TV.m, zP, PolM.mk.injEq, List.map_eq_nil_iff] at hTm
          obtain ⟨rfl, rfl, rfl, rfl, rfl, rfl⟩ := hTm
          obtain ⟨A4, v4, hrv, -, -, -⟩ := own_typed hPT.r
          obtain ⟨A5, v5, hbv, -, -, -⟩ := own_typed hPT.p
          obtain ⟨A6, v6, hqv, -, -, -⟩ := own_typed hPT.q
          simp only at hrv hbv hqv
          subst hrv hbv hqv
          simp only [TV.l, wrl]
          refine hK.out _ _ ?_ (fun hHeld2 => ?_)
          · exact cell_grow hHeld1 hgr (by have := HTb.out; omega)
          clear hK K
          first | (clear n0 nz0 n1 nz1 n2 nz2 n3 nz3 n4 nz4 n5 nz5 nl) | skip
          first | (clear m0 mz0 m1 mz1 m2 mz2 ml) | skip
          have HB := Lib.hid (below_tab HB.out hgr HTb.out)
          first | (have HN7 := Lib.hid (HN7.out.grown hgr (by intro e; exact (HN7.out.tyb.ne (TS.tyb HPr.out.ts) (by decide)) (Option.some.inj e)))) | skip
          first | (have HN8 := Lib.hid (HN8.out.grown hgr (by intro e; exact (HN8.out.tyb.ne (TS.tyb HPr.out.ts) (by decide)) (Option.some.inj e)))) | skip
          clear hPT hTS hgr hHeld1 HPr HTb HGx
          first | (have n0 := HN7.out.cell 0 rfl; have nz0 := HN7.out.fz 0; have n1 := HN7.out.cell 1 rfl; have nz1 := HN7.out.fz 1; have n2 := HN7.out.cell 2 rfl; have nz2 := HN7.out.fz 2; have n3 := HN7.out.cell 3 rfl; have nz3 := HN7.out.fz 3; have n4 := HN7.out.cell 4 rfl; have nz4 := HN7.out.fz 4; have n5 := HN7.out.cell 5 rfl; have nz5 := HN7.out.fz 5; have nl := HN7.out.lt) | skip
          first | (have m0 := HN8.out.cell 0 rfl; have mz0 := HN8.out.fz 0; have m1 := HN8.out.cell 1 rfl; have mz1 := HN8.out.fz 1; have m2 := HN8.out.cell 2 rfl; have mz2 := HN8.out.fz 2; have ml := HN8.out.lt) | skip
          first | (have hne := HN7.out.tyb.ne HN8.out.tyb (by decide); have hne2 : g8 ≠ g7 := Ne.symm hne) | skip
          try simp only [Act.put, List.setIfInBounds_toArray, List.set_cons_zero, List.set_cons_succ]
          refine wpAnyH_take (i := 4) (v := ?_) (by first | (simp only [List.getElem?_toArray, List.getElem?_cons_succ, List.getElem?_cons_zero] <;> rfl) | rfl) (by kernel_rfl) (by kernel_rfl) (by kernel_rfl) (by exact fun _ _ _ h => h) (Or.inl ⟨by rfl, ?_⟩) hHeld2 ?_
          rotate_left 1
          · intro w hSw
            try dsimp only at hSw
            (go_simp) <;> (with_reducible rfl)
          try simp only [Act.put, List.setIfInBounds_toArray, List.set_cons_zero, List.set_cons_succ]
          refine wpAnyH_take (i := 5) (v := ?_) (by first | (simp only [List.getElem?_toArray, List.getElem?_cons_succ, List.getElem?_cons_zero] <;> rfl) | rfl) (by kernel_rfl) (by kernel_rfl) (by kernel_rfl) (by exact fun _ _ _ h => h) (Or.inl ⟨by rfl, ?_⟩) hHeld2 ?_
          rotate_left 1
          · intro w hSw
            try dsimp only at hSw
            (go_simp) <;> (with_reducible rfl)
          try simp only [Act.put, List.setIfInBounds_toArray, List.set_cons_zero, List.set_cons_succ]
          refine wpAnyH_take (i := 6) (v := ?_) (by first | (simp only [List.getElem?_toArray, List.getElem?_cons_succ, List.getElem?_cons_zero] <;> rfl) | rfl) (by kernel_rfl) (by kernel_rfl) (by kernel_rfl) (by exact fun _ _ _ h => h) (Or.inl ⟨by rfl, ?_⟩) hHeld2 ?_
          rotate_left 1
          · intro w hSw
            try dsimp only at hSw
            (go_simp) <;> (with_reducible rfl)
          try simp only [Act.put, List.setIfInBounds_toArray, List.set_cons_zero, List.set_cons_succ]
          refine wpAnyH_ready (rs := [7, 8]) (by kernel_rfl) (by simp) ?_
          refine AllReadyH.cons (by first | (simp only [List.getElem?_toArray, List.getElem?_cons_succ, List.getElem?_cons_zero] <;> rfl) | rfl) (fun K hK => ?_) ?_
          · go_simp
            refine hK.out _ _ ?_ (fun hHeld3 => ?_)
            · exact cell_below hHeld2 (oneb _ _)
            clear hK K
            first | (clear n0 nz0 n1 nz1 n2 nz2 n3 nz3 n4 nz4 n5 nz5 nl) | skip
            first | (clear m0 mz0 m1 mz1 m2 mz2 ml) | skip
            have hbb := oneb vh2 (.cells #[.string ⟨#[]⟩, .int .u32 0, .slice none 0 0, .int .u16 0, .slice none 0 0, .slice none 0 0] 35)
            have hN := Bk.new vh2 35 #[.string ⟨#[]⟩, .int .u32 0, .slice none 0 0, .int .u16 0, .slice none 0 0, .slice none 0 0] (l := [.string ⟨#[]⟩, .int .u32 0, .slice none 0 0, .int .u16 0, .slice none 0 0, .slice none 0 0]) rfl
            have hge := HB.out.size
            generalize World.alloc vh2 _ = vh3 at hbb hN hHeld3 ⊢
            have HB := Lib.hid (HB.out.trans (hbb.mono HB.out.size))
            first | (have HPr := Lib.hid (HPr.out.kept hbb); have HGx := Lib.hid (HGx.out.kept hbb)) | (have HGx := Lib.hid (HGx.out.kept hbb)) | skip
            first | (have HN7 := Lib.hid (HN7.out.kept hbb)) | skip
            first | (have HN8 := Lib.hid (HN8.out.kept hbb)) | skip
            generalize vh2.heap.size = g7 at hN hge ⊢
            have HN7 := Lib.hid hN
            have HG7 := Lib.hid hge
            clear hbb hN hge hHeld2
            first | (have n0 := HN7.out.cell 0 rfl; have nz0 := HN7.out.fz 0; have n1 := HN7.out.cell 1 rfl; have nz1 := HN7.out.fz 1; have n2 := HN7.out.cell 2 rfl; have nz2 := HN7.out.fz 2; have n3 := HN7.out.cell 3 rfl; have nz3 := HN7.out.fz 3; have n4 := HN7.out.cell 4 rfl; have nz4 := HN7.out.fz 4; have n5 := HN7.out.cell 5 rfl; have nz5 := HN7.out.fz 5; have nl := HN7.out.lt) | skip
            first | (have m0 := HN8.out.cell 0 rfl; have mz0 := HN8.out.fz 0; have m1 := HN8.out.cell 1 rfl; have mz1 := HN8.out.fz 1; have m2 := HN8.out.cell 2 rfl; have mz2 := HN8.out.fz 2; have ml := HN8.out.lt) | skip
            first | (have hne := HN7.out.tyb.ne HN8.out.tyb (by decide); have hne2 : g8 ≠ g7 := Ne.symm hne) | skip
            try simp only [Act.put, List.setIfInBounds_toArray, List.set_cons_zero, List.set_cons_succ]
            refine wpAnyH_ready (rs := [8]) (by kernel_rfl) (by simp) ?_
            refine AllReadyH.cons (by first | (simp only [List.getElem?_toArray, List.getElem?_cons_succ, List.getElem?_cons_zero] <;> rfl) | rfl) (fun K hK => ?_) ?_
            · go_simp
              refine hK.out _ _ ?_ (fun hHeld4 => ?_)
              · exact cell_below hHeld3 (oneb _ _)
              clear hK K
              first | (clear n0 nz0 n1 nz1 n2 nz2 n3 nz3 n4 nz4 n5 nz5 nl) | skip
              first | (clear m0 mz0 m1 mz1 m2 mz2 ml) | skip
              have hbb := oneb vh3 (.cells #[.int .i64 0, .int .i64 0, .int .i64 0] 48)
              have hN := Bk.new vh3 48 #[.int .i64 0, .int .i64 0, .int .i64 0] (l := [.int .i64 0, .int .i64 0, .int .i64 0]) rfl
              have hge := HB.out.size
              generalize World.alloc vh3 _ = vh4 at hbb hN hHeld4 ⊢
              have HB := Lib.hid (HB.out.trans (hbb.mono HB.out.size))
              first | (have HPr := Lib.hid (HPr.out.kept hbb); have HGx := Lib.hid (HGx.out.kept hbb)) | (have HGx := Lib.hid (HGx.out.kept hbb)) | skip
              first | (have HN7 := Lib.hid (HN7.out.kept hbb)) | skip
              first | (have HN8 := Lib.hid (HN8.out.kept hbb)) | skip
              generalize vh3.heap.size = g8 at hN hge ⊢
              have HN8 := Lib.hid hN
              have HG8 := Lib.hid hge
              clear hbb hN hge hHeld3
              first | (have n0 := HN7.out.cell 0 rfl; have nz0 := HN7.out.fz 0; have n1 := HN7.out.cell 1 rfl; have nz1 := HN7.out.fz 1; have n2 := HN7.out.cell 2 rfl; have nz2 := HN7.out.fz 2; have n3 := HN7.out.cell 3 rfl; have nz3 := HN7.out.fz 3; have n4 := HN7.out.cell 4 rfl; have nz4 := HN7.out.fz 4; have n5 := HN7.out.cell 5 rfl; have nz5 := HN7.out.fz 5; have nl := HN7.out.lt) | skip
              first | (have m0 := HN8.out.cell 0 rfl; have mz0 := HN8.out.fz 0; have m1 := HN8.out.cell 1 rfl; have mz1 := HN8.out.fz 1; have m2 := HN8.out.cell 2 rfl; have mz2 := HN8.out.fz 2; have ml := HN8.out.lt) | skip
              first | (have hne := HN7.out.tyb.ne HN8.out.tyb (by decide); have hne2 : g8 ≠ g7 := Ne.symm hne) | skip
              try simp only [Act.put, List.setIfInBounds_toArray, List.set_cons_zero, List.set_cons_succ]
              refine wpAnyH_ready (rs := [9]) (by kernel_rfl) (by simp) ?_
              refine AllReadyH.cons (by first | (simp only [List.getElem?_toArray, List.getElem?_cons_succ, List.getElem?_cons_zero] <;> rfl) | rfl) (fun K hK => ?_) ?_
              · go_simp
                refine hK.out _ _ ?_ (fun hHeld5 => ?_)
                · exact cell_grow hHeld4 (set6_grown _ _ _ _ _ _ _ _) (by have := HG7.out; omega)
                clear hK K
                try simp only [Act.put, List.setIfInBounds_toArray, List.set_cons_zero, List.set_cons_succ]
                refine wpAnyH_ready (rs := [10]) (by kernel_rfl) (by simp) ?_
                refine AllReadyH.cons (by first | (simp only [List.getElem?_toArray, List.getElem?_cons_succ, List.getElem?_cons_zero] <;> rfl) | rfl) (fun K hK => ?_) ?_
                · go_simp
                  refine hK.out _ _ ?_ (fun hHeld6 => ?_)
                  · exact cell_grow (cell_grow hHeld4 (set6_grown _ _ _ _ _ _ _ _) (by have := HG7.out; omega)) (set3_grown _ _ _ _ _) (by have := HG8.out; omega)
                  clear hK K
                  try simp only [Act.put, List.setIfInBounds_toArray, List.set_cons_zero, List.set_cons_succ]
                  refine wpAnyH_done (by kernel_rfl) ?_ _
                  clear n0 nz0 n1 nz1 n2 nz2 n3 nz3 n4 nz4 n5 nz5 nl m0 mz0 m1 mz1 m2 mz2 ml
                  go_wp2_with fail
                  go_meet
                  case rel =>
                    exact heads_end HN7.out HN8.out hne HG7.out HG8.out HB.out
                exact AllReadyH.nil
              exact AllReadyH.nil
            exact AllReadyH.nil
          refine AllReadyH.cons (by first | (simp only [List.getElem?_toArray, List.getElem?_cons_succ, List.getElem?_cons_zero] <;> rfl) | rfl) (fun K hK => ?_) ?_
          · go_simp
            refine hK.out _ _ ?_ (fun hHeld3 => ?_)
            · exact cell_below hHeld2 (oneb _ _)
            clear hK K
            first | (clear n0 nz0 n1 nz1 n2 nz2 n3 nz3 n4 nz4 n5 nz5 nl) | skip
            first | (clear m0 mz0 m1 mz1 m2 mz2 ml) | skip
            have hbb := oneb vh2 (.cells #[.int .i64 0, .int .i64 0, .int .i64 0] 48)
            have hN := Bk.new vh2 48 #[.int .i64 0, .int .i64 0, .int .i64 0] (l := [.int .i64 0, .int .i64 0, .int .i64 0]) rfl
            have hge := HB.out.size
            generalize World.alloc vh2 _ = vh3 at hbb hN hHeld3 ⊢
            have HB := Lib.hid (HB.out.trans (hbb.mono HB.out.size))
            first | (have HPr := Lib.hid (HPr.out.kept hbb); have HGx := Lib.hid (HGx.out.kept hbb)) | (have HGx := Lib.hid (HGx.out.kept hbb)) | skip
            first | (have HN7 := Lib.hid (HN7.out.kept hbb)) | skip
            first | (have HN8 := Lib.hid (HN8.out.kept hbb)) | skip
            generalize vh2.heap.size = g8 at hN hge ⊢
            have HN8 := Lib.hid hN
            have HG8 := Lib.hid hge
            clear hbb hN hge hHeld2
            first | (have n0 := HN7.out.cell 0 rfl; have nz0 := HN7.out.fz 0; have n1 := HN7.out.cell 1 rfl; have nz1 := HN7.out.fz 1; have n2 := HN7.out.cell 2 rfl; have nz2 := HN7.out.fz 2; have n3 := HN7.out.cell 3 rfl; have nz3 := HN7.out.fz 3; have n4 := HN7.out.cell 4 rfl; have nz4 := HN7.out.fz 4; have n5 := HN7.out.cell 5 rfl; have nz5 := HN7.out.fz 5; have nl := HN7.out.lt) | skip
            first | (have m0 := HN8.out.cell 0 rfl; have mz0 := HN8.out.fz 0; have m1 := HN8.out.cell 1 rfl; have mz1 := HN8.out.fz 1; have m2 := HN8.out.cell 2 rfl; have mz2 := HN8.out.fz 2; have ml := HN8.out.lt) | skip
            first | (have hne := HN7.out.tyb.ne HN8.out.tyb (by decide); have hne2 : g8 ≠ g7 := Ne.symm hne) | skip
            try simp only [Act.put, List.setIfInBounds_toArray, List.set_cons_zero, List.set_cons_succ]
            refine wpAnyH_ready (rs := [7]) (by kernel_rfl) (by simp) ?_
            refine AllReadyH.cons (by first | (simp only [List.getElem?_toArray, List.getElem?_cons_succ, List.getElem?_cons_zero] <;> rfl) | rfl) (fun K hK => ?_) ?_
            · go_simp
              refine hK.out _ _ ?_ (fun hHeld4 => ?_)
              · exact cell_below hHeld3 (oneb _ _)
              clear hK K
              first | (clear n0 nz0 n1 nz1 n2 nz2 n3 nz3 n4 nz4 n5 nz5 nl) | skip
              first | (clear m0 mz0 m1 mz1 m2 mz2 ml) | skip
              have hbb := oneb vh3 (.cells #[.string ⟨#[]⟩, .int .u32 0, .slice none 0 0, .int .u16 0, .slice none 0 0, .slice none 0 0] 35)
              have hN := Bk.new vh3 35 #[.string ⟨#[]⟩, .int .u32 0, .slice none 0 0, .int .u16 0, .slice none 0 0, .slice none 0 0] (l := [.string ⟨#[]⟩, .int .u32 0, .slice none 0 0, .int .u16 0, .slice none 0 0, .slice none 0 0]) rfl
              have hge := HB.out.size
              generalize World.alloc vh3 _ = vh4 at hbb hN hHeld4 ⊢
              have HB := Lib.hid (HB.out.trans (hbb.mono HB.out.size))
              first | (have HPr := Lib.hid (HPr.out.kept hbb); have HGx := Lib.hid (HGx.out.kept hbb)) | (have HGx := Lib.hid (HGx.out.kept hbb)) | skip
              first | (have HN7 := Lib.hid (HN7.out.kept hbb)) | skip
              first | (have HN8 := Lib.hid (HN8.out.kept hbb)) | skip
              generalize vh3.heap.size = g7 at hN hge ⊢
              have HN7 := Lib.hid hN
              have HG7 := Lib.hid hge
              clear hbb hN hge hHeld3
              first | (have n0 := HN7.out.cell 0 rfl; have nz0 := HN7.out.fz 0; have n1 := HN7.out.cell 1 rfl; have nz1 := HN7.out.fz 1; have n2 := HN7.out.cell 2 rfl; have nz2 := HN7.out.fz 2; have n3 := HN7.out.cell 3 rfl; have nz3 := HN7.out.fz 3; have n4 := HN7.out.cell 4 rfl; have nz4 := HN7.out.fz 4; have n5 := HN7.out.cell 5 rfl; have nz5 := HN7.out.fz 5; have nl := HN7.out.lt) | skip
              first | (have m0 := HN8.out.cell 0 rfl; have mz0 := HN8.out.fz 0; have m1 := HN8.out.cell 1 rfl; have mz1 := HN8.out.fz 1; have m2 := HN8.out.cell 2 rfl; have mz2 := HN8.out.fz 2; have ml := HN8.out.lt) | skip
              first | (have hne := HN7.out.tyb.ne HN8.out.tyb (by decide); have hne2 : g8 ≠ g7 := Ne.symm hne) | skip
              try simp only [Act.put, List.setIfInBounds_toArray, List.set_cons_zero, List.set_cons_succ]
              refine wpAnyH_ready (rs := [9]) (by kernel_rfl) (by simp) ?_
              refine AllReadyH.cons (by first | (simp only [List.getElem?_toArray, List.getElem?_cons_succ, List.getElem?_cons_zero] <;> rfl) | rfl) (fun K hK => ?_) ?_
              · go_simp
                refine hK.out _ _ ?_ (fun hHeld5 => ?_)
                · exact cell_grow hHeld4 (set6_grown _ _ _ _ _ _ _ _) (by have := HG7.out; omega)
                clear hK K
                try simp only [Act.put, List.setIfInBounds_toArray, List.set_cons_zero, List.set_cons_succ]
                refine wpAnyH_ready (rs := [10]) (by kernel_rfl) (by simp) ?_
                refine AllReadyH.cons (by first | (simp only [List.getElem?_toArray, List.getElem?_cons_succ, List.getElem?_cons_zero] <;> rfl) | rfl) (fun K hK => ?_) ?_
                · go_simp
                  refine hK.out _ _ ?_ (fun hHeld6 => ?_)
                  · exact cell_grow (cell_grow hHeld4 (set6_grown _ _ _ _ _ _ _ _) (by have := HG7.out; omega)) (set3_grown _ _ _ _ _) (by have := HG8.out; omega)
                  clear hK K
                  try simp only [Act.put, List.setIfInBounds_toArray, List.set_cons_zero, List.set_cons_succ]
                  refine wpAnyH_done (by kernel_rfl) ?_ _
                  clear n0 nz0 n1 nz1 n2 nz2 n3 nz3 n4 nz4 n5 nz5 nl m0 mz0 m1 mz1 m2 mz2 ml
                  go_wp2_with fail
                  go_meet
                  case rel =>
                    exact heads_end HN7.out HN8.out hne HG7.out HG8.out HB.out
                exact AllReadyH.nil
              exact AllReadyH.nil
            exact AllReadyH.nil
          exact AllReadyH.nil
        refine AllReadyH.cons (by first | (simp only [List.getElem?_toArray, List.getElem?_cons_succ, List.getElem?_cons_zero] <;> rfl) | rfl) (fun K hK => ?_) ?_
        · go_simp
          refine hK.out _ _ ?_ (fun hHeld2 => ?_)
          · exact cell_below hHeld1 (oneb _ _)
          clear hK K
          first | (clear n0 nz0 n1 nz1 n2 nz2 n3 nz3 n4 nz4 n5 nz5 nl) | skip
          first | (clear m0 mz0 m1 mz1 m2 mz2 ml) | skip
          have hbb := oneb vh1 (.cells #[.string ⟨#[]⟩, .int .u32 0, .slice none 0 0, .int .u16 0, .slice none 0 0, .slice none 0 0] 35)
          have hN := Bk.new vh1 35 #[.string ⟨#[]⟩, .int .u32 0, .slice none 0 0, .int .u16 0, .slice none 0 0, .slice none 0 0] (l := [.string ⟨#[]⟩, .int .u32 0, .slice none 0 0, .int .u16 0, .slice none 0 0, .slice none 0 0]) rfl
          have hge := HB.out.size
          generalize World.alloc vh1 _ = vh2 at hbb hN hHeld2 ⊢
          have HB := Lib.hid (HB.out.trans (hbb.mono HB.out.size))
          first | (have HPr := Lib.hid (HPr.out.kept hbb); have HGx := Lib.hid (HGx.out.kept hbb)) | (have HGx := Lib.hid (HGx.out.kept hbb)) | skip
          first | (have HN7 := Lib.hid (HN7.out.kept hbb)) | skip
          first | (have HN8 := Lib.hid (HN8.out.kept hbb)) | skip
          generalize vh1.heap.size = g7 at hN hge ⊢
          have HN7 := Lib.hid hN
          have HG7 := Lib.hid hge
          clear hbb hN hge hHeld1
          first | (have n0 := HN7.out.cell 0 rfl; have nz0 := HN7.out.fz 0; have n1 := HN7.out.cell 1 rfl; have nz1 := HN7.out.fz 1; have n2 := HN7.out.cell 2 rfl; have nz2 := HN7.out.fz 2; have n3 := HN7.out.cell 3 rfl; have nz3 := HN7.out.fz 3; have n4 := HN7.out.cell 4 rfl; have nz4 := HN7.out.fz 4; have n5 := HN7.out.cell 5 rfl; have nz5 := HN7.out.fz 5; have nl := HN7.out.lt) | skip
          first | (have m0 := HN8.out.cell 0 rfl; have mz0 := HN8.out.fz 0; have m1 := HN8.out.cell 1 rfl; have mz1 := HN8.out.fz 1; have m2 := HN8.out.cell 2 rfl; have mz2 := HN8.out.fz 2; have ml := HN8.out.lt) | skip
          first | (have hne := HN7.out.tyb.ne HN8.out.tyb (by decide); have hne2 : g8 ≠ g7 := Ne.symm hne) | skip
          try simp only [Act.put, List.setIfInBounds_toArray, List.set_cons_zero, List.set_cons_succ]
          refine wpAnyH_ready (rs := [3, 8]) (by kernel_rfl) (by simp) ?_
          refine AllReadyH.cons (by first | (simp only [List.getElem?_toArray, List.getElem?_cons_succ, List.getElem?_cons_zero] <;> rfl) | rfl) (fun K hK => ?_) ?_
          · go_simp
            have hp := parse_any tx pb tb 0 qa _ HPr.out HGx.out (by omega)
            rw [HP.out] at hp
            refine hp.mono ?_
            clear hp
            rintro e vh3 ⟨⟨nm, d, hd, rv, bv, qv, rs, pt, po⟩, rfl, hTm, hPT, hTS, hgr, -⟩
            simp only [TV.m, zP, PolM.mk.injEq, List.map_eq_nil_iff] at hTm
            obtain ⟨rfl, rfl, rfl, rfl, rfl, rfl⟩ := hTm
            obtain ⟨A4, v4, hrv, -, -, -⟩ := own_typed hPT.r
            obtain ⟨A5, v5, hbv, -, -, -⟩ := own_typed hPT.p
            obtain ⟨A6, v6, hqv, -, -, -⟩ := own_typed hPT.q
            simp only at hrv hbv hqv
            subst hrv hbv hqv
            simp only [TV.l, wrl]
            refine hK.out _ _ ?_ (fun hHeld3 => ?_)
            · exact cell_grow hHeld2 hgr (by have := HTb.out; omega)
            clear hK K
            first | (clear n0 nz0 n1 nz1 n2 nz2 n3 nz3 n4 nz4 n5 nz5 nl) | skip
            first | (clear m0 mz0 m1 mz1 m2 mz2 ml) | skip
            have HB := Lib.hid (below_tab HB.out hgr HTb.out)
            first | (have HN7 := Lib.hid (HN7.out.grown hgr (by intro e; exact (HN7.out.tyb.ne (TS.tyb HPr.out.ts) (by decide)) (Option.some.inj e)))) | skip
            first | (have HN8 := Lib.hid (HN8.out.grown hgr (by intro e; exact (HN8.out.tyb.ne (TS.tyb HPr.out.ts) (by decide)) (Option.some.inj e)))) | skip
            clear hPT hTS hgr hHeld2 HPr HTb HGx
            first | (have n0 := HN7.out.cell 0 rfl; have nz0 := HN7.out.fz 0; have n1 := HN7.out.cell 1 rfl; have nz1 := HN7.out.fz 1; have n2 := HN7.out.cell 2 rfl; have nz2 := HN7.out.fz 2; have n3 := HN7.out.cell 3 rfl; have nz3 := HN7.out.fz 3; have n4 := HN7.out.cell 4 rfl; have nz4 := HN7.out.fz 4; have n5 := HN7.out.cell 5 rfl; have nz5 := HN7.out.fz 5; have nl := HN7.out.lt) | skip
            first | (have m0 := HN8.out.cell 0 rfl; have mz0 := HN8.out.fz 0; have m1 := HN8.out.cell 1 rfl; have mz1 := HN8.out.fz 1; have m2 := HN8.out.cell 2 rfl; have mz2 := HN8.out.fz 2; have ml := HN8.out.lt) | skip
            first | (have hne := HN7.out.tyb.ne HN8.out.tyb (by decide); have hne2 : g8 ≠ g7 := Ne.symm hne) | skip
            try simp only [Act.put, List.setIfInBounds_toArray, List.set_cons_zero, List.set_cons_succ]
            refine wpAnyH_take (i := 4) (v := ?_) (by first | (simp only [List.getElem?_toArray, List.getElem?_cons_succ, List.getElem?_cons_zero] <;> rfl) | rfl) (by kernel_rfl) (by kernel_rfl) (by kernel_rfl) (by exact fun _ _ _ h => h) (Or.inl ⟨by rfl, ?_⟩) hHeld3 ?_
            rotate_left 1
            · intro w hSw
              try dsimp only at hSw
              (go_simp) <;> (with_reducible rfl)
            try simp only [Act.put, List.setIfInBounds_toArray, List.set_cons_zero, List.set_cons_succ]
            refine wpAnyH_take (i := 5) (v := ?_) (by first | (simp only [List.getElem?_toArray, List.getElem?_cons_succ, List.getElem?_cons_zero] <;> rfl) | rfl) (by kernel_rfl) (by kernel_rfl) (by kernel_rfl) (by exact fun _ _ _ h => h) (Or.inl ⟨by rfl, ?_⟩) hHeld3 ?_
            rotate_left 1
            · intro w hSw
              try dsimp only at hSw
              (go_simp) <;> (with_reducible rfl)
            try simp only [Act.put, List.setIfInBounds_toArray, List.set_cons_zero, List.set_cons_succ]
            refine wpAnyH_take (i := 6) (v := ?_) (by first | (simp only [List.getElem?_toArray, List.getElem?_cons_succ, List.getElem?_cons_zero] <;> rfl) | rfl) (by kernel_rfl) (by kernel_rfl) (by kernel_rfl) (by exact fun _ _ _ h => h) (Or.inl ⟨by rfl, ?_⟩) hHeld3 ?_
            rotate_left 1
            · intro w hSw
              try dsimp only at hSw
              (go_simp) <;> (with_reducible rfl)
            try simp only [Act.put, List.setIfInBounds_toArray, List.set_cons_zero, List.set_cons_succ]
            refine wpAnyH_ready (rs := [8]) (by kernel_rfl) (by simp) ?_
            refine AllReadyH.cons (by first | (simp only [List.getElem?_toArray, List.getElem?_cons_succ, List.getElem?_cons_zero] <;> rfl) | rfl) (fun K hK => ?_) ?_
            · go_simp
              refine hK.out _ _ ?_ (fun hHeld4 => ?_)
              · exact cell_below hHeld3 (oneb _ _)
              clear hK K
              first | (clear n0 nz0 n1 nz1 n2 nz2 n3 nz3 n4 nz4 n5 nz5 nl) | skip
              first | (clear m0 mz0 m1 mz1 m2 mz2 ml) | skip
              have hbb := oneb vh3 (.cells #[.int .i64 0, .int .i64 0, .int .i64 0] 48)
              have hN := Bk.new vh3 48 #[.int .i64 0, .int .i64 0, .int .i64 0] (l := [.int .i64 0, .int .i64 0, .int .i64 0]) rfl
              have hge := HB.out.size
              generalize World.alloc vh3 _ = vh4 at hbb hN hHeld4 ⊢
              have HB := Lib.hid (HB.out.trans (hbb.mono HB.out.size))
              first | (have HPr := Lib.hid (HPr.out.kept hbb); have HGx := Lib.hid (HGx.out.kept hbb)) | (have HGx := Lib.hid (HGx.out.kept hbb)) | skip
              first | (have HN7 := Lib.hid (HN7.out.kept hbb)) | skip
              first | (have HN8 := Lib.hid (HN8.out.kept hbb)) | skip
              generalize vh3.heap.size = g8 at hN hge ⊢
              have HN8 := Lib.hid hN
              have HG8 := Lib.hid hge
              clear hbb hN hge hHeld3
              first | (have n0 := HN7.out.cell 0 rfl; have nz0 := HN7.out.fz 0; have n1 := HN7.out.cell 1 rfl; have nz1 := HN7.out.fz 1; have n2 := HN7.out.cell 2 rfl; have nz2 := HN7.out.fz 2; have n3 := HN7.out.cell 3 rfl; have nz3 := HN7.out.fz 3; have n4 := HN7.out.cell 4 rfl; have nz4 := HN7.out.fz 4; have n5 := HN7.out.cell 5 rfl; have nz5 := HN7.out.fz 5; have nl := HN7.out.lt) | skip
              first | (have m0 := HN8.out.cell 0 rfl; have mz0 := HN8.out.fz 0; have m1 := HN8.out.cell 1 rfl; have mz1 := HN8.out.fz 1; have m2 := HN8.out.cell 2 rfl; have mz2 := HN8.out.fz 2; have ml := HN8.out.lt) | skip
              first | (have hne := HN7.out.tyb.ne HN8.out.tyb (by decide); have hne2 : g8 ≠ g7 := Ne.symm hne) | skip
              try simp only [Act.put, List.setIfInBounds_toArray, List.set_cons_zero, List.set_cons_succ]
              refine wpAnyH_ready (rs := [9]) (by kernel_rfl) (by simp) ?_
              refine AllReadyH.cons (by first | (simp only [List.getElem?_toArray, List.getElem?_cons_succ, List.getElem?_cons_zero] <;> rfl) | rfl) (fun K hK => ?_) ?_
              · go_simp
                refine hK.out _ _ ?_ (fun hHeld5 => ?_)
                · exact cell_grow hHeld4 (set6_grown _ _ _ _ _ _ _ _) (by have := HG7.out; omega)
                clear hK K
                try simp only [Act.put, List.setIfInBounds_toArray, List.set_cons_zero, List.set_cons_succ]
                refine wpAnyH_ready (rs := [10]) (by kernel_rfl) (by simp) ?_
                refine AllReadyH.cons (by first | (simp only [List.getElem?_toArray, List.getElem?_cons_succ, List.getElem?_cons_zero] <;> rfl) | rfl) (fun K hK => ?_) ?_
                · go_simp
                  refine hK.out _ _ ?_ (fun hHeld6 => ?_)
                  · exact cell_grow (cell_grow hHeld4 (set6_grown _ _ _ _ _ _ _ _) (by have := HG7.out; omega)) (set3_grown _ _ _ _ _) (by have := HG8.out; omega)
                  clear hK K
                  try simp only [Act.put, List.setIfInBounds_toArray, List.set_cons_zero, List.set_cons_succ]
                  refine wpAnyH_done (by kernel_rfl) ?_ _
                  clear n0 nz0 n1 nz1 n2 nz2 n3 nz3 n4 nz4 n5 nz5 nl m0 mz0 m1 mz1 m2 mz2 ml
                  go_wp2_with fail
                  go_meet
                  case rel =>
                    exact heads_end HN7.out HN8.out hne HG7.out HG8.out HB.out
                exact AllReadyH.nil
              exact AllReadyH.nil
            exact AllReadyH.nil
          refine AllReadyH.cons (by first | (simp only [List.getElem?_toArray, List.getElem?_cons_succ, List.getElem?_cons_zero] <;> rfl) | rfl) (fun K hK => ?_) ?_
          · go_simp
            refine hK.out _ _ ?_ (fun hHeld3 => ?_)
            · exact cell_below hHeld2 (oneb _ _)
            clear hK K
            first | (clear n0 nz0 n1 nz1 n2 nz2 n3 nz3 n4 nz4 n5 nz5 nl) | skip
            first | (clear m0 mz0 m1 mz1 m2 mz2 ml) | skip
            have hbb := oneb vh2 (.cells #[.int .i64 0, .int .i64 0, .int .i64 0] 48)
            have hN := Bk.new vh2 48 #[.int .i64 0, .int .i64 0, .int .i64 0] (l := [.int .i64 0, .int .i64 0, .int .i64 0]) rfl
            have hge := HB.out.size
            generalize World.alloc vh2 _ = vh3 at hbb hN hHeld3 ⊢
            have HB := Lib.hid (HB.out.trans (hbb.mono HB.out.size))
            first | (have HPr := Lib.hid (HPr.out.kept hbb); have HGx := Lib.hid (HGx.out.kept hbb)) | (have HGx := Lib.hid (HGx.out.kept hbb)) | skip
            first | (have HN7 := Lib.hid (HN7.out.kept hbb)) | skip
            first | (have HN8 := Lib.hid (HN8.out.kept hbb)) | skip
            generalize vh2.heap.size = g8 at hN hge ⊢
            have HN8 := Lib.hid hN
            have HG8 := Lib.hid hge
            clear hbb hN hge hHeld2
            first | (have n0 := HN7.out.cell 0 rfl; have nz0 := HN7.out.fz 0; have n1 := HN7.out.cell 1 rfl; have nz1 := HN7.out.fz 1; have n2 := HN7.out.cell 2 rfl; have nz2 := HN7.out.fz 2; have n3 := HN7.out.cell 3 rfl; have nz3 := HN7.out.fz 3; have n4 := HN7.out.cell 4 rfl; have nz4 := HN7.out.fz 4; have n5 := HN7.out.cell 5 rfl; have nz5 := HN7.out.fz 5; have nl := HN7.out.lt) | skip
            first | (have m0 := HN8.out.cell 0 rfl; have mz0 := HN8.out.fz 0; have m1 := HN8.out.cell 1 rfl; have mz1 := HN8.out.fz 1; have m2 := HN8.out.cell 2 rfl; have mz2 := HN8.out.fz 2; have ml := HN8.out.lt) | skip
            first | (have hne := HN7.out.tyb.ne HN8.out.tyb (by decide); have hne2 : g8 ≠ g7 := Ne.symm hne) | skip
            try simp only [Act.put, List.setIfInBounds_toArray, List.set_cons_zero, List.set_cons_succ]
            refine wpAnyH_ready (rs := [3]) (by kernel_rfl) (by simp) ?_
            refine AllReadyH.cons (by first | (simp only [List.getElem?_toArray, List.getElem?_cons_succ, List.getElem?_cons_zero] <;> rfl) | rfl) (fun K hK => ?_) ?_
            · go_simp
              have hp := parse_any tx pb tb 0 qa _ HPr.out HGx.out (by omega)
              rw [HP.out] at hp
              refine hp.mono ?_
              clear hp
              rintro e vh4 ⟨⟨nm, d, hd, rv, bv, qv, rs, pt, po⟩, rfl, hTm, hPT, hTS, hgr, -⟩
              simp only [TV.m, zP, PolM.mk.injEq, List.map_eq_nil_iff] at hTm
              obtain ⟨rfl, rfl, rfl, rfl, rfl, rfl⟩ := hTm
              obtain ⟨A4, v4, hrv, -, -, -⟩ := own_typed hPT.r
              obtain ⟨A5, v5, hbv, -, -, -⟩ := own_typed hPT.p
              obtain ⟨A6, v6, hqv, -, -, -⟩ := own_typed hPT.q
              simp only at hrv hbv hqv
              subst hrv hbv hqv
              simp only [TV.l, wrl]
              refine hK.out _ _ ?_ (fun hHeld4 => ?_)
              · exact cell_grow hHeld3 hgr (by have := HTb.out; omega)
              clear hK K
              first | (clear n0 nz0 n1 nz1 n2 nz2 n3 nz3 n4 nz4 n5 nz5 nl) | skip
              first | (clear m0 mz0 m1 mz1 m2 mz2 ml) | skip
              have HB := Lib.hid (below_tab HB.out hgr HTb.out)
              first | (have HN7 := Lib.hid (HN7.out.grown hgr (by intro e; exact (HN7.out.tyb.ne (TS.tyb HPr.out.ts) (by decide)) (Option.some.inj e)))) | skip
              first | (have HN8 := Lib.hid (HN8.out.grown hgr (by intro e; exact (HN8.out.tyb.ne (TS.tyb HPr.out.ts) (by decide)) (Option.some.inj e)))) | skip
              clear hPT hTS hgr hHeld3 HPr HTb HGx
              first | (have n0 := HN7.out.cell 0 rfl; have nz0 := HN7.out.fz 0; have n1 := HN7.out.cell 1 rfl; have nz1 := HN7.out.fz 1; have n2 := HN7.out.cell 2 rfl; have nz2 := HN7.out.fz 2; have n3 := HN7.out.cell 3 rfl; have nz3 := HN7.out.fz 3; have n4 := HN7.out.cell 4 rfl; have nz4 := HN7.out.fz 4; have n5 := HN7.out.cell 5 rfl; have nz5 := HN7.out.fz 5; have nl := HN7.out.lt) | skip
              first | (have m0 := HN8.out.cell 0 rfl; have mz0 := HN8.out.fz 0; have m1 := HN8.out.cell 1 rfl; have mz1 := HN8.out.fz 1; have m2 := HN8.out.cell 2 rfl; have mz2 := HN8.out.fz 2; have ml := HN8.out.lt) | skip
              first | (have hne := HN7.out.tyb.ne HN8.out.tyb (by decide); have hne2 : g8 ≠ g7 := Ne.symm hne) | skip
              try simp only [Act.put, List.setIfInBounds_toArray, List.set_cons_zero, List.set_cons_succ]
              refine wpAnyH_take (i := 4) (v := ?_) (by first | (simp only [List.getElem?_toArray, List.getElem?_cons_succ, List.getElem?_cons_zero] <;> rfl) | rfl) (by kernel_rfl) (by kernel_rfl) (by kernel_rfl) (by exact fun _ _ _ h => h) (Or.inl ⟨by rfl, ?_⟩) hHeld4 ?_
              rotate_left 1
              · intro w hSw
                try dsimp only at hSw
                (go_simp) <;> (with_reducible rfl)
              try simp only [Act.put, List.setIfInBounds_toArray, List.set_cons_zero, List.set_cons_succ]
              refine wpAnyH_take (i := 5) (v := ?_) (by first | (simp only [List.getElem?_toArray, List.getElem?_cons_succ, List.getElem?_cons_zero] <;> rfl) | rfl) (by kernel_rfl) (by kernel_rfl) (by kernel_rfl) (by exact fun _ _ _ h => h) (Or.inl ⟨by rfl, ?_⟩) hHeld4 ?_
              rotate_left 1
              · intro w hSw
                try dsimp only at hSw
                (go_simp) <;> (with_reducible rfl)
              try simp only [Act.put, List.setIfInBounds_toArray, List.set_cons_zero, List.set_cons_succ]
              refine wpAnyH_take (i := 6) (v := ?_) (by first | (simp only [List.getElem?_toArray, List.getElem?_cons_succ, List.getElem?_cons_zero] <;> rfl) | rfl) (by kernel_rfl) (by kernel_rfl) (by kernel_rfl) (by exact fun _ _ _ h => h) (Or.inl ⟨by rfl, ?_⟩) hHeld4 ?_
              rotate_left 1
              · intro w hSw
                try dsimp only at hSw
                (go_simp) <;> (with_reducible rfl)
              try simp only [Act.put, List.setIfInBounds_toArray, List.set_cons_zero, List.set_cons_succ]
              refine wpAnyH_ready (rs := [9]) (by kernel_rfl) (by simp) ?_
              refine AllReadyH.cons (by first | (simp only [List.getElem?_toArray, List.getElem?_cons_succ, List.getElem?_cons_zero] <;> rfl) | rfl) (fun K hK => ?_) ?_
              · go_simp
                refine hK.out _ _ ?_ (fun hHeld5 => ?_)
                · exact cell_grow hHeld4 (set6_grown _ _ _ _ _ _ _ _) (by have := HG7.out; omega)
                clear hK K
                try simp only [Act.put, List.setIfInBounds_toArray, List.set_cons_zero, List.set_cons_succ]
                refine wpAnyH_ready (rs := [10]) (by kernel_rfl) (by simp) ?_
                refine AllReadyH.cons (by first | (simp only [List.getElem?_toArray, List.getElem?_cons_succ, List.getElem?_cons_zero] <;> rfl) | rfl) (fun K hK => ?_) ?_
                · go_simp
                  refine hK.out _ _ ?_ (fun hHeld6 => ?_)
                  · exact cell_grow (cell_grow hHeld4 (set6_grown _ _ _ _ _ _ _ _) (by have := HG7.out; omega)) (set3_grown _ _ _ _ _) (by have := HG8.out; omega)
                  clear hK K
                  try simp only [Act.put, List.setIfInBounds_toArray, List.set_cons_zero, List.set_cons_succ]
                  refine wpAnyH_done (by kernel_rfl) ?_ _
                  clear n0 nz0 n1 nz1 n2 nz2 n3 nz3 n4 nz4 n5 nz5 nl m0 mz0 m1 mz1 m2 mz2 ml
                  go_wp2_with fail
                  go_meet
                  case rel =>
                    exact heads_end HN7.out HN8.out hne HG7.out HG8.out HB.out
                exact AllReadyH.nil
              exact AllReadyH.nil
            exact AllReadyH.nil
          exact AllReadyH.nil
        refine AllReadyH.cons (by first | (simp only [List.getElem?_toArray, List.getElem?_cons_succ, List.getElem?_cons_zero] <;> rfl) | rfl) (fun K hK => ?_) ?_
        · go_simp
          refine hK.out _ _ ?_ (fun hHeld2 => ?_)
          · exact cell_below hHeld1 (oneb _ _)
          clear hK K
          first | (clear n0 nz0 n1 nz1 n2 nz2 n3 nz3 n4 nz4 n5 nz5 nl) | skip
          first | (clear m0 mz0 m1 mz1 m2 mz2 ml) | skip
          have hbb := oneb vh1 (.cells #[.int .i64 0, .int .i64 0, .int .i64 0] 48)
          have hN := Bk.new vh1 48 #[.int .i64 0, .int .i64 0, .int .i64 0] (l := [.int .i64 0, .int .i64 0, .int .i64 0]) rfl
          have hge := HB.out.size
          generalize World.alloc vh1 _ = vh2 at hbb hN hHeld2 ⊢
          have HB := Lib.hid (HB.out.trans (hbb.mono HB.out.size))
          first | (have HPr := Lib.hid (HPr.out.kept hbb); have HGx := Lib.hid (HGx.out.kept hbb)) | (have HGx := Lib.hid (HGx.out.kept hbb)) | skip
          first | (have HN7 := Lib.hid (HN7.out.kept hbb)) | skip
          first | (have HN8 := Lib.hid (HN8.out.kept hbb)) | skip
          generalize vh1.heap.size = g8 at hN hge ⊢
          have HN8 := Lib.hid hN
          have HG8 := Lib.hid hge
          clear hbb hN hge hHeld1
          first | (have n0 := HN7.out.cell 0 rfl; have nz0 := HN7.out.fz 0; have n1 := HN7.out.cell 1 rfl; have nz1 := HN7.out.fz 1; have n2 := HN7.out.cell 2 rfl; have nz2 := HN7.out.fz 2; have n3 := HN7.out.cell 3 rfl; have nz3 := HN7.out.fz 3; have n4 := HN7.out.cell 4 rfl; have nz4 := HN7.out.fz 4; have n5 := HN7.out.cell 5 rfl; have nz5 := HN7.out.fz 5; have nl := HN7.out.lt) | skip
          first | (have m0 := HN8.out.cell 0 rfl; have mz0 := HN8.out.fz 0; have m1 := HN8.out.cell 1 rfl; have mz1 := HN8.out.fz 1; have m2 := HN8.out.cell 2 rfl; have mz2 := HN8.out.fz 2; have ml := HN8.out.lt) | skip
          first | (have hne := HN7.out.tyb.ne HN8.out.tyb (by decide); have hne2 : g8 ≠ g7 := Ne.symm hne) | skip
          try simp only [Act.put, List.setIfInBounds_toArray, List.set_cons_zero, List.set_cons_succ]
          refine wpAnyH_ready (rs := [3, 7]) (by kernel_rfl) (by simp) ?_
          refine AllReadyH.cons (by first | (simp only [List.getElem?_toArray, List.getElem?_cons_succ, List.getElem?_cons_zero] <;> rfl) | rfl) (fun K hK => ?_) ?_
          · go_simp
            have hp := parse_any tx pb tb 0 qa _ HPr.out HGx.out (by omega)
            rw [HP.out] at hp
            refine hp.mono ?_
            clear hp
            rintro e vh3 ⟨⟨nm, d, hd, rv, bv, qv, rs, pt, po⟩, rfl, hTm, hPT, hTS, hgr, -⟩
            simp only [TV.m, zP, PolM.mk.injEq, List.map_eq_nil_iff] at hTm
            obtain ⟨rfl, rfl, rfl, rfl, rfl, rfl⟩ := hTm
            obtain ⟨A4, v4, hrv, -, -, -⟩ := own_typed hPT.r
            obtain ⟨A5, v5, hbv, -, -, -⟩ := own_typed hPT.p
            obtain ⟨A6, v6, hqv, -, -, -⟩ := own_typed hPT.q
            simp only at hrv hbv hqv
            subst hrv hbv hqv
            simp only [TV.l, wrl]
            refine hK.out _ _ ?_ (fun hHeld3 => ?_)
            · exact cell_grow hHeld2 hgr (by have := HTb.out; omega)
            clear hK K
            first | (clear n0 nz0 n1 nz1 n2 nz2 n3 nz3 n4 nz4 n5 nz5 nl) | skip
            first | (clear m0 mz0 m1 mz1 m2 mz2 ml) | skip
            have HB := Lib.hid (below_tab HB.out hgr HTb.out)
            first | (have HN7 := Lib.hid (HN7.out.grown hgr (by intro e; exact (HN7.out.tyb.ne (TS.tyb HPr.out.ts) (by decide)) (Option.some.inj e)))) | skip
            first | (have HN8 := Lib.hid (HN8.out.grown hgr (by intro e; exact (HN8.out.tyb.ne (TS.tyb HPr.out.ts) (by decide)) (Option.some.inj e)))) | skip
            clear hPT hTS hgr hHeld2 HPr HTb HGx
            first | (have n0 := HN7.out.cell 0 rfl; have nz0 := HN7.out.fz 0; have n1 := HN7.out.cell 1 rfl; have nz1 := HN7.out.fz 1; have n2 := HN7.out.cell 2 rfl; have nz2 := HN7.out.fz 2; have n3 := HN7.out.cell 3 rfl; have nz3 := HN7.out.fz 3; have n4 := HN7.out.cell 4 rfl; have nz4 := HN7.out.fz 4; have n5 := HN7.out.cell 5 rfl; have nz5 := HN7.out.fz 5; have nl := HN7.out.lt) | skip
            first | (have m0 := HN8.out.cell 0 rfl; have mz0 := HN8.out.fz 0; have m1 := HN8.out.cell 1 rfl; have mz1 := HN8.out.fz 1; have m2 := HN8.out.cell 2 rfl; have mz2 := HN8.out.fz 2; have ml := HN8.out.lt) | skip
            first | (have hne := HN7.out.tyb.ne HN8.out.tyb (by decide); have hne2 : g8 ≠ g7 := Ne.symm hne) | skip
            try simp only [Act.put, List.setIfInBounds_toArray, List.set_cons_zero, List.set_cons_succ]
            refine wpAnyH_take (i := 4) (v := ?_) (by first | (simp only [List.getElem?_toArray, List.getElem?_cons_succ, List.getElem?_cons_zero] <;> rfl) | rfl) (by kernel_rfl) (by kernel_rfl) (by kernel_rfl) (by exact fun _ _ _ h => h) (Or.inl ⟨by rfl, ?_⟩) hHeld3 ?_
            rotate_left 1
            · intro w hSw
              try dsimp only at hSw
              (go_simp) <;> (with_reducible rfl)
            try simp only [Act.put, List.setIfInBounds_toArray, List.set_cons_zero, List.set_cons_succ]
            refine wpAnyH_take (i := 5) (v := ?_) (by first | (simp only [List.getElem?_toArray, List.getElem?_cons_succ, List.getElem?_cons_zero] <;> rfl) | rfl) (by kernel_rfl) (by kernel_rfl) (by kernel_rfl) (by exact fun _ _ _ h => h) (Or.inl ⟨by rfl, ?_⟩) hHeld3 ?_
            rotate_left 1
            · intro w hSw
              try dsimp only at hSw
              (go_simp) <;> (with_reducible rfl)
            try simp only [Act.put, List.setIfInBounds_toArray, List.set_cons_zero, List.set_cons_succ]
            refine wpAnyH_take (i := 6) (v := ?_) (by first | (simp only [List.getElem?_toArray, List.getElem?_cons_succ, List.getElem?_cons_zero] <;> rfl) | rfl) (by kernel_rfl) (by kernel_rfl) (by kernel_rfl) (by exact fun _ _ _ h => h) (Or.inl ⟨by rfl, ?_⟩) hHeld3 ?_
            rotate_left 1
            · intro w hSw
              try dsimp only at hSw
              (go_simp) <;> (with_reducible rfl)
            try simp only [Act.put, List.setIfInBounds_toArray, List.set_cons_zero, List.set_cons_succ]
            refine wpAnyH_ready (rs := [7]) (by kernel_rfl) (by simp) ?_
            refine AllReadyH.cons (by first | (simp only [List.getElem?_toArray, List.getElem?_cons_succ, List.getElem?_cons_zero] <;> rfl) | rfl) (fun K hK => ?_) ?_
            · go_simp
              refine hK.out _ _ ?_ (fun hHeld4 => ?_)
              · exact cell_below hHeld3 (oneb _ _)
              clear hK K
              first | (clear n0 nz0 n1 nz1 n2 nz2 n3 nz3 n4 nz4 n5 nz5 nl) | skip
              first | (clear m0 mz0 m1 mz1 m2 mz2 ml) | skip
              have hbb := oneb vh3 (.cells #[.string ⟨#[]⟩, .int .u32 0, .slice none 0 0, .int .u16 0, .slice none 0 0, .slice none 0 0] 35)
              have hN := Bk.new vh3 35 #[.string ⟨#[]⟩, .int .u32 0, .slice none 0 0, .int .u16 0, .slice none 0 0, .slice none 0 0] (l := [.string ⟨#[]⟩, .int .u32 0, .slice none 0 0, .int .u16 0, .slice none 0 0, .slice none 0 0]) rfl
              have hge := HB.out.size
              generalize World.alloc vh3 _ = vh4 at hbb hN hHeld4 ⊢
              have HB := Lib.hid (HB.out.trans (hbb.mono HB.out.size))
              first | (have HPr := Lib.hid (HPr.out.kept hbb); have HGx := Lib.hid (HGx.out.kept hbb)) | (have HGx := Lib.hid (HGx.out.kept hbb)) | skip
              first | (have HN7 := Lib.hid (HN7.out.kept hbb)) | skip
              first | (have HN8 := Lib.hid (HN8.out.kept hbb)) | skip
              generalize vh3.heap.size = g7 at hN hge ⊢
              have HN7 := Lib.hid hN
              have HG7 := Lib.hid hge
              clear hbb hN hge hHeld3
              first | (have n0 := HN7.out.cell 0 rfl; have nz0 := HN7.out.fz 0; have n1 := HN7.out.cell 1 rfl; have nz1 := HN7.out.fz 1; have n2 := HN7.out.cell 2 rfl; have nz2 := HN7.out.fz 2; have n3 := HN7.out.cell 3 rfl; have nz3 := HN7.out.fz 3; have n4 := HN7.out.cell 4 rfl; have nz4 := HN7.out.fz 4; have n5 := HN7.out.cell 5 rfl; have nz5 := HN7.out.fz 5; have nl := HN7.out.lt) | skip
              first | (have m0 := HN8.out.cell 0 rfl; have mz0 := HN8.out.fz 0; have m1 := HN8.out.cell 1 rfl; have mz1 := HN8.out.fz 1; have m2 := HN8.out.cell 2 rfl; have mz2 := HN8.out.fz 2; have ml := HN8.out.lt) | skip
              first | (have hne := HN7.out.tyb.ne HN8.out.tyb (by decide); have hne2 : g8 ≠ g7 := Ne.symm hne) | skip
              try simp only [Act.put, List.setIfInBounds_toArray, List.set_cons_zero, List.set_cons_succ]
              refine wpAnyH_ready (rs := [9]) (by kernel_rfl) (by simp) ?_
              refine AllReadyH.cons (by first | (simp only [List.getElem?_toArray, List.getElem?_cons_succ, List.getElem?_cons_zero] <;> rfl) | rfl) (fun K hK => ?_) ?_
              · go_simp
                refine hK.out _ _ ?_ (fun hHeld5 => ?_)
                · exact cell_grow hHeld4 (set6_grown _ _ _ _ _ _ _ _) (by have := HG7.out; omega)
                clear hK K
                try simp only [Act.put, List.setIfInBounds_toArray, List.set_cons_zero, List.set_cons_succ]
                refine wpAnyH_ready (rs := [10]) (by kernel_rfl) (by simp) ?_
                refine AllReadyH.cons (by first | (simp only [List.getElem?_toArray, List.getElem?_cons_succ, List.getElem?_cons_zero] <;> rfl) | rfl) (fun K hK => ?_) ?_
                · go_simp
                  refine hK.out _ _ ?_ (fun hHeld6 => ?_)
                  · exact cell_grow (cell_grow hHeld4 (set6_grown _ _ _ _ _ _ _ _) (by have := HG7.out; omega)) (set3_grown _ _ _ _ _) (by have := HG8.out; omega)
                  clear hK K
                  try simp only [Act.put, List.setIfInBounds_toArray, List.set_cons_zero, List.set_cons_succ]
                  refine wpAnyH_done (by kernel_rfl) ?_ _
                  clear n0 nz0 n1 nz1 n2 nz2 n3 nz3 n4 nz4 n5 nz5 nl m0 mz0 m1 mz1 m2 mz2 ml
                  go_wp2_with fail
                  go_meet
                  case rel =>
                    exact heads_end HN7.out HN8.out hne HG7.out HG8.out HB.out
                exact AllReadyH.nil
              exact AllReadyH.nil
            exact AllReadyH.nil
          refine AllReadyH.cons (by first | (simp only [List.getElem?_toArray, List.getElem?_cons_succ, List.getElem?_cons_zero] <;> rfl) | rfl) (fun K hK => ?_) ?_
          · go_simp
            refine hK.out _ _ ?_ (fun hHeld3 => ?_)
            · exact cell_below hHeld2 (oneb _ _)
            clear hK K
            first | (clear n0 nz0 n1 nz1 n2 nz2 n3 nz3 n4 nz4 n5 nz5 nl) | skip
            first | (clear m0 mz0 m1 mz1 m2 mz2 ml) | skip
            have hbb := oneb vh2 (.cells #[.string ⟨#[]⟩, .int .u32 0, .slice none 0 0, .int .u16 0, .slice none 0 0, .slice none 0 0] 35)
            have hN := Bk.new vh2 35 #[.string ⟨#[]⟩, .int .u32 0, .slice none 0 0, .int .u16 0, .slice none 0 0, .slice none 0 0] (l := [.string ⟨#[]⟩, .int .u32 0, .slice none 0 0, .int .u16 0, .slice none 0 0, .slice none 0 0]) rfl
            have hge := HB.out.size
            generalize World.alloc vh2 _ = vh3 at hbb hN hHeld3 ⊢
            have HB := Lib.hid (HB.out.trans (hbb.mono HB.out.size))
            first | (have HPr := Lib.hid (HPr.out.kept hbb); have HGx := Lib.hid (HGx.out.kept hbb)) | (have HGx := Lib.hid (HGx.out.kept hbb)) | skip
            first | (have HN7 := Lib.hid (HN7.out.kept hbb)) | skip
            first | (have HN8 := Lib.hid (HN8.out.kept hbb)) | skip
            generalize vh2.heap.size = g7 at hN hge ⊢
            have HN7 := Lib.hid hN
            have HG7 := Lib.hid hge
            clear hbb hN hge hHeld2
            first | (have n0 := HN7.out.cell 0 rfl; have nz0 := HN7.out.fz 0; have n1 := HN7.out.cell 1 rfl; have nz1 := HN7.out.fz 1; have n2 := HN7.out.cell 2 rfl; have nz2 := HN7.out.fz 2; have n3 := HN7.out.cell 3 rfl; have nz3 := HN7.out.fz 3; have n4 := HN7.out.cell 4 rfl; have nz4 := HN7.out.fz 4; have n5 := HN7.out.cell 5 rfl; have nz5 := HN7.out.fz 5; have nl := HN7.out.lt) | skip
            first | (have m0 := HN8.out.cell 0 rfl; have mz0 := HN8.out.fz 0; have m1 := HN8.out.cell 1 rfl; have mz1 := HN8.out.fz 1; have m2 := HN8.out.cell 2 rfl; have mz2 := HN8.out.fz 2; have ml := HN8.out.lt) | skip
            first | (have hne := HN7.out.tyb.ne HN8.out.tyb (by decide); have hne2 : g8 ≠ g7 := Ne.symm hne) | skip
            try simp only [Act.put, List.setIfInBounds_toArray, List.set_cons_zero, List.set_cons_succ]
            refine wpAnyH_ready (rs := [3]) (by kernel_rfl) (by simp) ?_
            refine AllReadyH.cons (by first | (simp only [List.getElem?_toArray, List.getElem?_cons_succ, List.getElem?_cons_zero] <;> rfl) | rfl) (fun K hK => ?_) ?_
            · go_simp
              have hp := parse_any tx pb tb 0 qa _ HPr.out HGx.out (by omega)
              rw [HP.out] at hp
              refine hp.mono ?_
              clear hp
              rintro e vh4 ⟨⟨nm, d, hd, rv, bv, qv, rs, pt, po⟩, rfl, hTm, hPT, hTS, hgr, -⟩
              simp only [TV.m, zP, PolM.mk.injEq, List.map_eq_nil_iff] at hTm
              obtain ⟨rfl, rfl, rfl, rfl, rfl, rfl⟩ := hTm
              obtain ⟨A4, v4, hrv, -, -, -⟩ := own_typed hPT.r
              obtain ⟨A5, v5, hbv, -, -, -⟩ := own_typed hPT.p
              obtain ⟨A6, v6, hqv, -, -, -⟩ := own_typed hPT.q
              simp only at hrv hbv hqv
              subst hrv hbv hqv
              simp only [TV.l, wrl]
              refine hK.out _ _ ?_ (fun hHeld4 => ?_)
              · exact cell_grow hHeld3 hgr (by have := HTb.out; omega)
              clear hK K
              first | (clear n0 nz0 n1 nz1 n2 nz2 n3 nz3 n4 nz4 n5 nz5 nl) | skip
              first | (clear m0 mz0 m1 mz1 m2 mz2 ml) | skip
              have HB := Lib.hid (below_tab HB.out hgr HTb.out)
              first | (have HN7 := Lib.hid (HN7.out.grown hgr (by intro e; exact (HN7.out.tyb.ne (TS.tyb HPr.out.ts) (by decide)) (Option.some.inj e)))) | skip
              first | (have HN8 := Lib.hid (HN8.out.grown hgr (by intro e; exact (HN8.out.tyb.ne (TS.tyb HPr.out.ts) (by decide)) (Option.some.inj e)))) | skip
              clear hPT hTS hgr hHeld3 HPr HTb HGx
              first | (have n0 := HN7.out.cell 0 rfl; have nz0 := HN7.out.fz 0; have n1 := HN7.out.cell 1 rfl; have nz1 := HN7.out.fz 1; have n2 := HN7.out.cell 2 rfl; have nz2 := HN7.out.fz 2; have n3 := HN7.out.cell 3 rfl; have nz3 := HN7.out.fz 3; have n4 := HN7.out.cell 4 rfl; have nz4 := HN7.out.fz 4; have n5 := HN7.out.cell 5 rfl; have nz5 := HN7.out.fz 5; have nl := HN7.out.lt) | skip
              first | (have m0 := HN8.out.cell 0 rfl; have mz0 := HN8.out.fz 0; have m1 := HN8.out.cell 1 rfl; have mz1 := HN8.out.fz 1; have m2 := HN8.out.cell 2 rfl; have mz2 := HN8.out.fz 2; have ml := HN8.out.lt) | skip
              first | (have hne := HN7.out.tyb.ne HN8.out.tyb (by decide); have hne2 : g8 ≠ g7 := Ne.symm hne) | skip
              try simp only [Act.put, List.setIfInBounds_toArray, List.set_cons_zero, List.set_cons_succ]
              refine wpAnyH_take (i := 4) (v := ?_) (by first | (simp only [List.getElem?_toArray, List.getElem?_cons_succ, List.getElem?_cons_zero] <;> rfl) | rfl) (by kernel_rfl) (by kernel_rfl) (by kernel_rfl) (by exact fun _ _ _ h => h) (Or.inl ⟨by rfl, ?_⟩) hHeld4 ?_
              rotate_left 1
              · intro w hSw
                try dsimp only at hSw
                (go_simp) <;> (with_reducible rfl)
              try simp only [Act.put, List.setIfInBounds_toArray, List.set_cons_zero, List.set_cons_succ]
              refine wpAnyH_take (i := 5) (v := ?_) (by first | (simp only [List.getElem?_toArray, List.getElem?_cons_succ, List.getElem?_cons_zero] <;> rfl) | rfl) (by kernel_rfl) (by kernel_rfl) (by kernel_rfl) (by exact fun _ _ _ h => h) (Or.inl ⟨by rfl, ?_⟩) hHeld4 ?_
              rotate_left 1
              · intro w hSw
                try dsimp only at hSw
                (go_simp) <;> (with_reducible rfl)
              try simp only [Act.put, List.setIfInBounds_toArray, List.set_cons_zero, List.set_cons_succ]
              refine wpAnyH_take (i := 6) (v := ?_) (by first | (simp only [List.getElem?_toArray, List.getElem?_cons_succ, List.getElem?_cons_zero] <;> rfl) | rfl) (by kernel_rfl) (by kernel_rfl) (by kernel_rfl) (by exact fun _ _ _ h => h) (Or.inl ⟨by rfl, ?_⟩) hHeld4 ?_
              rotate_left 1
              · intro w hSw
                try dsimp only at hSw
                (go_simp) <;> (with_reducible rfl)
              try simp only [Act.put, List.setIfInBounds_toArray, List.set_cons_zero, List.set_cons_succ]
              refine wpAnyH_ready (rs := [9]) (by kernel_rfl) (by simp) ?_
              refine AllReadyH.cons (by first | (simp only [List.getElem?_toArray, List.getElem?_cons_succ, List.getElem?_cons_zero] <;> rfl) | rfl) (fun K hK => ?_) ?_
              · go_simp
                refine hK.out _ _ ?_ (fun hHeld5 => ?_)
                · exact cell_grow hHeld4 (set6_grown _ _ _ _ _ _ _ _) (by have := HG7.out; omega)
                clear hK K
                try simp only [Act.put, List.setIfInBounds_toArray, List.set_cons_zero, List.set_cons_succ]
                refine wpAnyH_ready (rs := [10]) (by kernel_rfl) (by simp) ?_
                refine AllReadyH.cons (by first | (simp only [List.getElem?_toArray, List.getElem?_cons_succ, List.getElem?_cons_zero] <;> rfl) | rfl) (fun K hK => ?_) ?_
                · go_simp
                  refine hK.out _ _ ?_ (fun hHeld6 => ?_)
                  · exact cell_grow (cell_grow hHeld4 (set6_grown _ _ _ _ _ _ _ _) (by have := HG7.out; omega)) (set3_grown _ _ _ _ _) (by have := HG8.out; omega)
                  clear hK K
                  try simp only [Act.put, List.setIfInBounds_toArray, List.set_cons_zero, List.set_cons_succ]
                  refine wpAnyH_done (by kernel_rfl) ?_ _
                  clear n0 nz0 n1 nz1 n2 nz2 n3 nz3 n4 nz4 n5 nz5 nl m0 mz0 m1 mz1 m2 mz2 ml
                  go_wp2_with fail
                  go_meet
                  case rel =>
                    exact heads_end HN7.out HN8.out hne HG7.out HG8.out HB.out
                exact AllReadyH.nil
              exact AllReadyH.nil
            exact AllReadyH.nil
          exact AllReadyH.nil
        exact AllReadyH.nil
      refine AllReadyH.cons (by first | (simp only [List.getElem?_toArray, List.getElem?_cons_succ, List.getElem?_cons_zero] <;> rfl) | rfl) (fun K hK => ?_) ?_
      · go_simp
        refine hK.out _ _ ?_ (fun hHeld1 => ?_)
        · exact cell_below hHeld0 (oneb _ _)
        clear hK K
        first | (clear n0 nz0 n1 nz1 n2 nz2 n3 nz3 n4 nz4 n5 nz5 nl) | skip
        first | (clear m0 mz0 m1 mz1 m2 mz2 ml) | skip
        have hbb := oneb vh0 (.cells #[.string ⟨#[]⟩, .int .u32 0, .slice none 0 0, .int .u16 0, .slice none 0 0, .slice none 0 0] 35)
        have hN := Bk.new vh0 35 #[.string ⟨#[]⟩, .int .u32 0, .slice none 0 0, .int .u16 0, .slice none 0 0, .slice none 0 0] (l := [.string ⟨#[]⟩, .int .u32 0, .slice none 0 0, .int .u16 0, .slice none 0 0, .slice none 0 0]) rfl
        have hge := HB.out.size
        generalize World.alloc vh0 _ = vh1 at hbb hN hHeld1 ⊢
        have HB := Lib.hid (HB.out.trans (hbb.mono HB.out.size))
        first | (have HPr := Lib.hid (HPr.out.kept hbb); have HGx := Lib.hid (HGx.out.kept hbb)) | (have HGx := Lib.hid (HGx.out.kept hbb)) | skip
        first | (have HN7 := Lib.hid (HN7.out.kept hbb)) | skip
        first | (have HN8 := Lib.hid (HN8.out.kept hbb)) | skip
        generalize vh0.heap.size = g7 at hN hge ⊢
        have HN7 := Lib.hid hN
        have HG7 := Lib.hid hge
        clear hbb hN hge hHeld0
        first | (have n0 := HN7.out.cell 0 rfl; have nz0 := HN7.out.fz 0; have n1 := HN7.out.cell 1 rfl; have nz1 := HN7.out.fz 1; have n2 := HN7.out.cell 2 rfl; have nz2 := HN7.out.fz 2; have n3 := HN7.out.cell 3 rfl; have nz3 := HN7.out.fz 3; have n4 := HN7.out.cell 4 rfl; have nz4 := HN7.out.fz 4; have n5 := HN7.out.cell 5 rfl; have nz5 := HN7.out.fz 5; have nl := HN7.out.lt) | skip
        first | (have m0 := HN8.out.cell 0 rfl; have mz0 := HN8.out.fz 0; have m1 := HN8.out.cell 1 rfl; have mz1 := HN8.out.fz 1; have m2 := HN8.out.cell 2 rfl; have mz2 := HN8.out.fz 2; have ml := HN8.out.lt) | skip
        first | (have hne := HN7.out.tyb.ne HN8.out.tyb (by decide); have hne2 : g8 ≠ g7 := Ne.symm hne) | skip
        try simp only [Act.put, List.setIfInBounds_toArray, List.set_cons_zero, List.set_cons_succ]
        refine wpAnyH_ready (rs := [0, 8]) (by kernel_rfl) (by simp) ?_
        refine AllReadyH.cons (by first | (simp only [List.getElem?_toArray, List.getElem?_cons_zero] <;> rfl) | rfl) (fun K hK => ?_) ?_
        · go_simp
          refine (parseNew_any _).mono ?_
          rintro e vh2 ⟨pb, tb, qa, rfl, hP, hbb, hpb, htb⟩
          refine hK.out _ _ ?_ (fun hHeld2 => ?_)
          · exact cell_below hHeld1 hbb
          clear hK K
          first | (clear n0 nz0 n1 nz1 n2 nz2 n3 nz3 n4 nz4 n5 nz5 nl) | skip
          first | (clear m0 mz0 m1 mz1 m2 mz2 ml) | skip
          have HPr := Lib.hid hP
          have HTb := Lib.hid (show w3.heap.size ≤ tb from Nat.le_trans HB.out.size htb)
          have HB := Lib.hid (HB.out.trans (hbb.mono HB.out.size))
          have HGx := Lib.hid (HGx.out.kept hbb)
          first | (have HN7 := Lib.hid (HN7.out.kept hbb)) | skip
          first | (have HN8 := Lib.hid (HN8.out.kept hbb)) | skip
          clear hP hbb hpb htb hHeld1
          first | (have n0 := HN7.out.cell 0 rfl; have nz0 := HN7.out.fz 0; have n1 := HN7.out.cell 1 rfl; have nz1 := HN7.out.fz 1; have n2 := HN7.out.cell 2 rfl; have nz2 := HN7.out.fz 2; have n3 := HN7.out.cell 3 rfl; have nz3 := HN7.out.fz 3; have n4 := HN7.out.cell 4 rfl; have nz4 := HN7.out.fz 4; have n5 := HN7.out.cell 5 rfl; have nz5 := HN7.out.fz 5; have nl := HN7.out.lt) | skip
          first | (have m0 := HN8.out.cell 0 rfl; have mz0 := HN8.out.fz 0; have m1 := HN8.out.cell 1 rfl; have mz1 := HN8.out.fz 1; have m2 := HN8.out.cell 2 rfl; have mz2 := HN8.out.fz 2; have ml := HN8.out.lt) | skip
          first | (have hne := HN7.out.tyb.ne HN8.out.tyb (by decide); have hne2 : g8 ≠ g7 := Ne.symm hne) | skip
          try simp only [Act.put, List.setIfInBounds_toArray, List.set_cons_zero, List.set_cons_succ]
          refine wpAnyH_ready (rs := [3, 8]) (by kernel_rfl) (by simp) ?_
          refine AllReadyH.cons (by first | (simp only [List.getElem?_toArray, List.getElem?_cons_succ, List.getElem?_cons_zero] <;> rfl) | rfl) (fun K hK => ?_) ?_
          · go_simp
            have hp := parse_any tx pb tb 0 qa _ HPr.out HGx.out (by omega)
            rw [HP.out] at hp
            refine hp.mono ?_
            clear hp
            rintro e vh3 ⟨⟨nm, d, hd, rv, bv, qv, rs, pt, po⟩, rfl, hTm, hPT, hTS, hgr, -⟩
            simp only [TV.m, zP, PolM.mk.injEq, List.map_eq_nil_iff] at hTm
            obtain ⟨rfl, rfl, rfl, rfl, rfl, rfl⟩ := hTm
            obtain ⟨A4, v4, hrv, -, -, -⟩ := own_typed hPT.r
            obtain ⟨A5, v5, hbv, -, -, -⟩ := own_typed hPT.p
            obtain ⟨A6, v6, hqv, -, -, -⟩ := own_typed hPT.q
            simp only at hrv hbv hqv
            subst hrv hbv hqv
            simp only [TV.l, wrl]
            refine hK.out _ _ ?_ (fun hHeld3 => ?_)
            · exact cell_grow hHeld2 hgr (by have := HTb.out; omega)
            clear hK K
            first | (clear n0 nz0 n1 nz1 n2 nz2 n3 nz3 n4 nz4 n5 nz5 nl) | skip
            first | (clear m0 mz0 m1 mz1 m2 mz2 ml) | skip
            have HB := Lib.hid (below_tab HB.out hgr HTb.out)
            first | (have HN7 := Lib.hid (HN7.out.grown hgr (by intro e; exact (HN7.out.tyb.ne (TS.tyb HPr.out.ts) (by decide)) (Option.some.inj e)))) | skip
            first | (have HN8 := Lib.hid (HN8.out.grown hgr (by intro e; exact (HN8.out.tyb.ne (TS.tyb HPr.out.ts) (by decide)) (Option.some.inj e)))) | skip
            clear hPT hTS hgr hHeld2 HPr HTb HGx
            first | (have n0 := HN7.out.cell 0 rfl; have nz0 := HN7.out.fz 0; have n1 := HN7.out.cell 1 rfl; have nz1 := HN7.out.fz 1; have n2 := HN7.out.cell 2 rfl; have nz2 := HN7.out.fz 2; have n3 := HN7.out.cell 3 rfl; have nz3 := HN7.out.fz 3; have n4 := HN7.out.cell 4 rfl; have nz4 := HN7.out.fz 4; have n5 := HN7.out.cell 5 rfl; have nz5 := HN7.out.fz 5; have nl := HN7.out.lt) | skip
            first | (have m0 := HN8.out.cell 0 rfl; have mz0 := HN8.out.fz 0; have m1 := HN8.out.cell 1 rfl; have mz1 := HN8.out.fz 1; have m2 := HN8.out.cell 2 rfl; have mz2 := HN8.out.fz 2; have ml := HN8.out.lt) | skip
            first | (have hne := HN7.out.tyb.ne HN8.out.tyb (by decide); have hne2 : g8 ≠ g7 := Ne.symm hne) | skip
            try simp only [Act.put, List.setIfInBounds_toArray, List.set_cons_zero, List.set_cons_succ]
            refine wpAnyH_take (i := 4) (v := ?_) (by first | (simp only [List.getElem?_toArray, List.getElem?_cons_succ, List.getElem?_cons_zero] <;> rfl) | rfl) (by kernel_rfl) (by kernel_rfl) (by kernel_rfl) (by exact fun _ _ _ h => h) (Or.inl ⟨by rfl, ?_⟩) hHeld3 ?_
            rotate_left 1
            · intro w hSw
              try dsimp only at hSw
              (go_simp) <;> (with_reducible rfl)
            try simp only [Act.put, List.setIfInBounds_toArray, List.set_cons_zero, List.set_cons_succ]
            refine wpAnyH_take (i := 5) (v := ?_) (by first | (simp only [List.getElem?_toArray, List.getElem?_cons_succ, List.getElem?_cons_zero] <;> rfl) | rfl) (by kernel_rfl) (by kernel_rfl) (by kernel_rfl) (by exact fun _ _ _ h => h) (Or.inl ⟨by rfl, ?_⟩) hHeld3 ?_
            rotate_left 1
            · intro w hSw
              try dsimp only at hSw
              (go_simp) <;> (with_reducible rfl)
            try simp only [Act.put, List.setIfInBounds_toArray, List.set_cons_zero, List.set_cons_succ]
            refine wpAnyH_take (i := 6) (v := ?_) (by first | (simp only [List.getElem?_toArray, List.getElem?_cons_succ, List.getElem?_cons_zero] <;> rfl) | rfl) (by kernel_rfl) (by kernel_rfl) (by kernel_rfl) (by exact fun _ _ _ h => h) (Or.inl ⟨by rfl, ?_⟩) hHeld3 ?_
            rotate_left 1
            · intro w hSw
              try dsimp only at hSw
              (go_simp) <;> (with_reducible rfl)
            try simp only [Act.put, List.setIfInBounds_toArray, List.set_cons_zero, List.set_cons_succ]
            refine wpAnyH_ready (rs := [8]) (by kernel_rfl) (by simp) ?_
            refine AllReadyH.cons (by first | (simp only [List.getElem?_toArray, List.getElem?_cons_succ, List.getElem?_cons_zero] <;> rfl) | rfl) (fun K hK => ?_) ?_
            · go_simp
              refine hK.out _ _ ?_ (fun hHeld4 => ?_)
              · exact cell_below hHeld3 (oneb _ _)
              clear hK K
              first | (clear n0 nz0 n1 nz1 n2 nz2 n3 nz3 n4 nz4 n5 nz5 nl) | skip
              first | (clear m0 mz0 m1 mz1 m2 mz2 ml) | skip
              have hbb := oneb vh3 (.cells #[.int .i64 0, .int .i64 0, .int .i64 0] 48)
              have hN := Bk.new vh3 48 #[.int .i64 0, .int .i64 0, .int .i64 0] (l := [.int .i64 0, .int .i64 0, .int .i64 0]) rfl
              have hge := HB.out.size
              generalize World.alloc vh3 _ = vh4 at hbb hN hHeld4 ⊢
              have HB := Lib.hid (HB.out.trans (hbb.mono HB.out.size))
              first | (have HPr := Lib.hid (HPr.out.kept hbb); have HGx := Lib.hid (HGx.out.kept hbb)) | (have HGx := Lib.hid (HGx.out.kept hbb)) | skip
              first | (have HN7 := Lib.hid (HN7.out.kept hbb)) | skip
              first | (have HN8 := Lib.hid (HN8.out.kept hbb)) | skip
              generalize vh3.heap.size = g8 at hN hge ⊢
              have HN8 := Lib.hid hN
              have HG8 := Lib.hid hge
              clear hbb hN hge hHeld3
              first | (have n0 := HN7.out.cell 0 rfl; have nz0 := HN7.out.fz 0; have n1 := HN7.out.cell 1 rfl; have nz1 := HN7.out.fz 1; have n2 := HN7.out.cell 2 rfl; have nz2 := HN7.out.fz 2; have n3 := HN7.out.cell 3 rfl; have nz3 := HN7.out.fz 3; have n4 := HN7.out.cell 4 rfl; have nz4 := HN7.out.fz 4; have n5 := HN7.out.cell 5 rfl; have nz5 := HN7.out.fz 5; have nl := HN7.out.lt) | skip
              first | (have m0 := HN8.out.cell 0 rfl; have mz0 := HN8.out.fz 0; have m1 := HN8.out.cell 1 rfl; have mz1 := HN8.out.fz 1; have m2 := HN8.out.cell 2 rfl; have mz2 := HN8.out.fz 2; have ml := HN8.out.lt) | skip
              first | (have hne := HN7.out.tyb.ne HN8.out.tyb (by decide); have hne2 : g8 ≠ g7 := Ne.symm hne) | skip
              try simp only [Act.put, List.setIfInBounds_toArray, List.set_cons_zero, List.set_cons_succ]
              refine wpAnyH_ready (rs := [9]) (by kernel_rfl) (by simp) ?_
              refine AllReadyH.cons (by first | (simp only [List.getElem?_toArray, List.getElem?_cons_succ, List.getElem?_cons_zero] <;> rfl) | rfl) (fun K hK => ?_) ?_
              · go_simp
                refine hK.out _ _ ?_ (fun hHeld5 => ?_)
                · exact cell_grow hHeld4 (set6_grown _ _ _ _ _ _ _ _) (by have := HG7.out; omega)
                clear hK K
                try simp only [Act.put, List.setIfInBounds_toArray, List.set_cons_zero, List.set_cons_succ]
                refine wpAnyH_ready (rs := [10]) (by kernel_rfl) (by simp) ?_
                refine AllReadyH.cons (by first | (simp only [List.getElem?_toArray, List.getElem?_cons_succ, List.getElem?_cons_zero] <;> rfl) | rfl) (fun K hK => ?_) ?_
                · go_simp
                  refine hK.out _ _ ?_ (fun hHeld6 => ?_)
                  · exact cell_grow (cell_grow hHeld4 (set6_grown _ _ _ _ _ _ _ _) (by have := HG7.out; omega)) (set3_grown _ _ _ _ _) (by have := HG8.out; omega)
                  clear hK K
                  try simp only [Act.put, List.setIfInBounds_toArray, List.set_cons_zero, List.set_cons_succ]
                  refine wpAnyH_done (by kernel_rfl) ?_ _
                  clear n0 nz0 n1 nz1 n2 nz2 n3 nz3 n4 nz4 n5 nz5 nl m0 mz0 m1 mz1 m2 mz2 ml
                  go_wp2_with fail
                  go_meet
                  case rel =>
                    exact heads_end HN7.out HN8.out hne HG7.out HG8.out HB.out
                exact AllReadyH.nil
              exact AllReadyH.nil
            exact AllReadyH.nil
          refine AllReadyH.cons (by first | (simp only [List.getElem?_toArray, List.getElem?_cons_succ, List.getElem?_cons_zero] <;> rfl) | rfl) (fun K hK => ?_) ?_
          · go_simp
            refine hK.out _ _ ?_ (fun hHeld3 => ?_)
            · exact cell_below hHeld2 (oneb _ _)
            clear hK K
            first | (clear n0 nz0 n1 nz1 n2 nz2 n3 nz3 n4 nz4 n5 nz5 nl) | skip
            first | (clear m0 mz0 m1 mz1 m2 mz2 ml) | skip
            have hbb := oneb vh2 (.cells #[.int .i64 0, .int .i64 0, .int .i64 0] 48)
            have hN := Bk.new vh2 48 #[.int .i64 0, .int .i64 0, .int .i64 0] (l := [.int .i64 0, .int .i64 0, .int .i64 0]) rfl
            have hge := HB.out.size
            generalize World.alloc vh2 _ = vh3 at hbb hN hHeld3 ⊢
            have HB := Lib.hid (HB.out.trans (hbb.mono HB.out.size))
            first | (have HPr := Lib.hid (HPr.out.kept hbb); have HGx := Lib.hid (HGx.out.kept hbb)) | (have HGx := Lib.hid (HGx.out.kept hbb)) | skip
            first | (have HN7 := Lib.hid (HN7.out.kept hbb)) | skip
            first | (have HN8 := Lib.hid (HN8.out.kept hbb)) | skip
            generalize vh2.heap.size = g8 at hN hge ⊢
            have HN8 := Lib.hid hN
            have HG8 := Lib.hid hge
            clear hbb hN hge hHeld2
            first | (have n0 := HN7.out.cell 0 rfl; have nz0 := HN7.out.fz 0; have n1 := HN7.out.cell 1 rfl; have nz1 := HN7.out.fz 1; have n2 := HN7.out.cell 2 rfl; have nz2 := HN7.out.fz 2; have n3 := HN7.out.cell 3 rfl; have nz3 := HN7.out.fz 3; have n4 := HN7.out.cell 4 rfl; have nz4 := HN7.out.fz 4; have n5 := HN7.out.cell 5 rfl; have nz5 := HN7.out.fz 5; have nl := HN7.out.lt) | skip
            first | (have m0 := HN8.out.cell 0 rfl; have mz0 := HN8.out.fz 0; have m1 := HN8.out.cell 1 rfl; have mz1 := HN8.out.fz 1; have m2 := HN8.out.cell 2 rfl; have mz2 := HN8.out.fz 2; have ml := HN8.out.lt) | skip
            first | (have hne := HN7.out.tyb.ne HN8.out.tyb (by decide); have hne2 : g8 ≠ g7 := Ne.symm hne) | skip
            try simp only [Act.put, List.setIfInBounds_toArray, List.set_cons_zero, List.set_cons_succ]
            refine wpAnyH_ready (rs := [3]) (by kernel_rfl) (by simp) ?_
            refine AllReadyH.cons (by first | (simp only [List.getElem?_toArray, List.getElem?_cons_succ, List.getElem?_cons_zero] <;> rfl) | rfl) (fun K hK => ?_) ?_
            · go_simp
              have hp := parse_any tx pb tb 0 qa _ HPr.out HGx.out (by omega)
              rw [HP.out] at hp
              refine hp.mono ?_
              clear hp
              rintro e vh4 ⟨⟨nm, d, hd, rv, bv, qv, rs, pt, po⟩, rfl, hTm, hPT, hTS, hgr, -⟩
              simp only [TV.m, zP, PolM.mk.injEq, List.map_eq_nil_iff] at hTm
              obtain ⟨rfl, rfl, rfl, rfl, rfl, rfl⟩ := hTm
              obtain ⟨A4, v4, hrv, -, -, -⟩ := own_typed hPT.r
              obtain ⟨A5, v5, hbv, -, -, -⟩ := own_typed hPT.p
              obtain ⟨A6, v6, hqv, -, -, -⟩ := own_typed hPT.q
              simp only at hrv hbv hqv
              subst hrv hbv hqv
              simp only [TV.l, wrl]
              refine hK.out _ _ ?_ (fun hHeld4 => ?_)
              · exact cell_grow hHeld3 hgr (by have := HTb.out; omega)
              clear hK K
              first | (clear n0 nz0 n1 nz1 n2 nz2 n3 nz3 n4 nz4 n5 nz5 nl) | skip
              first | (clear m0 mz0 m1 mz1 m2 mz2 ml) | skip
              have HB := Lib.hid (below_tab HB.out hgr HTb.out)
              first | (have HN7 := Lib.hid (HN7.out.grown hgr (by intro e; exact (HN7.out.tyb.ne (TS.tyb HPr.out.ts) (by decide)) (Option.some.inj e)))) | skip
              first | (have HN8 := Lib.hid (HN8.out.grown hgr (by intro e; exact (HN8.out.tyb.ne (TS.tyb HPr.out.ts) (by decide)) (Option.some.inj e)))) | skip
              clear hPT hTS hgr hHeld3 HPr HTb HGx
              first | (have n0 := HN7.out.cell 0 rfl; have nz0 := HN7.out.fz 0; have n1 := HN7.out.cell 1 rfl; have nz1 := HN7.out.fz 1; have n2 := HN7.out.cell 2 rfl; have nz2 := HN7.out.fz 2; have n3 := HN7.out.cell 3 rfl; have nz3 := HN7.out.fz 3; have n4 := HN7.out.cell 4 rfl; have nz4 := HN7.out.fz 4; have n5 := HN7.out.cell 5 rfl; have nz5 := HN7.out.fz 5; have nl := HN7.out.lt) | skip
              first | (have m0 := HN8.out.cell 0 rfl; have mz0 := HN8.out.fz 0; have m1 := HN8.out.cell 1 rfl; have mz1 := HN8.out.fz 1; have m2 := HN8.out.cell 2 rfl; have mz2 := HN8.out.fz 2; have ml := HN8.out.lt) | skip
              first | (have hne := HN7.out.tyb.ne HN8.out.tyb (by decide); have hne2 : g8 ≠ g7 := Ne.symm hne) | skip
              try simp only [Act.put, List.setIfInBounds_toArray, List.set_cons_zero, List.set_cons_succ]
              refine wpAnyH_take (i := 4) (v := ?_) (by first | (simp only [List.getElem?_toArray, List.getElem?_cons_succ, List.getElem?_cons_zero] <;> rfl) | rfl) (by kernel_rfl) (by kernel_rfl) (by kernel_rfl) (by exact fun _ _ _ h => h) (Or.inl ⟨by rfl, ?_⟩) hHeld4 ?_
              rotate_left 1
              · intro w hSw
                try dsimp only at hSw
                (go_simp) <;> (with_reducible rfl)
              try simp only [Act.put, List.setIfInBounds_toArray, List.set_cons_zero, List.set_cons_succ]
              refine wpAnyH_take (i := 5) (v := ?_) (by first | (simp only [List.getElem?_toArray, List.getElem?_cons_succ, List.getElem?_cons_zero] <;> rfl) | rfl) (by kernel_rfl) (by kernel_rfl) (by kernel_rfl) (by exact fun _ _ _ h => h) (Or.inl ⟨by rfl, ?_⟩) hHeld4 ?_
              rotate_left 1
              · intro w hSw
                try dsimp only at hSw
                (go_simp) <;> (with_reducible rfl)
              try simp only [Act.put, List.setIfInBounds_toArray, List.set_cons_zero, List.set_cons_succ]
              refine wpAnyH_take (i := 6) (v := ?_) (by first | (simp only [List.getElem?_toArray, List.getElem?_cons_succ, List.getElem?_cons_zero] <;> rfl) | rfl) (by kernel_rfl) (by kernel_rfl) (by kernel_rfl) (by exact fun _ _ _ h => h) (Or.inl ⟨by rfl, ?_⟩) hHeld4 ?_
              rotate_left 1
              · intro w hSw
                try dsimp only at hSw
                (go_simp) <;> (with_reducible rfl)
              try simp only [Act.put, List.setIfInBounds_toArray, List.set_cons_zero, List.set_cons_succ]
              refine wpAnyH_ready (rs := [9]) (by kernel_rfl) (by simp) ?_
              refine AllReadyH.cons (by first | (simp only [List.getElem?_toArray, List.getElem?_cons_succ, List.getElem?_cons_zero] <;> rfl) | rfl) (fun K hK => ?_) ?_
              · go_simp
                refine hK.out _ _ ?_ (fun hHeld5 => ?_)
                · exact cell_grow hHeld4 (set6_grown _ _ _ _ _ _ _ _) (by have := HG7.out; omega)
                clear hK K
                try simp only [Act.put, List.setIfInBounds_toArray, List.set_cons_zero, List.set_cons_succ]
                refine wpAnyH_ready (rs := [10]) (by kernel_rfl) (by simp) ?_
                refine AllReadyH.cons (by first | (simp only [List.getElem?_toArray, List.getElem?_cons_succ, List.getElem?_cons_zero] <;> rfl) | rfl) (fun K hK => ?_) ?_
                · go_simp
                  refine hK.out _ _ ?_ (fun hHeld6 => ?_)
                  · exact cell_grow (cell_grow hHeld4 (set6_grown _ _ _ _ _ _ _ _) (by have := HG7.out; omega)) (set3_grown _ _ _ _ _) (by have := HG8.out; omega)
                  clear hK K
                  try simp only [Act.put, List.setIfInBounds_toArray, List.set_cons_zero, List.set_cons_succ]
                  refine wpAnyH_done (by kernel_rfl) ?_ _
                  clear n0 nz0 n1 nz1 n2 nz2 n3 nz3 n4 nz4 n5 nz5 nl m0 mz0 m1 mz1 m2 mz2 ml
                  go_wp2_with fail
                  go_meet
                  case rel =>
                    exact heads_end HN7.out HN8.out hne HG7.out HG8.out HB.out
                exact AllReadyH.nil
              exact AllReadyH.nil
            exact AllReadyH.nil
          exact AllReadyH.nil
        refine AllReadyH.cons (by first | (simp only [List.getElem?_toArray, List.getElem?_cons_succ, List.getElem?_cons_zero] <;> rfl) | rfl) (fun K hK => ?_) ?_
        · go_simp
          refine hK.out _ _ ?_ (fun hHeld2 => ?_)
          · exact cell_below hHeld1 (oneb _ _)
          clear hK K
          first | (clear n0 nz0 n1 nz1 n2 nz2 n3 nz3 n4 nz4 n5 nz5 nl) | skip
          first | (clear m0 mz0 m1 mz1 m2 mz2 ml) | skip
          have hbb := oneb vh1 (.cells #[.int .i64 0, .int .i64 0, .int .i64 0] 48)
          have hN := Bk.new vh1 48 #[.int .i64 0, .int .i64 0, .int .i64 0] (l := [.int .i64 0, .int .i64 0, .int .i64 0]) rfl
          have hge := HB.out.size
          generalize World.alloc vh1 _ = vh2 at hbb hN hHeld2 ⊢
          have HB := Lib.hid (HB.out.trans (hbb.mono HB.out.size))
          first | (have HPr := Lib.hid (HPr.out.kept hbb); have HGx := Lib.hid (HGx.out.kept hbb)) | (have HGx := Lib.hid (HGx.out.kept hbb)) | skip
          first | (have HN7 := Lib.hid (HN7.out.kept hbb)) | skip
          first | (have HN8 := Lib.hid (HN8.out.kept hbb)) | skip
          generalize vh1.heap.size = g8 at hN hge ⊢
          have HN8 := Lib.hid hN
          have HG8 := Lib.hid hge
          clear hbb hN hge hHeld1
          first | (have n0 := HN7.out.cell 0 rfl; have nz0 := HN7.out.fz 0; have n1 := HN7.out.cell 1 rfl; have nz1 := HN7.out.fz 1; have n2 := HN7.out.cell 2 rfl; have nz2 := HN7.out.fz 2; have n3 := HN7.out.cell 3 rfl; have nz3 := HN7.out.fz 3; have n4 := HN7.out.cell 4 rfl; have nz4 := HN7.out.fz 4; have n5 := HN7.out.cell 5 rfl; have nz5 := HN7.out.fz 5; have nl := HN7.out.lt) | skip
          first | (have m0 := HN8.out.cell 0 rfl; have mz0 := HN8.out.fz 0; have m1 := HN8.out.cell 1 rfl; have mz1 := HN8.out.fz 1; have m2 := HN8.out.cell 2 rfl; have mz2 := HN8.out.fz 2; have ml := HN8.out.lt) | skip
          first | (have hne := HN7.out.tyb.ne HN8.out.tyb (by decide); have hne2 : g8 ≠ g7 := Ne.symm hne) | skip
          try simp only [Act.put, List.setIfInBounds_toArray, List.set_cons_zero, List.set_cons_succ]
          refine wpAnyH_ready (rs := [0]) (by kernel_rfl) (by simp) ?_
          refine AllReadyH.cons (by first | (simp only [List.getElem?_toArray, List.getElem?_cons_zero] <;> rfl) | rfl) (fun K hK => ?_) ?_
          · go_simp
            refine (parseNew_any _).mono ?_
            rintro e vh3 ⟨pb, tb, qa, rfl, hP, hbb, hpb, htb⟩
            refine hK.out _ _ ?_ (fun hHeld3 => ?_)
            · exact cell_below hHeld2 hbb
            clear hK K
            first | (clear n0 nz0 n1 nz1 n2 nz2 n3 nz3 n4 nz4 n5 nz5 nl) | skip
            first | (clear m0 mz0 m1 mz1 m2 mz2 ml) | skip
            have HPr := Lib.hid hP
            have HTb := Lib.hid (show w3.heap.size ≤ tb from Nat.le_trans HB.out.size htb)
            have HB := Lib.hid (HB.out.trans (hbb.mono HB.out.size))
            have HGx := Lib.hid (HGx.out.kept hbb)
            first | (have HN7 := Lib.hid (HN7.out.kept hbb)) | skip
            first | (have HN8 := Lib.hid (HN8.out.kept hbb)) | skip
            clear hP hbb hpb htb hHeld2
            first | (have n0 := HN7.out.cell 0 rfl; have nz0 := HN7.out.fz 0; have n1 := HN7.out.cell 1 rfl; have nz1 := HN7.out.fz 1; have n2 := HN7.out.cell 2 rfl; have nz2 := HN7.out.fz 2; have n3 := HN7.out.cell 3 rfl; have nz3 := HN7.out.fz 3; have n4 := HN7.out.cell 4 rfl; have nz4 := HN7.out.fz 4; have n5 := HN7.out.cell 5 rfl; have nz5 := HN7.out.fz 5; have nl := HN7.out.lt) | skip
            first | (have m0 := HN8.out.cell 0 rfl; have mz0 := HN8.out.fz 0; have m1 := HN8.out.cell 1 rfl; have mz1 := HN8.out.fz 1; have m2 := HN8.out.cell 2 rfl; have mz2 := HN8.out.fz 2; have ml := HN8.out.lt) | skip
            first | (have hne := HN7.out.tyb.ne HN8.out.tyb (by decide); have hne2 : g8 ≠ g7 := Ne.symm hne) | skip
            try simp only [Act.put, List.setIfInBounds_toArray, List.set_cons_zero, List.set_cons_succ]
            refine wpAnyH_ready (rs := [3]) (by kernel_rfl) (by simp) ?_
            refine AllReadyH.cons (by first | (simp only [List.getElem?_toArray, List.getElem?_cons_succ, List.getElem?_cons_zero] <;> rfl) | rfl) (fun K hK => ?_) ?_
            · go_simp
              have hp := parse_any tx pb tb 0 qa _ HPr.out HGx.out (by omega)
              rw [HP.out] at hp
              refine hp.mono ?_
              clear hp
              rintro e vh4 ⟨⟨nm, d, hd, rv, bv, qv, rs, pt, po⟩, rfl, hTm, hPT, hTS, hgr, -⟩
              simp only [TV.m, zP, PolM.mk.injEq, List.map_eq_nil_iff] at hTm
              obtain ⟨rfl, rfl, rfl, rfl, rfl, rfl⟩ := hTm
              obtain ⟨A4, v4, hrv, -, -, -⟩ := own_typed hPT.r
              obtain ⟨A5, v5, hbv, -, -, -⟩ := own_typed hPT.p
              obtain ⟨A6, v6, hqv, -, -, -⟩ := own_typed hPT.q
              simp only at hrv hbv hqv
              subst hrv hbv hqv
              simp only [TV.l, wrl]
              refine hK.out _ _ ?_ (fun hHeld4 => ?_)
              · exact cell_grow hHeld3 hgr (by have := HTb.out; omega)
              clear hK K
              first | (clear n0 nz0 n1 nz1 n2 nz2 n3 nz3 n4 nz4 n5 nz5 nl) | skip
              first | (clear m0 mz0 m1 mz1 m2 mz2 ml) | skip
              have HB := Lib.hid (below_tab HB.out hgr HTb.out)
              first | (have HN7 := Lib.hid (HN7.out.grown hgr (by intro e; exact (HN7.out.tyb.ne (TS.tyb HPr.out.ts) (by decide)) (Option.some.inj e)))) | skip
              first | (have HN8 := Lib.hid (HN8.out.grown hgr (by intro e; exact (HN8.out.tyb.ne (TS.tyb HPr.out.ts) (by decide)) (Option.some.inj e)))) | skip
              clear hPT hTS hgr hHeld3 HPr HTb HGx
              first | (have n0 := HN7.out.cell 0 rfl; have nz0 := HN7.out.fz 0; have n1 := HN7.out.cell 1 rfl; have nz1 := HN7.out.fz 1; have n2 := HN7.out.cell 2 rfl; have nz2 := HN7.out.fz 2; have n3 := HN7.out.cell 3 rfl; have nz3 := HN7.out.fz 3; have n4 := HN7.out.cell 4 rfl; have nz4 := HN7.out.fz 4; have n5 := HN7.out.cell 5 rfl; have nz5 := HN7.out.fz 5; have nl := HN7.out.lt) | skip
              first | (have m0 := HN8.out.cell 0 rfl; have mz0 := HN8.out.fz 0; have m1 := HN8.out.cell 1 rfl; have mz1 := HN8.out.fz 1; have m2 := HN8.out.cell 2 rfl; have mz2 := HN8.out.fz 2; have ml := HN8.out.lt) | skip
              first | (have hne := HN7.out.tyb.ne HN8.out.tyb (by decide); have hne2 : g8 ≠ g7 := Ne.symm hne) | skip
              try simp only [Act.put, List.setIfInBounds_toArray, List.set_cons_zero, List.set_cons_succ]
              refine wpAnyH_take (i := 4) (v := ?_) (by first | (simp only [List.getElem?_toArray, List.getElem?_cons_succ, List.getElem?_cons_zero] <;> rfl) | rfl) (by kernel_rfl) (by kernel_rfl) (by kernel_rfl) (by exact fun _ _ _ h => h) (Or.inl ⟨by rfl, ?_⟩) hHeld4 ?_
              rotate_left 1
              · intro w hSw
                try dsimp only at hSw
                (go_simp) <;> (with_reducible rfl)
              try simp only [Act.put, List.setIfInBounds_toArray, List.set_cons_zero, List.set_cons_succ]
              refine wpAnyH_take (i := 5) (v := ?_) (by first | (simp only [List.getElem?_toArray, List.getElem?_cons_succ, List.getElem?_cons_zero] <;> rfl) | rfl) (by kernel_rfl) (by kernel_rfl) (by kernel_rfl) (by exact fun _ _ _ h => h) (Or.inl ⟨by rfl, ?_⟩) hHeld4 ?_
              rotate_left 1
              · intro w hSw
                try dsimp only at hSw
                (go_simp) <;> (with_reducible rfl)
              try simp only [Act.put, List.setIfInBounds_toArray, List.set_cons_zero, List.set_cons_succ]
              refine wpAnyH_take (i := 6) (v := ?_) (by first | (simp only [List.getElem?_toArray, List.getElem?_cons_succ, List.getElem?_cons_zero] <;> rfl) | rfl) (by kernel_rfl) (by kernel_rfl) (by kernel_rfl) (by exact fun _ _ _ h => h) (Or.inl ⟨by rfl, ?_⟩) hHeld4 ?_
              rotate_left 1
              · intro w hSw
                try dsimp only at hSw
                (go_simp) <;> (with_reducible rfl)
              try simp only [Act.put, List.setIfInBounds_toArray, List.set_cons_zero, List.set_cons_succ]
              refine wpAnyH_ready (rs := [9]) (by kernel_rfl) (by simp) ?_
              refine AllReadyH.cons (by first | (simp only [List.getElem?_toArray, List.getElem?_cons_succ, List.getElem?_cons_zero] <;> rfl) | rfl) (fun K hK => ?_) ?_
              · go_simp
                refine hK.out _ _ ?_ (fun hHeld5 => ?_)
                · exact cell_grow hHeld4 (set6_grown _ _ _ _ _ _ _ _) (by have := HG7.out; omega)
                clear hK K
                try simp only [Act.put, List.setIfInBounds_toArray, List.set_cons_zero, List.set_cons_succ]
                refine wpAnyH_ready (rs := [10]) (by kernel_rfl) (by simp) ?_
                refine AllReadyH.cons (by first | (simp only [List.getElem?_toArray, List.getElem?_cons_succ, List.getElem?_cons_zero] <;> rfl) | rfl) (fun K hK => ?_) ?_
                · go_simp
                  refine hK.out _ _ ?_ (fun hHeld6 => ?_)
                  · exact cell_grow (cell_grow hHeld4 (set6_grown _ _ _ _ _ _ _ _) (by have := HG7.out; omega)) (set3_grown _ _ _ _ _) (by have := HG8.out; omega)
                  clear hK K
                  try simp only [Act.put, List.setIfInBounds_toArray, List.set_cons_zero, List.set_cons_succ]
                  refine wpAnyH_done (by kernel_rfl) ?_ _
                  clear n0 nz0 n1 nz1 n2 nz2 n3 nz3 n4 nz4 n5 nz5 nl m0 mz0 m1 mz1 m2 mz2 ml
                  go_wp2_with fail
                  go_meet
                  case rel =>
                    exact heads_end HN7.out HN8.out hne HG7.out HG8.out HB.out
                exact AllReadyH.nil
              exact AllReadyH.nil
            exact AllReadyH.nil
          exact AllReadyH.nil
        exact AllReadyH.nil
      refine AllReadyH.cons (by first | (simp only [List.getElem?_toArray, List.getElem?_cons_succ, List.getElem?_cons_zero] <;> rfl) | rfl) (fun K hK => ?_) ?_
      · go_simp
        refine hK.out _ _ ?_ (fun hHeld1 => ?_)
        · exact cell_below hHeld0 (oneb _ _)
        clear hK K
        first | (clear n0 nz0 n1 nz1 n2 nz2 n3 nz3 n4 nz4 n5 nz5 nl) | skip
        first | (clear m0 mz0 m1 mz1 m2 mz2 ml) | skip
        have hbb := oneb vh0 (.cells #[.int .i64 0, .int .i64 0, .int .i64 0] 48)
        have hN := Bk.new vh0 48 #[.int .i64 0, .int .i64 0, .int .i64 0] (l := [.int .i64 0, .int .i64 0, .int .i64 0]) rfl
        have hge := HB.out.size
        generalize World.alloc vh0 _ = vh1 at hbb hN hHeld1 ⊢
        have HB := Lib.hid (HB.out.trans (hbb.mono HB.out.size))
        first | (have HPr := Lib.hid (HPr.out.kept hbb); have HGx := Lib.hid (HGx.out.kept hbb)) | (have HGx := Lib.hid (HGx.out.kept hbb)) | skip
        first | (have HN7 := Lib.hid (HN7.out.kept hbb)) | skip
        first | (have HN8 := Lib.hid (HN8.out.kept hbb)) | skip
        generalize vh0.heap.size = g8 at hN hge ⊢
        have HN8 := Lib.hid hN
        have HG8 := Lib.hid hge
        clear hbb hN hge hHeld0
        first | (have n0 := HN7.out.cell 0 rfl; have nz0 := HN7.out.fz 0; have n1 := HN7.out.cell 1 rfl; have nz1 := HN7.out.fz 1; have n2 := HN7.out.cell 2 rfl; have nz2 := HN7.out.fz 2; have n3 := HN7.out.cell 3 rfl; have nz3 := HN7.out.fz 3; have n4 := HN7.out.cell 4 rfl; have nz4 := HN7.out.fz 4; have n5 := HN7.out.cell 5 rfl; have nz5 := HN7.out.fz 5; have nl := HN7.out.lt) | skip
        first | (have m0 := HN8.out.cell 0 rfl; have mz0 := HN8.out.fz 0; have m1 := HN8.out.cell 1 rfl; have mz1 := HN8.out.fz 1; have m2 := HN8.out.cell 2 rfl; have mz2 := HN8.out.fz 2; have ml := HN8.out.lt) | skip
        first | (have hne := HN7.out.tyb.ne HN8.out.tyb (by decide); have hne2 : g8 ≠ g7 := Ne.symm hne) | skip
        try simp only [Act.put, List.setIfInBounds_toArray, List.set_cons_zero, List.set_cons_succ]
        refine wpAnyH_ready (rs := [0, 7]) (by kernel_rfl) (by simp) ?_
        refine AllReadyH.cons (by first | (simp only [List.getElem?_toArray, List.getElem?_cons_zero] <;> rfl) | rfl) (fun K hK => ?_) ?_
        · go_simp
          refine (parseNew_any _).mono ?_
          rintro e vh2 ⟨pb, tb, qa, rfl, hP, hbb, hpb, htb⟩
          refine hK.out _ _ ?_ (fun hHeld2 => ?_)
          · exact cell_below hHeld1 hbb
          clear hK K
          first | (clear n0 nz0 n1 nz1 n2 nz2 n3 nz3 n4 nz4 n5 nz5 nl) | skip
          first | (clear m0 mz0 m1 mz1 m2 mz2 ml) | skip
          have HPr := Lib.hid hP
          have HTb := Lib.hid (show w3.heap.size ≤ tb from Nat.le_trans HB.out.size htb)
          have HB := Lib.hid (HB.out.trans (hbb.mono HB.out.size))
          have HGx := Lib.hid (HGx.out.kept hbb)
          first | (have HN7 := Lib.hid (HN7.out.kept hbb)) | skip
          first | (have HN8 := Lib.hid (HN8.out.kept hbb)) | skip
          clear hP hbb hpb htb hHeld1
          first | (have n0 := HN7.out.cell 0 rfl; have nz0 := HN7.out.fz 0; have n1 := HN7.out.cell 1 rfl; have nz1 := HN7.out.fz 1; have n2 := HN7.out.cell 2 rfl; have nz2 := HN7.out.fz 2; have n3 := HN7.out.cell 3 rfl; have nz3 := HN7.out.fz 3; have n4 := HN7.out.cell 4 rfl; have nz4 := HN7.out.fz 4; have n5 := HN7.out.cell 5 rfl; have nz5 := HN7.out.fz 5; have nl := HN7.out.lt) | skip
          first | (have m0 := HN8.out.cell 0 rfl; have mz0 := HN8.out.fz 0; have m1 := HN8.out.cell 1 rfl; have mz1 := HN8.out.fz 1; have m2 := HN8.out.cell 2 rfl; have mz2 := HN8.out.fz 2; have ml := HN8.out.lt) | skip
          first | (have hne := HN7.out.tyb.ne HN8.out.tyb (by decide); have hne2 : g8 ≠ g7 := Ne.symm hne) | skip
          try simp only [Act.put, List.setIfInBounds_toArray, List.set_cons_zero, List.set_cons_succ]
          refine wpAnyH_ready (rs := [3, 7]) (by kernel_rfl) (by simp) ?_
          refine AllReadyH.cons (by first | (simp only [List.getElem?_toArray, List.getElem?_cons_succ, List.getElem?_cons_zero] <;> rfl) | rfl) (fun K hK => ?_) ?_
          · go_simp
            have hp := parse_any tx pb tb 0 qa _ HPr.out HGx.out (by omega)
            rw [HP.out] at hp
            refine hp.mono ?_
            clear hp
            rintro e vh3 ⟨⟨nm, d, hd, rv, bv, qv, rs, pt, po⟩, rfl, hTm, hPT, hTS, hgr, -⟩
            simp only [TV.m, zP, PolM.mk.injEq, List.map_eq_nil_iff] at hTm
            obtain ⟨rfl, rfl, rfl, rfl, rfl, rfl⟩ := hTm
            obtain ⟨A4, v4, hrv, -, -, -⟩ := own_typed hPT.r
            obtain ⟨A5, v5, hbv, -, -, -⟩ := own_typed hPT.p
            obtain ⟨A6, v6, hqv, -, -, -⟩ := own_typed hPT.q
            simp only at hrv hbv hqv
            subst hrv hbv hqv
            simp only [TV.l, wrl]
            refine hK.out _ _ ?_ (fun hHeld3 => ?_)
            · exact cell_grow hHeld2 hgr (by have := HTb.out; omega)
            clear hK K
            first | (clear n0 nz0 n1 nz1 n2 nz2 n3 nz3 n4 nz4 n5 nz5 nl) | skip
            first | (clear m0 mz0 m1 mz1 m2 mz2 ml) | skip
            have HB := Lib.hid (below_tab HB.out hgr HTb.out)
            first | (have HN7 := Lib.hid (HN7.out.grown hgr (by intro e; exact (HN7.out.tyb.ne (TS.tyb HPr.out.ts) (by decide)) (Option.some.inj e)))) | skip
            first | (have HN8 := Lib.hid (HN8.out.grown hgr (by intro e; exact (HN8.out.tyb.ne (TS.tyb HPr.out.ts) (by decide)) (Option.some.inj e)))) | skip
            clear hPT hTS hgr hHeld2 HPr HTb HGx
            first | (have n0 := HN7.out.cell 0 rfl; have nz0 := HN7.out.fz 0; have n1 := HN7.out.cell 1 rfl; have nz1 := HN7.out.fz 1; have n2 := HN7.out.cell 2 rfl; have nz2 := HN7.out.fz 2; have n3 := HN7.out.cell 3 rfl; have nz3 := HN7.out.fz 3; have n4 := HN7.out.cell 4 rfl; have nz4 := HN7.out.fz 4; have n5 := HN7.out.cell 5 rfl; have nz5 := HN7.out.fz 5; have nl := HN7.out.lt) | skip
            first | (have m0 := HN8.out.cell 0 rfl; have mz0 := HN8.out.fz 0; have m1 := HN8.out.cell 1 rfl; have mz1 := HN8.out.fz 1; have m2 := HN8.out.cell 2 rfl; have mz2 := HN8.out.fz 2; have ml := HN8.out.lt) | skip
            first | (have hne := HN7.out.tyb.ne HN8.out.tyb (by decide); have hne2 : g8 ≠ g7 := Ne.symm hne) | skip
            try simp only [Act.put, List.setIfInBounds_toArray, List.set_cons_zero, List.set_cons_succ]
            refine wpAnyH_take (i := 4) (v := ?_) (by first | (simp only [List.getElem?_toArray, List.getElem?_cons_succ, List.getElem?_cons_zero] <;> rfl) | rfl) (by kernel_rfl) (by kernel_rfl) (by kernel_rfl) (by exact fun _ _ _ h => h) (Or.inl ⟨by rfl, ?_⟩) hHeld3 ?_
            rotate_left 1
            · intro w hSw
              try dsimp only at hSw
              (go_simp) <;> (with_reducible rfl)
            try simp only [Act.put, List.setIfInBounds_toArray, List.set_cons_zero, List.set_cons_succ]
            refine wpAnyH_take (i := 5) (v := ?_) (by first | (simp only [List.getElem?_toArray, List.getElem?_cons_succ, List.getElem?_cons_zero] <;> rfl) | rfl) (by kernel_rfl) (by kernel_rfl) (by kernel_rfl) (by exact fun _ _ _ h => h) (Or.inl ⟨by rfl, ?_⟩) hHeld3 ?_
            rotate_left 1
            · intro w hSw
              try dsimp only at hSw
              (go_simp) <;> (with_reducible rfl)
            try simp only [Act.put, List.setIfInBounds_toArray, List.set_cons_zero, List.set_cons_succ]
            refine wpAnyH_take (i := 6) (v := ?_) (by first | (simp only [List.getElem?_toArray, List.getElem?_cons_succ, List.getElem?_cons_zero] <;> rfl) | rfl) (by kernel_rfl) (by kernel_rfl) (by kernel_rfl) (by exact fun _ _ _ h => h) (Or.inl ⟨by rfl, ?_⟩) hHeld3 ?_
            rotate_left 1
            · intro w hSw
              try dsimp only at hSw
              (go_simp) <;> (with_reducible rfl)
            try simp only [Act.put, List.setIfInBounds_toArray, List.set_cons_zero, List.set_cons_succ]
            refine wpAnyH_ready (rs := [7]) (by kernel_rfl) (by simp) ?_
            refine AllReadyH.cons (by first | (simp only [List.getElem?_toArray, List.getElem?_cons_succ, List.getElem?_cons_zero] <;> rfl) | rfl) (fun K hK => ?_) ?_
            · go_simp
              refine hK.out _ _ ?_ (fun hHeld4 => ?_)
              · exact cell_below hHeld3 (oneb _ _)
              clear hK K
              first | (clear n0 nz0 n1 nz1 n2 nz2 n3 nz3 n4 nz4 n5 nz5 nl) | skip
              first | (clear m0 mz0 m1 mz1 m2 mz2 ml) | skip
              have hbb := oneb vh3 (.cells #[.string ⟨#[]⟩, .int .u32 0, .slice none 0 0, .int .u16 0, .slice none 0 0, .slice none 0 0] 35)
              have hN := Bk.new vh3 35 #[.string ⟨#[]⟩, .int .u32 0, .slice none 0 0, .int .u16 0, .slice none 0 0, .slice none 0 0] (l := [.string ⟨#[]⟩, .int .u32 0, .slice none 0 0, .int .u16 0, .slice none 0 0, .slice none 0 0]) rfl
              have hge := HB.out.size
              generalize World.alloc vh3 _ = vh4 at hbb hN hHeld4 ⊢
              have HB := Lib.hid (HB.out.trans (hbb.mono HB.out.size))
              first | (have HPr := Lib.hid (HPr.out.kept hbb); have HGx := Lib.hid (HGx.out.kept hbb)) | (have HGx := Lib.hid (HGx.out.kept hbb)) | skip
              first | (have HN7 := Lib.hid (HN7.out.kept hbb)) | skip
              first | (have HN8 := Lib.hid (HN8.out.kept hbb)) | skip
              generalize vh3.heap.size = g7 at hN hge ⊢
              have HN7 := Lib.hid hN
              have HG7 := Lib.hid hge
              clear hbb hN hge hHeld3
              first | (have n0 := HN7.out.cell 0 rfl; have nz0 := HN7.out.fz 0; have n1 := HN7.out.cell 1 rfl; have nz1 := HN7.out.fz 1; have n2 := HN7.out.cell 2 rfl; have nz2 := HN7.out.fz 2; have n3 := HN7.out.cell 3 rfl; have nz3 := HN7.out.fz 3; have n4 := HN7.out.cell 4 rfl; have nz4 := HN7.out.fz 4; have n5 := HN7.out.cell 5 rfl; have nz5 := HN7.out.fz 5; have nl := HN7.out.lt) | skip
              first | (have m0 := HN8.out.cell 0 rfl; have mz0 := HN8.out.fz 0; have m1 := HN8.out.cell 1 rfl; have mz1 := HN8.out.fz 1; have m2 := HN8.out.cell 2 rfl; have mz2 := HN8.out.fz 2; have ml := HN8.out.lt) | skip
              first | (have hne := HN7.out.tyb.ne HN8.out.tyb (by decide); have hne2 : g8 ≠ g7 := Ne.symm hne) | skip
              try simp only [Act.put, List.setIfInBounds_toArray, List.set_cons_zero, List.set_cons_succ]
              refine wpAnyH_ready (rs := [9]) (by kernel_rfl) (by simp) ?_
              refine AllReadyH.cons (by first | (simp only [List.getElem?_toArray, List.getElem?_cons_succ, List.getElem?_cons_zero] <;> rfl) | rfl) (fun K hK => ?_) ?_
              · go_simp
                refine hK.out _ _ ?_ (fun hHeld5 => ?_)
                · exact cell_grow hHeld4 (set6_grown _ _ _ _ _ _ _ _) (by have := HG7.out; omega)
                clear hK K
                try simp only [Act.put, List.setIfInBounds_toArray, List.set_cons_zero, List.set_cons_succ]
                refine wpAnyH_ready (rs := [10]) (by kernel_rfl) (by simp) ?_
                refine AllReadyH.cons (by first | (simp only [List.getElem?_toArray, List.getElem?_cons_succ, List.getElem?_cons_zero] <;> rfl) | rfl) (fun K hK => ?_) ?_
                · go_simp
                  refine hK.out _ _ ?_ (fun hHeld6 => ?_)
                  · exact cell_grow (cell_grow hHeld4 (set6_grown _ _ _ _ _ _ _ _) (by have := HG7.out; omega)) (set3_grown _ _ _ _ _) (by have := HG8.out; omega)
                  clear hK K
                  try simp only [Act.put, List.setIfInBounds_toArray, List.set_cons_zero, List.set_cons_succ]
                  refine wpAnyH_done (by kernel_rfl) ?_ _
                  clear n0 nz0 n1 nz1 n2 nz2 n3 nz3 n4 nz4 n5 nz5 nl m0 mz0 m1 mz1 m2 mz2 ml
                  go_wp2_with fail
                  go_meet
                  case rel =>
                    exact heads_end HN7.out HN8.out hne HG7.out HG8.out HB.out
                exact AllReadyH.nil
              exact AllReadyH.nil
            exact AllReadyH.nil
          refine AllReadyH.cons (by first | (simp only [List.getElem?_toArray, List.getElem?_cons_succ, List.getElem?_cons_zero] <;> rfl) | rfl) (fun K hK => ?_) ?_
          · go_simp
            refine hK.out _ _ ?_ (fun hHeld3 => ?_)
            · exact cell_below hHeld2 (oneb _ _)
            clear hK K
            first | (clear n0 nz0 n1 nz1 n2 nz2 n3 nz3 n4 nz4 n5 nz5 nl) | skip
            first | (clear m0 mz0 m1 mz1 m2 mz2 ml) | skip
            have hbb := oneb vh2 (.cells #[.string ⟨#[]⟩, .int .u32 0, .slice none 0 0, .int .u16 0, .slice none 0 0, .slice none 0 0] 35)
            have hN := Bk.new vh2 35 #[.string ⟨#[]⟩, .int .u32 0, .slice none 0 0, .int .u16 0, .slice none 0 0, .slice none 0 0] (l := [.string ⟨#[]⟩, .int .u32 0, .slice none 0 0, .int .u16 0, .slice none 0 0, .slice none 0 0]) rfl
            have hge := HB.out.size
            generalize World.alloc vh2 _ = vh3 at hbb hN hHeld3 ⊢
            have HB := Lib.hid (HB.out.trans (hbb.mono HB.out.size))
            first | (have HPr := Lib.hid (HPr.out.kept hbb); have HGx := Lib.hid (HGx.out.kept hbb)) | (have HGx := Lib.hid (HGx.out.kept hbb)) | skip
            first | (have HN7 := Lib.hid (HN7.out.kept hbb)) | skip
            first | (have HN8 := Lib.hid (HN8.out.kept hbb)) | skip
            generalize vh2.heap.size = g7 at hN hge ⊢
            have HN7 := Lib.hid hN
            have HG7 := Lib.hid hge
            clear hbb hN hge hHeld2
            first | (have n0 := HN7.out.cell 0 rfl; have nz0 := HN7.out.fz 0; have n1 := HN7.out.cell 1 rfl; have nz1 := HN7.out.fz 1; have n2 := HN7.out.cell 2 rfl; have nz2 := HN7.out.fz 2; have n3 := HN7.out.cell 3 rfl; have nz3 := HN7.out.fz 3; have n4 := HN7.out.cell 4 rfl; have nz4 := HN7.out.fz 4; have n5 := HN7.out.cell 5 rfl; have nz5 := HN7.out.fz 5; have nl := HN7.out.lt) | skip
            first | (have m0 := HN8.out.cell 0 rfl; have mz0 := HN8.out.fz 0; have m1 := HN8.out.cell 1 rfl; have mz1 := HN8.out.fz 1; have m2 := HN8.out.cell 2 rfl; have mz2 := HN8.out.fz 2; have ml := HN8.out.lt) | skip
            first | (have hne := HN7.out.tyb.ne HN8.out.tyb (by decide); have hne2 : g8 ≠ g7 := Ne.symm hne) | skip
            try simp only [Act.put, List.setIfInBounds_toArray, List.set_cons_zero, List.set_cons_succ]
            refine wpAnyH_ready (rs := [3]) (by kernel_rfl) (by simp) ?_
            refine AllReadyH.cons (by first | (simp only [List.getElem?_toArray, List.getElem?_cons_succ, List.getElem?_cons_zero] <;> rfl) | rfl) (fun K hK => ?_) ?_
            · go_simp
              have hp := parse_any tx pb tb 0 qa _ HPr.out HGx.out (by omega)
              rw [HP.out] at hp
              refine hp.mono ?_
              clear hp
              rintro e vh4 ⟨⟨nm, d, hd, rv, bv, qv, rs, pt, po⟩, rfl, hTm, hPT, hTS, hgr, -⟩
              simp only [TV.m, zP, PolM.mk.injEq, List.map_eq_nil_iff] at hTm
              obtain ⟨rfl, rfl, rfl, rfl, rfl, rfl⟩ := hTm
              obtain ⟨A4, v4, hrv, -, -, -⟩ := own_typed hPT.r
              obtain ⟨A5, v5, hbv, -, -, -⟩ := own_typed hPT.p
              obtain ⟨A6, v6, hqv, -, -, -⟩ := own_typed hPT.q
              simp only at hrv hbv hqv
              subst hrv hbv hqv
              simp only [TV.l, wrl]
              refine hK.out _ _ ?_ (fun hHeld4 => ?_)
              · exact cell_grow hHeld3 hgr (by have := HTb.out; omega)
              clear hK K
              first | (clear n0 nz0 n1 nz1 n2 nz2 n3 nz3 n4 nz4 n5 nz5 nl) | skip
              first | (clear m0 mz0 m1 mz1 m2 mz2 ml) | skip
              have HB := Lib.hid (below_tab HB.out hgr HTb.out)
              first | (have HN7 := Lib.hid (HN7.out.grown hgr (by intro e; exact (HN7.out.tyb.ne (TS.tyb HPr.out.ts) (by decide)) (Option.some.inj e)))) | skip
              first | (have HN8 := Lib.hid (HN8.out.grown hgr (by intro e; exact (HN8.out.tyb.ne (TS.tyb HPr.out.ts) (by decide)) (Option.some.inj e)))) | skip
              clear hPT hTS hgr hHeld3 HPr HTb HGx
              first | (have n0 := HN7.out.cell 0 rfl; have nz0 := HN7.out.fz 0; have n1 := HN7.out.cell 1 rfl; have nz1 := HN7.out.fz 1; have n2 := HN7.out.cell 2 rfl; have nz2 := HN7.out.fz 2; have n3 := HN7.out.cell 3 rfl; have nz3 := HN7.out.fz 3; have n4 := HN7.out.cell 4 rfl; have nz4 := HN7.out.fz 4; have n5 := HN7.out.cell 5 rfl; have nz5 := HN7.out.fz 5; have nl := HN7.out.lt) | skip
              first | (have m0 := HN8.out.cell 0 rfl; have mz0 := HN8.out.fz 0; have m1 := HN8.out.cell 1 rfl; have mz1 := HN8.out.fz 1; have m2 := HN8.out.cell 2 rfl; have mz2 := HN8.out.fz 2; have ml := HN8.out.lt) | skip
              first | (have hne := HN7.out.tyb.ne HN8.out.tyb (by decide); have hne2 : g8 ≠ g7 := Ne.symm hne) | skip
              try simp only [Act.put, List.setIfInBounds_toArray, List.set_cons_zero, List.set_cons_succ]
              refine wpAnyH_take (i := 4) (v := ?_) (by first | (simp only [List.getElem?_toArray, List.getElem?_cons_succ, List.getElem?_cons_zero] <;> rfl) | rfl) (by kernel_rfl) (by kernel_rfl) (by kernel_rfl) (by exact fun _ _ _ h => h) (Or.inl ⟨by rfl, ?_⟩) hHeld4 ?_
              rotate_left 1
              · intro w hSw
                try dsimp only at hSw
                (go_simp) <;> (with_reducible rfl)
              try simp only [Act.put, List.setIfInBounds_toArray, List.set_cons_zero, List.set_cons_succ]
              refine wpAnyH_take (i := 5) (v := ?_) (by first | (simp only [List.getElem?_toArray, List.getElem?_cons_succ, List.getElem?_cons_zero] <;> rfl) | rfl) (by kernel_rfl) (by kernel_rfl) (by kernel_rfl) (by exact fun _ _ _ h => h) (Or.inl ⟨by rfl, ?_⟩) hHeld4 ?_
              rotate_left 1
              · intro w hSw
                try dsimp only at hSw
                (go_simp) <;> (with_reducible rfl)
              try simp only [Act.put, List.setIfInBounds_toArray, List.set_cons_zero, List.set_cons_succ]
              refine wpAnyH_take (i := 6) (v := ?_) (by first | (simp only [List.getElem?_toArray, List.getElem?_cons_succ, List.getElem?_cons_zero] <;> rfl) | rfl) (by kernel_rfl) (by kernel_rfl) (by kernel_rfl) (by exact fun _ _ _ h => h) (Or.inl ⟨by rfl, ?_⟩) hHeld4 ?_
              rotate_left 1
              · intro w hSw
                try dsimp only at hSw
                (go_simp) <;> (with_reducible rfl)
              try simp only [Act.put, List.setIfInBounds_toArray, List.set_cons_zero, List.set_cons_succ]
              refine wpAnyH_ready (rs := [9]) (by kernel_rfl) (by simp) ?_
              refine AllReadyH.cons (by first | (simp only [List.getElem?_toArray, List.getElem?_cons_succ, List.getElem?_cons_zero] <;> rfl) | rfl) (fun K hK => ?_) ?_
              · go_simp
                refine hK.out _ _ ?_ (fun hHeld5 => ?_)
                · exact cell_grow hHeld4 (set6_grown _ _ _ _ _ _ _ _) (by have := HG7.out; omega)
                clear hK K
                try simp only [Act.put, List.setIfInBounds_toArray, List.set_cons_zero, List.set_cons_succ]
                refine wpAnyH_ready (rs := [10]) (by kernel_rfl) (by simp) ?_
                refine AllReadyH.cons (by first | (simp only [List.getElem?_toArray, List.getElem?_cons_succ, List.getElem?_cons_zero] <;> rfl) | rfl) (fun K hK => ?_) ?_
                · go_simp
                  refine hK.out _ _ ?_ (fun hHeld6 => ?_)
                  · exact cell_grow (cell_grow hHeld4 (set6_grown _ _ _ _ _ _ _ _) (by have := HG7.out; omega)) (set3_grown _ _ _ _ _) (by have := HG8.out; omega)
                  clear hK K
                  try simp only [Act.put, List.setIfInBounds_toArray, List.set_cons_zero, List.set_cons_succ]
                  refine wpAnyH_done (by kernel_rfl) ?_ _
                  clear n0 nz0 n1 nz1 n2 nz2 n3 nz3 n4 nz4 n5 nz5 nl m0 mz0 m1 mz1 m2 mz2 ml
                  go_wp2_with fail
                  go_meet
                  case rel =>
                    exact heads_end HN7.out HN8.out hne HG7.out HG8.out HB.out
                exact AllReadyH.nil
              exact AllReadyH.nil
            exact AllReadyH.nil
          exact AllReadyH.nil
        refine AllReadyH.cons (by first | (simp only [List.getElem?_toArray, List.getElem?_cons_succ, List.getElem?_cons_zero] <;> rfl) | rfl) (fun K hK => ?_) ?_
        · go_simp
          refine hK.out _ _ ?_ (fun hHeld2 => ?_)
          · exact cell_below hHeld1 (oneb _ _)
          clear hK K
          first | (clear n0 nz0 n1 nz1 n2 nz2 n3 nz3 n4 nz4 n5 nz5 nl) | skip
          first | (clear m0 mz0 m1 mz1 m2 mz2 ml) | skip
          have hbb := oneb vh1 (.cells #[.string ⟨#[]⟩, .int .u32 0, .slice none 0 0, .int .u16 0, .slice none 0 0, .slice none 0 0] 35)
          have hN := Bk.new vh1 35 #[.string ⟨#[]⟩, .int .u32 0, .slice none 0 0, .int .u16 0, .slice none 0 0, .slice none 0 0] (l := [.string ⟨#[]⟩, .int .u32 0, .slice none 0 0, .int .u16 0, .slice none 0 0, .slice none 0 0]) rfl
          have hge := HB.out.size
          generalize World.alloc vh1 _ = vh2 at hbb hN hHeld2 ⊢
          have HB := Lib.hid (HB.out.trans (hbb.mono HB.out.size))
          first | (have HPr := Lib.hid (HPr.out.kept hbb); have HGx := Lib.hid (HGx.out.kept hbb)) | (have HGx := Lib.hid (HGx.out.kept hbb)) | skip
          first | (have HN7 := Lib.hid (HN7.out.kept hbb)) | skip
          first | (have HN8 := Lib.hid (HN8.out.kept hbb)) | skip
          generalize vh1.heap.size = g7 at hN hge ⊢
          have HN7 := Lib.hid hN
          have HG7 := Lib.hid hge
          clear hbb hN hge hHeld1
          first | (have n0 := HN7.out.cell 0 rfl; have nz0 := HN7.out.fz 0; have n1 := HN7.out.cell 1 rfl; have nz1 := HN7.out.fz 1; have n2 := HN7.out.cell 2 rfl; have nz2 := HN7.out.fz 2; have n3 := HN7.out.cell 3 rfl; have nz3 := HN7.out.fz 3; have n4 := HN7.out.cell 4 rfl; have nz4 := HN7.out.fz 4; have n5 := HN7.out.cell 5 rfl; have nz5 := HN7.out.fz 5; have nl := HN7.out.lt) | skip
          first | (have m0 := HN8.out.cell 0 rfl; have mz0 := HN8.out.fz 0; have m1 := HN8.out.cell 1 rfl; have mz1 := HN8.out.fz 1; have m2 := HN8.out.cell 2 rfl; have mz2 := HN8.out.fz 2; have ml := HN8.out.lt) | skip
          first | (have hne := HN7.out.tyb.ne HN8.out.tyb (by decide); have hne2 : g8 ≠ g7 := Ne.symm hne) | skip
          try simp only [Act.put, List.setIfInBounds_toArray, List.set_cons_zero, List.set_cons_succ]
          refine wpAnyH_ready (rs := [0]) (by kernel_rfl) (by simp) ?_
          refine AllReadyH.cons (by first | (simp only [List.getElem?_toArray, List.getElem?_cons_zero] <;> rfl) | rfl) (fun K hK => ?_) ?_
          · go_simp
            refine (parseNew_any _).mono ?_
            rintro e vh3 ⟨pb, tb, qa, rfl, hP, hbb, hpb, htb⟩
            refine hK.out _ _ ?_ (fun hHeld3 => ?_)
            · exact cell_below hHeld2 hbb
            clear hK K
            first | (clear n0 nz0 n1 nz1 n2 nz2 n3 nz3 n4 nz4 n5 nz5 nl) | skip
            first | (clear m0 mz0 m1 mz1 m2 mz2 ml) | skip
            have HPr := Lib.hid hP
            have HTb := Lib.hid (show w3.heap.size ≤ tb from Nat.le_trans HB.out.size htb)
            have HB := Lib.hid (HB.out.trans (hbb.mono HB.out.size))
            have HGx := Lib.hid (HGx.out.kept hbb)
            first | (have HN7 := Lib.hid (HN7.out.kept hbb)) | skip
            first | (have HN8 := Lib.hid (HN8.out.kept hbb)) | skip
            clear hP hbb hpb htb hHeld2
            first | (have n0 := HN7.out.cell 0 rfl; have nz0 := HN7.out.fz 0; have n1 := HN7.out.cell 1 rfl; have nz1 := HN7.out.fz 1; have n2 := HN7.out.cell 2 rfl; have nz2 := HN7.out.fz 2; have n3 := HN7.out.cell 3 rfl; have nz3 := HN7.out.fz 3; have n4 := HN7.out.cell 4 rfl; have nz4 := HN7.out.fz 4; have n5 := HN7.out.cell 5 rfl; have nz5 := HN7.out.fz 5; have nl := HN7.out.lt) | skip
            first | (have m0 := HN8.out.cell 0 rfl; have mz0 := HN8.out.fz 0; have m1 := HN8.out.cell 1 rfl; have mz1 := HN8.out.fz 1; have m2 := HN8.out.cell 2 rfl; have mz2 := HN8.out.fz 2; have ml := HN8.out.lt) | skip
            first | (have hne := HN7.out.tyb.ne HN8.out.tyb (by decide); have hne2 : g8 ≠ g7 := Ne.symm hne) | skip
            try simp only [Act.put, List.setIfInBounds_toArray, List.set_cons_zero, List.set_cons_succ]
            refine wpAnyH_ready (rs := [3]) (by kernel_rfl) (by simp) ?_
            refine AllReadyH.cons (by first | (simp only [List.getElem?_toArray, List.getElem?_cons_succ, List.getElem?_cons_zero] <;> rfl) | rfl) (fun K hK => ?_) ?_
            · go_simp
              have hp := parse_any tx pb tb 0 qa _ HPr.out HGx.out (by omega)
              rw [HP.out] at hp
              refine hp.mono ?_
              clear hp
              rintro e vh4 ⟨⟨nm, d, hd, rv, bv, qv, rs, pt, po⟩, rfl, hTm, hPT, hTS, hgr, -⟩
              simp only [TV.m, zP, PolM.mk.injEq, List.map_eq_nil_iff] at hTm
              obtain ⟨rfl, rfl, rfl, rfl, rfl, rfl⟩ := hTm
              obtain ⟨A4, v4, hrv, -, -, -⟩ := own_typed hPT.r
              obtain ⟨A5, v5, hbv, -, -, -⟩ := own_typed hPT.p
              obtain ⟨A6, v6, hqv, -, -, -⟩ := own_typed hPT.q
              simp only at hrv hbv hqv
              subst hrv hbv hqv
              simp only [TV.l, wrl]
              refine hK.out _ _ ?_ (fun hHeld4 => ?_)
              · exact cell_grow hHeld3 hgr (by have := HTb.out; omega)
              clear hK K
              first | (clear n0 nz0 n1 nz1 n2 nz2 n3 nz3 n4 nz4 n5 nz5 nl) | skip
              first | (clear m0 mz0 m1 mz1 m2 mz2 ml) | skip
              have HB := Lib.hid (below_tab HB.out hgr HTb.out)
              first | (have HN7 := Lib.hid (HN7.out.grown hgr (by intro e; exact (HN7.out.tyb.ne (TS.tyb HPr.out.ts) (by decide)) (Option.some.inj e)))) | skip
              first | (have HN8 := Lib.hid (HN8.out.grown hgr (by intro e; exact (HN8.out.tyb.ne (TS.tyb HPr.out.ts) (by decide)) (Option.some.inj e)))) | skip
              clear hPT hTS hgr hHeld3 HPr HTb HGx
              first | (have n0 := HN7.out.cell 0 rfl; have nz0 := HN7.out.fz 0; have n1 := HN7.out.cell 1 rfl; have nz1 := HN7.out.fz 1; have n2 := HN7.out.cell 2 rfl; have nz2 := HN7.out.fz 2; have n3 := HN7.out.cell 3 rfl; have nz3 := HN7.out.fz 3; have n4 := HN7.out.cell 4 rfl; have nz4 := HN7.out.fz 4; have n5 := HN7.out.cell 5 rfl; have nz5 := HN7.out.fz 5; have nl := HN7.out.lt) | skip
              first | (have m0 := HN8.out.cell 0 rfl; have mz0 := HN8.out.fz 0; have m1 := HN8.out.cell 1 rfl; have mz1 := HN8.out.fz 1; have m2 := HN8.out.cell 2 rfl; have mz2 := HN8.out.fz 2; have ml := HN8.out.lt) | skip
              first | (have hne := HN7.out.tyb.ne HN8.out.tyb (by decide); have hne2 : g8 ≠ g7 := Ne.symm hne) | skip
              try simp only [Act.put, List.setIfInBounds_toArray, List.set_cons_zero, List.set_cons_succ]
              refine wpAnyH_take (i := 4) (v := ?_) (by first | (simp only [List.getElem?_toArray, List.getElem?_cons_succ, List.getElem?_cons_zero] <;> rfl) | rfl) (by kernel_rfl) (by kernel_rfl) (by kernel_rfl) (by exact fun _ _ _ h => h) (Or.inl ⟨by rfl, ?_⟩) hHeld4 ?_
              rotate_left 1
              · intro w hSw
                try dsimp only at hSw
                (go_simp) <;> (with_reducible rfl)
              try simp only [Act.put, List.setIfInBounds_toArray, List.set_cons_zero, List.set_cons_succ]
              refine wpAnyH_take (i := 5) (v := ?_) (by first | (simp only [List.getElem?_toArray, List.getElem?_cons_succ, List.getElem?_cons_zero] <;> rfl) | rfl) (by kernel_rfl) (by kernel_rfl) (by kernel_rfl) (by exact fun _ _ _ h => h) (Or.inl ⟨by rfl, ?_⟩) hHeld4 ?_
              rotate_left 1
              · intro w hSw
                try dsimp only at hSw
                (go_simp) <;> (with_reducible rfl)
              try simp only [Act.put, List.setIfInBounds_toArray, List.set_cons_zero, List.set_cons_succ]
              refine wpAnyH_take (i := 6) (v := ?_) (by first | (simp only [List.getElem?_toArray, List.getElem?_cons_succ, List.getElem?_cons_zero] <;> rfl) | rfl) (by kernel_rfl) (by kernel_rfl) (by kernel_rfl) (by exact fun _ _ _ h => h) (Or.inl ⟨by rfl, ?_⟩) hHeld4 ?_
              rotate_left 1
              · intro w hSw
                try dsimp only at hSw
                (go_simp) <;> (with_reducible rfl)
              try simp only [Act.put, List.setIfInBounds_toArray, List.set_cons_zero, List.set_cons_succ]
              refine wpAnyH_ready (rs := [9]) (by kernel_rfl) (by simp) ?_
              refine AllReadyH.cons (by first | (simp only [List.getElem?_toArray, List.getElem?_cons_succ, List.getElem?_cons_zero] <;> rfl) | rfl) (fun K hK => ?_) ?_
              · go_simp
                refine hK.out _ _ ?_ (fun hHeld5 => ?_)
                · exact cell_grow hHeld4 (set6_grown _ _ _ _ _ _ _ _) (by have := HG7.out; omega)
                clear hK K
                try simp only [Act.put, List.setIfInBounds_toArray, List.set_cons_zero, List.set_cons_succ]
                refine wpAnyH_ready (rs := [10]) (by kernel_rfl) (by simp) ?_
                refine AllReadyH.cons (by first | (simp only [List.getElem?_toArray, List.getElem?_cons_succ, List.getElem?_cons_zero] <;> rfl) | rfl) (fun K hK => ?_) ?_
                · go_simp
                  refine hK.out _ _ ?_ (fun hHeld6 => ?_)
                  · exact cell_grow (cell_grow hHeld4 (set6_grown _ _ _ _ _ _ _ _) (by have := HG7.out; omega)) (set3_grown _ _ _ _ _) (by have := HG8.out; omega)
                  clear hK K
                  try simp only [Act.put, List.setIfInBounds_toArray, List.set_cons_zero, List.set_cons_succ]
                  refine wpAnyH_done (by kernel_rfl) ?_ _
                  clear n0 nz0 n1 nz1 n2 nz2 n3 nz3 n4 nz4 n5 nz5 nl m0 mz0 m1 mz1 m2 mz2 ml
                  go_wp2_with fail
                  go_meet
                  case rel =>
                    exact heads_end HN7.out HN8.out hne HG7.out HG8.out HB.out
                exact AllReadyH.nil
              exact AllReadyH.nil
            exact AllReadyH.nil
          exact AllReadyH.nil
        exact AllReadyH.nil
      exact AllReadyH.nil
    case rest =>
      obtain ⟨g8, rfl, HW8, HB3⟩ := hcut
      rename World => w4
      have HP := Lib.hid (fun W => parse_nil s W)
      go_wp2_with fail
      refine (HP.out _).mono ?_
      clear HP
      rintro e w5 ⟨rfl, hb5⟩
      have h8 := HW8.out.kept hb5
      have h3 := (HK3.out.kept HB3.out).kept hb5
      have HB5 := Lib.hid ((HB0.out.trans (HB3.out.mono HB0.out.size)).trans (hb5.mono (Nat.le_trans HB0.out.size HB3.out.size)))
      have q0 := h8.cell 0 rfl
      have q1 := h8.cell 1 rfl
      have q2 := h8.cell 2 rfl
      have ql := h8.lt
      have y1 := h3.cell 1 rfl
      have y2 := h3.cell 2 rfl
      have y3 := h3.cell 3 rfl
      have yl := h3.lt
      have hQ : ∀ W : World, (binOp .eql 48 (.agg #[.int .i64 l, .int .i64 c, .int .i64 er]) (.agg #[.int .i64 l, .int .i64 c, .int .i64 er])).run Tryz.prog W = .ok (.bool true) W := fun W => by have h := eql_wr ⟨l, c, er⟩ ⟨l, c, er⟩ W; simpa using h
      have hQ2 : ∀ W : World, (binOp .eql 48 (.agg #[.int .i64 0, .int .i64 0, .int .i64 201]) (.agg #[.int .i64 0, .int .i64 0, .int .i64 201])).run Tryz.prog W = .ok (.bool true) W := fun W => by have h := eql_wr ⟨0, 0, 201⟩ ⟨0, 0, 201⟩ W; simpa using h
      have Hc := Lib.hid (fun W => parseCalls_nil W)
      clear h8 h3 hb5
      simp only [TV.l, T0, wrl]
      go_wp2_with fail
      refine (Hc.out _).mono ?_
      rintro e w' ⟨rfl, rfl⟩
      go_wp2_with fail
      go_ret
      exact ⟨rfl, (HB5.out.alloc HB5.out.size _).alloc (HB5.out.alloc HB5.out.size _).size _⟩
end Go.Proofs.YtcioekokgpdhcaaGreatDoor.Pa
