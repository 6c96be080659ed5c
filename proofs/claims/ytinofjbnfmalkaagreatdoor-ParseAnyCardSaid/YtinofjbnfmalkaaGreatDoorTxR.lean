/- A rule's text: the walk. -/
import Derived.Test.YtinofjbnfmalkaaGreatDoorTxB
namespace Go.Proofs.YtinofjbnfmalkaaGreatDoor.Tx
open Go.RowKit Go.WideElems Pa
theorem grow_belowB {w v v' : World} {tb B : Nat} (h : w.grownBy v (some tb)) (hb : Below B v v') (hB : w.heap.size ≤ B) : w.grownBy v' (some tb) :=
  ⟨hb.os.trans h.os, hb.tape.trans h.tape, hb.output.trans h.output, Nat.le_trans h.size hb.size, fun i hi hne => (hb.block i (by omega)).trans (h.block i hi hne)⟩
structure RT (w W : World) (tb m : Nat) (cs : List Value) (t : Bs) : Prop where
  ts : TS W tb m
  gr : w.grownBy W (some tb)
  bf : BF (w.heap.size + 1) t W
  bk : Bk W w.heap.size 70 cs
theorem RT.below {w W W' : World} {tb m : Nat} {cs : List Value} {t : Bs} (h : RT w W tb m cs t) (hb : Below W.heap.size W W') : RT w W' tb m cs t := ⟨h.ts.kept hb, grow_below h.gr hb, h.bf.below hb, h.bk.kept hb⟩
theorem RT.asked {w W W' : World} {tb m m' : Nat} {cs : List Value} {t : Bs} (h : RT w W tb m cs t) (hts : TS W' tb m') (hg : W.grownBy W' (some tb)) (htl : tb < w.heap.size) : RT w W' tb m' cs t :=
  ⟨hts, grown_trans h.gr hg (fun k hk => by cases hk; exact .inl rfl), h.bf.grown hg (by omega), h.bk.grown hg (by intro e; have := Option.some.inj e; omega)⟩
theorem RT.wrote {w W W' : World} {tb m : Nat} {cs : List Value} {t t' : Bs} (h : RT w W tb m cs t) (hbf : BF (w.heap.size + 1) t' W') (hbb : Below (w.heap.size + 1) W W') (hoo : Lib.OthersKept 5 (some (w.heap.size + 1)) W W') (htl : tb < w.heap.size) : RT w W' tb m cs t' :=
  ⟨TS.others h.ts hoo (by omega) h.bf.nomap, grow_belowB h.gr hbb (by omega), hbf, (hbb.block _ (by omega)).trans h.bk⟩
theorem RT.text {w W : World} {tb m : Nat} {cs : List Value} {t t' : Bs} (h : RT w W tb m cs t) (e : t = t') : RT w W tb m cs t' := by subst e; exact h
def aheadB (j : Nat) : Bs := if j = 0 then [32, 105, 102, 32] else [32, 97, 110, 100, 32]
theorem condsT_app : ∀ (l : List CondM) (b : Bool) (c : CondM), condsT b (l ++ [c]) = condsT b l ++ ((if b = true ∧ l = [] then [32, 105, 102, 32] else [32, 97, 110, 100, 32]) ++ condT c)
  | [], b, c => by cases b <;> simp [condsT]
  | x :: l, b, c => by
    rw [List.cons_append, condsT, condsT_app l false c, condsT]
    cases b <;> simp
theorem condsT_take {cs : List CondM} {j : Nat} {c : CondM} (h : cs[j]? = some c) : condsT true (cs.take (j + 1)) = condsT true (cs.take j) ++ (aheadB j ++ condT c) := by
  obtain ⟨h1, h2⟩ := List.getElem?_eq_some_iff.1 h
  rw [List.take_add_one, h, Option.toList_some, condsT_app]
  unfold aheadB
  have e : (true = true ∧ cs.take j = []) ↔ j = 0 := by
    constructor
    · rintro ⟨_, h⟩
      have h2 : (cs.take j).length = 0 := by rw [h]; rfl
      rw [List.length_take] at h2
      omega
    · rintro rfl; simp
  by_cases hj : j = 0
  · rw [if_pos (e.2 hj), if_pos hj]
  · rw [if_neg (fun h => hj (e.1 h)), if_neg hj]
theorem condsT_len {cs : List CondM} (h : ∀ c ∈ cs, c.ok) (b : Bool) : (condsT b cs).length ≤ cs.length * 69 := by
  rw [condsT_eq]; exact Nat.le_trans (jt_wt (by simp) _) (conds_wt cs b h)
theorem condT_len {c : CondM} (h : c.ok) : (condT c).length ≤ 63 := by
  rw [condT_eq]; exact Nat.le_trans (join_wt (by simp) _) (cond_wt h)
theorem actT_len (a : Nat) : (actT a).length ≤ 31 := by rw [actT_eq]; exact Nat.le_trans (join_wt (by simp) _) (act_wt a)
set_option maxHeartbeats 8000000 in
set_option maxRecDepth 100000 in
theorem ruleText_any (num act : Nat) (cs : List CondM) (A : Option Addr) (n cap tb m : Nat) (w : World) (hz : ruleE ⟨num, act, cs⟩ = 0) (hok : RuleM.ok ⟨num, act, cs⟩) (hn : cs.length = n) (hR : Rd w 4 n A (cs.flatMap CondM.cells)) (hO : Off n A tb) (hT : TS w tb m) (hm : m ≤ 900000000) (hE : E2 w) :
    Calls Tryz.prog 33 #[.agg #[.int .u32 num, .int .u32 act, .slice A n cap], .pointer (some ⟨tb, 0, none⟩)] w (TxtP (ruT ⟨num, act, cs⟩) tb (m + 1) w) := by
  obtain ⟨hsome, _, hl6, hcz⟩ := ruleE_zero hz
  obtain ⟨hnum, hact, _, hcok⟩ := hok
  simp only at hsome hl6 hcz hnum hact hcok
  have htl := hT.lt
  have hE := Lib.hid (fun W (h : w.grownBy W (some tb)) => hE.asked hT h)
  have HRd := Lib.hid (fun W (h : w.grownBy W (some tb)) => hR.grownO hO h)
  have lc := (callN_ok hsome).2
  have la := actT_len act
  have HCz := Lib.hid hcz
  have HCok := Lib.hid hcok
  have HN := Lib.hid hn
  have hn6 : n ≤ 6 := by omega
  obtain ⟨pre, hpre⟩ : ∃ p, p = [99, 97, 108, 108, 32] ++ callN num ++ [32] ++ actT act := ⟨_, rfl⟩
  have HPreE := Lib.hid hpre
  have lp : pre.length ≤ 50 := by rw [hpre]; simp; omega
  have HRu := Lib.hid (show ruT ⟨num, act, cs⟩ = pre ++ condsT true cs by rw [hpre]; rfl)
  clear hz hcz hcok hn hR hO hl6 hpre
  have hk1 := Bk.new w 70 #[.int .u32 num, .int .u32 act, .slice A n cap] (l := [.int .u32 num, .int .u32 act, .slice A n cap]) rfl
  have hb1 := oneb w (.cells #[.int .u32 num, .int .u32 act, .slice A n cap] 70)
  have hst := BF.start (w.alloc (.cells #[.int .u32 num, .int .u32 act, .slice A n cap] 70))
  have hsz : (w.alloc (.cells #[.int .u32 num, .int .u32 act, .slice A n cap] 70)).heap.size = w.heap.size + 1 := by simp
  rw [hsz] at hst
  have hb2 := oneb (w.alloc (.cells #[.int .u32 num, .int .u32 act, .slice A n cap] 70)) (.cells #[.pointer none, .slice none 0 0] 166)
  have HR := Lib.hid (show RT w ((w.alloc (.cells #[.int .u32 num, .int .u32 act, .slice A n cap] 70)).alloc (.cells #[.pointer none, .slice none 0 0] 166)) tb m [.int .u32 num, .int .u32 act, .slice A n cap] [] from
    ⟨(hT.kept hb1).kept hb2, gb tb (hb1.trans (hb2.mono hb1.size)), hst, hk1.kept hb2⟩)
  clear hk1 hb1 hst hb2 hsz hT
  go_enter Tryz.func33, Tryz.ntmps33
  go_upto_region 2 with fail
  generalize World.alloc (World.alloc w _) _ = w2 at HR ⊢
  have s1 : ¬ 9223372036854775807 < 5 + (callN num).length := by omega
  have s2 : ¬ 9223372036854775807 < 5 + (callN num).length + 1 := by omega
  have s3 : ¬ 9223372036854775807 < 5 + (callN num).length + 1 + (actT act).length := by omega
  have HR := Lib.hid (HR.out.below (Below.refl w2.heap.size w2).drew)
  refine wp_region_held_drew (S := (fun w' => w'.cell? ⟨w.heap.size, 0, none⟩ = some (.int .u32 num) ∧ w'.cell? ⟨w.heap.size, 1, none⟩ = some (.int .u32 act))) (by kernel_rfl) ?_ (fun hHeld0 => ?_)
  · exact ⟨HR.out.bk.cell 0 rfl, HR.out.bk.cell 1 rfl⟩
  generalize w2.drew = vh0 at hHeld0 HR ⊢
  refine wpAnyH_take (i := 0) (v := ?_) (by first | (simp only [List.getElem?_toArray, List.getElem?_cons_zero] <;> rfl) | rfl) (by kernel_rfl) (by kernel_rfl) (by kernel_rfl) (by exact fun _ _ _ h => h) (Or.inl ⟨by rfl, ?_⟩) hHeld0 ?_
  rotate_left 1
  · intro w hSw
    try dsimp only at hSw
    (go_simp) <;> (with_reducible rfl)
  try simp only [Act.put, List.setIfInBounds_toArray, List.set_cons_zero, List.set_cons_succ]
  refine wpAnyH_take (i := 1) (v := ?_) (by first | (simp only [List.getElem?_toArray, List.getElem?_cons_succ, List.getElem?_cons_zero] <;> rfl) | rfl) (by kernel_rfl) (by kernel_rfl) (by kernel_rfl) (by exact fun _ _ _ h => h) (Or.inl ⟨by rfl, ?_⟩) hHeld0 ?_
  rotate_left 1
  · intro w hSw
    try dsimp only at hSw
    (go_simp) <;> (with_reducible rfl)
  try simp only [Act.put, List.setIfInBounds_toArray, List.set_cons_zero, List.set_cons_succ]
  refine wpAnyH_take (i := 2) (v := ?_) (by first | (simp only [List.getElem?_toArray, List.getElem?_cons_succ, List.getElem?_cons_zero] <;> rfl) | rfl) (by kernel_rfl) (by kernel_rfl) (by kernel_rfl) (by exact fun _ _ _ h => h) (Or.inl ⟨by rfl, ?_⟩) hHeld0 ?_
  rotate_left 1
  · intro w hSw
    try dsimp only at hSw
    (go_simp) <;> (with_reducible rfl)
  try simp only [Act.put, List.setIfInBounds_toArray, List.set_cons_zero, List.set_cons_succ]
  refine wpAnyH_take (i := 6) (v := ?_) (by first | (simp only [List.getElem?_toArray, List.getElem?_cons_succ, List.getElem?_cons_zero] <;> rfl) | rfl) (by kernel_rfl) (by kernel_rfl) (by kernel_rfl) (by exact fun _ _ _ h => h) (Or.inl ⟨by rfl, ?_⟩) hHeld0 ?_
  rotate_left 1
  · intro w hSw
    try dsimp only at hSw
    (go_simp) <;> (with_reducible rfl)
  try simp only [Act.put, List.setIfInBounds_toArray, List.set_cons_zero, List.set_cons_succ]
  refine wpAnyH_take (i := 7) (v := ?_) (by first | (simp only [List.getElem?_toArray, List.getElem?_cons_succ, List.getElem?_cons_zero] <;> rfl) | rfl) (by kernel_rfl) (by kernel_rfl) (by kernel_rfl) (by exact fun _ _ _ h => h) (Or.inl ⟨by rfl, ?_⟩) hHeld0 ?_
  rotate_left 1
  · intro w hSw
    try dsimp only at hSw
    (go_simp) <;> (with_reducible rfl)
  try simp only [Act.put, List.setIfInBounds_toArray, List.set_cons_zero, List.set_cons_succ]
  refine wpAnyH_ready (rs := [3]) (by kernel_rfl) (by simp) ?_
  refine AllReadyH.cons (by first | (simp only [List.getElem?_toArray, List.getElem?_cons_succ, List.getElem?_cons_zero] <;> rfl) | rfl) (fun K hK => ?_) ?_
  · go_simp
    refine (callText_any num tb m _ HR.out.ts hm hnum hsome).mono ?_
    rintro e vh1 ⟨rfl, hts, hgg⟩
    have HR := Lib.hid (HR.out.asked hts hgg htl)
    refine hK.out _ _ ?_ (fun hHeld1 => ?_)
    · exact ⟨HR.out.bk.cell 0 rfl, HR.out.bk.cell 1 rfl⟩
    clear hK K
    clear hts hgg hHeld0
    try simp only [Act.put, List.setIfInBounds_toArray, List.set_cons_zero, List.set_cons_succ]
    refine wpAnyH_take (i := 4) (v := ?_) (by first | (simp only [List.getElem?_toArray, List.getElem?_cons_succ, List.getElem?_cons_zero] <;> rfl) | rfl) (by kernel_rfl) (by kernel_rfl) (by kernel_rfl) (by exact fun _ _ _ h => h) (Or.inl ⟨by rfl, ?_⟩) hHeld1 ?_
    rotate_left 1
    · intro w hSw
      try dsimp only at hSw
      (go_simp) <;> (with_reducible rfl)
    try simp only [Act.put, List.setIfInBounds_toArray, List.set_cons_zero, List.set_cons_succ]
    refine wpAnyH_take (i := 5) (v := ?_) (by first | (simp only [List.getElem?_toArray, List.getElem?_cons_succ, List.getElem?_cons_zero] <;> rfl) | rfl) (by kernel_rfl) (by kernel_rfl) (by kernel_rfl) (by exact fun _ _ _ h => h) (Or.inl ⟨by rfl, ?_⟩) hHeld1 ?_
    rotate_left 1
    · intro w hSw
      try dsimp only at hSw
      (go_simp) <;> (with_reducible rfl)
    try simp only [Act.put, List.setIfInBounds_toArray, List.set_cons_zero, List.set_cons_succ]
    refine wpAnyH_ready (rs := [8]) (by kernel_rfl) (by simp) ?_
    refine AllReadyH.cons (by first | (simp only [List.getElem?_toArray, List.getElem?_cons_succ, List.getElem?_cons_zero] <;> rfl) | rfl) (fun K hK => ?_) ?_
    · go_simp
      refine (actionText_any act _ hact (hE.out _ HR.out.gr)).mono ?_
      rintro e vh2 ⟨rfl, hbb⟩
      have HR := Lib.hid (HR.out.below hbb)
      refine hK.out _ _ ?_ (fun hHeld2 => ?_)
      · exact ⟨HR.out.bk.cell 0 rfl, HR.out.bk.cell 1 rfl⟩
      clear hK K
      clear hbb hHeld1
      try simp only [Act.put, List.setIfInBounds_toArray, List.set_cons_zero, List.set_cons_succ]
      refine wpAnyH_take (i := 9) (v := ?_) (by first | (simp only [List.getElem?_toArray, List.getElem?_cons_succ, List.getElem?_cons_zero] <;> rfl) | rfl) (by kernel_rfl) (by kernel_rfl) (by kernel_rfl) (by exact fun _ _ _ h => h) (Or.inl ⟨by rfl, ?_⟩) hHeld2 ?_
      rotate_left 1
      · intro w hSw
        try dsimp only at hSw
        (go_simp) <;> (with_reducible rfl)
      try simp only [Act.put, List.setIfInBounds_toArray, List.set_cons_zero, List.set_cons_succ]
      refine wpAnyH_ready (rs := [10]) (by kernel_rfl) (by simp) ?_
      refine AllReadyH.cons (by first | (simp only [List.getElem?_toArray, List.getElem?_cons_succ, List.getElem?_cons_zero] <;> rfl) | rfl) (fun K hK => ?_) ?_
      · go_simp
        refine (writeBF HR.out.bf _ (by rw [Lib.size_eq]; simp; omega)).mono ?_
        rintro e vh3 ⟨rfl, hbf, hbb, hoo⟩
        have HR := Lib.hid (HR.out.wrote hbf hbb hoo htl)
        refine hK.out _ _ ?_ (fun hHeld3 => ?_)
        · exact ⟨HR.out.bk.cell 0 rfl, HR.out.bk.cell 1 rfl⟩
        clear hK K
        clear hbf hbb hoo hHeld2
        try simp only [Act.put, List.setIfInBounds_toArray, List.set_cons_zero, List.set_cons_succ]
        refine wpAnyH_done (by kernel_rfl) ?_ _
        rename World => w3
        have HR := Lib.hid (HR.out.text (t' := pre) (by rw [HPreE.out]; simp))
        have q2 := HR.out.bk.cell 2 rfl
        have ql := HR.out.bk.lt
        clear hHeld3 s1 s2 s3 lc la
        go_wp2_with fail
        clear q2 ql
        go_loopw [6, 23] (fun av iv wr => ∃ j : Nat, iv = .int .i64 j ∧ j ≤ n ∧ av = .string ⟨(aheadB j).toArray⟩ ∧ Hid (RT w wr tb (m + 1) [.int .u32 num, .int .u32 act, .slice A n cap] (pre ++ condsT true (cs.take j)))) (fun _ iv _ => n - (intOf iv).toNat)
        case atStart => exact ⟨0, rfl, Nat.zero_le _, rfl, Lib.hid (HR.out.text (by simp [condsT]))⟩
        case round =>
          obtain ⟨j, rfl, hj, rfl, HRj⟩ := hrel
          clear HR
          have HR := HRj
          clear HRj
          by_cases hjn : j < n
          · obtain ⟨c, hc⟩ : ∃ c, cs[j]? = some c := ⟨_, List.getElem?_eq_getElem (by have := HN.out; omega)⟩
            have hmem := List.mem_of_getElem? hc
            obtain ⟨b, o, hA, hbl, hcell⟩ := (HRd.out _ HR.out.gr).one (fun _ => rfl) (by omega) (by omega)
            obtain ⟨c0, c1, c2, c3⟩ := cond_cells hcell hc
            have hck := HCok.out c hmem
            have HCt := Lib.hid (fun W hE => condText_any c.arg c.op c.mask c.val W (HCz.out c hmem) hck hE)
            have lt1 := condT_len hck
            have lt2 : (condsT true (cs.take j)).length ≤ 500 := by
              refine Nat.le_trans (condsT_len (fun x hx => HCok.out x (List.mem_of_mem_take hx)) true) ?_
              rw [List.length_take]; omega
            have la : (aheadB j).length ≤ 5 := by unfold aheadB; split <;> simp
            have HNx := Lib.hid (condsT_take hc)
            have HAh := Lib.hid (show aheadB (j + 1) = [32, 97, 110, 100, 32] by unfold aheadB; rw [if_neg (by omega)])
            have hcT : (⟨c.arg, c.op, c.mask, c.val⟩ : CondM) = c := rfl
            rw [hcT] at HCt
            subst hA
            clear hcell hc hmem hck hcT
            obtain ⟨ct, hct⟩ : ∃ t, t = condT c := ⟨_, rfl⟩
            obtain ⟨ah, hah⟩ : ∃ t, t = aheadB j := ⟨_, rfl⟩
            rw [← hct] at HCt HNx lt1
            rw [← hah] at HNx la ⊢
            clear hct hah
            go_upto_region 7 with fail
            have hbx := oneb wr (.cells #[.int .i64 c.arg, .int .u8 c.op, .int .u64 c.mask, .int .u64 c.val] 90)
            have hkx := Bk.new wr 90 #[.int .i64 c.arg, .int .u8 c.op, .int .u64 c.mask, .int .u64 c.val] (l := [.int .i64 c.arg, .int .u8 c.op, .int .u64 c.mask, .int .u64 c.val]) rfl
            clear c0 c1 c2 c3
            generalize World.alloc wr _ = wa at hbx hkx ⊢
            have HR := Lib.hid (HR.out.below hbx)
            have k0 := hkx.cell 0 rfl
            have k1 := hkx.cell 1 rfl
            have k2 := hkx.cell 2 rfl
            have k3 := hkx.cell 3 rfl
            have kl := hkx.lt
            clear hbx hkx
            go_wp2_with fail
            refine (HCt.out _ (hE.out _ HR.out.gr)).mono ?_
            clear HCt k0 k1 k2 k3 kl
            rintro e wb ⟨rfl, hbb⟩
            have HR := Lib.hid (HR.out.below hbb)
            clear hbb
            have z1 : ¬ 9223372036854775807 < ah.length + ct.length := by omega
            go_wp2_with fail
            refine (writeBF HR.out.bf _ (by rw [Lib.size_eq]; simp; omega)).mono ?_
            rintro e wc ⟨rfl, hbf, hbb, hoo⟩
            have HR := Lib.hid ((HR.out.wrote hbf hbb hoo htl).text (t' := pre ++ condsT true (cs.take (j + 1))) (by rw [HNx.out]; simp))
            clear hbf hbb hoo
            go_wp2_with fail
            go_roundw
            case rel => exact ⟨j + 1, by go_num, by omega, by rw [HAh.out], HR⟩
            case measure => simp [intOf]; omega
          · have HR := Lib.hid (HR.out.text (t' := ruT ⟨num, act, cs⟩) (by rw [HRu.out, List.take_of_length_le (by rw [HN.out]; omega)]))
            go_wp2_with fail
            refine (stringBF HR.out.bf).mono ?_
            rintro e wd ⟨rfl, hbb, hoo⟩
            have HTe := Lib.hid (TS.others HR.out.ts hoo (by omega) HR.out.bf.nomap)
            have HGe := Lib.hid (grow_belowB HR.out.gr hbb (by omega))
            clear hbb hoo
            go_wp2_with fail
            go_ret
            exact ⟨rfl, HTe.out, HGe.out⟩
      exact AllReadyH.nil
    exact AllReadyH.nil
  exact AllReadyH.nil
end Go.Proofs.YtinofjbnfmalkaaGreatDoor.Tx
