/- A range over names; height. -/
import Derived.Test.YtdlglllidolggaaInO
import Derived.Maps.RangeWalk
namespace Go.Proofs.Ytdlglllidolggaa.In
open Go.RowKit Go.Maps Go.WideMaps
theorem keyStr_inv {key : Value} {kl : Lit} (h : keyOf Try.prog 9 key = some kl) : ∃ x : ByteArray, key = .string x ∧ kl = .string x.data.toList := by
  rw [keyOf_string Try.underlying9] at h
  unfold mapKey at h
  rw [Try.underlying9] at h
  cases key <;> simp at h
  exact ⟨_, rfl, h.2.symm⟩
section
variable {w w' : World} {B tb A : Nat} {T : TrM} {nb mb : Nat → Nat}
/-- A range over a directory's names. -/
abbrev RgN (w : World) (b r : Nat) (L : Es) (left : Lit → Bool) (cnt : Nat) : Prop := w.ranges Try.prog 9 (plainElem Try.prog 29) b r L.length (nD L) left cnt
theorem wpList_next_names {ops : Array Oper} {rest : List Oper} {o : Oper} {a : Act} {Q : Exit → Act → World → Prop} (hg : o.guard = none) (it : Operand) (hop : o.op = Op.next it false) (b r : Nat) (L : Es) (left : Lit → Bool) (cnt : Nat)
    (hit : a.eval it = .pointer (some ⟨r, 0, none⟩)) (h : RgN w b r L left cnt)
    (hDone : (∀ kl, left kl = false) → wpList Try.prog ops Q rest (a.put o.dst (.tuple #[.bool false])) w)
    (hMore : ∀ (s : Bs) (n : Nat) (w' : World) (cnt' : Nat), lk s L = some n → left (.string s) = true → RgN w' b r L (fun z => left z && !z.sameKey (.string s)) cnt' → cnt' < cnt → w.grownBy w' (some r) → w'.heap.size = w.heap.size →
      (Instr.entry (.pointer (some ⟨r, 0, none⟩))).run Try.prog w' = .ok (.tuple #[.string ⟨s.toArray⟩, .int .u16 n]) w' →
      wpList Try.prog ops Q rest (a.put o.dst (.tuple #[.bool true, .string ⟨s.toArray⟩, .int .u16 n])) w') :
    wpList Try.prog ops Q (o :: rest) a w := by
  refine wpList_next_ranges w hg it hop 9 strKeyed (plainElem Try.prog 29) Value.string (Value.int .u16) (fun key kl hk => by obtain ⟨x, hx, _⟩ := keyStr_inv hk; exact ⟨x, hx⟩) (fun v y hv => by obtain ⟨c, rfl, _⟩ := plainElem_int_inv Try.underlying29 hv; exact ⟨c, rfl⟩) b r L.length (nD L) left cnt hit h (fun _ => hDone) ?_
  intro x c kl y w' cnt' hkey hlk hv hat hrg hlt hgr hsz hen
  obtain ⟨x', hx', rfl⟩ := keyStr_inv hkey
  cases hx'
  have hhas := Maps.has_true_of_atKey hat
  rw [nD_has] at hhas
  obtain ⟨n, hn⟩ := Option.isSome_iff_exists.1 hhas
  have hz := hat .nil
  rw [nD_at, hn] at hz
  obtain ⟨c', ec, hy, _⟩ := plainElem_int_inv Try.underlying29 hv
  cases ec
  rw [hy] at hz
  simp only [DataW.lit.injEq, Lit.int.injEq, true_and] at hz
  subst hz
  have e : (⟨(x.data.toList).toArray⟩ : ByteArray) = x := eq_of_list (by simp)
  have := hMore x.data.toList n w' cnt' hn hlk hrg hlt hgr hsz (by rw [e]; exact hen)
  rw [e] at this
  exact this
/-! How many directories stand in one another: whatever the order. -/
def IsTall (T : TrM) (f : Nat) (L : Es) (h : Nat) : Prop := (∀ e ∈ L, (T.nd e.2).kd = 2 → 1 + tallF T f e.2 ≤ h) ∧ (h = 0 ∨ ∃ e ∈ L, (T.nd e.2).kd = 2 ∧ h = 1 + tallF T f e.2)
theorem tall_fold (f : Nat) : ∀ (L : Es) (h0 : Nat), (∀ e ∈ L, (T.nd e.2).kd = 2 → 1 + tallF T f e.2 ≤ L.foldl (fun h e => if (T.nd e.2).kd = 2 then max h (1 + tallF T f e.2) else h) h0) ∧ h0 ≤ L.foldl (fun h e => if (T.nd e.2).kd = 2 then max h (1 + tallF T f e.2) else h) h0 ∧
    (L.foldl (fun h e => if (T.nd e.2).kd = 2 then max h (1 + tallF T f e.2) else h) h0 = h0 ∨ ∃ e ∈ L, (T.nd e.2).kd = 2 ∧ L.foldl (fun h e => if (T.nd e.2).kd = 2 then max h (1 + tallF T f e.2) else h) h0 = 1 + tallF T f e.2)
  | [], h0 => ⟨fun e he => (by cases he), Nat.le_refl _, .inl rfl⟩
  | x :: L, h0 => by
    rw [List.foldl_cons]
    obtain ⟨a, b, c⟩ := tall_fold f L (if (T.nd x.2).kd = 2 then max h0 (1 + tallF T f x.2) else h0)
    refine ⟨fun e he hk => ?_, ?_, ?_⟩
    · rcases List.mem_cons.1 he with rfl | he
      · refine Nat.le_trans ?_ b; rw [if_pos hk]; omega
      · exact a e he hk
    · refine Nat.le_trans ?_ b; split <;> omega
    · rcases c with c | ⟨e, he, hk, c⟩
      · by_cases hk : (T.nd x.2).kd = 2
        · rw [if_pos hk] at c ⊢
          by_cases hm : h0 ≤ 1 + tallF T f x.2
          · exact .inr ⟨x, by simp, hk, by rw [c]; omega⟩
          · exact .inl (by rw [c]; omega)
        · rw [if_neg hk] at c ⊢; exact .inl c
      · exact .inr ⟨e, by simp [he], hk, c⟩
theorem tall_is (f n : Nat) : IsTall T f (T.nd n).L (tallF T (f + 1) n) := by
  obtain ⟨a, _, c⟩ := tall_fold (T := T) f (T.nd n).L 0
  exact ⟨a, c⟩
theorem tall_one {f : Nat} {L : Es} {h k : Nat} (a : IsTall T f L h) (b : IsTall T f L k) : h = k := by
  obtain ⟨a1, a2⟩ := a
  obtain ⟨b1, b2⟩ := b
  have p : h ≤ k := by
    rcases a2 with rfl | ⟨e, he, hk, rfl⟩
    · omega
    · exact b1 e he hk
  have q : k ≤ h := by
    rcases b2 with rfl | ⟨e, he, hk, rfl⟩
    · omega
    · exact a1 e he hk
  omega
theorem tall_le : ∀ (f n : Nat), tallF T f n ≤ f
  | 0, _ => Nat.le_refl _
  | f + 1, n => by
    rcases (tall_is (T := T) f n).2 with h | ⟨e, _, _, h⟩
    · omega
    · have := tall_le f e.2; omega
structure Tl (T : TrM) (f : Nat) (L : Es) (left : Lit → Bool) (h : Nat) : Prop where
  up : ∀ e ∈ L, left (.string e.1) = false → (T.nd e.2).kd = 2 → 1 + tallF T f e.2 ≤ h
  is : h = 0 ∨ ∃ e ∈ L, (T.nd e.2).kd = 2 ∧ h = 1 + tallF T f e.2
theorem lk_of_mem : ∀ {L : Es}, L.Pairwise (fun a b => a.1 ≠ b.1) → ∀ {e : Bs × Nat}, e ∈ L → lk e.1 L = some e.2
  | [], _, e, he => by cases he
  | x :: L, hr, e, he => by
    rw [List.pairwise_cons] at hr
    unfold lk
    rw [List.find?_cons]
    rcases List.mem_cons.1 he with rfl | he
    · simp
    · rw [decide_eq_false (hr.1 e he)]
      exact lk_of_mem hr.2 he
theorem nm_apart {m : Nat} {L : Es} (h : NMp w m L) : L.Pairwise (fun a b => a.1 ≠ b.1) := by
  obtain ⟨es, he, hp⟩ := World.ownsMap.tidy h strKeyed
  unfold nD at he
  cases he
  rw [List.pairwise_map] at hp
  exact hp.imp fun {a b} hab e => hab (by unfold rdE; rw [e])
theorem tl_start {f : Nat} {L : Es} : Tl T f L (has (nD L)) 0 := by
  refine ⟨fun e he hl => ?_, .inl rfl⟩
  rw [nD_has] at hl
  have := lk_none.1 (by simpa using hl) e he
  exact absurd rfl this
theorem tl_step {f : Nat} {L : Es} {left : Lit → Bool} {h : Nat} (ht : Tl T f L left h) (hp : L.Pairwise (fun a b => a.1 ≠ b.1)) {s : Bs} {n : Nat} (hl : lk s L = some n) :
    Tl T f L (fun z => left z && !z.sameKey (.string s)) (if (T.nd n).kd = 2 then max h (1 + tallF T f n) else h) := by
  have hm := lk_mem hl
  refine ⟨fun e he hq hk => ?_, ?_⟩
  · simp only [sameKey_str, Bool.and_eq_false_iff] at hq
    by_cases e1 : e.1 = s
    · have : e.2 = n := by have := lk_of_mem hp he; rw [e1, hl] at this; exact (Option.some.inj this).symm
      rw [this] at hk ⊢
      rw [if_pos hk]; omega
    · have hq2 : left (.string e.1) = false := hq.elim id (fun q => by simp [e1] at q)
      have := ht.up e he hq2 hk
      split <;> omega
  · by_cases hk : (T.nd n).kd = 2
    · rw [if_pos hk]
      by_cases hm2 : h ≤ 1 + tallF T f n
      · exact .inr ⟨_, hm, hk, by show max h (1 + tallF T f n) = 1 + tallF T f n; omega⟩
      · rcases ht.is with q | ⟨e, he, hk2, q⟩
        · omega
        · exact .inr ⟨e, he, hk2, by omega⟩
    · rw [if_neg hk]; exact ht.is
theorem tl_end {f n : Nat} {left : Lit → Bool} {h : Nat} (ht : Tl T f (T.nd n).L left h) (hl : ∀ kl, left kl = false) : h = tallF T (f + 1) n :=
  tall_one ⟨fun e he hk => ht.up e he (hl _) hk, ht.is⟩ (tall_is f n)
theorem tl_le {f : Nat} {L : Es} {left : Lit → Bool} {h : Nat} (ht : Tl T f L left h) : h ≤ f + 1 := by
  rcases ht.is with q | ⟨e, _, _, q⟩
  · omega
  · have := tall_le (T := T) f e.2; omega
theorem below_grown_n {w w' : World} (h : Below w.heap.size w w') : w.grownBy w' none := ⟨h.os, h.tape, h.output, h.size, fun i hi _ => h.block i hi⟩
def HeightP (w : World) (k : Nat) (e : Ending) (w' : World) : Prop := e = .returned (.int .i64 k) ∧ Below w.heap.size w w'
set_option maxRecDepth 100000 in
set_option maxHeartbeats 4000000 in
theorem height_any (B tb : Nat) (T : TrM) (A : Nat) (nb mb : Nat → Nat) (hL : Live T) : ∀ (f : Nat), f ≤ 100 → ∀ (n : Nat) (w : World), TabR w B tb T A nb mb → (T.nd n).kd = 2 → Low T f n →
    Calls Try.prog 73 #[tP tb, tP (nb n)] w (HeightP w (tallF T f n))
  | 0, _, _, _, _, _, hlow => by cases hlow
  | f + 1, hf, n, w, h, h2, hlow => by
    have ih := height_any B tb T A nb mb hL f (by omega)
    have hown := (h.node n (by rw [h2]; decide)).names h2
    have hcm := ndN h h2
    have HP := Lib.hid (nm_apart hown)
    have HI := Lib.hid ih
    have HW := Lib.hid hlow
    have H := Lib.hid h
    have hmlt := om_lt hown
    clear ih hlow h
    go_enter Try.func73, Try.ntmps73
    go_wp2_with (at_range; refine wpList_range_own _ rfl _ _ rfl 9 29 strKeyed Try.underlying81 (plainElem Try.prog 29) (mb n) _ _ rfl hown ?_; intro w1 hrg1 hg1 hs1; have HR1 := Lib.hid hrg1; have HB1 := Lib.hid (grown_none_below hg1); have HS1 := Lib.hid hs1; clear hrg1 hg1 hs1)
    go_frame
    go_loopg [5] (Maps.size (nD (T.nd n).L) + 1) (fun g v wx => ∃ (hh : Nat) (left : Lit → Bool) (cnt : Nat), v = .int .i64 hh ∧ Hid (RgN wx (mb n) w.heap.size (T.nd n).L left cnt) ∧ Hid (cnt < g) ∧ Hid (Tl T f (T.nd n).L left hh) ∧ Hid (Below w.heap.size w wx))
    case atStart => exact ⟨0, _, _, rfl, HR1.out, Nat.lt_succ_self _, tl_start, HB1.out⟩
    case round =>
      clear HR1 HB1 HS1 hown hcm
      obtain ⟨hh, left, cnt, rfl, HR, HG, HT, HB⟩ := hrel
      have hle := tl_le HT.out
      have hrg := HR.out
      go_wp2_with (at_next; refine wpList_next_names rfl _ rfl (mb n) w.heap.size (T.nd n).L left cnt rfl hrg ?_ ?_; rotate_left; (intro s k w4 cnt4 hx hlk hrg4 hlt4 hg4 hs4 hen; have Hx := Lib.hid hx; have Hrg4 := Lib.hid hrg4; have Hlt4 := Lib.hid hlt4; have Hg4 := Lib.hid hg4; have Hs4 := Lib.hid hs4; clear hx hlk hrg4 hlt4 hg4 hs4 hrg); rotate_left; (intro hl0; have Hl0 := Lib.hid hl0; clear hl0 hrg))
      · go_ret
        exact ⟨by rw [← tl_end HT.out Hl0.out]; rfl, HB.out⟩
      · have HB4 := Lib.hid (HB.out.grown Hg4.out HB.out.size (fun q hq => by cases hq; exact Nat.le_refl _))
        have hm := lk_mem Hx.out
        have hk0 := (hL n _ hm).1
        have h4 := H.out.below HB4.out
        have hgy := get_yes h4 hk0
        have a1 := ndK h4 hk0
        have HTS := Lib.hid (tl_step HT.out HP.out Hx.out)
        have Hm := Lib.hid hm
        have H4 := Lib.hid h4
        clear hm h4 hk0
        go_wp2_with fail
        refine hgy.mono ?_
        rintro e w5 ⟨rfl, rfl⟩
        clear hgy
        by_cases k2 : (T.nd k).kd = 2
        · have hrec := HI.out k w4 H4.out k2 (HW.out _ Hm.out k2)
          have htl := tall_le (T := T) f k
          rw [k2] at a1
          have hts := HTS.out
          rw [if_pos k2] at hts
          obtain ⟨q, hq⟩ : ∃ q, q = tallF T f k := ⟨_, rfl⟩
          rw [← hq] at hrec htl hts
          have HTS2 := Lib.hid hts
          clear hts k2 hq
          by_cases hmx : hh ≤ 1 + q
          · have m1 : (hh : Int) ≤ 1 + (q : Int) := by omega
            have HM := Lib.hid (show max hh (1 + q) = 1 + q by omega)
            clear hmx
            go_wp2_with fail
            refine hrec.mono ?_
            rintro e w6 ⟨rfl, hb6⟩
            have HB6 := Lib.hid hb6
            clear hb6
            go_wp2
            all_goals
              go_roundg cnt
              case rel => exact ⟨1 + q, _, cnt4, by first | (rw [show ((1 + q : Nat) : Int) = 1 + (q : Int) from by simp]; done) | (rw [show ((1 + q : Nat) : Int) = (hh : Int) from by omega]; done), Lib.hid (Hrg4.out.kept (below_grown_n HB6.out) (by simp) (by simp)), Hlt4.out, by rw [← HM.out]; exact HTS2.out, HB4.out.trans (HB6.out.mono HB4.out.size)⟩
              case measure => exact HG.out
          · have m1 : ¬ (hh : Int) ≤ 1 + (q : Int) := by omega
            have HM := Lib.hid (show max hh (1 + q) = hh by omega)
            clear hmx
            go_wp2_with fail
            refine hrec.mono ?_
            rintro e w6 ⟨rfl, hb6⟩
            have HB6 := Lib.hid hb6
            clear hb6
            go_wp2
            all_goals
              go_roundg cnt
              case rel => exact ⟨hh, _, cnt4, rfl, Lib.hid (Hrg4.out.kept (below_grown_n HB6.out) (by simp) (by simp)), Hlt4.out, by rw [← HM.out]; exact HTS2.out, HB4.out.trans (HB6.out.mono HB4.out.size)⟩
              case measure => exact HG.out
        · have hts := HTS.out
          rw [if_neg k2] at hts
          obtain ⟨q, hq⟩ : ∃ q, q = (T.nd k).kd := ⟨_, rfl⟩
          rw [← hq] at a1
          have kb : ((q : Int) == 2) = false := by simp; omega
          have HTS2 := Lib.hid hts
          clear hts k2 hq
          go_wp2
          go_roundg cnt
          case rel => exact ⟨hh, _, cnt4, rfl, Lib.hid Hrg4.out, Hlt4.out, HTS2.out, HB4.out⟩
          case measure => exact HG.out
end
end Go.Proofs.Ytdlglllidolggaa.In
