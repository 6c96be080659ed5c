/- A text as instructions. -/
import Derived.Test.YthiohihbcfahhaaDoorParsed
import Derived.Test.YthiohihbcfahhaaDoorText
namespace Go.Proofs.YthiohihbcfahhaaDoor
open Go.RowKit
theorem infoIns4 : (Tryd.prog.info? 38).map (fun i => (i.zero, i.size, i.bytes)) = some (some (.agg #[.int .u16 0, .int .u8 0, .int .u8 0, .int .u32 0]), 4, 8) := by kernel_rfl
theorem lines_len (s : Bs) : (lines s).length ≤ s.length + 1 := by
  induction s with
  | nil => simp [lines]
  | cons c t ih =>
    unfold lines
    split
    · simpa using ih
    · split
      · rename_i h r e; rw [e] at ih; simp at ih ⊢; omega
      · simp
theorem lines_mem (s : Bs) : ∀ l ∈ lines s, l.length ≤ s.length ∧ ∀ c ∈ l, c ∈ s := by
  induction s with
  | nil => intro l hl; simp [lines] at hl; subst hl; simp
  | cons c t ih =>
    intro l hl
    unfold lines at hl
    split at hl
    · rcases List.mem_cons.1 hl with rfl | hl
      · simp
      · obtain ⟨h1, h2⟩ := ih l hl
        exact ⟨by simp; omega, fun c hc => List.mem_cons_of_mem _ (h2 c hc)⟩
    · split at hl
      · rename_i h r e
        rcases List.mem_cons.1 hl with rfl | hl
        · obtain ⟨h1, h2⟩ := ih h (by rw [e]; simp)
          refine ⟨by simp; omega, fun d hd => ?_⟩
          rcases List.mem_cons.1 hd with rfl | hd
          · simp
          · exact List.mem_cons_of_mem _ (h2 d hd)
        · obtain ⟨h1, h2⟩ := ih l (by rw [e]; simp [hl])
          exact ⟨by simp; omega, fun c hc => List.mem_cons_of_mem _ (h2 c hc)⟩
      · rename_i e; exact absurd e (lines_ne t)
theorem wordsGo_len (s : Bs) : ∀ cur, (wordsGo cur s).length ≤ s.length + 1 ∧ (cur = [] → (wordsGo cur s).length ≤ s.length) ∧ ∀ x ∈ wordsGo cur s, x.length ≤ cur.length + s.length := by
  induction s with
  | nil =>
    intro cur
    rw [wordsGo_end]
    split
    · simp
    · simp; intro h; contradiction
  | cons c t ih =>
    intro cur
    unfold wordsGo
    split
    · split
      · rename_i hc
        obtain ⟨h1, h2, h3⟩ := ih []
        refine ⟨by simp; omega, fun _ => by simp; omega, fun x hx => ?_⟩
        have := h3 x hx
        simp at this ⊢; omega
      · rename_i hc
        obtain ⟨h1, h2, h3⟩ := ih []
        have h4 := h2 rfl
        refine ⟨by simp; omega, fun e => absurd e hc, fun x hx => ?_⟩
        rcases List.mem_cons.1 hx with rfl | hx
        · simp
        · have := h3 x hx
          simp at this ⊢; omega
    · obtain ⟨h1, h2, h3⟩ := ih (cur ++ [c])
      refine ⟨by simp; omega, fun e => by simp; omega, fun x hx => ?_⟩
      have := h3 x hx
      simp at this ⊢; omega
theorem saidB_len (s : Bs) : (saidB s).length ≤ s.length ∧ ∀ x ∈ saidB s, x.length ≤ s.length := by
  unfold saidB
  have h0 := cutH_len s
  obtain ⟨_, h2, h3⟩ := wordsGo_len (cutH s) []
  have := h2 rfl
  exact ⟨by omega, fun x hx => by have := h3 x hx; simp at this; omega⟩
def SplitPost (s : Bs) (w : World) (e : Ending) (w' : World) : Prop :=
  ∃ A : Nat, e = .returned (.slice (some ⟨A, 0, none⟩) (lines s).length (lines s).length) ∧ Seg w' w.heap.size 1 (lines s).length (some ⟨A, 0, none⟩) (strs (lines s)) ∧ Below w.heap.size w w'
theorem split_any (s : ByteArray) (w : World) (hs : s.size ≤ 65536) (hE : Env w) : Calls Tryd.prog 27 #[.string s, .string ⟨#[10]⟩] w (SplitPost s.data.toList w) := by
  obtain ⟨m, hm⟩ := hE.ml
  have hl := splitB_lines s
  have hlen : Lib.countB s ⟨#[10]⟩ + 1 = (lines s.data.toList).length := by
    rw [← hl, List.length_map, Lib.splitB_all ⟨#[10]⟩ (by decide) 0 _ s rfl]
  have hst : (Lib.splitB ⟨#[10]⟩ 0 (Lib.countB s ⟨#[10]⟩) s).map Value.string = strs (lines s.data.toList) := by
    rw [← hl]
    unfold strs
    rw [List.map_map]
    exact List.map_congr_left (fun x _ => by simp)
  refine (Tryd.strings_Split s ⟨#[10]⟩ m w (by omega) hm (by decide)).mono ?_
  rintro e w' ⟨he, hw⟩
  rw [hlen] at he
  rw [hst] at hw
  subst hw
  exact ⟨w.heap.size, he, (Bk.new w _ _ rfl).seg (by simp [strs]) (Nat.le_refl _), (Below.refl _ _).alloc (Nat.le_refl _) _⟩
structure PsR (w : World) (A : Nat) (Ls : List Bs) (L : List Ins) (v : Value) (wr : World) : Prop where
  lin : Seg wr w.heap.size 1 Ls.length (some ⟨A, 0, none⟩) (strs Ls)
  own : wr.ownsRow w.heap.size 38 4 v L.length (L.flatMap Ins.cells)
  apart : v.ownBlock ≠ some A
  lt : A < wr.heap.size
  bel : Below w.heap.size w wr
theorem PsR.kept {w wr w' : World} {A : Nat} {Ls : List Bs} {L : List Ins} {v : Value} (h : PsR w A Ls L v wr) (hb : Below wr.heap.size wr w') : PsR w A Ls L v w' :=
  ⟨h.lin.below hb, own_below h.own hb, h.apart, Nat.lt_of_lt_of_le h.lt hb.size, h.bel.trans (hb.mono h.bel.size)⟩
theorem PsR.put {w wr w' : World} {A : Nat} {Ls : List Bs} {L : List Ins} {v v' : Value} {x : Ins} (h : PsR w A Ls L v wr) (o : Obj) (hown : w'.ownsRow w.heap.size 38 4 v' (L.length + 1) (L.flatMap Ins.cells ++ x.cells))
    (hg : (wr.alloc o).grownBy w' v.ownBlock) (hat : v'.ownBlock = v.ownBlock ∨ v'.ownBlock = some (wr.alloc o).heap.size) : PsR w A Ls (L ++ [x]) v' w' := by
  have hsz : (wr.alloc o).heap.size = wr.heap.size + 1 := by simp
  have hsz' := hg.size
  have hlt := h.lt
  refine ⟨?_, ?_, ?_, by omega, ?_⟩
  · exact Seg.grownO (Seg.below h.lin ((Below.refl _ _).alloc (Nat.le_refl _) _)) hg (fun hn a ha e => by cases ha; exact h.apart e)
  · rw [List.flatMap_append, List.length_append]; simpa using hown
  · rcases hat with e | e
    · rw [e]; exact h.apart
    · rw [e]; intro he; have := Option.some.inj he; omega
  · exact (h.bel.alloc h.bel.size _).grown hg (by have := h.bel.size; omega) (fun k hk => (h.own.lt k hk).1)
def ParsePost (s : Bs) (w : World) (e : Ending) (w' : World) : Prop :=
  ∃ (A : Option Addr) (c : Nat), e = .returned (.tuple #[.slice A (parseB s).1.length c, .int .i64 ((parseB s).2.1 : Nat), .int .i64 ((parseB s).2.2 : Nat)]) ∧ (parseB s).1.length ≤ c ∧ Seg w' w.heap.size 4 (parseB s).1.length A ((parseB s).1.flatMap Ins.cells) ∧ Below w.heap.size w w'
theorem parse_bad {s : Bs} {w w' : World} {e : Ending} {n er : Nat} (h : parseB s = ([], n, er)) (he : e = .returned (.tuple #[.slice none 0 0, .int .i64 (n : Nat), .int .i64 (er : Nat)])) (hb : Below w.heap.size w w') : ParsePost s w e w' := by
  unfold ParsePost
  rw [h]
  exact ⟨none, 0, he, Nat.le_refl _, Seg.nil _ _ _ _, hb⟩
theorem parse_good {s : Bs} {w w' : World} {e : Ending} {L : List Ins} {v : Value} (h : parseB s = (L, 0, 0)) (he : e = .returned (.tuple #[v, .int .i64 0, .int .i64 0])) (hown : w'.ownsRow w.heap.size 38 4 v L.length (L.flatMap Ins.cells)) (hb : Below w.heap.size w w') : ParsePost s w e w' := by
  unfold ParsePost
  rw [h]
  obtain ⟨A, c, rfl, hc, hseg⟩ := own_seg hown
  exact ⟨A, c, he, hc, hseg, hb⟩
theorem parseL_none {ls : List Bs} {k : Nat} {l : Bs} {L : List Ins} (h : ls[k]? = some l) (hs : saidB l = []) : parseL ((ls.drop k).map saidB) k L = parseL ((ls.drop (k + 1)).map saidB) (k + 1) L := by
  obtain ⟨a1, e1⟩ := List.getElem?_eq_some_iff.1 h
  rw [List.drop_eq_getElem_cons a1, e1, List.map_cons, parseL, if_pos hs]
theorem parseL_bad {ls : List Bs} {k : Nat} {l : Bs} {L : List Ins} (h : ls[k]? = some l) (hs : saidB l ≠ []) (he : (parsed (saidB l)).2 ≠ 0) : parseL ((ls.drop k).map saidB) k L = ([], k + 1, (parsed (saidB l)).2) := by
  obtain ⟨a1, e1⟩ := List.getElem?_eq_some_iff.1 h
  rw [List.drop_eq_getElem_cons a1, e1, List.map_cons, parseL, if_neg hs, if_pos he]
theorem parseL_many {ls : List Bs} {k : Nat} {l : Bs} {L : List Ins} (h : ls[k]? = some l) (hs : saidB l ≠ []) (he : (parsed (saidB l)).2 = 0) (hm : L.length = 4096) : parseL ((ls.drop k).map saidB) k L = ([], k + 1, 205) := by
  obtain ⟨a1, e1⟩ := List.getElem?_eq_some_iff.1 h
  rw [List.drop_eq_getElem_cons a1, e1, List.map_cons, parseL, if_neg hs, if_neg (by simpa using he), if_pos hm]
theorem parseL_on {ls : List Bs} {k : Nat} {l : Bs} {L : List Ins} (h : ls[k]? = some l) (hs : saidB l ≠ []) (he : (parsed (saidB l)).2 = 0) (hm : L.length ≠ 4096) : parseL ((ls.drop k).map saidB) k L = parseL ((ls.drop (k + 1)).map saidB) (k + 1) (L ++ [(parsed (saidB l)).1]) := by
  obtain ⟨a1, e1⟩ := List.getElem?_eq_some_iff.1 h
  rw [List.drop_eq_getElem_cons a1, e1, List.map_cons, parseL, if_neg hs, if_neg (by simpa using he), if_neg hm]
set_option maxRecDepth 100000 in
set_option maxHeartbeats 4000000 in
theorem parse_any (s : ByteArray) (w : World) (hs : s.size ≤ 65536) (has : ∀ c ∈ s.data.toList, c.toNat < 128) (hE : Env w) : Calls Tryd.prog 14 #[.string s] w (ParsePost s.data.toList w) := by
  have HE := Lib.hid hE
  obtain ⟨i0, hi0, hz0, hz1, hz2⟩ := info_parts infoIns4
  have hsz := Lib.size_eq s
  have Hln := Lib.hid (fun l hl => lines_mem s.data.toList l hl)
  have Has := Lib.hid has
  have HP0 := Lib.hid (show parseB s.data.toList = parseL (((lines s.data.toList).drop 0).map saidB) 0 [] from rfl)
  have hll := lines_len s.data.toList
  obtain ⟨sz, hszz⟩ : ∃ sz, sz = s.data.toList.length := ⟨_, rfl⟩
  rw [← hszz] at hsz hll
  have Hsl := Lib.hid hszz
  have Hsp := Lib.hid (fun W E => split_any s W hs E)
  have hsz64 : sz ≤ 65536 := by omega
  have hll2 : (lines s.data.toList).length ≤ 65537 := by omega
  clear hE has hszz hsz hll
  go_enter Tryd.func14, Tryd.ntmps14
  go_wp2_with fail
  refine (Hsp.out _ HE.out).mono ?_
  rintro e w1 ⟨A, rfl, hseg, hb1⟩
  obtain ⟨Ls, hLs⟩ : ∃ Ls, Ls = lines s.data.toList := ⟨_, rfl⟩
  rw [← hLs] at hseg Hln HP0 hll2 ⊢
  have HPs := Lib.hid (show PsR w A Ls [] (.slice none 0 0) w1 from ⟨hseg, World.ownsRow_nil _ _ _ _, by simp [Value.ownBlock], by
    rcases hseg.at_ with e | ⟨b, o, e, _, hl, _⟩
    · exact absurd (List.length_eq_zero_iff.1 e) (by rw [hLs]; exact lines_ne _)
    · cases e; exact hl, hb1⟩)
  clear hseg hb1 hLs Hsp
  go_wp2_with fail
  go_loopw [5, 17] (fun v c wr => ∃ (k : Nat) (L : List Ins), k ≤ Ls.length ∧ c = .int .i64 k ∧ L.length ≤ 4096 ∧ Hid (parseB s.data.toList = parseL ((Ls.drop k).map saidB) k L) ∧ Hid (PsR w A Ls L v wr)) (fun _ c _ => Ls.length - (intOf c).toNat)
  case atStart => exact ⟨0, [], by omega, rfl, by simp, HP0.out, HPs.out⟩
  case round =>
    obtain ⟨k, L, hk, rfl, hL, HD, HT⟩ := hrel
    clear HPs HP0
    by_cases hlt : k < Ls.length
    · obtain ⟨l, hl⟩ : ∃ l, Ls[k]? = some l := ⟨_, List.getElem?_eq_getElem hlt⟩
      have hA := HT.out.lt
      obtain ⟨b, o, hbo, _, hbl, hcell⟩ := HT.out.lin.pos (by omega)
      cases hbo
      have c0 : wr.cell? ⟨A, k, none⟩ = some (.string ⟨l.toArray⟩) := by have := hcell k _ (strs_at hl); rwa [Nat.zero_add] at this
      have hlm := Hln.out l (List.mem_of_getElem? hl)
      have hl64 : l.length ≤ 65536 := by have := hlm.1; have := Hsl.out; omega
      have Hsd := Lib.hid (fun W E => said_any ⟨l.toArray⟩ W (by rw [Lib.size_eq]; show l.toArray.toList.length ≤ _; rw [List.toList_toArray]; omega) (fun c hc => Has.out c (hlm.2 c (by simpa using hc))) E)
      have Hl := Lib.hid hl
      clear hcell hl hlm
      go_wp2_with fail
      refine (Hsd.out _ (HE.out.below HT.out.bel)).mono ?_
      rintro e w2 ⟨A2, rfl, hseg2, hb2⟩
      have HT2 := Lib.hid (HT.out.kept hb2)
      have Hsg2 := Lib.hid hseg2
      have hsl := saidB_len l
      clear hb2 hseg2 Hsd c0 HT
      by_cases hw : saidB l = []
      · have HD2 := Lib.hid (HD.out.trans (parseL_none Hl.out hw))
        have hw0 : (saidB l).length = 0 := by rw [hw]; rfl
        clear hw
        go_wp2_with fail
        go_roundw
        case rel => exact ⟨k + 1, L, by omega, by go_num, hL, HD2.out, HT2.out⟩
        case measure => simp [intOf]; omega
      · obtain ⟨x, er, hpx⟩ : ∃ x er, parsed (saidB l) = (x, er) := ⟨_, _, rfl⟩
        have hpd := parsed_any (saidB l) A2 0 w2 hw (by omega) (fun y hy => by have := hsl.2 y hy; omega) Hsg2.out.rd (HE.out.below HT2.out.bel)
        unfold ParsedPost at hpd
        rw [hpx] at hpd
        simp only at hpd
        have hw0 : ¬ (saidB l).length = 0 := fun e => hw (List.length_eq_zero_iff.1 e)
        have hw1 : (((saidB l).length : Int) == 0) = false := by rw [beq_eq_false_iff_ne]; omega
        have Hbad := Lib.hid (fun h => parseL_bad (L := L) Hl.out hw (by rw [hpx]; exact h))
        have Hmany := Lib.hid (fun h1 h2 => parseL_many (L := L) Hl.out hw (by rw [hpx]; exact h1) h2)
        have Hon := Lib.hid (fun h1 h2 => parseL_on (L := L) Hl.out hw (by rw [hpx]; exact h1) h2)
        rw [hpx] at Hbad Hon
        simp only at Hbad Hmany Hon
        obtain ⟨Av, cv, rfl, hcv, _⟩ := own_seg HT2.out.own
        clear hpx hw hsl
        go_wp2_with fail
        refine hpd.mono ?_
        rintro e w3 ⟨rfl, hb3⟩
        have HT3 := Lib.hid (HT2.out.kept hb3)
        have HX := Lib.hid (bk_new_at (l := x.cells) w3 38 #[.int .u16 x.c, .int .u8 x.t, .int .u8 x.f, .int .u32 x.k] rfl rfl)
        have HT4 := Lib.hid (HT3.out.kept ((Below.refl _ _).alloc (Nat.le_refl _) (.cells #[.int .u16 x.c, .int .u8 x.t, .int .u8 x.f, .int .u32 x.k] 38)))
        clear hb3 hpd HT2 HT3 Hsg2
        by_cases her : er = 0
        · have h1 : ((er : Int) == 0) = true := by rw [her]; rfl
          have h2 : ((er : Int) != 0) = false := by rw [her]; rfl
          by_cases hm : L.length = 4096
          · have h3 : ((L.length : Int) == 4096) = true := by rw [hm]; rfl
            have HD2 := Lib.hid (HD.out.trans (Hmany.out her hm))
            clear her hm
            go_wp2_with fail
            go_ret3
            exact parse_bad HD2.out rfl HT4.out.bel
          · have h3 : ((L.length : Int) == 4096) = false := by rw [beq_eq_false_iff_ne]; omega
            have HD2 := Lib.hid (HD.out.trans (Hon.out her hm))
            have hL2 : L.length < 4096 := by omega
            have Hbw := Lib.hid (show w.heap.size ≤ w3.heap.size + 1 + 1 by have := HT4.out.bel.size; simp at this; omega)
            have Hnews := Lib.hid (show ∀ (j : Nat) (u : Value), x.cells[j]? = some u → ((w3.alloc (.cells #[.int .u16 x.c, .int .u8 x.t, .int .u8 x.f, .int .u32 x.k] 38)).alloc (.cells #[.int .u16 x.c, .int .u8 x.t, .int .u8 x.f, .int .u32 x.k] 38)).cell? ((⟨w3.heap.size + 1, 0, none⟩ : Addr).add j) = some u from fun j u hu => by
              have h := four_new (w3.alloc (.cells #[.int .u16 x.c, .int .u8 x.t, .int .u8 x.f, .int .u32 x.k] 38)) 38 x.c x.t x.f x.k j u hu
              rw [show (w3.alloc (.cells #[.int .u16 x.c, .int .u8 x.t, .int .u8 x.f, .int .u32 x.k] 38)).heap.size = w3.heap.size + 1 by simp] at h
              exact h)
            clear her hm
            have d0 := HX.out.cell 0 rfl
            have d1 := HX.out.cell 1 rfl
            have d2 := HX.out.cell 2 rfl
            have d3 := HX.out.cell 3 rfl
            go_wp2_with (at_builtin; refine wpList_append_own_at _ rfl (.tmp 44) (.tmp 46) 28 rfl w.heap.size 38 i0 _ 4 8 Tryd.underlying28 hi0 hz0 hz1 hz2 rfl (by decide) _ L.length (L.flatMap Ins.cells) rfl (HT4.out.own.alloc _) ⟨w3.heap.size + 1, 0, none⟩ 1 1 x.cells rfl rfl Hnews.out (cells_one x) (by unfold maxLen; omega) (by omega) (by simp; exact Hbw.out) ?_; intro v' w5 hown' hgrow _ hat; have HT5 := Lib.hid (HT4.out.put _ hown' hgrow hat); clear hown' hgrow hat)
            go_roundw
            case rel => exact ⟨k + 1, L ++ [x], by omega, by go_num, by simp; omega, HD2.out, HT5.out⟩
            case measure => simp [intOf]; omega
        · have h1 : ((er : Int) == 0) = false := by rw [beq_eq_false_iff_ne]; omega
          have h2 : ((er : Int) != 0) = true := by simp; omega
          have HD2 := Lib.hid (HD.out.trans (Hbad.out her))
          clear her
          go_wp2_with fail
          go_ret3
          exact parse_bad HD2.out rfl HT4.out.bel
    · obtain rfl : k = Ls.length := by omega
      have HD2 := Lib.hid (show parseB s.data.toList = (L, 0, 0) by rw [HD.out, List.drop_eq_nil_of_le (Nat.le_refl _)]; rfl)
      go_wp2_with fail
      go_ret3
      exact parse_good HD2.out rfl HT.out.own HT.out.bel
end Go.Proofs.YthiohihbcfahhaaDoor
