/- The table of inodes in memory. -/
import Derived.Test.YtdlglllidolggaaInM
import Derived.Test.YtdlglllidolggaaInB
namespace Go.Proofs.Ytdlglllidolggaa.In
open Go.RowKit Go.Maps
abbrev KT : List TypeId := [83, 62, 87]
abbrev FrI := Fr KT true
def ndCells (n : Nat) (x : NdM) (dv mv : Value) : List Value := [.int .u16 n, .int .u8 x.kd, dv, mv, .int .u16 x.par, .string x.text, .int .i64 x.links, .int .i64 x.held]
def DRd (w : World) (dv : Value) (l : List Nat) : Prop := ∃ A c, dv = .slice A l.length c ∧ l.length ≤ c ∧ TRd w 5 1 l.length A (u8s l)
def mvOf (kd mb : Nat) : Value := if kd = 2 then .map (some mb) else .map none
def NMp (w : World) (mb : Nat) (L : Es) : Prop := w.ownsMap Try.prog 9 (plainElem Try.prog 29) mb L.length (nD L)
theorem nmp_of {w : World} {mb n : Nat} {L : Es} (h : w.ownsMap Try.prog 9 (plainElem Try.prog 29) mb n (nD L)) : NMp w mb L := by
  have := om_tight h; rw [nD_size] at this; exact this
structure NodeR (w : World) (b n : Nat) (x : NdM) (mb : Nat) : Prop where
  cells : ∃ dv, Bk w b 83 (ndCells n x dv (mvOf x.kd mb)) ∧ DRd w dv x.data
  names : x.kd = 2 → NMp w mb x.L
  leaf : x.kd ≠ 2 → x.L = []
structure Loose (x : NdM) : Prop where
  kd : x.kd ≤ 3
  links : x.links ≤ 1000
  held : x.held ≤ 1000000000
  par : x.par ≤ 65535
  len : x.L.length ≤ 1000
  data : x.data.length ≤ 1024
  text : x.text.size ≤ maxLen
theorem loose_z : Loose ndZ := ⟨by decide, by decide, by decide, by decide, by decide, by decide, by decide⟩
section
variable {w w' : World} {b n mb g : Nat} {x : NdM}
theorem DRd.same {dv : Value} {l : List Nat} (h : DRd w dv l) (hs : w.heap.size ≤ w'.heap.size) (hb : ∀ b, TyB w b 5 → w'.heap[b]? = w.heap[b]?) : DRd w' dv l := by
  obtain ⟨A, c, e, h1, h2⟩ := h; exact ⟨A, c, e, h1, h2.same hs hb⟩
theorem NodeR.tyb (h : NodeR w b n x mb) : TyB w b 83 := by obtain ⟨_, h, _⟩ := h.cells; exact bk_tyb h
theorem NodeR.lt (h : NodeR w b n x mb) : b < w.heap.size := h.tyb.lt
theorem NodeR.mlt (h : NodeR w b n x mb) (hk : x.kd = 2) : mb < w.heap.size := om_lt (h.names hk)
theorem NodeR.same (h : NodeR w b n x mb) (hs : w.heap.size ≤ w'.heap.size) (h1 : w'.heap[b]? = w.heap[b]?) (h2 : x.kd = 2 → w'.heap[mb]? = w.heap[mb]?) (h3 : ∀ b, TyB w b 5 → w'.heap[b]? = w.heap[b]?) : NodeR w' b n x mb := by
  obtain ⟨dv, hc, hd⟩ := h.cells
  exact ⟨⟨dv, h1.trans hc, hd.same hs h3⟩, fun hk => om_block (h.names hk) (h2 hk), h.leaf⟩
theorem NodeR.below (h : NodeR w b n x mb) (hb : Below w.heap.size w w') : NodeR w' b n x mb :=
  h.same hb.size (hb.block _ h.lt) (fun hk => hb.block _ (h.mlt hk)) (fun _ k => hb.block _ k.lt)
theorem NodeR.grown (h : NodeR w b n x mb) (hg : w.grownBy w' (some g)) (h1 : b ≠ g) (h2 : x.kd = 2 → mb ≠ g) (h3 : ¬ TyB w g 5) : NodeR w' b n x mb :=
  h.same hg.size (hg.block _ h.lt (fun e => h1 (Option.some.inj e))) (fun hk => hg.block _ (h.mlt hk) (fun e => h2 hk (Option.some.inj e))) (fun c k => hg.block _ k.lt (fun e => h3 (by cases e; exact k)))
theorem NodeR.c (h : NodeR w b n x mb) (j : Nat) (v : Value) (hv : (ndCells n x undef (mvOf x.kd mb))[j]? = some v) (hj : j ≠ 2) : w.cell? ⟨b, j, none⟩ = some v := by
  obtain ⟨dv, hc, _⟩ := h.cells
  refine hc.cell j ?_
  match j, hj, hv with
  | 0, _, hv => exact hv
  | 1, _, hv => exact hv
  | 3, _, hv => exact hv
  | 4, _, hv => exact hv
  | 5, _, hv => exact hv
  | 6, _, hv => exact hv
  | 7, _, hv => exact hv
  | j + 8, _, hv => simp [ndCells] at hv
theorem NodeR.fz (h : NodeR w b n x mb) (j : Nat) : w.frozen? ⟨b, j, none⟩ = false := by obtain ⟨_, h, _⟩ := h.cells; exact h.fz j
end
def rowL (T : TrM) (nb : Nat → Nat) : List Value := (List.range (T.lim + 1)).map fun n => if (T.nd n).kd = 0 then .pointer none else .pointer (some ⟨nb n, 0, none⟩)
theorem row_get (T : TrM) (nb : Nat → Nat) {n : Nat} (h : n ≤ T.lim) : (rowL T nb)[n]? = some (if (T.nd n).kd = 0 then .pointer none else .pointer (some ⟨nb n, 0, none⟩)) := by
  unfold rowL; rw [List.getElem?_map, List.getElem?_range (by omega)]; rfl
theorem row_len (T : TrM) (nb : Nat → Nat) : (rowL T nb).length = T.lim + 1 := by simp [rowL]
theorem row_set {T T' : TrM} {nb nb' : Nat → Nat} {n : Nat} (hl : T'.lim = T.lim) (ho : ∀ k, k ≠ n → (T'.nd k).kd = (T.nd k).kd ∧ ((T.nd k).kd ≠ 0 → nb' k = nb k)) (v : Value) (hv : v = if (T'.nd n).kd = 0 then .pointer none else .pointer (some ⟨nb' n, 0, none⟩)) :
    (rowL T nb).set n v = rowL T' nb' := by
  apply List.ext_getElem?
  intro i
  rw [List.getElem?_set]
  by_cases hi : i ≤ T.lim
  · rw [row_get T' nb' (by omega), row_len]
    by_cases e : n = i
    · subst e; rw [if_pos rfl, if_pos (by omega), hv]
    · rw [if_neg e, row_get T nb hi, (ho i (Ne.symm e)).1]
      by_cases hk : (T.nd i).kd = 0
      · rw [if_pos hk, if_pos hk]
      · rw [if_neg hk, if_neg hk, (ho i (Ne.symm e)).2 hk]
  · have h1 : (rowL T' nb')[i]? = none := List.getElem?_eq_none (by rw [row_len]; omega)
    have h2 : (rowL T nb)[i]? = none := List.getElem?_eq_none (by rw [row_len]; omega)
    rw [h1, h2, row_len]
    split
    · rw [if_neg (by omega)]
    · rfl
theorem row_eq {T T' : TrM} {nb : Nat → Nat} (hl : T'.lim = T.lim) (ho : ∀ k, (T'.nd k).kd = (T.nd k).kd) : rowL T' nb = rowL T nb := by
  unfold rowL; rw [hl]; simp only [ho]
structure TabR (w : World) (B tb : Nat) (T : TrM) (A : Nat) (nb mb : Nat → Nat) : Prop where
  tab : Bk w tb 87 [.slice (some ⟨A, 0, none⟩) (T.lim + 1) (T.lim + 1), .int .i64 T.ch]
  row : Bk w A 62 (rowL T nb)
  node : ∀ n, (T.nd n).kd ≠ 0 → NodeR w (nb n) n (T.nd n) (mb n)
  inj : ∀ n k, (T.nd n).kd ≠ 0 → (T.nd k).kd ≠ 0 → nb n = nb k → n = k
  injm : ∀ n k, (T.nd n).kd = 2 → (T.nd k).kd = 2 → mb n = mb k → n = k
  hB : B ≤ tb ∧ B ≤ A
  hN : ∀ n, (T.nd n).kd ≠ 0 → B ≤ nb n ∧ ((T.nd n).kd = 2 → B ≤ mb n)
  lim : 1 ≤ T.lim ∧ T.lim ≤ 256
  out : ∀ n, n = 0 ∨ T.lim < n → (T.nd n).kd = 0
  ls : ∀ n, Loose (T.nd n)
  ch : T.ch ≤ 1000000000
/-- A table: its block, what it is. -/
def Tab (w : World) (B tb : Nat) (T : TrM) : Prop := ∃ A nb mb, TabR w B tb T A nb mb
section
variable {w w' : World} {B tb A g : Nat} {T : TrM} {nb mb : Nat → Nat}
theorem TabR.same (h : TabR w B tb T A nb mb) (hs : w.heap.size ≤ w'.heap.size) (hb : ∀ b, (TyB w b 83 ∨ TyB w b 62 ∨ TyB w b 87 ∨ TyB w b 5 ∨ ∃ es c, w.heap[b]? = some (.map es c)) → w'.heap[b]? = w.heap[b]?) : TabR w' B tb T A nb mb :=
  ⟨(hb _ (.inr (.inr (.inl (bk_tyb h.tab))))).trans h.tab, (hb _ (.inr (.inl (bk_tyb h.row)))).trans h.row,
   fun n hn => (h.node n hn).same hs (hb _ (.inl (h.node n hn).tyb)) (fun hk => hb _ (.inr (.inr (.inr (.inr (by obtain ⟨es, c, k, _⟩ := (h.node n hn).names hk; exact ⟨es, c, k⟩)))))) (fun b k => hb _ (.inr (.inr (.inr (.inl k))))),
   h.inj, h.injm, h.hB, h.hN, h.lim, h.out, h.ls, h.ch⟩
theorem TabR.below (h : TabR w B tb T A nb mb) (hb : Below w.heap.size w w') : TabR w' B tb T A nb mb :=
  h.same hb.size fun b k => hb.block _ (by
    rcases k with k | k | k | k | ⟨es, c, k⟩
    · exact k.lt
    · exact k.lt
    · exact k.lt
    · exact k.lt
    · exact (Array.getElem?_eq_some_iff.1 k).1)
theorem Tab.below (h : Tab w B tb T) (hb : Below w.heap.size w w') : Tab w' B tb T := by obtain ⟨A, nb, mb, h⟩ := h; exact ⟨A, nb, mb, h.below hb⟩
/-- What another package's calls leave of it. -/
theorem Tab.other {ts : List TypeId} {B2 : Nat} (h : Tab w B tb T) (hf : Fr ts false B2 w w') (h1 : 83 ∉ ts) (h2 : 62 ∉ ts) (h3 : 87 ∉ ts) (h4 : 5 ∉ ts) : Tab w' B tb T := by
  obtain ⟨A, nb, mb, h⟩ := h
  refine ⟨A, nb, mb, h.same hf.size fun b k => ?_⟩
  rcases k with k | k | k | k | ⟨es, c, k⟩
  · exact hf.tyb k h1
  · exact hf.tyb k h2
  · exact hf.tyb k h3
  · exact hf.tyb k h4
  · refine hf.block b (Array.getElem?_eq_some_iff.1 k).1 (.inr ?_)
    rintro (⟨t, _, _, _, k2⟩ | ⟨e, _⟩)
    · rw [k] at k2; cases k2
    · cases e
theorem TabR.kin (h : TabR w B tb T A nb mb) {n : Nat} (hn : (T.nd n).kd ≠ 0) : Kin KT true w (nb n) := .inl ⟨_, by simp [KT], (h.node n hn).tyb⟩
theorem TabR.kinT (h : TabR w B tb T A nb mb) : Kin KT true w tb := .inl ⟨_, by simp [KT], bk_tyb h.tab⟩
theorem TabR.kinA (h : TabR w B tb T A nb mb) : Kin KT true w A := .inl ⟨_, by simp [KT], bk_tyb h.row⟩
theorem TabR.kinM (h : TabR w B tb T A nb mb) {n : Nat} (hn : (T.nd n).kd = 2) : Kin KT true w (mb n) := by
  obtain ⟨es, c, k, _⟩ := (h.node n (by rw [hn]; decide)).names hn
  exact .inr ⟨rfl, es, c, k⟩
theorem not_u8_of {T U : TypeId} (h : TyB w g U) (hn : U ≠ T) : ¬ TyB w g T := fun k => h.ne k hn rfl
/-- A node, or its names, are others. -/
theorem TabR.setN (h : TabR w B tb T A nb mb) {n : Nat} (hn : (T.nd n).kd ≠ 0) (x' : NdM) (hk : x'.kd = (T.nd n).kd) (hl : Loose x') (hR : NodeR w' (nb n) n x' (mb n)) (hg : w.grownBy w' (some g)) (hgn : g = nb n ∨ g = mb n ∧ (T.nd n).kd = 2) :
    TabR w' B tb { T with nd := upd T.nd n x' } A nb mb := by
  have hu : ¬ TyB w g 5 := by
    rcases hgn with rfl | ⟨rfl, h2⟩
    · exact not_u8_of (h.node n hn).tyb (by decide)
    · exact fun k => om_ne ((h.node n hn).names h2) k rfl
  have hT : ∀ {c U}, TyB w c U → U ≠ 83 → c ≠ g := fun {c U} k hU => by
    rcases hgn with rfl | ⟨rfl, h2⟩
    · exact k.ne (h.node n hn).tyb hU
    · exact fun e => om_ne ((h.node n hn).names h2) k e.symm
  have hkk : ∀ k, ((upd T.nd n x') k).kd = (T.nd k).kd := fun k => by
    unfold upd; split
    · rename_i e; rw [e]; exact hk
    · rfl
  refine ⟨h.tab.grown hg (fun e => hT (bk_tyb h.tab) (by decide) (Option.some.inj e)), ?_, fun k hk0 => ?_, fun k j hk hj => ?_, fun k j hk hj => ?_, h.hB, fun k hk => ?_, h.lim, fun k hk => ?_, fun k => ?_, h.ch⟩
  · rw [row_eq (T := T) (by rfl) hkk]
    exact h.row.grown hg (fun e => hT (bk_tyb h.row) (by decide) (Option.some.inj e))
  · show NodeR w' (nb k) k (upd T.nd n x' k) (mb k)
    by_cases e : k = n
    · subst e; rw [upd_same]; exact hR
    · rw [upd_other _ _ e]
      have hk1 : (T.nd k).kd ≠ 0 := by rw [← hkk k]; exact hk0
      refine (h.node k hk1).grown hg (fun e2 => ?_) (fun h2 e2 => ?_) hu
      · rcases hgn with rfl | ⟨rfl, h3⟩
        · exact e (h.inj k n hk1 hn e2)
        · exact om_ne ((h.node n hn).names h3) (h.node k hk1).tyb e2.symm
      · rcases hgn with rfl | ⟨rfl, h3⟩
        · exact om_ne ((h.node k hk1).names h2) (h.node n hn).tyb e2
        · exact e (h.injm k n h2 h3 e2)
  · exact h.inj k j (by rw [← hkk k]; exact hk) (by rw [← hkk j]; exact hj)
  · exact h.injm k j ((hkk k).symm.trans hk) ((hkk j).symm.trans hj)
  · have := h.hN k (by rw [← hkk k]; exact hk)
    exact ⟨this.1, fun h2 => this.2 ((hkk k).symm.trans h2)⟩
  · exact (hkk k).trans (h.out k hk)
  · show Loose (upd T.nd n x' k)
    unfold upd; split
    · exact hl
    · exact h.ls k
/-- The count of changes is another one. -/
theorem TabR.setCh (h : TabR w B tb T A nb mb) (c : Nat) (hc : c ≤ 1000000000) : TabR (w.setCell ⟨tb, 1, none⟩ (.int .i64 c)) B tb { T with ch := c } A nb mb := by
  have hg := only_set w tb 1 (.int .i64 c)
  have hT : ∀ {d U}, TyB w d U → U ≠ 87 → d ≠ tb := fun k hU => k.ne (bk_tyb h.tab) hU
  refine ⟨h.tab.set 1 _, h.row.grown hg (fun e => hT (bk_tyb h.row) (by decide) (Option.some.inj e)), fun n hn => ?_, h.inj, h.injm, h.hB, h.hN, h.lim, h.out, h.ls, hc⟩
  exact (h.node n hn).grown hg (hT (h.node n hn).tyb (by decide)) (fun h2 => om_ne ((h.node n hn).names h2) (bk_tyb h.tab)) (not_u8_of (bk_tyb h.tab) (by decide))
/-- An inode is gone. -/
theorem TabR.gone (h : TabR w B tb T A nb mb) (n : Nat) (hn : n ≤ T.lim) : TabR (w.setCell ⟨A, n, none⟩ (.pointer none)) B tb { T with nd := upd T.nd n ndZ } A nb mb := by
  have hg := only_set w A n (.pointer none)
  have hT : ∀ {d U}, TyB w d U → U ≠ 62 → d ≠ A := fun k hU => k.ne (bk_tyb h.row) hU
  have hkk : ∀ k, (upd T.nd n ndZ k).kd ≠ 0 → k ≠ n ∧ upd T.nd n ndZ k = T.nd k := fun k hk => by
    by_cases e : k = n
    · subst e; rw [upd_same] at hk; exact absurd rfl hk
    · exact ⟨e, upd_other _ _ e⟩
  have hk2 : ∀ k, (upd T.nd n ndZ k).kd = 2 → (T.nd k).kd = 2 := fun k hk => by
    have := (hkk k (by rw [hk]; decide)).2; rwa [this] at hk
  have hk0 : ∀ k, (upd T.nd n ndZ k).kd ≠ 0 → (T.nd k).kd ≠ 0 := fun k hk => by rw [← (hkk k hk).2]; exact hk
  refine ⟨h.tab.grown hg (fun e => hT (bk_tyb h.tab) (by decide) (Option.some.inj e)), ?_, fun k hk => ?_, fun k j hk hj => h.inj k j (hk0 k hk) (hk0 j hj), fun k j hk hj => h.injm k j (hk2 k hk) (hk2 j hj), h.hB, fun k hk => ?_, h.lim, fun k hk => ?_, fun k => ?_, h.ch⟩
  · have := h.row.set n (.pointer none)
    rwa [row_set (T := T) (T' := { T with nd := upd T.nd n ndZ }) (nb' := nb) rfl (fun k hk => ⟨by show (upd T.nd n ndZ k).kd = _; rw [upd_other _ _ hk], fun _ => rfl⟩) _ (by rw [if_pos (by show (upd T.nd n ndZ n).kd = 0; rw [upd_same]; rfl)])] at this
  · show NodeR _ (nb k) k (upd T.nd n ndZ k) (mb k)
    rw [(hkk k hk).2]
    have k0 := hk0 k hk
    exact (h.node k k0).grown hg (hT (h.node k k0).tyb (by decide)) (fun h2 => om_ne ((h.node k k0).names h2) (bk_tyb h.row)) (not_u8_of (bk_tyb h.row) (by decide))
  · have := h.hN k (hk0 k hk)
    exact ⟨this.1, fun h2 => this.2 (hk2 k h2)⟩
  · show (upd T.nd n ndZ k).kd = 0
    unfold upd; split
    · rfl
    · exact h.out k hk
  · show Loose (upd T.nd n ndZ k)
    unfold upd; split
    · exact loose_z
    · exact h.ls k
def updN (f : Nat → Nat) (n x : Nat) : Nat → Nat := fun k => if k = n then x else f k
/-- A new one. -/
theorem TabR.new (h : TabR w B tb T A nb mb) (n : Nat) (hn : 1 ≤ n ∧ n ≤ T.lim) (h0 : (T.nd n).kd = 0) (g m : Nat) (x : NdM) (hx : x.kd ≠ 0) (hl : Loose x) (hR : NodeR w g n x m) (hg : B ≤ g) (hm : x.kd = 2 → B ≤ m) (hgn : ∀ k, (T.nd k).kd ≠ 0 → nb k ≠ g) (hmn : x.kd = 2 → ∀ k, (T.nd k).kd = 2 → mb k ≠ m) :
    TabR (w.setCell ⟨A, n, none⟩ (.pointer (some ⟨g, 0, none⟩))) B tb { T with nd := upd T.nd n x } A (updN nb n g) (updN mb n m) := by
  have hgr := only_set w A n (.pointer (some ⟨g, 0, none⟩))
  have hT : ∀ {d U}, TyB w d U → U ≠ 62 → d ≠ A := fun k hU => k.ne (bk_tyb h.row) hU
  have e1 : ∀ k, k ≠ n → updN nb n g k = nb k := fun k hk => by simp [updN, hk]
  have e2 : ∀ k, k ≠ n → updN mb n m k = mb k := fun k hk => by simp [updN, hk]
  have s1 : updN nb n g n = g := by simp [updN]
  have s2 : updN mb n m n = m := by simp [updN]
  refine ⟨h.tab.grown hgr (fun e => hT (bk_tyb h.tab) (by decide) (Option.some.inj e)), ?_, fun k hk => ?_, fun k j hk hj e => ?_, fun k j hk hj e => ?_, h.hB, fun k hk => ?_, h.lim, fun k hk => ?_, fun k => ?_, h.ch⟩
  · have := h.row.set n (.pointer (some ⟨g, 0, none⟩))
    rwa [row_set (T := T) (T' := { T with nd := upd T.nd n x }) (nb' := updN nb n g) rfl (fun k hk => ⟨by show (upd T.nd n x k).kd = _; rw [upd_other _ _ hk], fun _ => e1 k hk⟩) _ (by rw [if_neg (by show (upd T.nd n x n).kd ≠ 0; rw [upd_same]; exact hx), s1])] at this
  · show NodeR _ (updN nb n g k) k (upd T.nd n x k) (updN mb n m k)
    by_cases e : k = n
    · subst e
      rw [s1, s2, upd_same]
      exact hR.grown hgr (hT hR.tyb (by decide)) (fun h2 => om_ne (hR.names h2) (bk_tyb h.row)) (not_u8_of (bk_tyb h.row) (by decide))
    · have k0 : (T.nd k).kd ≠ 0 := by have : (upd T.nd n x k).kd ≠ 0 := hk; rwa [upd_other _ _ e] at this
      rw [e1 k e, e2 k e, upd_other _ _ e]
      exact (h.node k k0).grown hgr (hT (h.node k k0).tyb (by decide)) (fun h2 => om_ne ((h.node k k0).names h2) (bk_tyb h.row)) (not_u8_of (bk_tyb h.row) (by decide))
  · have hk : (upd T.nd n x k).kd ≠ 0 := hk
    have hj : (upd T.nd n x j).kd ≠ 0 := hj
    by_cases a : k = n <;> by_cases b : j = n
    · rw [a, b]
    · subst a; rw [upd_other _ _ b] at hj; rw [s1, e1 j b] at e; exact absurd e.symm (hgn j hj)
    · subst b; rw [upd_other _ _ a] at hk; rw [s1, e1 k a] at e; exact absurd e (hgn k hk)
    · rw [upd_other _ _ a] at hk; rw [upd_other _ _ b] at hj; rw [e1 k a, e1 j b] at e; exact h.inj k j hk hj e
  · have hk : (upd T.nd n x k).kd = 2 := hk
    have hj : (upd T.nd n x j).kd = 2 := hj
    by_cases a : k = n <;> by_cases b : j = n
    · rw [a, b]
    · subst a; rw [upd_other _ _ b] at hj; rw [upd_same] at hk; rw [s2, e2 j b] at e; exact absurd e.symm (hmn hk j hj)
    · subst b; rw [upd_other _ _ a] at hk; rw [upd_same] at hj; rw [s2, e2 k a] at e; exact absurd e (hmn hj k hk)
    · rw [upd_other _ _ a] at hk; rw [upd_other _ _ b] at hj; rw [e2 k a, e2 j b] at e; exact h.injm k j hk hj e
  · have hk : (upd T.nd n x k).kd ≠ 0 := hk
    show B ≤ updN nb n g k ∧ ((upd T.nd n x k).kd = 2 → B ≤ updN mb n m k)
    by_cases a : k = n
    · subst a; rw [s1, s2, upd_same]; exact ⟨hg, hm⟩
    · rw [upd_other _ _ a] at hk ⊢; rw [e1 k a, e2 k a]; exact h.hN k hk
  · show (upd T.nd n x k).kd = 0
    have hk : k = 0 ∨ T.lim < k := hk
    have : k ≠ n := by omega
    rw [upd_other _ _ this]; exact h.out k hk
  · show Loose (upd T.nd n x k)
    unfold upd; split
    · exact hl
    · exact h.ls k
end
end Go.Proofs.Ytdlglllidolggaa.In
