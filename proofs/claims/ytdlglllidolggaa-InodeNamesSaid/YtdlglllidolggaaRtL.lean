/- The document's Make: what it makes. -/
import Derived.Test.YtdlglllidolggaaRtK
namespace Go.Proofs.Ytdlglllidolggaa.In
open Go.RowKit Go.Maps Go.WideElems
theorem infoNd : (Try.prog.info? 41).map (fun i => (i.zero, i.size, i.bytes)) = some (some (.agg #[.int .i64 0, .slice none 0 0, .slice none 0 0, .int .i64 0, .string ⟨#[]⟩, .int .i64 0, .int .i64 0]), 7, 96) := by kernel_rfl
theorem fresh_loose {kd i : Nat} {text : ByteArray} (hk : kd ≤ 3) (hi : i ≤ 65535) (ht : text.size ≤ maxLen) : Loose (freshN kd i text) := by
  refine ⟨hk, by show 1 ≤ 1000; omega, Nat.zero_le _, ?_, Nat.zero_le _, Nat.zero_le _, ?_⟩
  · show (if kd = 2 then i else 0) ≤ 65535
    split <;> omega
  · show (if kd = 3 then text else ⟨#[]⟩ : ByteArray).size ≤ maxLen
    split
    · exact ht
    · exact Nat.zero_le _
theorem upd_comm (f : Nat → NdM) {a b : Nat} (x y : NdM) (h : a ≠ b) : upd (upd f a x) b y = upd (upd f b y) a x := by
  funext k; unfold upd; split <;> split <;> first | rfl | (exfalso; omega)
section
variable {w w' : World} {B tb A k c g : Nat} {T : TrM} {mv nx : Value} {df lf : Nat → Value}
theorem RtR.push2 {v : Value} (h : RtR w B tb T A k c mv nx df lf) (hk : k ≤ T.lim) (ho : w'.ownsRow B 41 7 v (k + 1) (rcL T k df lf ++ rnCells ndZ NIL NIL)) (hg : w.grownBy w' (some A)) :
    ∃ A' c', v = .slice (some ⟨A', 0, none⟩) (k + 1) c' ∧ RtR (w'.setCell ⟨tb, 0, none⟩ v) B tb T A' (k + 1) c' mv nx (fun i => if i = k then NIL else df i) (fun i => if i = k then NIL else lf i) ∧ FrR B w (w'.setCell ⟨tb, 0, none⟩ v) ∧ w'.cell? ⟨tb, 0, none⟩ = some (.slice (some ⟨A, 0, none⟩) k c) ∧ w'.frozen? ⟨tb, 0, none⟩ = false := by
  obtain ⟨A', c', e, hP⟩ := h.push hk ho hg
  have htb := h.tab.grown hg (fun e => (bk_tyb h.tab).ne h.tyA (by decide) (Option.some.inj e))
  exact ⟨A', c', e, hP, (Fr.ofGrown hg (.inr ⟨h.hA, h.kinA⟩)).trans (Fr.ofGrown (only_set w' tb 0 v) (.inr ⟨h.hB, .inl ⟨_, by simp [RT], bk_tyb htb⟩⟩)), htb.cell 0 rfl, htb.fz 0⟩
theorem RtR.there (h : RtR w B tb T A k c mv nx df lf) {n : Nat} (hn : n < k) : w.there A (n * 7) 7 := fun q hq => by
  have hv : ∃ v, (rnCells (T.nd n) (df n) (lf n))[q]? = some v := ⟨_, List.getElem?_eq_getElem (by rw [rn_len]; exact hq)⟩
  obtain ⟨v, hv⟩ := hv
  exact ⟨by rw [h.cell hn q hq hv]; rfl, h.fzA _⟩
theorem RtR.setL (h : RtR w B tb T A k c mv nx df lf) {i : Nat} (hi : i < k) (h0 : i ≠ 0) (L : Es) (hL : L.length ≤ 1000) {v : Value} (hv : ERd w v L) :
    RtR (w.setCell ⟨A, i * 7 + 2, none⟩ v) B tb { T with nd := upd T.nd i { T.nd i with L := L } } A k c mv nx df (fun q => if q = i then v else lf q) := by
  have hx := h.ls i
  refine h.setC hi 2 (by omega) v { T.nd i with L := L } df _ (fun _ _ => rfl) (fun q hq => if_neg hq) (fun e => absurd e h0) ⟨hx.kd, hx.links, hx.held, hx.par, hL, hx.data, hx.text⟩ ?_ (h.data i hi) ?_
  · dsimp only
    rw [if_pos rfl]; rfl
  · dsimp only
    rw [if_pos rfl]; exact hv
theorem made_rt {kd i n cc : Nat} {s : Bs} {text : ByteArray} (hc : cc = T.ch) (hij : i ≠ n) (h : RtR w B tb { T with nd := upd (upd T.nd n (freshN kd i text)) i { upd T.nd n (freshN kd i text) i with L := insE (s, n) (T.nd i).L }, ch := cc + 1 } A k c mv nx df lf) : Rt w B tb (madeT T i s kd text n) := by
  have e : ({ T with nd := upd (upd T.nd n (freshN kd i text)) i { upd T.nd n (freshN kd i text) i with L := insE (s, n) (T.nd i).L }, ch := cc + 1 } : TrM) = madeT T i s kd text n := by
    unfold madeT chg
    rw [hc, upd_other _ _ hij, upd_comm _ _ _ hij.symm]
  rw [← e]
  exact ⟨_, _, _, _, _, _, _, h⟩
theorem room_zero {i : Nat} {s : Bs} (h : roomE T i s = 0) : (T.nd i).kd = 2 ∧ lk s (T.nd i).L = none ∧ (T.nd i).L.length < 32 := by
  unfold roomE at h
  by_cases d0 : dirE T i = 0
  · rw [if_neg (by rw [d0]; decide)] at h
    split at h
    · cases h
    · split at h
      · cases h
      · rename_i hl
        split at h
        · cases h
        · split at h
          · cases h
          · refine ⟨?_, by simpa using hl, by omega⟩
            unfold dirE at d0; split at d0
            · cases d0
            · split at d0
              · assumption
              · cases d0
  · rw [if_pos d0] at h; exact absurd h d0
end
end Go.Proofs.Ytdlglllidolggaa.In
