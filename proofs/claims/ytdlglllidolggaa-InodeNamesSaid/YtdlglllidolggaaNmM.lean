/- InodeNames: lists. -/
import Derived.Test.YtdlglllidolggaaRtF
import Derived.Test.YtdlglllidolggaaInF
namespace Go.Proofs.Ytdlglllidolggaa.In
open Go.RowKit Go.Maps Go.WideElems
theorem before_trans : ∀ {a b c : Bs}, bytesBefore a b = true → bytesBefore b c = true → bytesBefore a c = true
  | [], [], _, h, _ => by cases h
  | _ :: _, [], _, h, _ => by cases h
  | _, _ :: _, [], _, h => by cases h
  | [], _ :: _, _ :: _, _, _ => rfl
  | a :: r, b :: s, c :: t, h, k => by
    unfold bytesBefore at h k ⊢
    rw [Bool.or_eq_true, Bool.and_eq_true, decide_eq_true_iff, beq_iff_eq] at h k ⊢
    rcases h with h | ⟨rfl, h⟩
    · rcases k with k | ⟨rfl, _⟩
      · exact .inl (UInt8.lt_trans h k)
      · exact .inl h
    · rcases k with k | ⟨rfl, k⟩
      · exact .inl k
      · exact .inr ⟨rfl, before_trans h k⟩
theorem ris_ins {x : Bs × Nat} : ∀ {L : Es}, Ris L → lk x.1 L = none → Ris (insE x L)
  | [], _, _ => by unfold insE; exact List.pairwise_singleton _ _
  | y :: r, h, hl => by
    have h1 := List.pairwise_cons.1 h
    have hne := lk_none.1 hl y (by simp)
    unfold insE
    split
    · rename_i hb
      refine List.pairwise_cons.2 ⟨fun z hz => ?_, h⟩
      rcases List.mem_cons.1 hz with rfl | hz
      · exact hb
      · exact before_trans hb (h1.1 z hz)
    · rename_i hb
      refine List.pairwise_cons.2 ⟨fun z hz => ?_, ris_ins h1.2 (lk_none.2 fun e he => lk_none.1 hl e (by simp [he]))⟩
      rcases mem_ins.1 hz with rfl | hz
      · exact before_total (fun e => hne e.symm) (by simpa using hb)
      · exact h1.1 z hz
structure NmI (T : TrM) : Prop where
  lim : T.lim = 200
  root : (T.nd 1).kd = 2
  ris : Ris (T.nd 1).L
  two : ((T.nd 1).L = [] ∧ (T.nd 2).kd = 0) ∨ (T.nd 2).kd = 1
theorem room_lk {T : TrM} {i : Nat} {s : Bs} (h : roomE T i s = 0) : lk s (T.nd i).L = none := by
  unfold roomE at h
  by_cases d0 : dirE T i = 0
  · rw [if_neg (by rw [d0]; decide)] at h
    split at h
    · cases h
    · split at h
      · cases h
      · rename_i hl
        simpa using hl
  · rw [if_pos d0] at h; exact absurd h d0
theorem nm_make {T : TrM} (h : NmI T) (s : Bs) : NmI (makeF T 0 1 s 1 ⟨#[]⟩).2.2 ∧ (makeF T 0 1 s 1 ⟨#[]⟩).2.2.ch ≤ T.ch + 1 ∧ (makeF T 0 1 s 1 ⟨#[]⟩).1 ≤ 200 ∧ (makeF T 0 1 s 1 ⟨#[]⟩).2.1 ≤ 100 := by
  unfold makeF
  by_cases hr : roomE T 1 s = 0
  case neg =>
    rw [if_pos hr]
    refine ⟨h, Nat.le_succ _, Nat.zero_le _, ?_⟩
    show roomE T 1 s ≤ 100
    unfold roomE
    repeat' split
    all_goals first | omega | skip
    unfold dirE; repeat' split
    all_goals omega
  rw [if_neg (by rw [hr]; decide), if_neg (by decide)]
  cases hf : freeF T with
  | none => exact ⟨h, Nat.le_succ _, Nat.zero_le _, by show 28 ≤ 100; omega⟩
  | some n =>
    obtain ⟨f1, f2, f3⟩ := free_is hf
    have hn1 : n ≠ 1 := fun e => by rw [e, h.root] at f3; cases f3
    have hl := room_lk hr
    dsimp only
    rw [if_neg (by rintro ⟨q, _⟩; cases q)]
    have e1 : (madeT T 1 s 1 ⟨#[]⟩ n).nd 1 = { T.nd 1 with L := insE (s, n) (T.nd 1).L } := by
      show upd (upd T.nd 1 _) n _ 1 = _
      rw [upd_other _ _ (fun e => hn1 e.symm), upd_same]
    refine ⟨⟨h.lim, by show ((madeT T 1 s 1 ⟨#[]⟩ n).nd 1).kd = 2; rw [e1]; exact h.root, by show Ris ((madeT T 1 s 1 ⟨#[]⟩ n).nd 1).L; rw [e1]; exact ris_ins h.ris hl, .inr ?_⟩, Nat.le_refl _, by have := h.lim; show n ≤ 200; omega, by show 0 ≤ 100; omega⟩
    show (upd (upd T.nd 1 _) n (freshN 1 1 ⟨#[]⟩) 2).kd = 1
    by_cases e : n = 2
    · subst e; rw [upd_same]; rfl
    · rw [upd_other _ _ (fun q => e q.symm), upd_other _ _ (by decide)]
      rcases h.two with ⟨_, q⟩ | q
      · exact absurd (by
          have := free_some (T := T) (k := 2) ⟨by decide, by rw [h.lim]; decide⟩ (fun j h1 h2 => by
            have : j = 1 := by omega
            subst this; rw [h.root]; decide) q
          rw [hf] at this; exact Option.some.inj this) e
      · exact q
theorem nm_new : NmI (newT 200) := ⟨rfl, rfl, List.Pairwise.nil, .inl ⟨rfl, rfl⟩⟩
/-- A list of texts that came in. -/
def StrRow (w : World) (a : Option Addr) (len cap : Nat) (zs : List ByteArray) : Prop :=
  (a = none ∧ len = 0 ∧ cap = 0 ∧ zs = []) ∨
  ∃ x, a = some x ∧ len ≤ cap ∧ cap ≤ maxLen ∧ zs.length = cap ∧ (∀ i, i < zs.length → w.cell? (x.add i) = some (.string (zs.getD i ByteArray.empty))) ∧ ∀ s ∈ zs, s.size ≤ maxLen
theorem cell_ltS {w : World} {b o : Nat} {v : Value} (h : w.cell? ⟨b, o, none⟩ = some v) : b < w.heap.size := by
  by_cases hb : b < w.heap.size
  · exact hb
  · simp [World.cell?, Array.getElem?_eq_none (Nat.le_of_not_lt hb)] at h
theorem str_at {w : World} {a : Option Addr} {len cap : Nat} {zs : List ByteArray} (h : StrRow w a len cap zs) (j : Nat) (hj : j < len) :
    ∃ blk off s, a = some ⟨blk, off, none⟩ ∧ blk < w.heap.size ∧ w.cell? ⟨blk, off + j, none⟩ = some (.string s) ∧ s.size ≤ maxLen := by
  rcases h with ⟨_, h, _⟩ | ⟨x, rfl, hl, _, hz, hc, hs⟩
  · omega
  · have hj' : j < zs.length := by omega
    have h0 := hc j hj'
    obtain ⟨blk, off, spot⟩ := x
    have hsp : spot = none := by
      have := hc 0 (by omega)
      simpa [Addr.add] using World.cell?_spot this
    subst hsp
    rw [addr_at] at h0
    refine ⟨blk, off, _, rfl, cell_ltS h0, h0, ?_⟩
    rw [List.getD_eq_getElem?_getD, List.getElem?_eq_getElem hj']; exact hs _ (List.getElem_mem _)
end Go.Proofs.Ytdlglllidolggaa.In
