/- The document's insert. -/
import Derived.Test.YtdlglllidolggaaRtE
import Derived.Test.YtdlglllidolggaaApp
import Derived.BigQuiet
import Derived.Sort.Walk0
import Derived.Deep.RegionHeld3
namespace Go.Proofs.Ytdlglllidolggaa.In
open Go.RowKit Go.Maps Go.WideElems
theorem own_monoR {w : World} {base base' : Nat} {e : TypeId} {size : Nat} {v : Value} {n : Nat} {xs : List Value} (h : w.ownsRow base e size v n xs) (hb : base' ≤ base) : w.ownsRow base' e size v n xs :=
  ⟨h.1, h.2.imp id fun ⟨g, cap, cur, e, h1, h2⟩ => ⟨g, cap, cur, e, Nat.le_trans hb h1, h2⟩⟩
theorem before_total : ∀ {a b : Bs}, a ≠ b → bytesBefore a b = false → bytesBefore b a = true
  | [], [], h, _ => absurd rfl h
  | [], _ :: _, _, h => by cases h
  | _ :: _, [], _, _ => rfl
  | a :: r, b :: s, hn, h => by
    unfold bytesBefore at h ⊢
    rw [Bool.or_eq_false_iff, Bool.and_eq_false_iff, decide_eq_false_iff_not] at h
    rw [Bool.or_eq_true, Bool.and_eq_true, decide_eq_true_iff, beq_iff_eq]
    by_cases e : a = b
    · subst e
      rcases h with ⟨_, h2⟩
      rcases h2 with h2 | h2
      · simp at h2
      · exact .inr ⟨rfl, before_total (fun q => hn (by rw [q])) h2⟩
    · left
      have h1 := h.1
      rw [UInt8.lt_iff_toNat_lt] at h1 ⊢
      have : a.toNat ≠ b.toNat := fun q => e (UInt8.toNat_inj.1 q)
      omega
theorem before_asym : ∀ {a b : Bs}, bytesBefore a b = true → bytesBefore b a = false
  | [], [], h => by cases h
  | [], _ :: _, _ => rfl
  | _ :: _, [], h => by cases h
  | a :: r, b :: s, h => by
    unfold bytesBefore at h ⊢
    rw [Bool.or_eq_true, Bool.and_eq_true, decide_eq_true_iff, beq_iff_eq] at h
    rw [Bool.or_eq_false_iff, Bool.and_eq_false_iff, decide_eq_false_iff_not]
    rcases h with h | ⟨h1, h2⟩
    · rw [UInt8.lt_iff_toNat_lt] at h
      refine ⟨by rw [UInt8.lt_iff_toNat_lt]; omega, .inl ?_⟩
      have : b ≠ a := fun e => by subst e; omega
      simpa using this
    · subst h1
      exact ⟨by rw [UInt8.lt_iff_toNat_lt]; omega, .inr (before_asym h2)⟩
theorem less_before : ∀ a b : Bs, Op.bytesLess a b = bytesBefore a b
  | [], [] => rfl
  | [], _ :: _ => rfl
  | _ :: _, [] => rfl
  | a :: r, b :: s => by unfold Op.bytesLess bytesBefore; rw [less_before r s]
theorem ins_split {s : Bs} {n : Nat} : ∀ {L : Es} {j : Nat}, lk s L = none → j ≤ L.length → (∀ m x, m < j → L[m]? = some x → bytesBefore x.1 s = true) → (∀ x, L[j]? = some x → bytesBefore x.1 s = false) → insE (s, n) L = L.take j ++ (s, n) :: L.drop j
  | [], j, _, hj, _, _ => by simp [insE]
  | y :: r, 0, hl, _, _, h2 => by
    have hy := h2 y rfl
    have hne := lk_none.1 hl y (by simp)
    unfold insE
    rw [if_pos (before_total hne hy)]; rfl
  | y :: r, j + 1, hl, hj, h1, h2 => by
    have hy := h1 0 y (by omega) rfl
    have hl2 : lk s r = none := lk_none.2 fun e he => lk_none.1 hl e (by simp [he])
    have ih := ins_split (n := n) (L := r) (j := j) hl2 (by simp at hj; omega) (fun m x hm hx => h1 (m + 1) x (by omega) (by simpa using hx)) (fun x hx => h2 x (by simpa using hx))
    unfold insE
    rw [if_neg (by show ¬ bytesBefore s y.1 = true; rw [before_asym hy]; decide), ih]; rfl
theorem take_en (L : Es) (j : Nat) : (L.flatMap enC).take (j * 2) = (L.take j).flatMap enC := by
  induction L generalizing j with
  | nil => simp
  | cons x L ih =>
    cases j with
    | zero => simp
    | succ j => rw [List.flatMap_cons, List.take_succ_cons, List.flatMap_cons, ← ih, show (j + 1) * 2 = (enC x).length + j * 2 from by show _ = 2 + _; omega, List.take_append, List.take_of_length_le (by omega)]; simp
theorem drop_en (L : Es) (j : Nat) : (L.flatMap enC).drop (j * 2) = (L.drop j).flatMap enC := by
  induction L generalizing j with
  | nil => simp
  | cons x L ih =>
    cases j with
    | zero => simp
    | succ j => rw [List.flatMap_cons, List.drop_succ_cons, ← ih, show (j + 1) * 2 = (enC x).length + j * 2 from by show _ = 2 + _; omega, List.drop_append]; simp
theorem en_one (L : Es) : ∀ u ∈ L.flatMap enC, u.oneCell' = true := by
  intro u hu
  obtain ⟨x, _, hx⟩ := List.mem_flatMap.1 hu
  simp only [enC, List.mem_cons, List.not_mem_nil, or_false] at hx
  rcases hx with rfl | rfl <;> rfl
theorem infoEn : (Try.prog.info? 47).map (fun i => (i.zero, i.size, i.bytes)) = some (some (.agg #[.string ⟨#[]⟩, .int .i64 0]), 2, 24) := by kernel_rfl
/-! def arms here -/
theorem arm0 {wv W : World} (h : Below wv.heap.size wv W) : ∃ V, V = W.alloc (.cells #[] 47) ∧ Below wv.heap.size wv V ∧ Below W.heap.size W V ∧ V.ownsRow wv.heap.size 47 2 (.slice (some ⟨W.heap.size, 0, none⟩) 0 0) 0 [] := by
  refine ⟨_, rfl, h.alloc h.size _, oneb _ _, by simp, .inr ⟨W.heap.size, 0, #[], rfl, h.size, heap_alloc_new W _, Nat.le_refl _, by unfold maxLen; omega, by simp, by simp⟩⟩
theorem arm6 {wv W : World} (h : Below wv.heap.size wv W) (s : ByteArray) (n : Nat) : ∃ V, V = W.alloc (.cells #[.string s, .int .i64 n] 47) ∧ Below wv.heap.size wv V ∧ Below W.heap.size W V ∧ Rd V 2 1 (some ⟨W.heap.size, 0, none⟩) [.string s, .int .i64 n] ∧ W.heap.size < V.heap.size := by
  have hB : Bk (W.alloc (.cells #[.string s, .int .i64 n] 47)) W.heap.size 47 [.string s, .int .i64 n] := Bk.new W _ _ rfl
  exact ⟨_, rfl, h.alloc h.size _, oneb _ _, ⟨rfl, .inr ⟨_, 0, rfl, hB.lt, fun j u hu => by rw [Nat.zero_add]; exact hB.cell j hu⟩⟩, hB.lt⟩
theorem ne_hi {x g : Nat} (h : g < x) : ∀ b, (Value.slice (some ⟨x, 0, none⟩) 0 0).ownBlock = some b → b ≠ g := fun b e => by have q : x = b := Option.some.inj e; omega
theorem rd_grow {w w' : World} {z n g o : Nat} {xs : List Value} {r : Option Nat} (h : Rd w z n (some ⟨g, o, none⟩) xs) (hg : w.grownBy w' r) (hne : ∀ b, r = some b → b ≠ g) : Rd w' z n (some ⟨g, o, none⟩) xs := by
  refine ⟨h.len, h.at_.imp id ?_⟩
  rintro ⟨b, q, e, hl, hc⟩
  cases e
  have hb := hg.block g hl (fun q => hne g q.symm rfl)
  refine ⟨g, o, rfl, Nat.lt_of_lt_of_le hl hg.size, fun j u hu => ?_⟩
  have := hc j u hu
  simp only [World.cell?, hb] at this ⊢
  exact this
theorem ne_next {v v' : Value} {g x : Nat} (h : ∀ b, v.ownBlock = some b → b ≠ g) (ha : v'.ownBlock = v.ownBlock ∨ v'.ownBlock = some x) (hg : g < x) : ∀ b, v'.ownBlock = some b → b ≠ g := fun b e => by
  rcases ha with q | q
  · exact h b (q ▸ e)
  · rw [q] at e; cases e; omega
def InsP (w : World) (L : Es) (e : Ending) (w' : World) : Prop := ∃ v, e = .returned v ∧ w'.ownsRow w.heap.size 47 2 v L.length (L.flatMap enC) ∧ Below w.heap.size w w'
set_option maxRecDepth 100000 in
set_option maxHeartbeats 4000000 in
theorem insert_some {w : World} {a : Addr} {N c1 : Nat} {L : Es} (hR : Rd w 2 N (some a) (L.flatMap enC)) (hN : N = L.length) (h1 : N ≤ c1) (hL : L.length ≤ 1000) (s : ByteArray) (n : Nat) (hn : lk s.data.toList L = none) :
    Calls Try.prog 44 #[.slice (some a) N c1, .agg #[.string s, .int .i64 n]] w (InsP w (insE (s.data.toList, n) L)) := by
  have HR := Lib.hid hR
  have HN := Lib.hid hN
  rw [← hN] at hL
  have HL := Lib.hid hn
  clear hR hN hn
  go_enter Try.func44, Try.ntmps44
  go_wp2
  have hB : Bk (w.alloc (.cells #[.string s, .int .i64 n] 47)) w.heap.size 47 [.string s, .int .i64 n] := Bk.new w _ _ rfl
  have hbb := oneb w (.cells #[.string s, .int .i64 n] 47)
  generalize World.alloc w _ = w1 at hB hbb ⊢
  generalize hg : w.heap.size = g at hB ⊢
  have HBk := Lib.hid hB
  have HBb := Lib.hid hbb
  clear hB hbb hg
  go_loopw [5] (fun i wx => ∃ j : Nat, j ≤ N ∧ i = .int .i64 j ∧ Hid (∀ m x, m < j → L[m]? = some x → bytesBefore x.1 s.data.toList = true) ∧ Hid (Below w.heap.size w wx) ∧ Hid (Bk wx g 47 [.string s, .int .i64 n])) (fun i _ => N - (intOf i).toNat)
  case atStart => exact ⟨0, by omega, rfl, fun m _ h => absurd h (by omega), HBb.out, HBk.out⟩
  case round =>
    clear HBk HBb
    obtain ⟨j, hj, rfl, Hg, HC, HBk⟩ := hrel
    have hc0 : wr.cell? ⟨g, 0, none⟩ = some (.string s) := HBk.out.cell 0 rfl
    have hc1 : wr.cell? ⟨g, 1, none⟩ = some (.int .i64 n) := HBk.out.cell 1 rfl
    by_cases hlt : j < N
    · obtain ⟨x, hx⟩ : ∃ x, L[j]? = some x := ⟨L[j]'(by rw [← HN.out]; exact hlt), List.getElem?_eq_getElem _⟩
      obtain ⟨bb, q, hA, hbl, hcc⟩ := (HR.out.below HC.out).pos (Nat.lt_of_le_of_lt (Nat.zero_le _) hlt)
      have hcell := hcc _ _ (en_at hx).1
      cases hA
      obtain ⟨y, hy⟩ : ∃ y : ByteArray, y = ⟨x.1.toArray⟩ := ⟨_, rfl⟩
      rw [← hy] at hcell
      have Hy := Lib.hid (show y.toList = x.1 by rw [toL, hy])
      have Hx := Lib.hid hx
      clear hx hcc hy hbl
      by_cases e : bytesBefore x.1 s.data.toList = true
      · have eb : Op.bytesLess y.toList s.toList = true := by rw [less_before, Hy.out, toL]; exact e
        have Hn := Lib.hid (show ∀ m z, m < j + 1 → L[m]? = some z → bytesBefore z.1 s.data.toList = true from fun m z hm hz => by
          by_cases e2 : m = j
          · subst e2; rw [Hx.out] at hz; cases hz; exact e
          · exact Hg.out m z (by omega) hz)
        clear e
        go_wp2
        go_quiet (fail)
        go_wp2
        go_roundw
        case rel => exact ⟨j + 1, by omega, by go_num, Hn, Lib.hid (below_drewN HC.out _), Lib.hid (HBk.out.drewN _)⟩
        case measure => simp [intOf]; omega
      · have eb : Op.bytesLess y.toList s.toList = false := by rw [less_before, Hy.out, toL]; simpa using e
        have Hnb := Lib.hid (show ∀ z, L[j]? = some z → bytesBefore z.1 s.data.toList = false from fun z hz => by rw [Hx.out] at hz; cases hz; simpa using e)
        clear e
        go_wp2
        go_quiet (fail)
        go_wp2
        have hjc : j ≤ c1 := by omega
        have hcj : c1 ≠ j := by omega
        have HFin := Lib.hid (ins_split (n := n) HL.out (by have := HN.out; omega) Hg.out Hnb.out)
        have HLen := Lib.hid (show (L.take j ++ (s.data.toList, n) :: L.drop j).length = N + 1 by have := HN.out; simp; omega)
        have HFl := Lib.hid (show [] ++ (L.take j).flatMap enC ++ [.string s, .int .i64 n] ++ (L.drop j).flatMap enC = (L.take j ++ (s.data.toList, n) :: L.drop j).flatMap enC by simp [enC])
        generalize hwv : World.drewN _ _ = wv
        have HCv := Lib.hid (show Below w.heap.size w wv from hwv ▸ below_drewN HC.out _)
        have HBk := Lib.hid (show Bk wv g 47 [.string s, .int .i64 n] from hwv ▸ HBk.out.drewN _)
        clear hwv
        have HmkS := Lib.hid (fun (W : World) (hb : Below wv.heap.size wv W) => (⟨(HBk.out.kept hb).cell 0 rfl, (HBk.out.kept hb).cell 1 rfl⟩ : W.cell? ⟨g, 0, none⟩ = some (.string s) ∧ W.cell? ⟨g, 1, none⟩ = some (.int .i64 n)))
        have HBv := Lib.hid (Below.refl wv.heap.size wv).drew
        have HR := Lib.hid (HR.out.below HCv.out)
        refine wp_region_held_drew (S := (fun W => W.cell? ⟨g, 0, none⟩ = some (.string s) ∧ W.cell? ⟨g, 1, none⟩ = some (.int .i64 n))) (by kernel_rfl) ?_ (fun hHeld0 => ?_)
        · exact HmkS.out _ (Below.refl _ _).drew
        generalize World.drew wv = vh0 at hHeld0 HBv ⊢
        refine wpAnyH_take (i := 1) (v := ?_) (by first | (simp only [List.getElem?_toArray, List.getElem?_cons_succ, List.getElem?_cons_zero] <;> rfl) | rfl) (by kernel_rfl) (by kernel_rfl) (by kernel_rfl) (by exact fun _ _ _ h => h) (Or.inl ⟨by rfl, ?_⟩) hHeld0 ?_
        rotate_left 1
        · intro w hSw
          try dsimp only at hSw
          (go_simp) <;> (with_reducible rfl)
        try simp only [Act.put, List.setIfInBounds_toArray, List.set_cons_zero, List.set_cons_succ]
        refine wpAnyH_take (i := 2) (v := ?_) (by first | (simp only [List.getElem?_toArray, List.getElem?_cons_succ, List.getElem?_cons_zero] <;> rfl) | rfl) (by kernel_rfl) (by kernel_rfl) (by kernel_rfl) (by exact fun _ _ _ h => h) (Or.inl ⟨by rfl, ?_⟩) hHeld0 ?_
        rotate_left 1
        · intro w hSw
          try dsimp only at hSw
          (go_simp) <;> (with_reducible rfl)
        try simp only [Act.put, List.setIfInBounds_toArray, List.set_cons_zero, List.set_cons_succ]
        refine wpAnyH_take (i := 3) (v := ?_) (by first | (simp only [List.getElem?_toArray, List.getElem?_cons_succ, List.getElem?_cons_zero] <;> rfl) | rfl) (by kernel_rfl) (by kernel_rfl) (by kernel_rfl) (by exact fun _ _ _ h => h) (Or.inl ⟨by rfl, ?_⟩) hHeld0 ?_
        rotate_left 1
        · intro w hSw
          try dsimp only at hSw
          (go_simp) <;> (with_reducible rfl)
        try simp only [Act.put, List.setIfInBounds_toArray, List.set_cons_zero, List.set_cons_succ]
        refine wpAnyH_take (i := 5) (v := ?_) (by first | (simp only [List.getElem?_toArray, List.getElem?_cons_succ, List.getElem?_cons_zero] <;> rfl) | rfl) (by kernel_rfl) (by kernel_rfl) (by kernel_rfl) (by exact fun _ _ _ h => h) (Or.inl ⟨by rfl, ?_⟩) hHeld0 ?_
        rotate_left 1
        · intro w hSw
          try dsimp only at hSw
          (go_simp) <;> (with_reducible rfl)
        try simp only [Act.put, List.setIfInBounds_toArray, List.set_cons_zero, List.set_cons_succ]
        refine wpAnyH_take (i := 8) (v := ?_) (by first | (simp only [List.getElem?_toArray, List.getElem?_cons_succ, List.getElem?_cons_zero] <;> rfl) | rfl) (by kernel_rfl) (by kernel_rfl) (by kernel_rfl) (by exact fun _ _ _ h => h) (Or.inl ⟨by rfl, ?_⟩) hHeld0 ?_
        rotate_left 1
        · intro w hSw
          try dsimp only at hSw
          (go_simp) <;> (with_reducible rfl)
        try simp only [Act.put, List.setIfInBounds_toArray, List.set_cons_zero, List.set_cons_succ]
        refine wpAnyH_take (i := 9) (v := ?_) (by first | (simp only [List.getElem?_toArray, List.getElem?_cons_succ, List.getElem?_cons_zero] <;> rfl) | rfl) (by kernel_rfl) (by kernel_rfl) (by kernel_rfl) (by exact fun _ _ _ h => h) (Or.inl ⟨by rfl, ?_⟩) hHeld0 ?_
        rotate_left 1
        · intro w hSw
          try dsimp only at hSw
          (go_simp) <;> (with_reducible rfl)
        try simp only [Act.put, List.setIfInBounds_toArray, List.set_cons_zero, List.set_cons_succ]
        refine wpAnyH_take (i := 10) (v := ?_) (by first | (simp only [List.getElem?_toArray, List.getElem?_cons_succ, List.getElem?_cons_zero] <;> rfl) | rfl) (by kernel_rfl) (by kernel_rfl) (by kernel_rfl) (by exact fun _ _ _ h => h) (Or.inl ⟨by rfl, ?_⟩) hHeld0 ?_
        rotate_left 1
        · intro w hSw
          try dsimp only at hSw
          (go_simp) <;> (with_reducible rfl)
        try simp only [Act.put, List.setIfInBounds_toArray, List.set_cons_zero, List.set_cons_succ]
        refine wpAnyH_ready (rs := [0, 6]) (by kernel_rfl) (by simp) ?_
        refine AllReadyH.cons (by first | (simp only [List.getElem?_toArray, List.getElem?_cons_zero] <;> rfl) | rfl) (fun K hK => ?_) ?_
        · go_simp
          obtain ⟨vh1, hvw, hBn, hbb, ho⟩ := arm0 HBv.out
          rw [← hvw]
          refine hK.out _ _ (HmkS.out _ hBn) (fun hHeld1 => ?_)
          clear hK K hvw
          have HO := Lib.hid ho
          try have HNe := Lib.hid (ne_hi HG6.out)
          try have HR6 := Lib.hid (HR6.out.below hbb)
          try have HG6 := Lib.hid (Nat.lt_of_lt_of_le HG6.out hbb.size)
          have HBv := Lib.hid hBn
          clear ho hBn hbb hHeld0
          try simp only [Act.put, List.setIfInBounds_toArray, List.set_cons_zero, List.set_cons_succ]
          refine wpAnyH_ready (rs := [4, 6]) (by kernel_rfl) (by simp) ?_
          refine AllReadyH.cons (by first | (simp only [List.getElem?_toArray, List.getElem?_cons_succ, List.getElem?_cons_zero] <;> rfl) | rfl) (fun K hK => ?_) ?_
          · skip
            obtain ⟨v4, vh2, hr, ho, hg, hat⟩ := run_list8 39 39 47 _ 2 24 infoEn Try.underlying39 rfl (by decide) (by decide) wv.heap.size _ 0 ([]) HO.out (some ⟨bb, q, none⟩) j c1 ((L.take j).flatMap enC) (by have := rd_tk (HR.out.below HBv.out) hj; rwa [take_en] at this) (en_one _) (by omega) HBv.out.size
            have HBn := Lib.hid (HBv.out.grown hg HBv.out.size (fun g e => (HO.out.lt g e).1))
            refine op_append (.tmp 22) (.tmp 25) 39 rfl _ _ _ vh2 rfl rfl hr ?_
            refine hK.out _ _ (HmkS.out _ HBn.out) (fun hHeld2 => ?_)
            clear hK K
            try have HR6 := Lib.hid (rd_grow HR6.out hg HNe.out)
            try have HNe := Lib.hid (ne_next HNe.out hat HG6.out)
            try have HG6 := Lib.hid (Nat.lt_of_lt_of_le HG6.out hg.size)
            have HO := Lib.hid ho
            have HBv := HBn
            clear hr ho hg hat HBn hHeld1
            try simp only [Act.put, List.setIfInBounds_toArray, List.set_cons_zero, List.set_cons_succ]
            refine wpAnyH_ready (rs := [6]) (by kernel_rfl) (by simp) ?_
            refine AllReadyH.cons (by first | (simp only [List.getElem?_toArray, List.getElem?_cons_succ, List.getElem?_cons_zero] <;> rfl) | rfl) (fun K hK => ?_) ?_
            · go_simp
              obtain ⟨vh3, hvw, hBn, hbb, hr6, hg6⟩ := arm6 HBv.out s n
              rw [← hvw]
              refine hK.out _ _ (HmkS.out _ hBn) (fun hHeld3 => ?_)
              clear hK K hvw
              have HR6 := Lib.hid hr6
              have HG6 := Lib.hid hg6
              try have HNe := Lib.hid (fun b e => Nat.ne_of_lt (HO.out.lt b e).2)
              try have HO := Lib.hid (own_same HO.out (fun b e => hbb.block b (HO.out.lt b e).2))
              have HBv := Lib.hid hBn
              clear hr6 hg6 hBn hbb hHeld2
              try simp only [Act.put, List.setIfInBounds_toArray, List.set_cons_zero, List.set_cons_succ]
              refine wpAnyH_ready (rs := [7]) (by kernel_rfl) (by simp) ?_
              refine AllReadyH.cons (by first | (simp only [List.getElem?_toArray, List.getElem?_cons_succ, List.getElem?_cons_zero] <;> rfl) | rfl) (fun K hK => ?_) ?_
              · skip
                obtain ⟨v7, vh4, hr, ho, hg, hat⟩ := run_list8 39 39 47 _ 2 24 infoEn Try.underlying39 rfl (by decide) (by decide) wv.heap.size _ (0 + j) ([] ++ (L.take j).flatMap enC) HO.out _ 1 1 ([.string s, .int .i64 n]) HR6.out (by intro u hu; simp at hu; rcases hu with rfl | rfl <;> rfl) (by omega) HBv.out.size
                have HBn := Lib.hid (HBv.out.grown hg HBv.out.size (fun g e => (HO.out.lt g e).1))
                refine op_append (.tmp 26) (.tmp 28) 39 rfl _ _ _ vh4 rfl rfl hr ?_
                refine hK.out _ _ (HmkS.out _ HBn.out) (fun hHeld4 => ?_)
                clear hK K
                try have HR6 := Lib.hid (rd_grow HR6.out hg HNe.out)
                try have HNe := Lib.hid (ne_next HNe.out hat HG6.out)
                try have HG6 := Lib.hid (Nat.lt_of_lt_of_le HG6.out hg.size)
                have HO := Lib.hid ho
                have HBv := HBn
                clear hr ho hg hat HBn hHeld3
                try simp only [Act.put, List.setIfInBounds_toArray, List.set_cons_zero, List.set_cons_succ]
                refine wpAnyH_ready (rs := [11]) (by kernel_rfl) (by simp) ?_
                refine AllReadyH.cons (by first | (simp only [List.getElem?_toArray, List.getElem?_cons_succ, List.getElem?_cons_zero] <;> rfl) | rfl) (fun K hK => ?_) ?_
                · skip
                  obtain ⟨v11, vh5, hr, ho, hg, hat⟩ := run_list8 39 39 47 _ 2 24 infoEn Try.underlying39 rfl (by decide) (by decide) wv.heap.size _ (0 + j + 1) ([] ++ (L.take j).flatMap enC ++ [.string s, .int .i64 n]) HO.out (some ⟨bb, q + j * 2, none⟩) (N - j) (c1 - j) ((L.drop j).flatMap enC) (by have := rd_dr (HR.out.below HBv.out) hj; rwa [drop_en, addr_at] at this) (en_one _) (by omega) HBv.out.size
                  have HBn := Lib.hid (HBv.out.grown hg HBv.out.size (fun g e => (HO.out.lt g e).1))
                  refine op_append (.tmp 29) (.tmp 32) 39 rfl _ _ _ vh5 rfl rfl hr ?_
                  refine hK.out _ _ (HmkS.out _ HBn.out) (fun hHeld5 => ?_)
                  clear hK K
                  try have HR6 := Lib.hid (rd_grow HR6.out hg HNe.out)
                  try have HNe := Lib.hid (ne_next HNe.out hat HG6.out)
                  try have HG6 := Lib.hid (Nat.lt_of_lt_of_le HG6.out hg.size)
                  have HO := Lib.hid ho
                  have HBv := HBn
                  clear hr ho hg hat HBn hHeld4
                  try simp only [Act.put, List.setIfInBounds_toArray, List.set_cons_zero, List.set_cons_succ]
                  refine wpAnyH_take (i := 12) (v := ?_) (by first | (simp only [List.getElem?_toArray, List.getElem?_cons_succ, List.getElem?_cons_zero] <;> rfl) | rfl) (by kernel_rfl) (by kernel_rfl) (by kernel_rfl) (by exact fun _ _ _ h => h) (Or.inl ⟨by rfl, ?_⟩) hHeld5 ?_
                  rotate_left 1
                  · intro w hSw
                    try dsimp only at hSw
                    (go_simp) <;> (with_reducible rfl)
                  try simp only [Act.put, List.setIfInBounds_toArray, List.set_cons_zero, List.set_cons_succ]
                  refine wpAnyH_done (by kernel_rfl) ?_ _
                  rename World => w12
                  clear hHeld5
                  go_wp2_with fail
                  go_ret
                  refine ⟨v11, rfl, ?_, HCv.out.trans (HBv.out.mono HCv.out.size)⟩
                  have ho := own_monoR HO.out HCv.out.size
                  rw [HFin.out, HLen.out]
                  rw [show 0 + j + 1 + (N - j) = N + 1 from by omega] at ho
                  exact HFl.out ▸ ho
                exact AllReadyH.nil
              exact AllReadyH.nil
            exact AllReadyH.nil
          refine AllReadyH.cons (by first | (simp only [List.getElem?_toArray, List.getElem?_cons_succ, List.getElem?_cons_zero] <;> rfl) | rfl) (fun K hK => ?_) ?_
          · go_simp
            obtain ⟨vh2, hvw, hBn, hbb, hr6, hg6⟩ := arm6 HBv.out s n
            rw [← hvw]
            refine hK.out _ _ (HmkS.out _ hBn) (fun hHeld2 => ?_)
            clear hK K hvw
            have HR6 := Lib.hid hr6
            have HG6 := Lib.hid hg6
            try have HNe := Lib.hid (fun b e => Nat.ne_of_lt (HO.out.lt b e).2)
            try have HO := Lib.hid (own_same HO.out (fun b e => hbb.block b (HO.out.lt b e).2))
            have HBv := Lib.hid hBn
            clear hr6 hg6 hBn hbb hHeld1
            try simp only [Act.put, List.setIfInBounds_toArray, List.set_cons_zero, List.set_cons_succ]
            refine wpAnyH_ready (rs := [4]) (by kernel_rfl) (by simp) ?_
            refine AllReadyH.cons (by first | (simp only [List.getElem?_toArray, List.getElem?_cons_succ, List.getElem?_cons_zero] <;> rfl) | rfl) (fun K hK => ?_) ?_
            · skip
              obtain ⟨v4, vh3, hr, ho, hg, hat⟩ := run_list8 39 39 47 _ 2 24 infoEn Try.underlying39 rfl (by decide) (by decide) wv.heap.size _ 0 ([]) HO.out (some ⟨bb, q, none⟩) j c1 ((L.take j).flatMap enC) (by have := rd_tk (HR.out.below HBv.out) hj; rwa [take_en] at this) (en_one _) (by omega) HBv.out.size
              have HBn := Lib.hid (HBv.out.grown hg HBv.out.size (fun g e => (HO.out.lt g e).1))
              refine op_append (.tmp 22) (.tmp 25) 39 rfl _ _ _ vh3 rfl rfl hr ?_
              refine hK.out _ _ (HmkS.out _ HBn.out) (fun hHeld3 => ?_)
              clear hK K
              try have HR6 := Lib.hid (rd_grow HR6.out hg HNe.out)
              try have HNe := Lib.hid (ne_next HNe.out hat HG6.out)
              try have HG6 := Lib.hid (Nat.lt_of_lt_of_le HG6.out hg.size)
              have HO := Lib.hid ho
              have HBv := HBn
              clear hr ho hg hat HBn hHeld2
              try simp only [Act.put, List.setIfInBounds_toArray, List.set_cons_zero, List.set_cons_succ]
              refine wpAnyH_ready (rs := [7]) (by kernel_rfl) (by simp) ?_
              refine AllReadyH.cons (by first | (simp only [List.getElem?_toArray, List.getElem?_cons_succ, List.getElem?_cons_zero] <;> rfl) | rfl) (fun K hK => ?_) ?_
              · skip
                obtain ⟨v7, vh4, hr, ho, hg, hat⟩ := run_list8 39 39 47 _ 2 24 infoEn Try.underlying39 rfl (by decide) (by decide) wv.heap.size _ (0 + j) ([] ++ (L.take j).flatMap enC) HO.out _ 1 1 ([.string s, .int .i64 n]) HR6.out (by intro u hu; simp at hu; rcases hu with rfl | rfl <;> rfl) (by omega) HBv.out.size
                have HBn := Lib.hid (HBv.out.grown hg HBv.out.size (fun g e => (HO.out.lt g e).1))
                refine op_append (.tmp 26) (.tmp 28) 39 rfl _ _ _ vh4 rfl rfl hr ?_
                refine hK.out _ _ (HmkS.out _ HBn.out) (fun hHeld4 => ?_)
                clear hK K
                try have HR6 := Lib.hid (rd_grow HR6.out hg HNe.out)
                try have HNe := Lib.hid (ne_next HNe.out hat HG6.out)
                try have HG6 := Lib.hid (Nat.lt_of_lt_of_le HG6.out hg.size)
                have HO := Lib.hid ho
                have HBv := HBn
                clear hr ho hg hat HBn hHeld3
                try simp only [Act.put, List.setIfInBounds_toArray, List.set_cons_zero, List.set_cons_succ]
                refine wpAnyH_ready (rs := [11]) (by kernel_rfl) (by simp) ?_
                refine AllReadyH.cons (by first | (simp only [List.getElem?_toArray, List.getElem?_cons_succ, List.getElem?_cons_zero] <;> rfl) | rfl) (fun K hK => ?_) ?_
                · skip
                  obtain ⟨v11, vh5, hr, ho, hg, hat⟩ := run_list8 39 39 47 _ 2 24 infoEn Try.underlying39 rfl (by decide) (by decide) wv.heap.size _ (0 + j + 1) ([] ++ (L.take j).flatMap enC ++ [.string s, .int .i64 n]) HO.out (some ⟨bb, q + j * 2, none⟩) (N - j) (c1 - j) ((L.drop j).flatMap enC) (by have := rd_dr (HR.out.below HBv.out) hj; rwa [drop_en, addr_at] at this) (en_one _) (by omega) HBv.out.size
                  have HBn := Lib.hid (HBv.out.grown hg HBv.out.size (fun g e => (HO.out.lt g e).1))
                  refine op_append (.tmp 29) (.tmp 32) 39 rfl _ _ _ vh5 rfl rfl hr ?_
                  refine hK.out _ _ (HmkS.out _ HBn.out) (fun hHeld5 => ?_)
                  clear hK K
                  try have HR6 := Lib.hid (rd_grow HR6.out hg HNe.out)
                  try have HNe := Lib.hid (ne_next HNe.out hat HG6.out)
                  try have HG6 := Lib.hid (Nat.lt_of_lt_of_le HG6.out hg.size)
                  have HO := Lib.hid ho
                  have HBv := HBn
                  clear hr ho hg hat HBn hHeld4
                  try simp only [Act.put, List.setIfInBounds_toArray, List.set_cons_zero, List.set_cons_succ]
                  refine wpAnyH_take (i := 12) (v := ?_) (by first | (simp only [List.getElem?_toArray, List.getElem?_cons_succ, List.getElem?_cons_zero] <;> rfl) | rfl) (by kernel_rfl) (by kernel_rfl) (by kernel_rfl) (by exact fun _ _ _ h => h) (Or.inl ⟨by rfl, ?_⟩) hHeld5 ?_
                  rotate_left 1
                  · intro w hSw
                    try dsimp only at hSw
                    (go_simp) <;> (with_reducible rfl)
                  try simp only [Act.put, List.setIfInBounds_toArray, List.set_cons_zero, List.set_cons_succ]
                  refine wpAnyH_done (by kernel_rfl) ?_ _
                  rename World => w12
                  clear hHeld5
                  go_wp2_with fail
                  go_ret
                  refine ⟨v11, rfl, ?_, HCv.out.trans (HBv.out.mono HCv.out.size)⟩
                  have ho := own_monoR HO.out HCv.out.size
                  rw [HFin.out, HLen.out]
                  rw [show 0 + j + 1 + (N - j) = N + 1 from by omega] at ho
                  exact HFl.out ▸ ho
                exact AllReadyH.nil
              exact AllReadyH.nil
            exact AllReadyH.nil
          exact AllReadyH.nil
        refine AllReadyH.cons (by first | (simp only [List.getElem?_toArray, List.getElem?_cons_succ, List.getElem?_cons_zero] <;> rfl) | rfl) (fun K hK => ?_) ?_
        · go_simp
          obtain ⟨vh1, hvw, hBn, hbb, hr6, hg6⟩ := arm6 HBv.out s n
          rw [← hvw]
          refine hK.out _ _ (HmkS.out _ hBn) (fun hHeld1 => ?_)
          clear hK K hvw
          have HR6 := Lib.hid hr6
          have HG6 := Lib.hid hg6
          try have HNe := Lib.hid (fun b e => Nat.ne_of_lt (HO.out.lt b e).2)
          try have HO := Lib.hid (own_same HO.out (fun b e => hbb.block b (HO.out.lt b e).2))
          have HBv := Lib.hid hBn
          clear hr6 hg6 hBn hbb hHeld0
          try simp only [Act.put, List.setIfInBounds_toArray, List.set_cons_zero, List.set_cons_succ]
          refine wpAnyH_ready (rs := [0]) (by kernel_rfl) (by simp) ?_
          refine AllReadyH.cons (by first | (simp only [List.getElem?_toArray, List.getElem?_cons_zero] <;> rfl) | rfl) (fun K hK => ?_) ?_
          · go_simp
            obtain ⟨vh2, hvw, hBn, hbb, ho⟩ := arm0 HBv.out
            rw [← hvw]
            refine hK.out _ _ (HmkS.out _ hBn) (fun hHeld2 => ?_)
            clear hK K hvw
            have HO := Lib.hid ho
            try have HNe := Lib.hid (ne_hi HG6.out)
            try have HR6 := Lib.hid (HR6.out.below hbb)
            try have HG6 := Lib.hid (Nat.lt_of_lt_of_le HG6.out hbb.size)
            have HBv := Lib.hid hBn
            clear ho hBn hbb hHeld1
            try simp only [Act.put, List.setIfInBounds_toArray, List.set_cons_zero, List.set_cons_succ]
            refine wpAnyH_ready (rs := [4]) (by kernel_rfl) (by simp) ?_
            refine AllReadyH.cons (by first | (simp only [List.getElem?_toArray, List.getElem?_cons_succ, List.getElem?_cons_zero] <;> rfl) | rfl) (fun K hK => ?_) ?_
            · skip
              obtain ⟨v4, vh3, hr, ho, hg, hat⟩ := run_list8 39 39 47 _ 2 24 infoEn Try.underlying39 rfl (by decide) (by decide) wv.heap.size _ 0 ([]) HO.out (some ⟨bb, q, none⟩) j c1 ((L.take j).flatMap enC) (by have := rd_tk (HR.out.below HBv.out) hj; rwa [take_en] at this) (en_one _) (by omega) HBv.out.size
              have HBn := Lib.hid (HBv.out.grown hg HBv.out.size (fun g e => (HO.out.lt g e).1))
              refine op_append (.tmp 22) (.tmp 25) 39 rfl _ _ _ vh3 rfl rfl hr ?_
              refine hK.out _ _ (HmkS.out _ HBn.out) (fun hHeld3 => ?_)
              clear hK K
              try have HR6 := Lib.hid (rd_grow HR6.out hg HNe.out)
              try have HNe := Lib.hid (ne_next HNe.out hat HG6.out)
              try have HG6 := Lib.hid (Nat.lt_of_lt_of_le HG6.out hg.size)
              have HO := Lib.hid ho
              have HBv := HBn
              clear hr ho hg hat HBn hHeld2
              try simp only [Act.put, List.setIfInBounds_toArray, List.set_cons_zero, List.set_cons_succ]
              refine wpAnyH_ready (rs := [7]) (by kernel_rfl) (by simp) ?_
              refine AllReadyH.cons (by first | (simp only [List.getElem?_toArray, List.getElem?_cons_succ, List.getElem?_cons_zero] <;> rfl) | rfl) (fun K hK => ?_) ?_
              · skip
                obtain ⟨v7, vh4, hr, ho, hg, hat⟩ := run_list8 39 39 47 _ 2 24 infoEn Try.underlying39 rfl (by decide) (by decide) wv.heap.size _ (0 + j) ([] ++ (L.take j).flatMap enC) HO.out _ 1 1 ([.string s, .int .i64 n]) HR6.out (by intro u hu; simp at hu; rcases hu with rfl | rfl <;> rfl) (by omega) HBv.out.size
                have HBn := Lib.hid (HBv.out.grown hg HBv.out.size (fun g e => (HO.out.lt g e).1))
                refine op_append (.tmp 26) (.tmp 28) 39 rfl _ _ _ vh4 rfl rfl hr ?_
                refine hK.out _ _ (HmkS.out _ HBn.out) (fun hHeld4 => ?_)
                clear hK K
                try have HR6 := Lib.hid (rd_grow HR6.out hg HNe.out)
                try have HNe := Lib.hid (ne_next HNe.out hat HG6.out)
                try have HG6 := Lib.hid (Nat.lt_of_lt_of_le HG6.out hg.size)
                have HO := Lib.hid ho
                have HBv := HBn
                clear hr ho hg hat HBn hHeld3
                try simp only [Act.put, List.setIfInBounds_toArray, List.set_cons_zero, List.set_cons_succ]
                refine wpAnyH_ready (rs := [11]) (by kernel_rfl) (by simp) ?_
                refine AllReadyH.cons (by first | (simp only [List.getElem?_toArray, List.getElem?_cons_succ, List.getElem?_cons_zero] <;> rfl) | rfl) (fun K hK => ?_) ?_
                · skip
                  obtain ⟨v11, vh5, hr, ho, hg, hat⟩ := run_list8 39 39 47 _ 2 24 infoEn Try.underlying39 rfl (by decide) (by decide) wv.heap.size _ (0 + j + 1) ([] ++ (L.take j).flatMap enC ++ [.string s, .int .i64 n]) HO.out (some ⟨bb, q + j * 2, none⟩) (N - j) (c1 - j) ((L.drop j).flatMap enC) (by have := rd_dr (HR.out.below HBv.out) hj; rwa [drop_en, addr_at] at this) (en_one _) (by omega) HBv.out.size
                  have HBn := Lib.hid (HBv.out.grown hg HBv.out.size (fun g e => (HO.out.lt g e).1))
                  refine op_append (.tmp 29) (.tmp 32) 39 rfl _ _ _ vh5 rfl rfl hr ?_
                  refine hK.out _ _ (HmkS.out _ HBn.out) (fun hHeld5 => ?_)
                  clear hK K
                  try have HR6 := Lib.hid (rd_grow HR6.out hg HNe.out)
                  try have HNe := Lib.hid (ne_next HNe.out hat HG6.out)
                  try have HG6 := Lib.hid (Nat.lt_of_lt_of_le HG6.out hg.size)
                  have HO := Lib.hid ho
                  have HBv := HBn
                  clear hr ho hg hat HBn hHeld4
                  try simp only [Act.put, List.setIfInBounds_toArray, List.set_cons_zero, List.set_cons_succ]
                  refine wpAnyH_take (i := 12) (v := ?_) (by first | (simp only [List.getElem?_toArray, List.getElem?_cons_succ, List.getElem?_cons_zero] <;> rfl) | rfl) (by kernel_rfl) (by kernel_rfl) (by kernel_rfl) (by exact fun _ _ _ h => h) (Or.inl ⟨by rfl, ?_⟩) hHeld5 ?_
                  rotate_left 1
                  · intro w hSw
                    try dsimp only at hSw
                    (go_simp) <;> (with_reducible rfl)
                  try simp only [Act.put, List.setIfInBounds_toArray, List.set_cons_zero, List.set_cons_succ]
                  refine wpAnyH_done (by kernel_rfl) ?_ _
                  rename World => w12
                  clear hHeld5
                  go_wp2_with fail
                  go_ret
                  refine ⟨v11, rfl, ?_, HCv.out.trans (HBv.out.mono HCv.out.size)⟩
                  have ho := own_monoR HO.out HCv.out.size
                  rw [HFin.out, HLen.out]
                  rw [show 0 + j + 1 + (N - j) = N + 1 from by omega] at ho
                  exact HFl.out ▸ ho
                exact AllReadyH.nil
              exact AllReadyH.nil
            exact AllReadyH.nil
          exact AllReadyH.nil
        exact AllReadyH.nil
    · have Hnb := Lib.hid (show ∀ z, L[j]? = some z → bytesBefore z.1 s.data.toList = false from fun z hz => by have := (List.getElem?_eq_some_iff.1 hz).1; have := HN.out; omega)
      go_wp2
      go_quiet (fail)
      go_wp2
      by_cases hcj : c1 = j
      · have hjc : j ≤ c1 := by omega
        have HFin := Lib.hid (ins_split (n := n) HL.out (by have := HN.out; omega) Hg.out Hnb.out)
        have HLen := Lib.hid (show (L.take j ++ (s.data.toList, n) :: L.drop j).length = N + 1 by have := HN.out; simp; omega)
        have HFl := Lib.hid (show [] ++ (L.take j).flatMap enC ++ [.string s, .int .i64 n] ++ (L.drop j).flatMap enC = (L.take j ++ (s.data.toList, n) :: L.drop j).flatMap enC by simp [enC])
        generalize hwv : World.drewN _ _ = wv
        have HCv := Lib.hid (show Below w.heap.size w wv from hwv ▸ below_drewN HC.out _)
        have HBk := Lib.hid (show Bk wv g 47 [.string s, .int .i64 n] from hwv ▸ HBk.out.drewN _)
        clear hwv
        have HmkS := Lib.hid (fun (W : World) (hb : Below wv.heap.size wv W) => (⟨(HBk.out.kept hb).cell 0 rfl, (HBk.out.kept hb).cell 1 rfl⟩ : W.cell? ⟨g, 0, none⟩ = some (.string s) ∧ W.cell? ⟨g, 1, none⟩ = some (.int .i64 n)))
        have HBv := Lib.hid (Below.refl wv.heap.size wv).drew
        have HR := Lib.hid (HR.out.below HCv.out)
        refine wp_region_held_drew (S := (fun W => W.cell? ⟨g, 0, none⟩ = some (.string s) ∧ W.cell? ⟨g, 1, none⟩ = some (.int .i64 n))) (by kernel_rfl) ?_ (fun hHeld0 => ?_)
        · exact HmkS.out _ (Below.refl _ _).drew
        generalize World.drew wv = vh0 at hHeld0 HBv ⊢
        refine wpAnyH_take (i := 1) (v := ?_) (by first | (simp only [List.getElem?_toArray, List.getElem?_cons_succ, List.getElem?_cons_zero] <;> rfl) | rfl) (by kernel_rfl) (by kernel_rfl) (by kernel_rfl) (by exact fun _ _ _ h => h) (Or.inl ⟨by rfl, ?_⟩) hHeld0 ?_
        rotate_left 1
        · intro w hSw
          try dsimp only at hSw
          (go_simp) <;> (with_reducible rfl)
        try simp only [Act.put, List.setIfInBounds_toArray, List.set_cons_zero, List.set_cons_succ]
        refine wpAnyH_take (i := 2) (v := ?_) (by first | (simp only [List.getElem?_toArray, List.getElem?_cons_succ, List.getElem?_cons_zero] <;> rfl) | rfl) (by kernel_rfl) (by kernel_rfl) (by kernel_rfl) (by exact fun _ _ _ h => h) (Or.inl ⟨by rfl, ?_⟩) hHeld0 ?_
        rotate_left 1
        · intro w hSw
          try dsimp only at hSw
          (go_simp) <;> (with_reducible rfl)
        try simp only [Act.put, List.setIfInBounds_toArray, List.set_cons_zero, List.set_cons_succ]
        refine wpAnyH_take (i := 3) (v := ?_) (by first | (simp only [List.getElem?_toArray, List.getElem?_cons_succ, List.getElem?_cons_zero] <;> rfl) | rfl) (by kernel_rfl) (by kernel_rfl) (by kernel_rfl) (by exact fun _ _ _ h => h) (Or.inl ⟨by rfl, ?_⟩) hHeld0 ?_
        rotate_left 1
        · intro w hSw
          try dsimp only at hSw
          (go_simp) <;> (with_reducible rfl)
        try simp only [Act.put, List.setIfInBounds_toArray, List.set_cons_zero, List.set_cons_succ]
        refine wpAnyH_take (i := 5) (v := ?_) (by first | (simp only [List.getElem?_toArray, List.getElem?_cons_succ, List.getElem?_cons_zero] <;> rfl) | rfl) (by kernel_rfl) (by kernel_rfl) (by kernel_rfl) (by exact fun _ _ _ h => h) (Or.inl ⟨by rfl, ?_⟩) hHeld0 ?_
        rotate_left 1
        · intro w hSw
          try dsimp only at hSw
          (go_simp) <;> (with_reducible rfl)
        try simp only [Act.put, List.setIfInBounds_toArray, List.set_cons_zero, List.set_cons_succ]
        refine wpAnyH_take (i := 8) (v := ?_) (by first | (simp only [List.getElem?_toArray, List.getElem?_cons_succ, List.getElem?_cons_zero] <;> rfl) | rfl) (by kernel_rfl) (by kernel_rfl) (by kernel_rfl) (by exact fun _ _ _ h => h) (Or.inl ⟨by rfl, ?_⟩) hHeld0 ?_
        rotate_left 1
        · intro w hSw
          try dsimp only at hSw
          (go_simp) <;> (with_reducible rfl)
        try simp only [Act.put, List.setIfInBounds_toArray, List.set_cons_zero, List.set_cons_succ]
        refine wpAnyH_take (i := 9) (v := ?_) (by first | (simp only [List.getElem?_toArray, List.getElem?_cons_succ, List.getElem?_cons_zero] <;> rfl) | rfl) (by kernel_rfl) (by kernel_rfl) (by kernel_rfl) (by exact fun _ _ _ h => h) (Or.inl ⟨by rfl, ?_⟩) hHeld0 ?_
        rotate_left 1
        · intro w hSw
          try dsimp only at hSw
          (go_simp) <;> (with_reducible rfl)
        try simp only [Act.put, List.setIfInBounds_toArray, List.set_cons_zero, List.set_cons_succ]
        refine wpAnyH_take (i := 10) (v := ?_) (by first | (simp only [List.getElem?_toArray, List.getElem?_cons_succ, List.getElem?_cons_zero] <;> rfl) | rfl) (by kernel_rfl) (by kernel_rfl) (by kernel_rfl) (by exact fun _ _ _ h => h) (Or.inl ⟨by rfl, ?_⟩) hHeld0 ?_
        rotate_left 1
        · intro w hSw
          try dsimp only at hSw
          (go_simp) <;> (with_reducible rfl)
        try simp only [Act.put, List.setIfInBounds_toArray, List.set_cons_zero, List.set_cons_succ]
        refine wpAnyH_ready (rs := [0, 6]) (by kernel_rfl) (by simp) ?_
        refine AllReadyH.cons (by first | (simp only [List.getElem?_toArray, List.getElem?_cons_zero] <;> rfl) | rfl) (fun K hK => ?_) ?_
        · go_simp
          obtain ⟨vh1, hvw, hBn, hbb, ho⟩ := arm0 HBv.out
          rw [← hvw]
          refine hK.out _ _ (HmkS.out _ hBn) (fun hHeld1 => ?_)
          clear hK K hvw
          have HO := Lib.hid ho
          try have HNe := Lib.hid (ne_hi HG6.out)
          try have HR6 := Lib.hid (HR6.out.below hbb)
          try have HG6 := Lib.hid (Nat.lt_of_lt_of_le HG6.out hbb.size)
          have HBv := Lib.hid hBn
          clear ho hBn hbb hHeld0
          try simp only [Act.put, List.setIfInBounds_toArray, List.set_cons_zero, List.set_cons_succ]
          refine wpAnyH_ready (rs := [4, 6]) (by kernel_rfl) (by simp) ?_
          refine AllReadyH.cons (by first | (simp only [List.getElem?_toArray, List.getElem?_cons_succ, List.getElem?_cons_zero] <;> rfl) | rfl) (fun K hK => ?_) ?_
          · skip
            obtain ⟨v4, vh2, hr, ho, hg, hat⟩ := run_list8 39 39 47 _ 2 24 infoEn Try.underlying39 rfl (by decide) (by decide) wv.heap.size _ 0 ([]) HO.out (some a) j c1 ((L.take j).flatMap enC) (by have := rd_tk (HR.out.below HBv.out) hj; rwa [take_en] at this) (en_one _) (by omega) HBv.out.size
            have HBn := Lib.hid (HBv.out.grown hg HBv.out.size (fun g e => (HO.out.lt g e).1))
            refine op_append (.tmp 22) (.tmp 25) 39 rfl _ _ _ vh2 rfl rfl hr ?_
            refine hK.out _ _ (HmkS.out _ HBn.out) (fun hHeld2 => ?_)
            clear hK K
            try have HR6 := Lib.hid (rd_grow HR6.out hg HNe.out)
            try have HNe := Lib.hid (ne_next HNe.out hat HG6.out)
            try have HG6 := Lib.hid (Nat.lt_of_lt_of_le HG6.out hg.size)
            have HO := Lib.hid ho
            have HBv := HBn
            clear hr ho hg hat HBn hHeld1
            try simp only [Act.put, List.setIfInBounds_toArray, List.set_cons_zero, List.set_cons_succ]
            refine wpAnyH_ready (rs := [6]) (by kernel_rfl) (by simp) ?_
            refine AllReadyH.cons (by first | (simp only [List.getElem?_toArray, List.getElem?_cons_succ, List.getElem?_cons_zero] <;> rfl) | rfl) (fun K hK => ?_) ?_
            · go_simp
              obtain ⟨vh3, hvw, hBn, hbb, hr6, hg6⟩ := arm6 HBv.out s n
              rw [← hvw]
              refine hK.out _ _ (HmkS.out _ hBn) (fun hHeld3 => ?_)
              clear hK K hvw
              have HR6 := Lib.hid hr6
              have HG6 := Lib.hid hg6
              try have HNe := Lib.hid (fun b e => Nat.ne_of_lt (HO.out.lt b e).2)
              try have HO := Lib.hid (own_same HO.out (fun b e => hbb.block b (HO.out.lt b e).2))
              have HBv := Lib.hid hBn
              clear hr6 hg6 hBn hbb hHeld2
              try simp only [Act.put, List.setIfInBounds_toArray, List.set_cons_zero, List.set_cons_succ]
              refine wpAnyH_ready (rs := [7]) (by kernel_rfl) (by simp) ?_
              refine AllReadyH.cons (by first | (simp only [List.getElem?_toArray, List.getElem?_cons_succ, List.getElem?_cons_zero] <;> rfl) | rfl) (fun K hK => ?_) ?_
              · skip
                obtain ⟨v7, vh4, hr, ho, hg, hat⟩ := run_list8 39 39 47 _ 2 24 infoEn Try.underlying39 rfl (by decide) (by decide) wv.heap.size _ (0 + j) ([] ++ (L.take j).flatMap enC) HO.out _ 1 1 ([.string s, .int .i64 n]) HR6.out (by intro u hu; simp at hu; rcases hu with rfl | rfl <;> rfl) (by omega) HBv.out.size
                have HBn := Lib.hid (HBv.out.grown hg HBv.out.size (fun g e => (HO.out.lt g e).1))
                refine op_append (.tmp 26) (.tmp 28) 39 rfl _ _ _ vh4 rfl rfl hr ?_
                refine hK.out _ _ (HmkS.out _ HBn.out) (fun hHeld4 => ?_)
                clear hK K
                try have HR6 := Lib.hid (rd_grow HR6.out hg HNe.out)
                try have HNe := Lib.hid (ne_next HNe.out hat HG6.out)
                try have HG6 := Lib.hid (Nat.lt_of_lt_of_le HG6.out hg.size)
                have HO := Lib.hid ho
                have HBv := HBn
                clear hr ho hg hat HBn hHeld3
                try simp only [Act.put, List.setIfInBounds_toArray, List.set_cons_zero, List.set_cons_succ]
                refine wpAnyH_ready (rs := [11]) (by kernel_rfl) (by simp) ?_
                refine AllReadyH.cons (by first | (simp only [List.getElem?_toArray, List.getElem?_cons_succ, List.getElem?_cons_zero] <;> rfl) | rfl) (fun K hK => ?_) ?_
                · skip
                  obtain ⟨v11, vh5, hr, ho, hg, hat⟩ := run_list8 39 39 47 _ 2 24 infoEn Try.underlying39 rfl (by decide) (by decide) wv.heap.size _ (0 + j + 1) ([] ++ (L.take j).flatMap enC ++ [.string s, .int .i64 n]) HO.out (some a) (N - j) (c1 - j) ((L.drop j).flatMap enC) (by rw [show N - j = 0 from by omega, List.drop_eq_nil_of_le (by have := HN.out; omega)]; exact Rd.nil _ _ _) (en_one _) (by omega) HBv.out.size
                  have HBn := Lib.hid (HBv.out.grown hg HBv.out.size (fun g e => (HO.out.lt g e).1))
                  refine op_append (.tmp 29) (.tmp 32) 39 rfl _ _ _ vh5 rfl rfl hr ?_
                  refine hK.out _ _ (HmkS.out _ HBn.out) (fun hHeld5 => ?_)
                  clear hK K
                  try have HR6 := Lib.hid (rd_grow HR6.out hg HNe.out)
                  try have HNe := Lib.hid (ne_next HNe.out hat HG6.out)
                  try have HG6 := Lib.hid (Nat.lt_of_lt_of_le HG6.out hg.size)
                  have HO := Lib.hid ho
                  have HBv := HBn
                  clear hr ho hg hat HBn hHeld4
                  try simp only [Act.put, List.setIfInBounds_toArray, List.set_cons_zero, List.set_cons_succ]
                  refine wpAnyH_take (i := 12) (v := ?_) (by first | (simp only [List.getElem?_toArray, List.getElem?_cons_succ, List.getElem?_cons_zero] <;> rfl) | rfl) (by kernel_rfl) (by kernel_rfl) (by kernel_rfl) (by exact fun _ _ _ h => h) (Or.inl ⟨by rfl, ?_⟩) hHeld5 ?_
                  rotate_left 1
                  · intro w hSw
                    try dsimp only at hSw
                    (go_simp) <;> (with_reducible rfl)
                  try simp only [Act.put, List.setIfInBounds_toArray, List.set_cons_zero, List.set_cons_succ]
                  refine wpAnyH_done (by kernel_rfl) ?_ _
                  rename World => w12
                  clear hHeld5
                  go_wp2_with fail
                  go_ret
                  refine ⟨v11, rfl, ?_, HCv.out.trans (HBv.out.mono HCv.out.size)⟩
                  have ho := own_monoR HO.out HCv.out.size
                  rw [HFin.out, HLen.out]
                  rw [show 0 + j + 1 + (N - j) = N + 1 from by omega] at ho
                  exact HFl.out ▸ ho
                exact AllReadyH.nil
              exact AllReadyH.nil
            exact AllReadyH.nil
          refine AllReadyH.cons (by first | (simp only [List.getElem?_toArray, List.getElem?_cons_succ, List.getElem?_cons_zero] <;> rfl) | rfl) (fun K hK => ?_) ?_
          · go_simp
            obtain ⟨vh2, hvw, hBn, hbb, hr6, hg6⟩ := arm6 HBv.out s n
            rw [← hvw]
            refine hK.out _ _ (HmkS.out _ hBn) (fun hHeld2 => ?_)
            clear hK K hvw
            have HR6 := Lib.hid hr6
            have HG6 := Lib.hid hg6
            try have HNe := Lib.hid (fun b e => Nat.ne_of_lt (HO.out.lt b e).2)
            try have HO := Lib.hid (own_same HO.out (fun b e => hbb.block b (HO.out.lt b e).2))
            have HBv := Lib.hid hBn
            clear hr6 hg6 hBn hbb hHeld1
            try simp only [Act.put, List.setIfInBounds_toArray, List.set_cons_zero, List.set_cons_succ]
            refine wpAnyH_ready (rs := [4]) (by kernel_rfl) (by simp) ?_
            refine AllReadyH.cons (by first | (simp only [List.getElem?_toArray, List.getElem?_cons_succ, List.getElem?_cons_zero] <;> rfl) | rfl) (fun K hK => ?_) ?_
            · skip
              obtain ⟨v4, vh3, hr, ho, hg, hat⟩ := run_list8 39 39 47 _ 2 24 infoEn Try.underlying39 rfl (by decide) (by decide) wv.heap.size _ 0 ([]) HO.out (some a) j c1 ((L.take j).flatMap enC) (by have := rd_tk (HR.out.below HBv.out) hj; rwa [take_en] at this) (en_one _) (by omega) HBv.out.size
              have HBn := Lib.hid (HBv.out.grown hg HBv.out.size (fun g e => (HO.out.lt g e).1))
              refine op_append (.tmp 22) (.tmp 25) 39 rfl _ _ _ vh3 rfl rfl hr ?_
              refine hK.out _ _ (HmkS.out _ HBn.out) (fun hHeld3 => ?_)
              clear hK K
              try have HR6 := Lib.hid (rd_grow HR6.out hg HNe.out)
              try have HNe := Lib.hid (ne_next HNe.out hat HG6.out)
              try have HG6 := Lib.hid (Nat.lt_of_lt_of_le HG6.out hg.size)
              have HO := Lib.hid ho
              have HBv := HBn
              clear hr ho hg hat HBn hHeld2
              try simp only [Act.put, List.setIfInBounds_toArray, List.set_cons_zero, List.set_cons_succ]
              refine wpAnyH_ready (rs := [7]) (by kernel_rfl) (by simp) ?_
              refine AllReadyH.cons (by first | (simp only [List.getElem?_toArray, List.getElem?_cons_succ, List.getElem?_cons_zero] <;> rfl) | rfl) (fun K hK => ?_) ?_
              · skip
                obtain ⟨v7, vh4, hr, ho, hg, hat⟩ := run_list8 39 39 47 _ 2 24 infoEn Try.underlying39 rfl (by decide) (by decide) wv.heap.size _ (0 + j) ([] ++ (L.take j).flatMap enC) HO.out _ 1 1 ([.string s, .int .i64 n]) HR6.out (by intro u hu; simp at hu; rcases hu with rfl | rfl <;> rfl) (by omega) HBv.out.size
                have HBn := Lib.hid (HBv.out.grown hg HBv.out.size (fun g e => (HO.out.lt g e).1))
                refine op_append (.tmp 26) (.tmp 28) 39 rfl _ _ _ vh4 rfl rfl hr ?_
                refine hK.out _ _ (HmkS.out _ HBn.out) (fun hHeld4 => ?_)
                clear hK K
                try have HR6 := Lib.hid (rd_grow HR6.out hg HNe.out)
                try have HNe := Lib.hid (ne_next HNe.out hat HG6.out)
                try have HG6 := Lib.hid (Nat.lt_of_lt_of_le HG6.out hg.size)
                have HO := Lib.hid ho
                have HBv := HBn
                clear hr ho hg hat HBn hHeld3
                try simp only [Act.put, List.setIfInBounds_toArray, List.set_cons_zero, List.set_cons_succ]
                refine wpAnyH_ready (rs := [11]) (by kernel_rfl) (by simp) ?_
                refine AllReadyH.cons (by first | (simp only [List.getElem?_toArray, List.getElem?_cons_succ, List.getElem?_cons_zero] <;> rfl) | rfl) (fun K hK => ?_) ?_
                · skip
                  obtain ⟨v11, vh5, hr, ho, hg, hat⟩ := run_list8 39 39 47 _ 2 24 infoEn Try.underlying39 rfl (by decide) (by decide) wv.heap.size _ (0 + j + 1) ([] ++ (L.take j).flatMap enC ++ [.string s, .int .i64 n]) HO.out (some a) (N - j) (c1 - j) ((L.drop j).flatMap enC) (by rw [show N - j = 0 from by omega, List.drop_eq_nil_of_le (by have := HN.out; omega)]; exact Rd.nil _ _ _) (en_one _) (by omega) HBv.out.size
                  have HBn := Lib.hid (HBv.out.grown hg HBv.out.size (fun g e => (HO.out.lt g e).1))
                  refine op_append (.tmp 29) (.tmp 32) 39 rfl _ _ _ vh5 rfl rfl hr ?_
                  refine hK.out _ _ (HmkS.out _ HBn.out) (fun hHeld5 => ?_)
                  clear hK K
                  try have HR6 := Lib.hid (rd_grow HR6.out hg HNe.out)
                  try have HNe := Lib.hid (ne_next HNe.out hat HG6.out)
                  try have HG6 := Lib.hid (Nat.lt_of_lt_of_le HG6.out hg.size)
                  have HO := Lib.hid ho
                  have HBv := HBn
                  clear hr ho hg hat HBn hHeld4
                  try simp only [Act.put, List.setIfInBounds_toArray, List.set_cons_zero, List.set_cons_succ]
                  refine wpAnyH_take (i := 12) (v := ?_) (by first | (simp only [List.getElem?_toArray, List.getElem?_cons_succ, List.getElem?_cons_zero] <;> rfl) | rfl) (by kernel_rfl) (by kernel_rfl) (by kernel_rfl) (by exact fun _ _ _ h => h) (Or.inl ⟨by rfl, ?_⟩) hHeld5 ?_
                  rotate_left 1
                  · intro w hSw
                    try dsimp only at hSw
                    (go_simp) <;> (with_reducible rfl)
                  try simp only [Act.put, List.setIfInBounds_toArray, List.set_cons_zero, List.set_cons_succ]
                  refine wpAnyH_done (by kernel_rfl) ?_ _
                  rename World => w12
                  clear hHeld5
                  go_wp2_with fail
                  go_ret
                  refine ⟨v11, rfl, ?_, HCv.out.trans (HBv.out.mono HCv.out.size)⟩
                  have ho := own_monoR HO.out HCv.out.size
                  rw [HFin.out, HLen.out]
                  rw [show 0 + j + 1 + (N - j) = N + 1 from by omega] at ho
                  exact HFl.out ▸ ho
                exact AllReadyH.nil
              exact AllReadyH.nil
            exact AllReadyH.nil
          exact AllReadyH.nil
        refine AllReadyH.cons (by first | (simp only [List.getElem?_toArray, List.getElem?_cons_succ, List.getElem?_cons_zero] <;> rfl) | rfl) (fun K hK => ?_) ?_
        · go_simp
          obtain ⟨vh1, hvw, hBn, hbb, hr6, hg6⟩ := arm6 HBv.out s n
          rw [← hvw]
          refine hK.out _ _ (HmkS.out _ hBn) (fun hHeld1 => ?_)
          clear hK K hvw
          have HR6 := Lib.hid hr6
          have HG6 := Lib.hid hg6
          try have HNe := Lib.hid (fun b e => Nat.ne_of_lt (HO.out.lt b e).2)
          try have HO := Lib.hid (own_same HO.out (fun b e => hbb.block b (HO.out.lt b e).2))
          have HBv := Lib.hid hBn
          clear hr6 hg6 hBn hbb hHeld0
          try simp only [Act.put, List.setIfInBounds_toArray, List.set_cons_zero, List.set_cons_succ]
          refine wpAnyH_ready (rs := [0]) (by kernel_rfl) (by simp) ?_
          refine AllReadyH.cons (by first | (simp only [List.getElem?_toArray, List.getElem?_cons_zero] <;> rfl) | rfl) (fun K hK => ?_) ?_
          · go_simp
            obtain ⟨vh2, hvw, hBn, hbb, ho⟩ := arm0 HBv.out
            rw [← hvw]
            refine hK.out _ _ (HmkS.out _ hBn) (fun hHeld2 => ?_)
            clear hK K hvw
            have HO := Lib.hid ho
            try have HNe := Lib.hid (ne_hi HG6.out)
            try have HR6 := Lib.hid (HR6.out.below hbb)
            try have HG6 := Lib.hid (Nat.lt_of_lt_of_le HG6.out hbb.size)
            have HBv := Lib.hid hBn
            clear ho hBn hbb hHeld1
            try simp only [Act.put, List.setIfInBounds_toArray, List.set_cons_zero, List.set_cons_succ]
            refine wpAnyH_ready (rs := [4]) (by kernel_rfl) (by simp) ?_
            refine AllReadyH.cons (by first | (simp only [List.getElem?_toArray, List.getElem?_cons_succ, List.getElem?_cons_zero] <;> rfl) | rfl) (fun K hK => ?_) ?_
            · skip
              obtain ⟨v4, vh3, hr, ho, hg, hat⟩ := run_list8 39 39 47 _ 2 24 infoEn Try.underlying39 rfl (by decide) (by decide) wv.heap.size _ 0 ([]) HO.out (some a) j c1 ((L.take j).flatMap enC) (by have := rd_tk (HR.out.below HBv.out) hj; rwa [take_en] at this) (en_one _) (by omega) HBv.out.size
              have HBn := Lib.hid (HBv.out.grown hg HBv.out.size (fun g e => (HO.out.lt g e).1))
              refine op_append (.tmp 22) (.tmp 25) 39 rfl _ _ _ vh3 rfl rfl hr ?_
              refine hK.out _ _ (HmkS.out _ HBn.out) (fun hHeld3 => ?_)
              clear hK K
              try have HR6 := Lib.hid (rd_grow HR6.out hg HNe.out)
              try have HNe := Lib.hid (ne_next HNe.out hat HG6.out)
              try have HG6 := Lib.hid (Nat.lt_of_lt_of_le HG6.out hg.size)
              have HO := Lib.hid ho
              have HBv := HBn
              clear hr ho hg hat HBn hHeld2
              try simp only [Act.put, List.setIfInBounds_toArray, List.set_cons_zero, List.set_cons_succ]
              refine wpAnyH_ready (rs := [7]) (by kernel_rfl) (by simp) ?_
              refine AllReadyH.cons (by first | (simp only [List.getElem?_toArray, List.getElem?_cons_succ, List.getElem?_cons_zero] <;> rfl) | rfl) (fun K hK => ?_) ?_
              · skip
                obtain ⟨v7, vh4, hr, ho, hg, hat⟩ := run_list8 39 39 47 _ 2 24 infoEn Try.underlying39 rfl (by decide) (by decide) wv.heap.size _ (0 + j) ([] ++ (L.take j).flatMap enC) HO.out _ 1 1 ([.string s, .int .i64 n]) HR6.out (by intro u hu; simp at hu; rcases hu with rfl | rfl <;> rfl) (by omega) HBv.out.size
                have HBn := Lib.hid (HBv.out.grown hg HBv.out.size (fun g e => (HO.out.lt g e).1))
                refine op_append (.tmp 26) (.tmp 28) 39 rfl _ _ _ vh4 rfl rfl hr ?_
                refine hK.out _ _ (HmkS.out _ HBn.out) (fun hHeld4 => ?_)
                clear hK K
                try have HR6 := Lib.hid (rd_grow HR6.out hg HNe.out)
                try have HNe := Lib.hid (ne_next HNe.out hat HG6.out)
                try have HG6 := Lib.hid (Nat.lt_of_lt_of_le HG6.out hg.size)
                have HO := Lib.hid ho
                have HBv := HBn
                clear hr ho hg hat HBn hHeld3
                try simp only [Act.put, List.setIfInBounds_toArray, List.set_cons_zero, List.set_cons_succ]
                refine wpAnyH_ready (rs := [11]) (by kernel_rfl) (by simp) ?_
                refine AllReadyH.cons (by first | (simp only [List.getElem?_toArray, List.getElem?_cons_succ, List.getElem?_cons_zero] <;> rfl) | rfl) (fun K hK => ?_) ?_
                · skip
                  obtain ⟨v11, vh5, hr, ho, hg, hat⟩ := run_list8 39 39 47 _ 2 24 infoEn Try.underlying39 rfl (by decide) (by decide) wv.heap.size _ (0 + j + 1) ([] ++ (L.take j).flatMap enC ++ [.string s, .int .i64 n]) HO.out (some a) (N - j) (c1 - j) ((L.drop j).flatMap enC) (by rw [show N - j = 0 from by omega, List.drop_eq_nil_of_le (by have := HN.out; omega)]; exact Rd.nil _ _ _) (en_one _) (by omega) HBv.out.size
                  have HBn := Lib.hid (HBv.out.grown hg HBv.out.size (fun g e => (HO.out.lt g e).1))
                  refine op_append (.tmp 29) (.tmp 32) 39 rfl _ _ _ vh5 rfl rfl hr ?_
                  refine hK.out _ _ (HmkS.out _ HBn.out) (fun hHeld5 => ?_)
                  clear hK K
                  try have HR6 := Lib.hid (rd_grow HR6.out hg HNe.out)
                  try have HNe := Lib.hid (ne_next HNe.out hat HG6.out)
                  try have HG6 := Lib.hid (Nat.lt_of_lt_of_le HG6.out hg.size)
                  have HO := Lib.hid ho
                  have HBv := HBn
                  clear hr ho hg hat HBn hHeld4
                  try simp only [Act.put, List.setIfInBounds_toArray, List.set_cons_zero, List.set_cons_succ]
                  refine wpAnyH_take (i := 12) (v := ?_) (by first | (simp only [List.getElem?_toArray, List.getElem?_cons_succ, List.getElem?_cons_zero] <;> rfl) | rfl) (by kernel_rfl) (by kernel_rfl) (by kernel_rfl) (by exact fun _ _ _ h => h) (Or.inl ⟨by rfl, ?_⟩) hHeld5 ?_
                  rotate_left 1
                  · intro w hSw
                    try dsimp only at hSw
                    (go_simp) <;> (with_reducible rfl)
                  try simp only [Act.put, List.setIfInBounds_toArray, List.set_cons_zero, List.set_cons_succ]
                  refine wpAnyH_done (by kernel_rfl) ?_ _
                  rename World => w12
                  clear hHeld5
                  go_wp2_with fail
                  go_ret
                  refine ⟨v11, rfl, ?_, HCv.out.trans (HBv.out.mono HCv.out.size)⟩
                  have ho := own_monoR HO.out HCv.out.size
                  rw [HFin.out, HLen.out]
                  rw [show 0 + j + 1 + (N - j) = N + 1 from by omega] at ho
                  exact HFl.out ▸ ho
                exact AllReadyH.nil
              exact AllReadyH.nil
            exact AllReadyH.nil
          exact AllReadyH.nil
        exact AllReadyH.nil
      · have hjc : j ≤ c1 := by omega
        have HFin := Lib.hid (ins_split (n := n) HL.out (by have := HN.out; omega) Hg.out Hnb.out)
        have HLen := Lib.hid (show (L.take j ++ (s.data.toList, n) :: L.drop j).length = N + 1 by have := HN.out; simp; omega)
        have HFl := Lib.hid (show [] ++ (L.take j).flatMap enC ++ [.string s, .int .i64 n] ++ (L.drop j).flatMap enC = (L.take j ++ (s.data.toList, n) :: L.drop j).flatMap enC by simp [enC])
        generalize hwv : World.drewN _ _ = wv
        have HCv := Lib.hid (show Below w.heap.size w wv from hwv ▸ below_drewN HC.out _)
        have HBk := Lib.hid (show Bk wv g 47 [.string s, .int .i64 n] from hwv ▸ HBk.out.drewN _)
        clear hwv
        have HmkS := Lib.hid (fun (W : World) (hb : Below wv.heap.size wv W) => (⟨(HBk.out.kept hb).cell 0 rfl, (HBk.out.kept hb).cell 1 rfl⟩ : W.cell? ⟨g, 0, none⟩ = some (.string s) ∧ W.cell? ⟨g, 1, none⟩ = some (.int .i64 n)))
        have HBv := Lib.hid (Below.refl wv.heap.size wv).drew
        have HR := Lib.hid (HR.out.below HCv.out)
        refine wp_region_held_drew (S := (fun W => W.cell? ⟨g, 0, none⟩ = some (.string s) ∧ W.cell? ⟨g, 1, none⟩ = some (.int .i64 n))) (by kernel_rfl) ?_ (fun hHeld0 => ?_)
        · exact HmkS.out _ (Below.refl _ _).drew
        generalize World.drew wv = vh0 at hHeld0 HBv ⊢
        refine wpAnyH_take (i := 1) (v := ?_) (by first | (simp only [List.getElem?_toArray, List.getElem?_cons_succ, List.getElem?_cons_zero] <;> rfl) | rfl) (by kernel_rfl) (by kernel_rfl) (by kernel_rfl) (by exact fun _ _ _ h => h) (Or.inl ⟨by rfl, ?_⟩) hHeld0 ?_
        rotate_left 1
        · intro w hSw
          try dsimp only at hSw
          (go_simp) <;> (with_reducible rfl)
        try simp only [Act.put, List.setIfInBounds_toArray, List.set_cons_zero, List.set_cons_succ]
        refine wpAnyH_take (i := 2) (v := ?_) (by first | (simp only [List.getElem?_toArray, List.getElem?_cons_succ, List.getElem?_cons_zero] <;> rfl) | rfl) (by kernel_rfl) (by kernel_rfl) (by kernel_rfl) (by exact fun _ _ _ h => h) (Or.inl ⟨by rfl, ?_⟩) hHeld0 ?_
        rotate_left 1
        · intro w hSw
          try dsimp only at hSw
          (go_simp) <;> (with_reducible rfl)
        try simp only [Act.put, List.setIfInBounds_toArray, List.set_cons_zero, List.set_cons_succ]
        refine wpAnyH_take (i := 3) (v := ?_) (by first | (simp only [List.getElem?_toArray, List.getElem?_cons_succ, List.getElem?_cons_zero] <;> rfl) | rfl) (by kernel_rfl) (by kernel_rfl) (by kernel_rfl) (by exact fun _ _ _ h => h) (Or.inl ⟨by rfl, ?_⟩) hHeld0 ?_
        rotate_left 1
        · intro w hSw
          try dsimp only at hSw
          (go_simp) <;> (with_reducible rfl)
        try simp only [Act.put, List.setIfInBounds_toArray, List.set_cons_zero, List.set_cons_succ]
        refine wpAnyH_take (i := 5) (v := ?_) (by first | (simp only [List.getElem?_toArray, List.getElem?_cons_succ, List.getElem?_cons_zero] <;> rfl) | rfl) (by kernel_rfl) (by kernel_rfl) (by kernel_rfl) (by exact fun _ _ _ h => h) (Or.inl ⟨by rfl, ?_⟩) hHeld0 ?_
        rotate_left 1
        · intro w hSw
          try dsimp only at hSw
          (go_simp) <;> (with_reducible rfl)
        try simp only [Act.put, List.setIfInBounds_toArray, List.set_cons_zero, List.set_cons_succ]
        refine wpAnyH_take (i := 8) (v := ?_) (by first | (simp only [List.getElem?_toArray, List.getElem?_cons_succ, List.getElem?_cons_zero] <;> rfl) | rfl) (by kernel_rfl) (by kernel_rfl) (by kernel_rfl) (by exact fun _ _ _ h => h) (Or.inl ⟨by rfl, ?_⟩) hHeld0 ?_
        rotate_left 1
        · intro w hSw
          try dsimp only at hSw
          (go_simp) <;> (with_reducible rfl)
        try simp only [Act.put, List.setIfInBounds_toArray, List.set_cons_zero, List.set_cons_succ]
        refine wpAnyH_take (i := 9) (v := ?_) (by first | (simp only [List.getElem?_toArray, List.getElem?_cons_succ, List.getElem?_cons_zero] <;> rfl) | rfl) (by kernel_rfl) (by kernel_rfl) (by kernel_rfl) (by exact fun _ _ _ h => h) (Or.inl ⟨by rfl, ?_⟩) hHeld0 ?_
        rotate_left 1
        · intro w hSw
          try dsimp only at hSw
          (go_simp) <;> (with_reducible rfl)
        try simp only [Act.put, List.setIfInBounds_toArray, List.set_cons_zero, List.set_cons_succ]
        refine wpAnyH_take (i := 10) (v := ?_) (by first | (simp only [List.getElem?_toArray, List.getElem?_cons_succ, List.getElem?_cons_zero] <;> rfl) | rfl) (by kernel_rfl) (by kernel_rfl) (by kernel_rfl) (by exact fun _ _ _ h => h) (Or.inl ⟨by rfl, ?_⟩) hHeld0 ?_
        rotate_left 1
        · intro w hSw
          try dsimp only at hSw
          (go_simp) <;> (with_reducible rfl)
        try simp only [Act.put, List.setIfInBounds_toArray, List.set_cons_zero, List.set_cons_succ]
        refine wpAnyH_ready (rs := [0, 6]) (by kernel_rfl) (by simp) ?_
        refine AllReadyH.cons (by first | (simp only [List.getElem?_toArray, List.getElem?_cons_zero] <;> rfl) | rfl) (fun K hK => ?_) ?_
        · go_simp
          obtain ⟨vh1, hvw, hBn, hbb, ho⟩ := arm0 HBv.out
          rw [← hvw]
          refine hK.out _ _ (HmkS.out _ hBn) (fun hHeld1 => ?_)
          clear hK K hvw
          have HO := Lib.hid ho
          try have HNe := Lib.hid (ne_hi HG6.out)
          try have HR6 := Lib.hid (HR6.out.below hbb)
          try have HG6 := Lib.hid (Nat.lt_of_lt_of_le HG6.out hbb.size)
          have HBv := Lib.hid hBn
          clear ho hBn hbb hHeld0
          try simp only [Act.put, List.setIfInBounds_toArray, List.set_cons_zero, List.set_cons_succ]
          refine wpAnyH_ready (rs := [4, 6]) (by kernel_rfl) (by simp) ?_
          refine AllReadyH.cons (by first | (simp only [List.getElem?_toArray, List.getElem?_cons_succ, List.getElem?_cons_zero] <;> rfl) | rfl) (fun K hK => ?_) ?_
          · skip
            obtain ⟨v4, vh2, hr, ho, hg, hat⟩ := run_list8 39 39 47 _ 2 24 infoEn Try.underlying39 rfl (by decide) (by decide) wv.heap.size _ 0 ([]) HO.out (some a) j c1 ((L.take j).flatMap enC) (by have := rd_tk (HR.out.below HBv.out) hj; rwa [take_en] at this) (en_one _) (by omega) HBv.out.size
            have HBn := Lib.hid (HBv.out.grown hg HBv.out.size (fun g e => (HO.out.lt g e).1))
            refine op_append (.tmp 22) (.tmp 25) 39 rfl _ _ _ vh2 rfl rfl hr ?_
            refine hK.out _ _ (HmkS.out _ HBn.out) (fun hHeld2 => ?_)
            clear hK K
            try have HR6 := Lib.hid (rd_grow HR6.out hg HNe.out)
            try have HNe := Lib.hid (ne_next HNe.out hat HG6.out)
            try have HG6 := Lib.hid (Nat.lt_of_lt_of_le HG6.out hg.size)
            have HO := Lib.hid ho
            have HBv := HBn
            clear hr ho hg hat HBn hHeld1
            try simp only [Act.put, List.setIfInBounds_toArray, List.set_cons_zero, List.set_cons_succ]
            refine wpAnyH_ready (rs := [6]) (by kernel_rfl) (by simp) ?_
            refine AllReadyH.cons (by first | (simp only [List.getElem?_toArray, List.getElem?_cons_succ, List.getElem?_cons_zero] <;> rfl) | rfl) (fun K hK => ?_) ?_
            · go_simp
              obtain ⟨vh3, hvw, hBn, hbb, hr6, hg6⟩ := arm6 HBv.out s n
              rw [← hvw]
              refine hK.out _ _ (HmkS.out _ hBn) (fun hHeld3 => ?_)
              clear hK K hvw
              have HR6 := Lib.hid hr6
              have HG6 := Lib.hid hg6
              try have HNe := Lib.hid (fun b e => Nat.ne_of_lt (HO.out.lt b e).2)
              try have HO := Lib.hid (own_same HO.out (fun b e => hbb.block b (HO.out.lt b e).2))
              have HBv := Lib.hid hBn
              clear hr6 hg6 hBn hbb hHeld2
              try simp only [Act.put, List.setIfInBounds_toArray, List.set_cons_zero, List.set_cons_succ]
              refine wpAnyH_ready (rs := [7]) (by kernel_rfl) (by simp) ?_
              refine AllReadyH.cons (by first | (simp only [List.getElem?_toArray, List.getElem?_cons_succ, List.getElem?_cons_zero] <;> rfl) | rfl) (fun K hK => ?_) ?_
              · skip
                obtain ⟨v7, vh4, hr, ho, hg, hat⟩ := run_list8 39 39 47 _ 2 24 infoEn Try.underlying39 rfl (by decide) (by decide) wv.heap.size _ (0 + j) ([] ++ (L.take j).flatMap enC) HO.out _ 1 1 ([.string s, .int .i64 n]) HR6.out (by intro u hu; simp at hu; rcases hu with rfl | rfl <;> rfl) (by omega) HBv.out.size
                have HBn := Lib.hid (HBv.out.grown hg HBv.out.size (fun g e => (HO.out.lt g e).1))
                refine op_append (.tmp 26) (.tmp 28) 39 rfl _ _ _ vh4 rfl rfl hr ?_
                refine hK.out _ _ (HmkS.out _ HBn.out) (fun hHeld4 => ?_)
                clear hK K
                try have HR6 := Lib.hid (rd_grow HR6.out hg HNe.out)
                try have HNe := Lib.hid (ne_next HNe.out hat HG6.out)
                try have HG6 := Lib.hid (Nat.lt_of_lt_of_le HG6.out hg.size)
                have HO := Lib.hid ho
                have HBv := HBn
                clear hr ho hg hat HBn hHeld3
                try simp only [Act.put, List.setIfInBounds_toArray, List.set_cons_zero, List.set_cons_succ]
                refine wpAnyH_ready (rs := [11]) (by kernel_rfl) (by simp) ?_
                refine AllReadyH.cons (by first | (simp only [List.getElem?_toArray, List.getElem?_cons_succ, List.getElem?_cons_zero] <;> rfl) | rfl) (fun K hK => ?_) ?_
                · skip
                  obtain ⟨v11, vh5, hr, ho, hg, hat⟩ := run_list8 39 39 47 _ 2 24 infoEn Try.underlying39 rfl (by decide) (by decide) wv.heap.size _ (0 + j + 1) ([] ++ (L.take j).flatMap enC ++ [.string s, .int .i64 n]) HO.out (some (a.add (j * 2))) (N - j) (c1 - j) ((L.drop j).flatMap enC) (by have := rd_dr (HR.out.below HBv.out) hj; rwa [drop_en] at this) (en_one _) (by omega) HBv.out.size
                  have HBn := Lib.hid (HBv.out.grown hg HBv.out.size (fun g e => (HO.out.lt g e).1))
                  refine op_append (.tmp 29) (.tmp 32) 39 rfl _ _ _ vh5 rfl rfl hr ?_
                  refine hK.out _ _ (HmkS.out _ HBn.out) (fun hHeld5 => ?_)
                  clear hK K
                  try have HR6 := Lib.hid (rd_grow HR6.out hg HNe.out)
                  try have HNe := Lib.hid (ne_next HNe.out hat HG6.out)
                  try have HG6 := Lib.hid (Nat.lt_of_lt_of_le HG6.out hg.size)
                  have HO := Lib.hid ho
                  have HBv := HBn
                  clear hr ho hg hat HBn hHeld4
                  try simp only [Act.put, List.setIfInBounds_toArray, List.set_cons_zero, List.set_cons_succ]
                  refine wpAnyH_take (i := 12) (v := ?_) (by first | (simp only [List.getElem?_toArray, List.getElem?_cons_succ, List.getElem?_cons_zero] <;> rfl) | rfl) (by kernel_rfl) (by kernel_rfl) (by kernel_rfl) (by exact fun _ _ _ h => h) (Or.inl ⟨by rfl, ?_⟩) hHeld5 ?_
                  rotate_left 1
                  · intro w hSw
                    try dsimp only at hSw
                    (go_simp) <;> (with_reducible rfl)
                  try simp only [Act.put, List.setIfInBounds_toArray, List.set_cons_zero, List.set_cons_succ]
                  refine wpAnyH_done (by kernel_rfl) ?_ _
                  rename World => w12
                  clear hHeld5
                  go_wp2_with fail
                  go_ret
                  refine ⟨v11, rfl, ?_, HCv.out.trans (HBv.out.mono HCv.out.size)⟩
                  have ho := own_monoR HO.out HCv.out.size
                  rw [HFin.out, HLen.out]
                  rw [show 0 + j + 1 + (N - j) = N + 1 from by omega] at ho
                  exact HFl.out ▸ ho
                exact AllReadyH.nil
              exact AllReadyH.nil
            exact AllReadyH.nil
          refine AllReadyH.cons (by first | (simp only [List.getElem?_toArray, List.getElem?_cons_succ, List.getElem?_cons_zero] <;> rfl) | rfl) (fun K hK => ?_) ?_
          · go_simp
            obtain ⟨vh2, hvw, hBn, hbb, hr6, hg6⟩ := arm6 HBv.out s n
            rw [← hvw]
            refine hK.out _ _ (HmkS.out _ hBn) (fun hHeld2 => ?_)
            clear hK K hvw
            have HR6 := Lib.hid hr6
            have HG6 := Lib.hid hg6
            try have HNe := Lib.hid (fun b e => Nat.ne_of_lt (HO.out.lt b e).2)
            try have HO := Lib.hid (own_same HO.out (fun b e => hbb.block b (HO.out.lt b e).2))
            have HBv := Lib.hid hBn
            clear hr6 hg6 hBn hbb hHeld1
            try simp only [Act.put, List.setIfInBounds_toArray, List.set_cons_zero, List.set_cons_succ]
            refine wpAnyH_ready (rs := [4]) (by kernel_rfl) (by simp) ?_
            refine AllReadyH.cons (by first | (simp only [List.getElem?_toArray, List.getElem?_cons_succ, List.getElem?_cons_zero] <;> rfl) | rfl) (fun K hK => ?_) ?_
            · skip
              obtain ⟨v4, vh3, hr, ho, hg, hat⟩ := run_list8 39 39 47 _ 2 24 infoEn Try.underlying39 rfl (by decide) (by decide) wv.heap.size _ 0 ([]) HO.out (some a) j c1 ((L.take j).flatMap enC) (by have := rd_tk (HR.out.below HBv.out) hj; rwa [take_en] at this) (en_one _) (by omega) HBv.out.size
              have HBn := Lib.hid (HBv.out.grown hg HBv.out.size (fun g e => (HO.out.lt g e).1))
              refine op_append (.tmp 22) (.tmp 25) 39 rfl _ _ _ vh3 rfl rfl hr ?_
              refine hK.out _ _ (HmkS.out _ HBn.out) (fun hHeld3 => ?_)
              clear hK K
              try have HR6 := Lib.hid (rd_grow HR6.out hg HNe.out)
              try have HNe := Lib.hid (ne_next HNe.out hat HG6.out)
              try have HG6 := Lib.hid (Nat.lt_of_lt_of_le HG6.out hg.size)
              have HO := Lib.hid ho
              have HBv := HBn
              clear hr ho hg hat HBn hHeld2
              try simp only [Act.put, List.setIfInBounds_toArray, List.set_cons_zero, List.set_cons_succ]
              refine wpAnyH_ready (rs := [7]) (by kernel_rfl) (by simp) ?_
              refine AllReadyH.cons (by first | (simp only [List.getElem?_toArray, List.getElem?_cons_succ, List.getElem?_cons_zero] <;> rfl) | rfl) (fun K hK => ?_) ?_
              · skip
                obtain ⟨v7, vh4, hr, ho, hg, hat⟩ := run_list8 39 39 47 _ 2 24 infoEn Try.underlying39 rfl (by decide) (by decide) wv.heap.size _ (0 + j) ([] ++ (L.take j).flatMap enC) HO.out _ 1 1 ([.string s, .int .i64 n]) HR6.out (by intro u hu; simp at hu; rcases hu with rfl | rfl <;> rfl) (by omega) HBv.out.size
                have HBn := Lib.hid (HBv.out.grown hg HBv.out.size (fun g e => (HO.out.lt g e).1))
                refine op_append (.tmp 26) (.tmp 28) 39 rfl _ _ _ vh4 rfl rfl hr ?_
                refine hK.out _ _ (HmkS.out _ HBn.out) (fun hHeld4 => ?_)
                clear hK K
                try have HR6 := Lib.hid (rd_grow HR6.out hg HNe.out)
                try have HNe := Lib.hid (ne_next HNe.out hat HG6.out)
                try have HG6 := Lib.hid (Nat.lt_of_lt_of_le HG6.out hg.size)
                have HO := Lib.hid ho
                have HBv := HBn
                clear hr ho hg hat HBn hHeld3
                try simp only [Act.put, List.setIfInBounds_toArray, List.set_cons_zero, List.set_cons_succ]
                refine wpAnyH_ready (rs := [11]) (by kernel_rfl) (by simp) ?_
                refine AllReadyH.cons (by first | (simp only [List.getElem?_toArray, List.getElem?_cons_succ, List.getElem?_cons_zero] <;> rfl) | rfl) (fun K hK => ?_) ?_
                · skip
                  obtain ⟨v11, vh5, hr, ho, hg, hat⟩ := run_list8 39 39 47 _ 2 24 infoEn Try.underlying39 rfl (by decide) (by decide) wv.heap.size _ (0 + j + 1) ([] ++ (L.take j).flatMap enC ++ [.string s, .int .i64 n]) HO.out (some (a.add (j * 2))) (N - j) (c1 - j) ((L.drop j).flatMap enC) (by have := rd_dr (HR.out.below HBv.out) hj; rwa [drop_en] at this) (en_one _) (by omega) HBv.out.size
                  have HBn := Lib.hid (HBv.out.grown hg HBv.out.size (fun g e => (HO.out.lt g e).1))
                  refine op_append (.tmp 29) (.tmp 32) 39 rfl _ _ _ vh5 rfl rfl hr ?_
                  refine hK.out _ _ (HmkS.out _ HBn.out) (fun hHeld5 => ?_)
                  clear hK K
                  try have HR6 := Lib.hid (rd_grow HR6.out hg HNe.out)
                  try have HNe := Lib.hid (ne_next HNe.out hat HG6.out)
                  try have HG6 := Lib.hid (Nat.lt_of_lt_of_le HG6.out hg.size)
                  have HO := Lib.hid ho
                  have HBv := HBn
                  clear hr ho hg hat HBn hHeld4
                  try simp only [Act.put, List.setIfInBounds_toArray, List.set_cons_zero, List.set_cons_succ]
                  refine wpAnyH_take (i := 12) (v := ?_) (by first | (simp only [List.getElem?_toArray, List.getElem?_cons_succ, List.getElem?_cons_zero] <;> rfl) | rfl) (by kernel_rfl) (by kernel_rfl) (by kernel_rfl) (by exact fun _ _ _ h => h) (Or.inl ⟨by rfl, ?_⟩) hHeld5 ?_
                  rotate_left 1
                  · intro w hSw
                    try dsimp only at hSw
                    (go_simp) <;> (with_reducible rfl)
                  try simp only [Act.put, List.setIfInBounds_toArray, List.set_cons_zero, List.set_cons_succ]
                  refine wpAnyH_done (by kernel_rfl) ?_ _
                  rename World => w12
                  clear hHeld5
                  go_wp2_with fail
                  go_ret
                  refine ⟨v11, rfl, ?_, HCv.out.trans (HBv.out.mono HCv.out.size)⟩
                  have ho := own_monoR HO.out HCv.out.size
                  rw [HFin.out, HLen.out]
                  rw [show 0 + j + 1 + (N - j) = N + 1 from by omega] at ho
                  exact HFl.out ▸ ho
                exact AllReadyH.nil
              exact AllReadyH.nil
            exact AllReadyH.nil
          exact AllReadyH.nil
        refine AllReadyH.cons (by first | (simp only [List.getElem?_toArray, List.getElem?_cons_succ, List.getElem?_cons_zero] <;> rfl) | rfl) (fun K hK => ?_) ?_
        · go_simp
          obtain ⟨vh1, hvw, hBn, hbb, hr6, hg6⟩ := arm6 HBv.out s n
          rw [← hvw]
          refine hK.out _ _ (HmkS.out _ hBn) (fun hHeld1 => ?_)
          clear hK K hvw
          have HR6 := Lib.hid hr6
          have HG6 := Lib.hid hg6
          try have HNe := Lib.hid (fun b e => Nat.ne_of_lt (HO.out.lt b e).2)
          try have HO := Lib.hid (own_same HO.out (fun b e => hbb.block b (HO.out.lt b e).2))
          have HBv := Lib.hid hBn
          clear hr6 hg6 hBn hbb hHeld0
          try simp only [Act.put, List.setIfInBounds_toArray, List.set_cons_zero, List.set_cons_succ]
          refine wpAnyH_ready (rs := [0]) (by kernel_rfl) (by simp) ?_
          refine AllReadyH.cons (by first | (simp only [List.getElem?_toArray, List.getElem?_cons_zero] <;> rfl) | rfl) (fun K hK => ?_) ?_
          · go_simp
            obtain ⟨vh2, hvw, hBn, hbb, ho⟩ := arm0 HBv.out
            rw [← hvw]
            refine hK.out _ _ (HmkS.out _ hBn) (fun hHeld2 => ?_)
            clear hK K hvw
            have HO := Lib.hid ho
            try have HNe := Lib.hid (ne_hi HG6.out)
            try have HR6 := Lib.hid (HR6.out.below hbb)
            try have HG6 := Lib.hid (Nat.lt_of_lt_of_le HG6.out hbb.size)
            have HBv := Lib.hid hBn
            clear ho hBn hbb hHeld1
            try simp only [Act.put, List.setIfInBounds_toArray, List.set_cons_zero, List.set_cons_succ]
            refine wpAnyH_ready (rs := [4]) (by kernel_rfl) (by simp) ?_
            refine AllReadyH.cons (by first | (simp only [List.getElem?_toArray, List.getElem?_cons_succ, List.getElem?_cons_zero] <;> rfl) | rfl) (fun K hK => ?_) ?_
            · skip
              obtain ⟨v4, vh3, hr, ho, hg, hat⟩ := run_list8 39 39 47 _ 2 24 infoEn Try.underlying39 rfl (by decide) (by decide) wv.heap.size _ 0 ([]) HO.out (some a) j c1 ((L.take j).flatMap enC) (by have := rd_tk (HR.out.below HBv.out) hj; rwa [take_en] at this) (en_one _) (by omega) HBv.out.size
              have HBn := Lib.hid (HBv.out.grown hg HBv.out.size (fun g e => (HO.out.lt g e).1))
              refine op_append (.tmp 22) (.tmp 25) 39 rfl _ _ _ vh3 rfl rfl hr ?_
              refine hK.out _ _ (HmkS.out _ HBn.out) (fun hHeld3 => ?_)
              clear hK K
              try have HR6 := Lib.hid (rd_grow HR6.out hg HNe.out)
              try have HNe := Lib.hid (ne_next HNe.out hat HG6.out)
              try have HG6 := Lib.hid (Nat.lt_of_lt_of_le HG6.out hg.size)
              have HO := Lib.hid ho
              have HBv := HBn
              clear hr ho hg hat HBn hHeld2
              try simp only [Act.put, List.setIfInBounds_toArray, List.set_cons_zero, List.set_cons_succ]
              refine wpAnyH_ready (rs := [7]) (by kernel_rfl) (by simp) ?_
              refine AllReadyH.cons (by first | (simp only [List.getElem?_toArray, List.getElem?_cons_succ, List.getElem?_cons_zero] <;> rfl) | rfl) (fun K hK => ?_) ?_
              · skip
                obtain ⟨v7, vh4, hr, ho, hg, hat⟩ := run_list8 39 39 47 _ 2 24 infoEn Try.underlying39 rfl (by decide) (by decide) wv.heap.size _ (0 + j) ([] ++ (L.take j).flatMap enC) HO.out _ 1 1 ([.string s, .int .i64 n]) HR6.out (by intro u hu; simp at hu; rcases hu with rfl | rfl <;> rfl) (by omega) HBv.out.size
                have HBn := Lib.hid (HBv.out.grown hg HBv.out.size (fun g e => (HO.out.lt g e).1))
                refine op_append (.tmp 26) (.tmp 28) 39 rfl _ _ _ vh4 rfl rfl hr ?_
                refine hK.out _ _ (HmkS.out _ HBn.out) (fun hHeld4 => ?_)
                clear hK K
                try have HR6 := Lib.hid (rd_grow HR6.out hg HNe.out)
                try have HNe := Lib.hid (ne_next HNe.out hat HG6.out)
                try have HG6 := Lib.hid (Nat.lt_of_lt_of_le HG6.out hg.size)
                have HO := Lib.hid ho
                have HBv := HBn
                clear hr ho hg hat HBn hHeld3
                try simp only [Act.put, List.setIfInBounds_toArray, List.set_cons_zero, List.set_cons_succ]
                refine wpAnyH_ready (rs := [11]) (by kernel_rfl) (by simp) ?_
                refine AllReadyH.cons (by first | (simp only [List.getElem?_toArray, List.getElem?_cons_succ, List.getElem?_cons_zero] <;> rfl) | rfl) (fun K hK => ?_) ?_
                · skip
                  obtain ⟨v11, vh5, hr, ho, hg, hat⟩ := run_list8 39 39 47 _ 2 24 infoEn Try.underlying39 rfl (by decide) (by decide) wv.heap.size _ (0 + j + 1) ([] ++ (L.take j).flatMap enC ++ [.string s, .int .i64 n]) HO.out (some (a.add (j * 2))) (N - j) (c1 - j) ((L.drop j).flatMap enC) (by have := rd_dr (HR.out.below HBv.out) hj; rwa [drop_en] at this) (en_one _) (by omega) HBv.out.size
                  have HBn := Lib.hid (HBv.out.grown hg HBv.out.size (fun g e => (HO.out.lt g e).1))
                  refine op_append (.tmp 29) (.tmp 32) 39 rfl _ _ _ vh5 rfl rfl hr ?_
                  refine hK.out _ _ (HmkS.out _ HBn.out) (fun hHeld5 => ?_)
                  clear hK K
                  try have HR6 := Lib.hid (rd_grow HR6.out hg HNe.out)
                  try have HNe := Lib.hid (ne_next HNe.out hat HG6.out)
                  try have HG6 := Lib.hid (Nat.lt_of_lt_of_le HG6.out hg.size)
                  have HO := Lib.hid ho
                  have HBv := HBn
                  clear hr ho hg hat HBn hHeld4
                  try simp only [Act.put, List.setIfInBounds_toArray, List.set_cons_zero, List.set_cons_succ]
                  refine wpAnyH_take (i := 12) (v := ?_) (by first | (simp only [List.getElem?_toArray, List.getElem?_cons_succ, List.getElem?_cons_zero] <;> rfl) | rfl) (by kernel_rfl) (by kernel_rfl) (by kernel_rfl) (by exact fun _ _ _ h => h) (Or.inl ⟨by rfl, ?_⟩) hHeld5 ?_
                  rotate_left 1
                  · intro w hSw
                    try dsimp only at hSw
                    (go_simp) <;> (with_reducible rfl)
                  try simp only [Act.put, List.setIfInBounds_toArray, List.set_cons_zero, List.set_cons_succ]
                  refine wpAnyH_done (by kernel_rfl) ?_ _
                  rename World => w12
                  clear hHeld5
                  go_wp2_with fail
                  go_ret
                  refine ⟨v11, rfl, ?_, HCv.out.trans (HBv.out.mono HCv.out.size)⟩
                  have ho := own_monoR HO.out HCv.out.size
                  rw [HFin.out, HLen.out]
                  rw [show 0 + j + 1 + (N - j) = N + 1 from by omega] at ho
                  exact HFl.out ▸ ho
                exact AllReadyH.nil
              exact AllReadyH.nil
            exact AllReadyH.nil
          exact AllReadyH.nil
        exact AllReadyH.nil
set_option maxRecDepth 100000 in
set_option maxHeartbeats 4000000 in
theorem insert_none {w : World} (s : ByteArray) (n : Nat) :
    Calls Try.prog 44 #[.slice none 0 0, .agg #[.string s, .int .i64 n]] w (InsP w [(s.data.toList, n)]) := by
  go_enter Try.func44, Try.ntmps44
  go_wp2
  have hB : Bk (w.alloc (.cells #[.string s, .int .i64 n] 47)) w.heap.size 47 [.string s, .int .i64 n] := Bk.new w _ _ rfl
  have hbb := oneb w (.cells #[.string s, .int .i64 n] 47)
  generalize World.alloc w _ = w1 at hB hbb ⊢
  generalize hg : w.heap.size = g at hB ⊢
  have HBk := Lib.hid hB
  have HC := Lib.hid hbb
  clear hB hbb hg
  go_loopw [5] (fun i wx => i = .int .i64 0 ∧ Hid (Below w.heap.size w wx) ∧ Hid (Bk wx g 47 [.string s, .int .i64 n])) (fun i _ => 0)
  case atStart => exact ⟨rfl, HC.out, HBk.out⟩
  case round =>
    clear HC HBk
    obtain ⟨rfl, HC, HBk⟩ := hrel
    go_wp2
    go_quiet (fail)
    go_wp2
    generalize hwv : World.drewN _ _ = wv
    have HCv := Lib.hid (show Below w.heap.size w wv from hwv ▸ below_drewN HC.out _)
    have HBk := Lib.hid (show Bk wv g 47 [.string s, .int .i64 n] from hwv ▸ HBk.out.drewN _)
    clear hwv
    have HmkS := Lib.hid (fun (W : World) (hb : Below wv.heap.size wv W) => (⟨(HBk.out.kept hb).cell 0 rfl, (HBk.out.kept hb).cell 1 rfl⟩ : W.cell? ⟨g, 0, none⟩ = some (.string s) ∧ W.cell? ⟨g, 1, none⟩ = some (.int .i64 n)))
    have HBv := Lib.hid (Below.refl wv.heap.size wv).drew
    refine wp_region_held_drew (S := (fun W => W.cell? ⟨g, 0, none⟩ = some (.string s) ∧ W.cell? ⟨g, 1, none⟩ = some (.int .i64 n))) (by kernel_rfl) ?_ (fun hHeld0 => ?_)
    · exact HmkS.out _ (Below.refl _ _).drew
    generalize World.drew wv = vh0 at hHeld0 HBv ⊢
    refine wpAnyH_take (i := 1) (v := ?_) (by first | (simp only [List.getElem?_toArray, List.getElem?_cons_succ, List.getElem?_cons_zero] <;> rfl) | rfl) (by kernel_rfl) (by kernel_rfl) (by kernel_rfl) (by exact fun _ _ _ h => h) (Or.inl ⟨by rfl, ?_⟩) hHeld0 ?_
    rotate_left 1
    · intro w hSw
      try dsimp only at hSw
      (go_simp) <;> (with_reducible rfl)
    try simp only [Act.put, List.setIfInBounds_toArray, List.set_cons_zero, List.set_cons_succ]
    refine wpAnyH_take (i := 2) (v := ?_) (by first | (simp only [List.getElem?_toArray, List.getElem?_cons_succ, List.getElem?_cons_zero] <;> rfl) | rfl) (by kernel_rfl) (by kernel_rfl) (by kernel_rfl) (by exact fun _ _ _ h => h) (Or.inl ⟨by rfl, ?_⟩) hHeld0 ?_
    rotate_left 1
    · intro w hSw
      try dsimp only at hSw
      (go_simp) <;> (with_reducible rfl)
    try simp only [Act.put, List.setIfInBounds_toArray, List.set_cons_zero, List.set_cons_succ]
    refine wpAnyH_take (i := 3) (v := ?_) (by first | (simp only [List.getElem?_toArray, List.getElem?_cons_succ, List.getElem?_cons_zero] <;> rfl) | rfl) (by kernel_rfl) (by kernel_rfl) (by kernel_rfl) (by exact fun _ _ _ h => h) (Or.inl ⟨by rfl, ?_⟩) hHeld0 ?_
    rotate_left 1
    · intro w hSw
      try dsimp only at hSw
      (go_simp) <;> (with_reducible rfl)
    try simp only [Act.put, List.setIfInBounds_toArray, List.set_cons_zero, List.set_cons_succ]
    refine wpAnyH_take (i := 5) (v := ?_) (by first | (simp only [List.getElem?_toArray, List.getElem?_cons_succ, List.getElem?_cons_zero] <;> rfl) | rfl) (by kernel_rfl) (by kernel_rfl) (by kernel_rfl) (by exact fun _ _ _ h => h) (Or.inl ⟨by rfl, ?_⟩) hHeld0 ?_
    rotate_left 1
    · intro w hSw
      try dsimp only at hSw
      (go_simp) <;> (with_reducible rfl)
    try simp only [Act.put, List.setIfInBounds_toArray, List.set_cons_zero, List.set_cons_succ]
    refine wpAnyH_take (i := 8) (v := ?_) (by first | (simp only [List.getElem?_toArray, List.getElem?_cons_succ, List.getElem?_cons_zero] <;> rfl) | rfl) (by kernel_rfl) (by kernel_rfl) (by kernel_rfl) (by exact fun _ _ _ h => h) (Or.inl ⟨by rfl, ?_⟩) hHeld0 ?_
    rotate_left 1
    · intro w hSw
      try dsimp only at hSw
      (go_simp) <;> (with_reducible rfl)
    try simp only [Act.put, List.setIfInBounds_toArray, List.set_cons_zero, List.set_cons_succ]
    refine wpAnyH_take (i := 9) (v := ?_) (by first | (simp only [List.getElem?_toArray, List.getElem?_cons_succ, List.getElem?_cons_zero] <;> rfl) | rfl) (by kernel_rfl) (by kernel_rfl) (by kernel_rfl) (by exact fun _ _ _ h => h) (Or.inl ⟨by rfl, ?_⟩) hHeld0 ?_
    rotate_left 1
    · intro w hSw
      try dsimp only at hSw
      (go_simp) <;> (with_reducible rfl)
    try simp only [Act.put, List.setIfInBounds_toArray, List.set_cons_zero, List.set_cons_succ]
    refine wpAnyH_take (i := 10) (v := ?_) (by first | (simp only [List.getElem?_toArray, List.getElem?_cons_succ, List.getElem?_cons_zero] <;> rfl) | rfl) (by kernel_rfl) (by kernel_rfl) (by kernel_rfl) (by exact fun _ _ _ h => h) (Or.inl ⟨by rfl, ?_⟩) hHeld0 ?_
    rotate_left 1
    · intro w hSw
      try dsimp only at hSw
      (go_simp) <;> (with_reducible rfl)
    try simp only [Act.put, List.setIfInBounds_toArray, List.set_cons_zero, List.set_cons_succ]
    refine wpAnyH_ready (rs := [0, 6]) (by kernel_rfl) (by simp) ?_
    refine AllReadyH.cons (by first | (simp only [List.getElem?_toArray, List.getElem?_cons_zero] <;> rfl) | rfl) (fun K hK => ?_) ?_
    · go_simp
      obtain ⟨vh1, hvw, hBn, hbb, ho⟩ := arm0 HBv.out
      rw [← hvw]
      refine hK.out _ _ (HmkS.out _ hBn) (fun hHeld1 => ?_)
      clear hK K hvw
      have HO := Lib.hid ho
      try have HNe := Lib.hid (ne_hi HG6.out)
      try have HR6 := Lib.hid (HR6.out.below hbb)
      try have HG6 := Lib.hid (Nat.lt_of_lt_of_le HG6.out hbb.size)
      have HBv := Lib.hid hBn
      clear ho hBn hbb hHeld0
      try simp only [Act.put, List.setIfInBounds_toArray, List.set_cons_zero, List.set_cons_succ]
      refine wpAnyH_ready (rs := [4, 6]) (by kernel_rfl) (by simp) ?_
      refine AllReadyH.cons (by first | (simp only [List.getElem?_toArray, List.getElem?_cons_succ, List.getElem?_cons_zero] <;> rfl) | rfl) (fun K hK => ?_) ?_
      · skip
        obtain ⟨v4, vh2, hr, ho, hg, hat⟩ := run_list8 39 39 47 _ 2 24 infoEn Try.underlying39 rfl (by decide) (by decide) wv.heap.size _ 0 ([]) HO.out none 0 0 ([]) (Rd.nil _ _ _) (by intro u hu; cases hu) (by omega) HBv.out.size
        have HBn := Lib.hid (HBv.out.grown hg HBv.out.size (fun g e => (HO.out.lt g e).1))
        refine op_append (.tmp 22) (.tmp 25) 39 rfl _ _ _ vh2 rfl rfl hr ?_
        refine hK.out _ _ (HmkS.out _ HBn.out) (fun hHeld2 => ?_)
        clear hK K
        try have HR6 := Lib.hid (rd_grow HR6.out hg HNe.out)
        try have HNe := Lib.hid (ne_next HNe.out hat HG6.out)
        try have HG6 := Lib.hid (Nat.lt_of_lt_of_le HG6.out hg.size)
        have HO := Lib.hid ho
        have HBv := HBn
        clear hr ho hg hat HBn hHeld1
        try simp only [Act.put, List.setIfInBounds_toArray, List.set_cons_zero, List.set_cons_succ]
        refine wpAnyH_ready (rs := [6]) (by kernel_rfl) (by simp) ?_
        refine AllReadyH.cons (by first | (simp only [List.getElem?_toArray, List.getElem?_cons_succ, List.getElem?_cons_zero] <;> rfl) | rfl) (fun K hK => ?_) ?_
        · go_simp
          obtain ⟨vh3, hvw, hBn, hbb, hr6, hg6⟩ := arm6 HBv.out s n
          rw [← hvw]
          refine hK.out _ _ (HmkS.out _ hBn) (fun hHeld3 => ?_)
          clear hK K hvw
          have HR6 := Lib.hid hr6
          have HG6 := Lib.hid hg6
          try have HNe := Lib.hid (fun b e => Nat.ne_of_lt (HO.out.lt b e).2)
          try have HO := Lib.hid (own_same HO.out (fun b e => hbb.block b (HO.out.lt b e).2))
          have HBv := Lib.hid hBn
          clear hr6 hg6 hBn hbb hHeld2
          try simp only [Act.put, List.setIfInBounds_toArray, List.set_cons_zero, List.set_cons_succ]
          refine wpAnyH_ready (rs := [7]) (by kernel_rfl) (by simp) ?_
          refine AllReadyH.cons (by first | (simp only [List.getElem?_toArray, List.getElem?_cons_succ, List.getElem?_cons_zero] <;> rfl) | rfl) (fun K hK => ?_) ?_
          · skip
            obtain ⟨v7, vh4, hr, ho, hg, hat⟩ := run_list8 39 39 47 _ 2 24 infoEn Try.underlying39 rfl (by decide) (by decide) wv.heap.size _ (0 + 0) ([] ++ []) HO.out _ 1 1 ([.string s, .int .i64 n]) HR6.out (by intro u hu; simp at hu; rcases hu with rfl | rfl <;> rfl) (by omega) HBv.out.size
            have HBn := Lib.hid (HBv.out.grown hg HBv.out.size (fun g e => (HO.out.lt g e).1))
            refine op_append (.tmp 26) (.tmp 28) 39 rfl _ _ _ vh4 rfl rfl hr ?_
            refine hK.out _ _ (HmkS.out _ HBn.out) (fun hHeld4 => ?_)
            clear hK K
            try have HR6 := Lib.hid (rd_grow HR6.out hg HNe.out)
            try have HNe := Lib.hid (ne_next HNe.out hat HG6.out)
            try have HG6 := Lib.hid (Nat.lt_of_lt_of_le HG6.out hg.size)
            have HO := Lib.hid ho
            have HBv := HBn
            clear hr ho hg hat HBn hHeld3
            try simp only [Act.put, List.setIfInBounds_toArray, List.set_cons_zero, List.set_cons_succ]
            refine wpAnyH_ready (rs := [11]) (by kernel_rfl) (by simp) ?_
            refine AllReadyH.cons (by first | (simp only [List.getElem?_toArray, List.getElem?_cons_succ, List.getElem?_cons_zero] <;> rfl) | rfl) (fun K hK => ?_) ?_
            · skip
              obtain ⟨v11, vh5, hr, ho, hg, hat⟩ := run_list8 39 39 47 _ 2 24 infoEn Try.underlying39 rfl (by decide) (by decide) wv.heap.size _ (0 + 0 + 1) ([] ++ [] ++ [.string s, .int .i64 n]) HO.out none 0 0 ([]) (Rd.nil _ _ _) (by intro u hu; cases hu) (by omega) HBv.out.size
              have HBn := Lib.hid (HBv.out.grown hg HBv.out.size (fun g e => (HO.out.lt g e).1))
              refine op_append (.tmp 29) (.tmp 32) 39 rfl _ _ _ vh5 rfl rfl hr ?_
              refine hK.out _ _ (HmkS.out _ HBn.out) (fun hHeld5 => ?_)
              clear hK K
              try have HR6 := Lib.hid (rd_grow HR6.out hg HNe.out)
              try have HNe := Lib.hid (ne_next HNe.out hat HG6.out)
              try have HG6 := Lib.hid (Nat.lt_of_lt_of_le HG6.out hg.size)
              have HO := Lib.hid ho
              have HBv := HBn
              clear hr ho hg hat HBn hHeld4
              try simp only [Act.put, List.setIfInBounds_toArray, List.set_cons_zero, List.set_cons_succ]
              refine wpAnyH_take (i := 12) (v := ?_) (by first | (simp only [List.getElem?_toArray, List.getElem?_cons_succ, List.getElem?_cons_zero] <;> rfl) | rfl) (by kernel_rfl) (by kernel_rfl) (by kernel_rfl) (by exact fun _ _ _ h => h) (Or.inl ⟨by rfl, ?_⟩) hHeld5 ?_
              rotate_left 1
              · intro w hSw
                try dsimp only at hSw
                (go_simp) <;> (with_reducible rfl)
              try simp only [Act.put, List.setIfInBounds_toArray, List.set_cons_zero, List.set_cons_succ]
              refine wpAnyH_done (by kernel_rfl) ?_ _
              rename World => w12
              clear hHeld5
              go_wp2_with fail
              go_ret
              exact ⟨v11, rfl, own_monoR HO.out HCv.out.size, HCv.out.trans (HBv.out.mono HCv.out.size)⟩
            exact AllReadyH.nil
          exact AllReadyH.nil
        exact AllReadyH.nil
      refine AllReadyH.cons (by first | (simp only [List.getElem?_toArray, List.getElem?_cons_succ, List.getElem?_cons_zero] <;> rfl) | rfl) (fun K hK => ?_) ?_
      · go_simp
        obtain ⟨vh2, hvw, hBn, hbb, hr6, hg6⟩ := arm6 HBv.out s n
        rw [← hvw]
        refine hK.out _ _ (HmkS.out _ hBn) (fun hHeld2 => ?_)
        clear hK K hvw
        have HR6 := Lib.hid hr6
        have HG6 := Lib.hid hg6
        try have HNe := Lib.hid (fun b e => Nat.ne_of_lt (HO.out.lt b e).2)
        try have HO := Lib.hid (own_same HO.out (fun b e => hbb.block b (HO.out.lt b e).2))
        have HBv := Lib.hid hBn
        clear hr6 hg6 hBn hbb hHeld1
        try simp only [Act.put, List.setIfInBounds_toArray, List.set_cons_zero, List.set_cons_succ]
        refine wpAnyH_ready (rs := [4]) (by kernel_rfl) (by simp) ?_
        refine AllReadyH.cons (by first | (simp only [List.getElem?_toArray, List.getElem?_cons_succ, List.getElem?_cons_zero] <;> rfl) | rfl) (fun K hK => ?_) ?_
        · skip
          obtain ⟨v4, vh3, hr, ho, hg, hat⟩ := run_list8 39 39 47 _ 2 24 infoEn Try.underlying39 rfl (by decide) (by decide) wv.heap.size _ 0 ([]) HO.out none 0 0 ([]) (Rd.nil _ _ _) (by intro u hu; cases hu) (by omega) HBv.out.size
          have HBn := Lib.hid (HBv.out.grown hg HBv.out.size (fun g e => (HO.out.lt g e).1))
          refine op_append (.tmp 22) (.tmp 25) 39 rfl _ _ _ vh3 rfl rfl hr ?_
          refine hK.out _ _ (HmkS.out _ HBn.out) (fun hHeld3 => ?_)
          clear hK K
          try have HR6 := Lib.hid (rd_grow HR6.out hg HNe.out)
          try have HNe := Lib.hid (ne_next HNe.out hat HG6.out)
          try have HG6 := Lib.hid (Nat.lt_of_lt_of_le HG6.out hg.size)
          have HO := Lib.hid ho
          have HBv := HBn
          clear hr ho hg hat HBn hHeld2
          try simp only [Act.put, List.setIfInBounds_toArray, List.set_cons_zero, List.set_cons_succ]
          refine wpAnyH_ready (rs := [7]) (by kernel_rfl) (by simp) ?_
          refine AllReadyH.cons (by first | (simp only [List.getElem?_toArray, List.getElem?_cons_succ, List.getElem?_cons_zero] <;> rfl) | rfl) (fun K hK => ?_) ?_
          · skip
            obtain ⟨v7, vh4, hr, ho, hg, hat⟩ := run_list8 39 39 47 _ 2 24 infoEn Try.underlying39 rfl (by decide) (by decide) wv.heap.size _ (0 + 0) ([] ++ []) HO.out _ 1 1 ([.string s, .int .i64 n]) HR6.out (by intro u hu; simp at hu; rcases hu with rfl | rfl <;> rfl) (by omega) HBv.out.size
            have HBn := Lib.hid (HBv.out.grown hg HBv.out.size (fun g e => (HO.out.lt g e).1))
            refine op_append (.tmp 26) (.tmp 28) 39 rfl _ _ _ vh4 rfl rfl hr ?_
            refine hK.out _ _ (HmkS.out _ HBn.out) (fun hHeld4 => ?_)
            clear hK K
            try have HR6 := Lib.hid (rd_grow HR6.out hg HNe.out)
            try have HNe := Lib.hid (ne_next HNe.out hat HG6.out)
            try have HG6 := Lib.hid (Nat.lt_of_lt_of_le HG6.out hg.size)
            have HO := Lib.hid ho
            have HBv := HBn
            clear hr ho hg hat HBn hHeld3
            try simp only [Act.put, List.setIfInBounds_toArray, List.set_cons_zero, List.set_cons_succ]
            refine wpAnyH_ready (rs := [11]) (by kernel_rfl) (by simp) ?_
            refine AllReadyH.cons (by first | (simp only [List.getElem?_toArray, List.getElem?_cons_succ, List.getElem?_cons_zero] <;> rfl) | rfl) (fun K hK => ?_) ?_
            · skip
              obtain ⟨v11, vh5, hr, ho, hg, hat⟩ := run_list8 39 39 47 _ 2 24 infoEn Try.underlying39 rfl (by decide) (by decide) wv.heap.size _ (0 + 0 + 1) ([] ++ [] ++ [.string s, .int .i64 n]) HO.out none 0 0 ([]) (Rd.nil _ _ _) (by intro u hu; cases hu) (by omega) HBv.out.size
              have HBn := Lib.hid (HBv.out.grown hg HBv.out.size (fun g e => (HO.out.lt g e).1))
              refine op_append (.tmp 29) (.tmp 32) 39 rfl _ _ _ vh5 rfl rfl hr ?_
              refine hK.out _ _ (HmkS.out _ HBn.out) (fun hHeld5 => ?_)
              clear hK K
              try have HR6 := Lib.hid (rd_grow HR6.out hg HNe.out)
              try have HNe := Lib.hid (ne_next HNe.out hat HG6.out)
              try have HG6 := Lib.hid (Nat.lt_of_lt_of_le HG6.out hg.size)
              have HO := Lib.hid ho
              have HBv := HBn
              clear hr ho hg hat HBn hHeld4
              try simp only [Act.put, List.setIfInBounds_toArray, List.set_cons_zero, List.set_cons_succ]
              refine wpAnyH_take (i := 12) (v := ?_) (by first | (simp only [List.getElem?_toArray, List.getElem?_cons_succ, List.getElem?_cons_zero] <;> rfl) | rfl) (by kernel_rfl) (by kernel_rfl) (by kernel_rfl) (by exact fun _ _ _ h => h) (Or.inl ⟨by rfl, ?_⟩) hHeld5 ?_
              rotate_left 1
              · intro w hSw
                try dsimp only at hSw
                (go_simp) <;> (with_reducible rfl)
              try simp only [Act.put, List.setIfInBounds_toArray, List.set_cons_zero, List.set_cons_succ]
              refine wpAnyH_done (by kernel_rfl) ?_ _
              rename World => w12
              clear hHeld5
              go_wp2_with fail
              go_ret
              exact ⟨v11, rfl, own_monoR HO.out HCv.out.size, HCv.out.trans (HBv.out.mono HCv.out.size)⟩
            exact AllReadyH.nil
          exact AllReadyH.nil
        exact AllReadyH.nil
      exact AllReadyH.nil
    refine AllReadyH.cons (by first | (simp only [List.getElem?_toArray, List.getElem?_cons_succ, List.getElem?_cons_zero] <;> rfl) | rfl) (fun K hK => ?_) ?_
    · go_simp
      obtain ⟨vh1, hvw, hBn, hbb, hr6, hg6⟩ := arm6 HBv.out s n
      rw [← hvw]
      refine hK.out _ _ (HmkS.out _ hBn) (fun hHeld1 => ?_)
      clear hK K hvw
      have HR6 := Lib.hid hr6
      have HG6 := Lib.hid hg6
      try have HNe := Lib.hid (fun b e => Nat.ne_of_lt (HO.out.lt b e).2)
      try have HO := Lib.hid (own_same HO.out (fun b e => hbb.block b (HO.out.lt b e).2))
      have HBv := Lib.hid hBn
      clear hr6 hg6 hBn hbb hHeld0
      try simp only [Act.put, List.setIfInBounds_toArray, List.set_cons_zero, List.set_cons_succ]
      refine wpAnyH_ready (rs := [0]) (by kernel_rfl) (by simp) ?_
      refine AllReadyH.cons (by first | (simp only [List.getElem?_toArray, List.getElem?_cons_zero] <;> rfl) | rfl) (fun K hK => ?_) ?_
      · go_simp
        obtain ⟨vh2, hvw, hBn, hbb, ho⟩ := arm0 HBv.out
        rw [← hvw]
        refine hK.out _ _ (HmkS.out _ hBn) (fun hHeld2 => ?_)
        clear hK K hvw
        have HO := Lib.hid ho
        try have HNe := Lib.hid (ne_hi HG6.out)
        try have HR6 := Lib.hid (HR6.out.below hbb)
        try have HG6 := Lib.hid (Nat.lt_of_lt_of_le HG6.out hbb.size)
        have HBv := Lib.hid hBn
        clear ho hBn hbb hHeld1
        try simp only [Act.put, List.setIfInBounds_toArray, List.set_cons_zero, List.set_cons_succ]
        refine wpAnyH_ready (rs := [4]) (by kernel_rfl) (by simp) ?_
        refine AllReadyH.cons (by first | (simp only [List.getElem?_toArray, List.getElem?_cons_succ, List.getElem?_cons_zero] <;> rfl) | rfl) (fun K hK => ?_) ?_
        · skip
          obtain ⟨v4, vh3, hr, ho, hg, hat⟩ := run_list8 39 39 47 _ 2 24 infoEn Try.underlying39 rfl (by decide) (by decide) wv.heap.size _ 0 ([]) HO.out none 0 0 ([]) (Rd.nil _ _ _) (by intro u hu; cases hu) (by omega) HBv.out.size
          have HBn := Lib.hid (HBv.out.grown hg HBv.out.size (fun g e => (HO.out.lt g e).1))
          refine op_append (.tmp 22) (.tmp 25) 39 rfl _ _ _ vh3 rfl rfl hr ?_
          refine hK.out _ _ (HmkS.out _ HBn.out) (fun hHeld3 => ?_)
          clear hK K
          try have HR6 := Lib.hid (rd_grow HR6.out hg HNe.out)
          try have HNe := Lib.hid (ne_next HNe.out hat HG6.out)
          try have HG6 := Lib.hid (Nat.lt_of_lt_of_le HG6.out hg.size)
          have HO := Lib.hid ho
          have HBv := HBn
          clear hr ho hg hat HBn hHeld2
          try simp only [Act.put, List.setIfInBounds_toArray, List.set_cons_zero, List.set_cons_succ]
          refine wpAnyH_ready (rs := [7]) (by kernel_rfl) (by simp) ?_
          refine AllReadyH.cons (by first | (simp only [List.getElem?_toArray, List.getElem?_cons_succ, List.getElem?_cons_zero] <;> rfl) | rfl) (fun K hK => ?_) ?_
          · skip
            obtain ⟨v7, vh4, hr, ho, hg, hat⟩ := run_list8 39 39 47 _ 2 24 infoEn Try.underlying39 rfl (by decide) (by decide) wv.heap.size _ (0 + 0) ([] ++ []) HO.out _ 1 1 ([.string s, .int .i64 n]) HR6.out (by intro u hu; simp at hu; rcases hu with rfl | rfl <;> rfl) (by omega) HBv.out.size
            have HBn := Lib.hid (HBv.out.grown hg HBv.out.size (fun g e => (HO.out.lt g e).1))
            refine op_append (.tmp 26) (.tmp 28) 39 rfl _ _ _ vh4 rfl rfl hr ?_
            refine hK.out _ _ (HmkS.out _ HBn.out) (fun hHeld4 => ?_)
            clear hK K
            try have HR6 := Lib.hid (rd_grow HR6.out hg HNe.out)
            try have HNe := Lib.hid (ne_next HNe.out hat HG6.out)
            try have HG6 := Lib.hid (Nat.lt_of_lt_of_le HG6.out hg.size)
            have HO := Lib.hid ho
            have HBv := HBn
            clear hr ho hg hat HBn hHeld3
            try simp only [Act.put, List.setIfInBounds_toArray, List.set_cons_zero, List.set_cons_succ]
            refine wpAnyH_ready (rs := [11]) (by kernel_rfl) (by simp) ?_
            refine AllReadyH.cons (by first | (simp only [List.getElem?_toArray, List.getElem?_cons_succ, List.getElem?_cons_zero] <;> rfl) | rfl) (fun K hK => ?_) ?_
            · skip
              obtain ⟨v11, vh5, hr, ho, hg, hat⟩ := run_list8 39 39 47 _ 2 24 infoEn Try.underlying39 rfl (by decide) (by decide) wv.heap.size _ (0 + 0 + 1) ([] ++ [] ++ [.string s, .int .i64 n]) HO.out none 0 0 ([]) (Rd.nil _ _ _) (by intro u hu; cases hu) (by omega) HBv.out.size
              have HBn := Lib.hid (HBv.out.grown hg HBv.out.size (fun g e => (HO.out.lt g e).1))
              refine op_append (.tmp 29) (.tmp 32) 39 rfl _ _ _ vh5 rfl rfl hr ?_
              refine hK.out _ _ (HmkS.out _ HBn.out) (fun hHeld5 => ?_)
              clear hK K
              try have HR6 := Lib.hid (rd_grow HR6.out hg HNe.out)
              try have HNe := Lib.hid (ne_next HNe.out hat HG6.out)
              try have HG6 := Lib.hid (Nat.lt_of_lt_of_le HG6.out hg.size)
              have HO := Lib.hid ho
              have HBv := HBn
              clear hr ho hg hat HBn hHeld4
              try simp only [Act.put, List.setIfInBounds_toArray, List.set_cons_zero, List.set_cons_succ]
              refine wpAnyH_take (i := 12) (v := ?_) (by first | (simp only [List.getElem?_toArray, List.getElem?_cons_succ, List.getElem?_cons_zero] <;> rfl) | rfl) (by kernel_rfl) (by kernel_rfl) (by kernel_rfl) (by exact fun _ _ _ h => h) (Or.inl ⟨by rfl, ?_⟩) hHeld5 ?_
              rotate_left 1
              · intro w hSw
                try dsimp only at hSw
                (go_simp) <;> (with_reducible rfl)
              try simp only [Act.put, List.setIfInBounds_toArray, List.set_cons_zero, List.set_cons_succ]
              refine wpAnyH_done (by kernel_rfl) ?_ _
              rename World => w12
              clear hHeld5
              go_wp2_with fail
              go_ret
              exact ⟨v11, rfl, own_monoR HO.out HCv.out.size, HCv.out.trans (HBv.out.mono HCv.out.size)⟩
            exact AllReadyH.nil
          exact AllReadyH.nil
        exact AllReadyH.nil
      exact AllReadyH.nil
    exact AllReadyH.nil
theorem insert_any {w : World} {lv : Value} {L : Es} (hE : ERd w lv L) (hL : L.length ≤ 1000) (s : ByteArray) (n : Nat) (hn : lk s.data.toList L = none) :
    Calls Try.prog 44 #[lv, .agg #[.string s, .int .i64 n]] w (InsP w (insE (s.data.toList, n) L)) := by
  obtain ⟨A1, c1, rfl, h1, h2, h3⟩ := hE
  cases A1 with
  | some a => exact insert_some h3.rd rfl h1 hL s n hn
  | none =>
    have hc := h2 rfl
    subst hc
    have hL0 : L = [] := List.length_eq_zero_iff.1 (by omega)
    subst hL0
    exact insert_none s n
end Go.Proofs.Ytdlglllidolggaa.In
