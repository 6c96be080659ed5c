/- A policy's text: the walk. -/
import Derived.Test.YtinofjbnfmalkaaGreatDoorTxR
import Derived.Test.YtinofjbnfmalkaaGreatDoorGw
namespace Go.Proofs.YtinofjbnfmalkaaGreatDoor.Tx
open Go.RowKit Go.WideElems Pa
def lnH (nm : Bs) (d : Nat) : List Bs := [[112, 111, 108, 105, 99, 121, 32] ++ nm, [100, 101, 102, 97, 117, 108, 116, 32] ++ actT d]
def handT (h : Nat) : Bs := [104, 97, 110, 100, 108, 101, 32] ++ Rt.textL h
def pathT (x : Bs × Nat) : Bs := [98, 101, 110, 101, 97, 116, 104, 32] ++ x.1 ++ [32] ++ Rt.textL x.2
def portT (x : Nat × Nat) : Bs := [112, 111, 114, 116, 32] ++ Lib.decDigits x.1 ++ [32] ++ Rt.textL x.2
def linesP (p : PolM) : List Bs := lnH p.name p.dflt ++ (p.rules.map ruT ++ ((if p.handled = 0 then [] else [handT p.handled]) ++ (p.paths.map pathT ++ p.ports.map portT)))
theorem line_two (a b : Wd3) : lineT [a, b] = a.2.1 ++ 32 :: b.2.1 := by rw [lineT_cons]; simp [txs, jt_cons, jt_nil]
theorem line_three (a b c : Wd3) : lineT [a, b, c] = a.2.1 ++ 32 :: (b.2.1 ++ 32 :: c.2.1) := by rw [lineT_cons]; simp [txs, jt_cons, jt_nil]
theorem linesP_eq (p : PolM) : linesP p = (polWs p).map lineT := by
 have e1 : (hdWs p.name p.dflt).map lineT = lnH p.name p.dflt := by
  unfold hdWs lnH
  simp only [List.map_cons, List.map_nil, line_two]
  rw [lineT_cons, jt_line (actWs_ne _), ← actT_eq]; rfl
 have e2 : ((p.rules.map Itm.rule).map Itm.ws).map lineT = p.rules.map ruT := by
  rw [List.map_map, List.map_map]; exact List.map_congr_left fun r _ => (ruT_eq r).symm
 have e3 : ((if p.handled = 0 then [] else [Itm.hand p.handled]).map Itm.ws).map lineT = if p.handled = 0 then [] else [handT p.handled] := by
  split
  ·rfl
  ·simp only [List.map_cons, List.map_nil, Itm.ws, handWs, line_two]; rfl
 have e4 : ((p.paths.map Itm.path).map Itm.ws).map lineT = p.paths.map pathT := by
  rw [List.map_map, List.map_map]
  refine List.map_congr_left fun x _ => ?_
  show lineT (pathWs x) = pathT x
  unfold pathWs pathT; rw [line_three]; simp [nmT, ptT, beneathW]
 have e5 : ((p.ports.map Itm.port).map Itm.ws).map lineT = p.ports.map portT := by
  rw [List.map_map, List.map_map]
  refine List.map_congr_left fun x _ => ?_
  show lineT (portWs x) = portT x
  unfold portWs portT; rw [line_three]; simp [nmT, numT, portW]
 unfold linesP polWs polIs
 rw [List.map_append, e1, List.map_append, List.map_append, List.map_append, List.map_append, List.map_append, List.map_append, e2, e3, e4, e5]
theorem linesP_ne (p : PolM) : linesP p ≠ [] := by unfold linesP lnH; simp
theorem text_join (p : PolM) : Lib.join (linesP p) [10] ++ [10] = textP p := by
 rw [linesP_eq, txt_lines _ (by unfold polWs hdWs; simp)]; rfl
theorem infoStrT : (Tryz.prog.info? 9).map (fun i => (i.zero, i.size, i.bytes)) = some (some (.string ByteArray.empty), 1, 16) := by kernel_rfl
theorem str_app (a b : Bs) : (⟨a.toArray⟩ : ByteArray) ++ ⟨b.toArray⟩ = ⟨(a ++ b).toArray⟩ := by
 have : ∀ (x y : ByteArray), x.data.toList = y.data.toList → x = y := fun ⟨⟨x⟩⟩ ⟨⟨y⟩⟩ h => by simp only at h; rw [h]
 exact this _ _ (by simp)
theorem own_new (w : World) (T : TypeId) (a : Array Value) {l : List Value} {n : Nat} (hl : a.toList = l) (hn : a.size = n) (h100 : n ≤ 100) : (w.alloc (.cells a T)).ownsRow w.heap.size T 1 (.slice (some ⟨w.heap.size, 0, none⟩) n n) n l := by
 subst hl hn
 exact ⟨by simp, .inr ⟨w.heap.size, a.size, a, rfl, Nat.le_refl _, heap_alloc_new w _, Nat.le_refl _, by unfold maxLen; omega, by simp, by rw [Nat.mul_one]; exact List.take_of_length_le (by simp)⟩⟩
structure LT (w W : World) (tb m : Nat) (cs : List Value) (v : Value) (l : List Bs) : Prop where
 ts : TS W tb m
 gr : w.grownBy W (some tb)
 bk : Bk W w.heap.size 35 cs
 row : W.ownsRow (w.heap.size + 1) 9 1 v l.length (strs l)
theorem LT.below {w W W' : World} {tb m : Nat} {cs : List Value} {v : Value} {l : List Bs} (h : LT w W tb m cs v l) (hb : Below W.heap.size W W') : LT w W' tb m cs v l := ⟨h.ts.kept hb, grow_below h.gr hb, h.bk.kept hb, own_keepN h.row hb⟩
theorem LT.asked {w W W' : World} {tb m m' : Nat} {cs : List Value} {v : Value} {l : List Bs} (h : LT w W tb m cs v l) (hts : TS W' tb m') (hg : W.grownBy W' (some tb)) (htl : tb < w.heap.size) : LT w W' tb m' cs v l :=
 ⟨hts, grown_trans h.gr hg (fun k hk => by cases hk; exact .inl rfl), h.bk.grown hg (by intro e; have := Option.some.inj e; omega), own_keep h.row hg (fun b hb => by have := (h.row.lt b hb).1; omega)⟩
theorem LT.start {w W : World} {tb m : Nat} {cs : List Value} {v v0 : Value} {l l0 : List Bs} (h : LT w W tb m cs v0 l0) (ho : W.ownsRow (w.heap.size + 1) 9 1 v l.length (strs l)) : LT w W tb m cs v l := ⟨h.ts, h.gr, h.bk, ho⟩
theorem LT.app {w W W' : World} {tb m : Nat} {cs : List Value} {v v' : Value} {l : List Bs} {s : Bs} {o : Obj} (h : LT w W tb m cs v l) (ho : W'.ownsRow (w.heap.size + 1) 9 1 v' (l.length + 1) (strs l ++ [.string ⟨s.toArray⟩])) (hg : (W.alloc o).grownBy W' v.ownBlock) : LT w W' tb m cs v' (l ++ [s]) := by
 have ha := h.below (oneb W o)
 obtain ⟨_, _, _, _, _, hty, _⟩ := own_typed ha.row
 refine ⟨TS.app ha.ts hg hty (by decide), ?_, ha.bk.appendedB hg (fun b hb => (ha.row.lt b hb).1) (by omega), ?_⟩
 ·exact grown_trans ha.gr hg (fun k hk => .inr (by have := (ha.row.lt k hk).1; omega))
 ·rw [List.length_append, show strs (l ++ [s]) = strs l ++ [.string ⟨s.toArray⟩] by simp [strs]]; exact ho
theorem str_run {W : World} {v : Value} {l : List Bs} {B : Nat} (h : W.ownsRow B 9 1 v l.length (strs l)) (s : ByteArray) (hl : l.length ≤ 1000) (hB : B ≤ W.heap.size) :
  ∃ v' w', (Builtin.append_ #[60, 60] 60 #[v, .slice (some ⟨W.heap.size, 0, none⟩) 1 1]).run Tryz.prog (W.alloc (.cells #[.string s] 9)) = .ok v' w' ∧ w'.ownsRow B 9 1 v' (l.length + 1) (strs l ++ [.string s]) ∧ (W.alloc (.cells #[.string s] 9)).grownBy w' v.ownBlock ∧ (v'.ownBlock = v.ownBlock ∨ v'.ownBlock = some (W.heap.size + 1)) := by
 obtain ⟨i0, hi, hz0, hz1, hz2⟩ := info_parts infoStrT
 have hk := own_keepN h (oneb W (.cells #[.string s] 9))
 obtain ⟨v', wb, hr, ho, hg, _, hat⟩ := run_append_own_at (P := Tryz.prog) (W.alloc (.cells #[.string s] 9)) B 60 60 9 i0 (.string ByteArray.empty) 1 16 Tryz.underlying60 hi hz0 hz1 hz2 rfl (by decide) v l.length (strs l) hk ⟨W.heap.size, 0, none⟩ 1 1 [.string s] rfl
  (fun j u hu => by rw [addr_at, Nat.zero_add]; exact (Bk.new W 9 #[.string s] (l := [.string s]) rfl).cell j hu) (by intro u hu; simp at hu; subst hu; rfl) (by unfold maxLen; omega) (by omega) (by simp; omega)
 exact ⟨v', wb, hr, ho, hg, by simpa using hat⟩
theorem ba_ext {s : ByteArray} {l : Bs} (h : s.data.toList = l) : s = ⟨l.toArray⟩ := by
 obtain ⟨⟨d⟩⟩ := s
 simp only at h
 rw [h]
theorem LT.text {w W : World} {tb m m' : Nat} {cs : List Value} {v : Value} {l l' : List Bs} (h : LT w W tb m cs v l) (e : l = l') (em : m = m') : LT w W tb m' cs v l' := by subst e em; exact h
theorem two_cellsT {α : Type} {f : α → List Value} {w : World} {b o k : Nat} {l : List α} {x : α} {v0 v1 : Value} (hc : ∀ k x, l[k]? = some x → ∀ j v, (f x)[j]? = some v → w.cell? ⟨b, o + (k * 2 + j), none⟩ = some v) (h : l[k]? = some x) (hv : f x = [v0, v1]) :
  w.cell? ⟨b, o + k * 2, none⟩ = some v0 ∧ w.cell? ⟨b, o + k * 2 + 1, none⟩ = some v1 :=
 ⟨by have := hc k x h 0 v0 (by rw [hv]; rfl); simpa using this, by have := hc k x h 1 v1 (by rw [hv]; rfl); simpa [Nat.add_assoc] using this⟩
set_option maxHeartbeats 32000000 in
set_option maxRecDepth 100000 in
theorem polText_any (nm : Bs) (dflt : Nat) (rules : List RuleV) (RA : Option Addr) (nR Rc hd : Nat) (paths : List (Bs × Nat)) (PA : Option Addr) (nP Pc : Nat) (ports : List (Nat × Nat)) (QA : Option Addr) (nQ Qc tb m : Nat) (w : World)
  (hnR : rules.length = nR) (hnP : paths.length = nP) (hnQ : ports.length = nQ) (hg : Gd ⟨nm, dflt, rules.map RuleV.m, hd, paths, ports⟩) (ho : PolM.ok ⟨nm, dflt, rules.map RuleV.m, hd, paths, ports⟩)
  (hR : Reads w ⟨nm, dflt, rules, RA, Rc, hd, paths, PA, Pc, ports, QA, Qc⟩) (hO : OffP ⟨nm, dflt, rules, RA, Rc, hd, paths, PA, Pc, ports, QA, Qc⟩ tb) (hT : TS w tb m) (hm : m ≤ 800000000) (hE : E2 w) :
  Calls Tryz.prog 13 #[.agg #[.string ⟨nm.toArray⟩, .int .u32 dflt, .slice RA nR Rc, .int .u16 hd, .slice PA nP Pc, .slice QA nQ Qc], .pointer (some ⟨tb, 0, none⟩)] w (TxtP (textP ⟨nm, dflt, rules.map RuleV.m, hd, paths, ports⟩) tb (m + nR) w) := by
 have hlR : nR ≤ 64 := by have := hg.lim.r; simp only [List.length_map] at this; omega
 have hlP : nP ≤ 32 := by have := hg.lim.p; simp only at this; omega
 have hlQ : nQ ≤ 32 := by have := hg.lim.q; simp only at this; omega
 have hln : nm.length ≤ 14 := (name_ok hg.name).2.1
 have hd32 : dflt < 4294967296 := ho.dflt
 have hdd : hd < 65536 := ho.handled
 have hla := actT_len dflt
 have hlh := text144 hd
 have HPa := Lib.hid (show ∀ x ∈ paths, x.1.length ≤ 120 ∧ x.2 < 65536 from fun x hx => by
  obtain ⟨i, hi⟩ := List.getElem?_of_mem hx
  exact ⟨pathB_len (hg.paths i x hi).1, (ho.path x hx).2⟩)
 have HPo := Lib.hid (show ∀ x ∈ ports, x.1 < 65536 ∧ x.2 < 65536 from fun x hx => ho.port x hx)
 have HZ := Lib.hid (show ∀ r ∈ rules, ruleE r.m = 0 ∧ r.m.ok from fun r hr => ⟨hg.rules _ (List.mem_map_of_mem hr), ho.each _ (List.mem_map_of_mem hr)⟩)
 have HJ := Lib.hid (text_join ⟨nm, dflt, rules.map RuleV.m, hd, paths, ports⟩)
 have HJl := Lib.hid (Nat.le_trans (txt_wt _) (pol_wt hg ho))
 have htl := hT.lt
 have hE := Lib.hid (fun W (h : w.grownBy W (some tb)) => hE.asked hT h)
 have HRd := Lib.hid (fun W (h : w.grownBy W (some tb)) => hR.grown hO h)
 have HOf := Lib.hid hO.conds
 have HnR := Lib.hid hnR
 have HnP := Lib.hid hnP
 have HnQ := Lib.hid hnQ
 have hk1 := Bk.new w 35 #[.string ⟨nm.toArray⟩, .int .u32 dflt, .slice RA nR Rc, .int .u16 hd, .slice PA nP Pc, .slice QA nQ Qc] (l := [.string ⟨nm.toArray⟩, .int .u32 dflt, .slice RA nR Rc, .int .u16 hd, .slice PA nP Pc, .slice QA nQ Qc]) rfl
 have hb1 := oneb w (.cells #[.string ⟨nm.toArray⟩, .int .u32 dflt, .slice RA nR Rc, .int .u16 hd, .slice PA nP Pc, .slice QA nQ Qc] 35)
 have HT := Lib.hid (show LT w (w.alloc (.cells #[.string ⟨nm.toArray⟩, .int .u32 dflt, .slice RA nR Rc, .int .u16 hd, .slice PA nP Pc, .slice QA nQ Qc] 35)) tb m [.string ⟨nm.toArray⟩, .int .u32 dflt, .slice RA nR Rc, .int .u16 hd, .slice PA nP Pc, .slice QA nQ Qc] (.slice none 0 0) [] from ⟨hT.kept hb1, gb tb hb1, hk1, World.ownsRow_nil _ _ _ _⟩)
 clear hk1 hb1 hT hR hO hnR hnP hnQ hg ho
 go_enter Tryz.func13, Tryz.ntmps13
 go_upto_region 1 with fail
 generalize World.alloc w _ = w2 at HT ⊢
 have HT := Lib.hid (HT.out.below (Below.refl w2.heap.size w2).drew)
 have s1 : ¬ 9223372036854775807 < 7 + nm.length := by omega
 have s2 : ¬ 9223372036854775807 < 8 + (actT dflt).length := by omega
 refine wp_region_held_drew (S := (fun w' => w'.cell? ⟨w.heap.size, 0, none⟩ = some (.string ⟨nm.toArray⟩) ∧ w'.cell? ⟨w.heap.size, 1, none⟩ = some (.int .u32 dflt))) (by kernel_rfl) ?_ (fun hHeld0 => ?_)
 ·exact ⟨HT.out.bk.cell 0 rfl, HT.out.bk.cell 1 rfl⟩
 generalize w2.drew = vh0 at hHeld0 HT ⊢
 refine wpAnyH_take (i := 0) (v := ?_) (by first | (simp only [List.getElem?_toArray, List.getElem?_cons_zero] <;> rfl) | rfl) (by kernel_rfl) (by kernel_rfl) (by kernel_rfl) (by exact fun _ _ _ h => h) (Or.inl ⟨by rfl, ?_⟩) hHeld0 ?_
 rotate_left 1
 ·intro w hSw
  try dsimp only at hSw
  (go_simp) <;> (with_reducible rfl)
 try simp only [Act.put, List.setIfInBounds_toArray, List.set_cons_zero, List.set_cons_succ]
 refine wpAnyH_take (i := 1) (v := ?_) (by first | (simp only [List.getElem?_toArray, List.getElem?_cons_succ, List.getElem?_cons_zero] <;> rfl) | rfl) (by kernel_rfl) (by kernel_rfl) (by kernel_rfl) (by exact fun _ _ _ h => h) (Or.inl ⟨by rfl, ?_⟩) hHeld0 ?_
 rotate_left 1
 ·intro w hSw
  try dsimp only at hSw
  (go_simp) <;> (with_reducible rfl)
 try simp only [Act.put, List.setIfInBounds_toArray, List.set_cons_zero, List.set_cons_succ]
 refine wpAnyH_take (i := 2) (v := ?_) (by first | (simp only [List.getElem?_toArray, List.getElem?_cons_succ, List.getElem?_cons_zero] <;> rfl) | rfl) (by kernel_rfl) (by kernel_rfl) (by kernel_rfl) (by exact fun _ _ _ h => h) (Or.inl ⟨by rfl, ?_⟩) hHeld0 ?_
 rotate_left 1
 ·intro w hSw
  try dsimp only at hSw
  (go_simp) <;> (with_reducible rfl)
 try simp only [Act.put, List.setIfInBounds_toArray, List.set_cons_zero, List.set_cons_succ]
 refine wpAnyH_take (i := 3) (v := ?_) (by first | (simp only [List.getElem?_toArray, List.getElem?_cons_succ, List.getElem?_cons_zero] <;> rfl) | rfl) (by kernel_rfl) (by kernel_rfl) (by kernel_rfl) (by exact fun _ _ _ h => h) (Or.inl ⟨by rfl, ?_⟩) hHeld0 ?_
 rotate_left 1
 ·intro w hSw
  try dsimp only at hSw
  (go_simp) <;> (with_reducible rfl)
 try simp only [Act.put, List.setIfInBounds_toArray, List.set_cons_zero, List.set_cons_succ]
 refine wpAnyH_take (i := 4) (v := ?_) (by first | (simp only [List.getElem?_toArray, List.getElem?_cons_succ, List.getElem?_cons_zero] <;> rfl) | rfl) (by kernel_rfl) (by kernel_rfl) (by kernel_rfl) (by exact fun _ _ _ h => h) (Or.inl ⟨by rfl, ?_⟩) hHeld0 ?_
 rotate_left 1
 ·intro w hSw
  try dsimp only at hSw
  (go_simp) <;> (with_reducible rfl)
 try simp only [Act.put, List.setIfInBounds_toArray, List.set_cons_zero, List.set_cons_succ]
 refine wpAnyH_ready (rs := [5]) (by kernel_rfl) (by simp) ?_
 refine AllReadyH.cons (by first | (simp only [List.getElem?_toArray, List.getElem?_cons_succ, List.getElem?_cons_zero] <;> rfl) | rfl) (fun K hK => ?_) ?_
 ·go_simp
  refine (actionText_any dflt _ hd32 (hE.out _ HT.out.gr)).mono ?_
  rintro e vh1 ⟨rfl, hbb⟩
  have HT := Lib.hid (HT.out.below hbb)
  refine hK.out _ _ ?_ (fun hHeld1 => ?_)
  ·exact ⟨cell_below hHeld0.1 hbb, cell_below hHeld0.2 hbb⟩
  clear hK K
  clear hbb hHeld0
  try simp only [Act.put, List.setIfInBounds_toArray, List.set_cons_zero, List.set_cons_succ]
  refine wpAnyH_take (i := 6) (v := ?_) (by first | (simp only [List.getElem?_toArray, List.getElem?_cons_succ, List.getElem?_cons_zero] <;> rfl) | rfl) (by kernel_rfl) (by kernel_rfl) (by kernel_rfl) (by exact fun _ _ _ h => h) (Or.inl ⟨by rfl, ?_⟩) hHeld1 ?_
  rotate_left 1
  ·intro w hSw
   try dsimp only at hSw
   (go_simp) <;> (with_reducible rfl)
  try simp only [Act.put, List.setIfInBounds_toArray, List.set_cons_zero, List.set_cons_succ]
  refine wpAnyH_ready (rs := [7]) (by kernel_rfl) (by simp) ?_
  refine AllReadyH.cons (by first | (simp only [List.getElem?_toArray, List.getElem?_cons_succ, List.getElem?_cons_zero] <;> rfl) | rfl) (fun K hK => ?_) ?_
  ·go_simp
   refine hK.out _ _ ?_ (fun hHeld2 => ?_)
   ·exact ⟨cell_below hHeld1.1 (oneb _ _), cell_below hHeld1.2 (oneb _ _)⟩
   clear hK K
   have hbb := oneb vh1 (.cells #[.string (⟨#[112, 111, 108, 105, 99, 121, 32]⟩ ++ ⟨nm.toArray⟩), .string (⟨#[100, 101, 102, 97, 117, 108, 116, 32]⟩ ++ ⟨(actT dflt).toArray⟩)] 9)
   have how := own_new vh1 9 #[.string (⟨#[112, 111, 108, 105, 99, 121, 32]⟩ ++ ⟨nm.toArray⟩), .string (⟨#[100, 101, 102, 97, 117, 108, 116, 32]⟩ ++ ⟨(actT dflt).toArray⟩)] (l := strs (lnH nm dflt)) (n := 2) (by simp [strs, lnH, str_app]) rfl (by omega)
   generalize World.alloc vh1 _ = vh2 at hbb how hHeld2 ⊢
   have HT := Lib.hid ((HT.out.below hbb).start (own_baseP how (by have := HT.out.bk.lt; omega)))
   generalize vh1.heap.size = gl at HT ⊢
   clear hbb how hHeld1
   try simp only [Act.put, List.setIfInBounds_toArray, List.set_cons_zero, List.set_cons_succ]
   refine wpAnyH_take (i := 8) (v := ?_) (by first | (simp only [List.getElem?_toArray, List.getElem?_cons_succ, List.getElem?_cons_zero] <;> rfl) | rfl) (by kernel_rfl) (by kernel_rfl) (by kernel_rfl) (by exact fun _ _ _ h => h) (Or.inl ⟨by rfl, ?_⟩) hHeld2 ?_
   rotate_left 1
   ·intro w hSw
    try dsimp only at hSw
    (go_simp) <;> (with_reducible rfl)
   try simp only [Act.put, List.setIfInBounds_toArray, List.set_cons_zero, List.set_cons_succ]
   refine wpAnyH_done (by kernel_rfl) ?_ _
   rename World => w3
   clear hHeld2 s1 s2
   have q2 := HT.out.bk.cell 2 rfl
   have ql := HT.out.bk.lt
   go_wp2_with fail
   clear q2 ql
   go_loopw [5, 23] (fun v iv wr => ∃ j : Nat, iv = .int .i64 j ∧ j ≤ nR ∧ Hid (LT w wr tb (m + j) [.string ⟨nm.toArray⟩, .int .u32 dflt, .slice RA nR Rc, .int .u16 hd, .slice PA nP Pc, .slice QA nQ Qc] v (lnH nm dflt ++ (rules.take j).map fun r => ruT r.m))) (fun _ iv _ => nR - (intOf iv).toNat)
   case atStart => exact ⟨0, rfl, Nat.zero_le _, Lib.hid (HT.out.text (by simp) rfl)⟩
   case round =>
    obtain ⟨j, rfl, hj, HTj⟩ := hrel
    clear HT
    have HT := HTj
    clear HTj
    by_cases hjn : j < nR
    ·obtain ⟨r, hr⟩ : ∃ r, rules[j]? = some r := ⟨_, List.getElem?_eq_getElem (by have := HnR.out; omega)⟩
     have hmem := List.mem_of_getElem? hr
     have hrds := HRd.out _ HT.out.gr
     have hrd := hrds.rules
     simp only [HnR.out] at hrd
     obtain ⟨b, oo, hA, hbl, hcell⟩ := hrd.one (fun _ => rfl) (by omega) (by omega)
     obtain ⟨c0, c1, c2⟩ := rule_cells hcell hr
     obtain ⟨hz, hok⟩ := HZ.out r hmem
     have hof := HOf.out r hmem
     have HSn := Lib.hid (show ((rules.take (j + 1)).map fun r => ruT r.m) = ((rules.take j).map fun r => ruT r.m) ++ [ruT r.m] by rw [List.take_add_one, hr, List.map_append]; rfl)
     have hcd := hrds.conds r hmem
     subst hA
     clear hcell hr hrd hrds hmem
     obtain ⟨⟨num, act, cs⟩, A9, c9⟩ := r
     simp only at c0 c1 c2 hz hok hof hcd HSn
     obtain ⟨nc, hnc⟩ : ∃ n, cs.length = n := ⟨_, rfl⟩
     rw [hnc] at c2 hof hcd
     have HRu := Lib.hid (fun W (h : w.grownBy W (some tb)) ht hcd => ruleText_any num act cs A9 nc c9 tb (m + j) W hz hok hnc hcd hof ht (by omega) (hE.out W h))
     have hlen : (lnH nm dflt ++ (rules.take j).map fun r => ruT r.m).length ≤ 1000 := by rw [List.length_append, List.length_map, List.length_take]; show 2 + _ ≤ _; omega
     go_upto_region 5 with fail
     have hbx := oneb wr (.cells #[.int .u32 num, .int .u32 act, .slice A9 nc c9] 70)
     have hkx := Bk.new wr 70 #[.int .u32 num, .int .u32 act, .slice A9 nc c9] (l := [.int .u32 num, .int .u32 act, .slice A9 nc c9]) rfl
     clear c0 c1 c2 hz hok hof hnc
     generalize World.alloc wr _ = wa at hbx hkx ⊢
     have HT := Lib.hid (HT.out.below hbx)
     have HCd := Lib.hid (hcd.below hbx)
     have k0 := hkx.cell 0 rfl
     have k1 := hkx.cell 1 rfl
     have k2 := hkx.cell 2 rfl
     have kl := hkx.lt
     clear hbx hkx hcd
     go_wp2_with fail
     refine (HRu.out _ HT.out.gr HT.out.ts HCd.out).mono ?_
     clear HRu k0 k1 k2 kl HCd
     rintro e wb ⟨rfl, hts, hgg⟩
     have HT := Lib.hid (HT.out.asked hts hgg htl)
     clear hts hgg
     go_wp2_with (at_builtin; go_loud (refine append_one rfl (.tmp 27) (.tmp 31) 60 9 rfl (.string ByteArray.empty) 1 16 infoStrT Tryz.underlying60 rfl (by decide) (by decide) (w.heap.size + 1) _ (lnH nm dflt ++ (rules.take j).map fun r => ruT r.m).length (strs (lnH nm dflt ++ (rules.take j).map fun r => ruT r.m)) rfl (own_keepN HT.out.row (oneb wb _)) wb.heap.size [.string ⟨(ruT ⟨num, act, cs⟩).toArray⟩] rfl rfl (Bk.new wb _ _ rfl) (by intro u hu; simp at hu; subst hu; rfl) (by omega) (by have := HT.out.bk.lt; simp; omega) ?_); intro v' w8 hown' hgrow hat; have HT := Lib.hid (HT.out.app hown' hgrow); clear hown' hgrow hat)
     have HT := Lib.hid (HT.out.text (l' := lnH nm dflt ++ (rules.take (j + 1)).map fun r => ruT r.m) (m' := m + (j + 1)) (by rw [HSn.out, List.append_assoc]) (by omega))
     go_wp2_with fail
     go_roundw
     case rel => exact ⟨j + 1, by go_num, by omega, HT⟩
     case measure => simp [intOf]; omega
    ·obtain ⟨l1, hl1⟩ : ∃ l, l = lnH nm dflt ++ (rules.map RuleV.m).map ruT := ⟨_, rfl⟩
     have HT := Lib.hid (HT.out.text (l' := l1) (m' := m + nR) (by rw [hl1, List.take_of_length_le (by rw [HnR.out]; omega), List.map_map]; rfl) (by omega))
     have hll1 : l1.length ≤ 100 := by rw [hl1, List.length_append, List.length_map, List.length_map, HnR.out]; show 2 + _ ≤ _; omega
     have Hl1 := Lib.hid hl1
     clear hl1
     obtain ⟨l2, hl2⟩ : ∃ l, l = l1 ++ (if hd = 0 then [] else [handT hd]) := ⟨_, rfl⟩
     have hll2 : l2.length ≤ 101 := by rw [hl2, List.length_append]; split <;> simp <;> omega
     have Hl2 := Lib.hid hl2
     clear hl2
     have q3 := HT.out.bk.cell 3 rfl
     have ql := HT.out.bk.lt
     obtain ⟨bz, hbz⟩ : ∃ b, ((hd : Int) != 0) = b := ⟨_, rfl⟩
     go_upto_if 36 with fail
     have Hbz := Lib.hid hbz
     clear hbz
     go_cut [5] from 37 to 43 (fun v wx => Hid (LT w wx tb (m + nR) [.string ⟨nm.toArray⟩, .int .u32 dflt, .slice RA nR Rc, .int .u16 hd, .slice PA nP Pc, .slice QA nQ Qc] v l2))
     case first =>
      cases bz with
      | false =>
       have h0 : hd = 0 := by have := Hbz.out; rw [bne_eq_false_iff_eq] at this; omega
       have HT := Lib.hid (HT.out.text (l' := l2) (by rw [Hl2.out, if_pos h0, List.append_nil]) rfl)
       clear h0
       go_wp2_with fail
       go_meet
       case rel => exact HT
      | true =>
       have h0 : ¬ hd = 0 := by have := Hbz.out; rw [bne_iff_ne] at this; omega
       have HSe := Lib.hid (show ((⟨#[104, 97, 110, 100, 108, 101, 32]⟩ ++ ⟨(Rt.textL hd).toArray⟩ : ByteArray)) = ⟨(handT hd).toArray⟩ from ba_ext (by simp [handT]))
       have H0 := Lib.hid h0
       clear h0
       go_wp2_with fail
       refine (Rt.text_any hd _ hdd (hE.out _ HT.out.gr).g.nm).mono ?_
       clear q3 ql
       rintro e wb ⟨rfl, hbb⟩
       have HT := Lib.hid (HT.out.below hbb)
       clear hbb
       go_wp2_with (at_builtin; go_loud (refine append_one rfl (.tmp 37) (.tmp 42) 60 9 rfl (.string ByteArray.empty) 1 16 infoStrT Tryz.underlying60 rfl (by decide) (by decide) (w.heap.size + 1) _ l1.length (strs l1) rfl (own_keepN HT.out.row (oneb wb _)) wb.heap.size [.string (⟨#[104, 97, 110, 100, 108, 101, 32]⟩ ++ ⟨(Rt.textL hd).toArray⟩)] rfl rfl (Bk.new wb _ _ rfl) (by intro u hu; simp at hu; subst hu; rfl) (by omega) (by have := HT.out.bk.lt; simp; omega) ?_); intro v' w8 hown' hgrow hat; rw [HSe.out] at hown'; have HT := Lib.hid (HT.out.app hown' hgrow); clear hown' hgrow hat)
       have HT := Lib.hid (HT.out.text (l' := l2) (by rw [Hl2.out, if_neg H0.out]) rfl)
       go_wp2_with fail
       go_meet
       case rel => exact HT
     case rest =>
      rename World => w5
      clear HT q3 ql
      have HT := hcut
      clear hcut
      have q4 := HT.out.bk.cell 4 rfl
      have ql := HT.out.bk.lt
      go_wp2_with fail
      clear q4 ql
      go_loopw [5, 47] (fun v iv wr => ∃ j : Nat, iv = .int .i64 j ∧ j ≤ nP ∧ Hid (LT w wr tb (m + nR) [.string ⟨nm.toArray⟩, .int .u32 dflt, .slice RA nR Rc, .int .u16 hd, .slice PA nP Pc, .slice QA nQ Qc] v (l2 ++ (paths.take j).map pathT))) (fun _ iv _ => nP - (intOf iv).toNat)
      case atStart => exact ⟨0, rfl, Nat.zero_le _, Lib.hid (HT.out.text (by simp) rfl)⟩
      case round =>
       obtain ⟨j, rfl, hj, HTj⟩ := hrel
       clear HT
       have HT := HTj
       clear HTj
       by_cases hjn : j < nP
       ·obtain ⟨⟨x1, x2⟩, hx⟩ : ∃ x, paths[j]? = some x := ⟨_, List.getElem?_eq_getElem (by have := HnP.out; omega)⟩
        have hx1 := (HPa.out (x1, x2) (List.mem_of_getElem? hx)).1
        have hx2 := (HPa.out (x1, x2) (List.mem_of_getElem? hx)).2
        simp only at hx1 hx2
        have hrd := (HRd.out _ HT.out.gr).paths
        simp only [HnP.out] at hrd
        obtain ⟨b, oo, hA, hbl, hcell⟩ := hrd.one (fun _ => rfl) (by omega) (by omega)
        obtain ⟨c0, c1⟩ := two_cellsT (f := pathC) hcell hx rfl
        have HSn := Lib.hid (show (paths.take (j + 1)).map pathT = (paths.take j).map pathT ++ [pathT (x1, x2)] by rw [List.take_add_one, hx, List.map_append]; rfl)
        have HSe := Lib.hid (show (((⟨#[98, 101, 110, 101, 97, 116, 104, 32]⟩ ++ ⟨x1.toArray⟩) ++ ⟨#[32]⟩) ++ ⟨(Rt.textL x2).toArray⟩ : ByteArray) = ⟨(pathT (x1, x2)).toArray⟩ from ba_ext (by simp [pathT]))
        have hlen : (l2 ++ (paths.take j).map pathT).length ≤ 1000 := by rw [List.length_append, List.length_map, List.length_take]; omega
        have lt144 := text144 x2
        have s1 : ¬ 9223372036854775807 < 8 + x1.length := by omega
        have s2 : ¬ 9223372036854775807 < 8 + x1.length + 1 := by omega
        have s3 : ¬ 9223372036854775807 < 8 + x1.length + 1 + (Rt.textL x2).length := by omega
        subst hA
        clear hcell hx hrd
        go_upto_region 12 with fail
        have hbx := oneb wr (.cells #[.string ⟨x1.toArray⟩, .int .u16 x2] 72)
        have hkx := Bk.new wr 72 #[.string ⟨x1.toArray⟩, .int .u16 x2] (l := [.string ⟨x1.toArray⟩, .int .u16 x2]) rfl
        clear c0 c1
        generalize World.alloc wr _ = wa at hbx hkx ⊢
        generalize wr.heap.size = g9 at hkx ⊢
        have HT := Lib.hid (HT.out.below (hbx.trans ((Below.refl wa.heap.size wa).drew.mono hbx.size)))
        have HK9 := Lib.hid (hkx.kept (Below.refl wa.heap.size wa).drew)
        clear hbx hkx
        refine wp_region_held_drew (S := (fun w' => w'.cell? ⟨g9, 0, none⟩ = some (.string ⟨x1.toArray⟩) ∧ w'.cell? ⟨g9, 1, none⟩ = some (.int .u16 x2))) (by kernel_rfl) ?_ (fun hHeld0 => ?_)
        ·exact ⟨HK9.out.cell 0 rfl, HK9.out.cell 1 rfl⟩
        generalize wa.drew = vh0 at hHeld0 HT HK9 ⊢
        refine wpAnyH_take (i := 0) (v := ?_) (by first | (simp only [List.getElem?_toArray, List.getElem?_cons_zero] <;> rfl) | rfl) (by kernel_rfl) (by kernel_rfl) (by kernel_rfl) (by exact fun _ _ _ h => h) (Or.inl ⟨by rfl, ?_⟩) hHeld0 ?_
        rotate_left 1
        ·intro w hSw
         try dsimp only at hSw
         (go_simp) <;> (with_reducible rfl)
        try simp only [Act.put, List.setIfInBounds_toArray, List.set_cons_zero, List.set_cons_succ]
        refine wpAnyH_take (i := 1) (v := ?_) (by first | (simp only [List.getElem?_toArray, List.getElem?_cons_succ, List.getElem?_cons_zero] <;> rfl) | rfl) (by kernel_rfl) (by kernel_rfl) (by kernel_rfl) (by exact fun _ _ _ h => h) (Or.inl ⟨by rfl, ?_⟩) hHeld0 ?_
        rotate_left 1
        ·intro w hSw
         try dsimp only at hSw
         (go_simp) <;> (with_reducible rfl)
        try simp only [Act.put, List.setIfInBounds_toArray, List.set_cons_zero, List.set_cons_succ]
        refine wpAnyH_take (i := 2) (v := ?_) (by first | (simp only [List.getElem?_toArray, List.getElem?_cons_succ, List.getElem?_cons_zero] <;> rfl) | rfl) (by kernel_rfl) (by kernel_rfl) (by kernel_rfl) (by exact fun _ _ _ h => h) (Or.inl ⟨by rfl, ?_⟩) hHeld0 ?_
        rotate_left 1
        ·intro w hSw
         try dsimp only at hSw
         (go_simp) <;> (with_reducible rfl)
        try simp only [Act.put, List.setIfInBounds_toArray, List.set_cons_zero, List.set_cons_succ]
        refine wpAnyH_take (i := 3) (v := ?_) (by first | (simp only [List.getElem?_toArray, List.getElem?_cons_succ, List.getElem?_cons_zero] <;> rfl) | rfl) (by kernel_rfl) (by kernel_rfl) (by kernel_rfl) (by exact fun _ _ _ h => h) (Or.inl ⟨by rfl, ?_⟩) hHeld0 ?_
        rotate_left 1
        ·intro w hSw
         try dsimp only at hSw
         (go_simp) <;> (with_reducible rfl)
        try simp only [Act.put, List.setIfInBounds_toArray, List.set_cons_zero, List.set_cons_succ]
        refine wpAnyH_take (i := 4) (v := ?_) (by first | (simp only [List.getElem?_toArray, List.getElem?_cons_succ, List.getElem?_cons_zero] <;> rfl) | rfl) (by kernel_rfl) (by kernel_rfl) (by kernel_rfl) (by exact fun _ _ _ h => h) (Or.inl ⟨by rfl, ?_⟩) hHeld0 ?_
        rotate_left 1
        ·intro w hSw
         try dsimp only at hSw
         (go_simp) <;> (with_reducible rfl)
        try simp only [Act.put, List.setIfInBounds_toArray, List.set_cons_zero, List.set_cons_succ]
        refine wpAnyH_take (i := 5) (v := ?_) (by first | (simp only [List.getElem?_toArray, List.getElem?_cons_succ, List.getElem?_cons_zero] <;> rfl) | rfl) (by kernel_rfl) (by kernel_rfl) (by kernel_rfl) (by exact fun _ _ _ h => h) (Or.inl ⟨by rfl, ?_⟩) hHeld0 ?_
        rotate_left 1
        ·intro w hSw
         try dsimp only at hSw
         (go_simp) <;> (with_reducible rfl)
        try simp only [Act.put, List.setIfInBounds_toArray, List.set_cons_zero, List.set_cons_succ]
        refine wpAnyH_take (i := 6) (v := ?_) (by first | (simp only [List.getElem?_toArray, List.getElem?_cons_succ, List.getElem?_cons_zero] <;> rfl) | rfl) (by kernel_rfl) (by kernel_rfl) (by kernel_rfl) (by exact fun _ _ _ h => h) (Or.inl ⟨by rfl, ?_⟩) hHeld0 ?_
        rotate_left 1
        ·intro w hSw
         try dsimp only at hSw
         (go_simp) <;> (with_reducible rfl)
        try simp only [Act.put, List.setIfInBounds_toArray, List.set_cons_zero, List.set_cons_succ]
        refine wpAnyH_ready (rs := [7]) (by kernel_rfl) (by simp) ?_
        refine AllReadyH.cons (by first | (simp only [List.getElem?_toArray, List.getElem?_cons_succ, List.getElem?_cons_zero] <;> rfl) | rfl) (fun K hK => ?_) ?_
        ·go_simp
         refine (Rt.text_any x2 _ hx2 (hE.out _ HT.out.gr).g.nm).mono ?_
         rintro e vh1 ⟨rfl, hbb⟩
         have HT := Lib.hid (HT.out.below hbb)
         have HK9 := Lib.hid (HK9.out.kept hbb)
         refine hK.out _ _ ?_ (fun hHeld1 => ?_)
         ·exact ⟨HK9.out.cell 0 rfl, HK9.out.cell 1 rfl⟩
         clear hK K
         clear hbb hHeld0
         try simp only [Act.put, List.setIfInBounds_toArray, List.set_cons_zero, List.set_cons_succ]
         refine wpAnyH_take (i := 8) (v := ?_) (by first | (simp only [List.getElem?_toArray, List.getElem?_cons_succ, List.getElem?_cons_zero] <;> rfl) | rfl) (by kernel_rfl) (by kernel_rfl) (by kernel_rfl) (by exact fun _ _ _ h => h) (Or.inl ⟨by rfl, ?_⟩) hHeld1 ?_
         rotate_left 1
         ·intro w hSw
          try dsimp only at hSw
          (go_simp) <;> (with_reducible rfl)
         try simp only [Act.put, List.setIfInBounds_toArray, List.set_cons_zero, List.set_cons_succ]
         refine wpAnyH_ready (rs := [9]) (by kernel_rfl) (by simp) ?_
         refine AllReadyH.cons (by first | (simp only [List.getElem?_toArray, List.getElem?_cons_succ, List.getElem?_cons_zero] <;> rfl) | rfl) (fun K hK => ?_) ?_
         ·go_simp
          refine hK.out _ _ ?_ (fun hHeld2 => ?_)
          ·exact ⟨cell_below hHeld1.1 (oneb _ _), cell_below hHeld1.2 (oneb _ _)⟩
          clear hK K
          clear hHeld1
          try simp only [Act.put, List.setIfInBounds_toArray, List.set_cons_zero, List.set_cons_succ]
          refine wpAnyH_ready (rs := [10]) (by kernel_rfl) (by simp) ?_
          refine AllReadyH.cons (by first | (simp only [List.getElem?_toArray, List.getElem?_cons_succ, List.getElem?_cons_zero] <;> rfl) | rfl) (fun K hK => ?_) ?_
          ·skip
           rw [if_pos (by rfl)]
           obtain ⟨v', wb, hrun, ho, hg, hat⟩ := str_run HT.out.row (((⟨#[98, 101, 110, 101, 97, 116, 104, 32]⟩ ++ ⟨x1.toArray⟩) ++ ⟨#[32]⟩) ++ ⟨(Rt.textL x2).toArray⟩) hlen (by have := HT.out.bk.lt; omega)
           have hoa := own_keepN HT.out.row (oneb vh1 (.cells #[.string (((⟨#[98, 101, 110, 101, 97, 116, 104, 32]⟩ ++ ⟨x1.toArray⟩) ++ ⟨#[32]⟩) ++ ⟨(Rt.textL x2).toArray⟩)] 9))
           obtain ⟨_, _, _, _, _, hty, _⟩ := own_typed hoa
           have HK9 := Lib.hid ((HK9.out.kept (oneb vh1 (.cells #[.string (((⟨#[98, 101, 110, 101, 97, 116, 104, 32]⟩ ++ ⟨x1.toArray⟩) ++ ⟨#[32]⟩) ++ ⟨(Rt.textL x2).toArray⟩)] 9))).appended hg hty (by decide))
           rw [HSe.out] at ho
           have HT := Lib.hid (HT.out.app ho hg)
           obtain ⟨A7, c7, hv7, _⟩ := own_typed ho
           generalize hnx : List.length _ + 1 = nx at hv7
           clear hnx
           subst hv7
           refine op_append (.tmp 51) (.tmp 60) 60 rfl _ _ _ wb rfl rfl hrun ?_
           refine hK.out _ _ ?_ (fun hHeld3 => ?_)
           ·exact ⟨HK9.out.cell 0 rfl, HK9.out.cell 1 rfl⟩
           clear hK K
           clear hrun ho hg hat hoa hty hHeld2
           try simp only [Act.put, List.setIfInBounds_toArray, List.set_cons_zero, List.set_cons_succ]
           refine wpAnyH_take (i := 11) (v := ?_) (by first | (simp only [List.getElem?_toArray, List.getElem?_cons_succ, List.getElem?_cons_zero] <;> rfl) | rfl) (by kernel_rfl) (by kernel_rfl) (by kernel_rfl) (by exact fun _ _ _ h => h) (Or.inl ⟨by rfl, ?_⟩) hHeld3 ?_
           rotate_left 1
           ·intro w hSw
            try dsimp only at hSw
            (go_simp) <;> (with_reducible rfl)
           try simp only [Act.put, List.setIfInBounds_toArray, List.set_cons_zero, List.set_cons_succ]
           refine wpAnyH_done (by kernel_rfl) ?_ _
           have HT := Lib.hid (HT.out.text (l' := l2 ++ (paths.take (j + 1)).map pathT) (by rw [HSn.out, List.append_assoc]) rfl)
           clear hHeld3
           go_wp2_with fail
           go_roundw
           case rel => exact ⟨j + 1, by go_num, by omega, HT⟩
           case measure => simp [intOf]; omega
          exact AllReadyH.nil
         exact AllReadyH.nil
        exact AllReadyH.nil
       ·obtain ⟨l3, hl3⟩ : ∃ l, l = l2 ++ paths.map pathT := ⟨_, rfl⟩
        have HT := Lib.hid (HT.out.text (l' := l3) (by rw [hl3, List.take_of_length_le (by rw [HnP.out]; omega)]) rfl)
        have hll3 : l3.length ≤ 140 := by rw [hl3, List.length_append, List.length_map, HnP.out]; omega
        have Hl3 := Lib.hid hl3
        clear hl3
        have q5 := HT.out.bk.cell 5 rfl
        have ql := HT.out.bk.lt
        go_wp2_with fail
        clear q5 ql
        go_loopw [5, 66] (fun v iv wr => ∃ j : Nat, iv = .int .i64 j ∧ j ≤ nQ ∧ Hid (LT w wr tb (m + nR) [.string ⟨nm.toArray⟩, .int .u32 dflt, .slice RA nR Rc, .int .u16 hd, .slice PA nP Pc, .slice QA nQ Qc] v (l3 ++ (ports.take j).map portT))) (fun _ iv _ => nQ - (intOf iv).toNat)
        case atStart => exact ⟨0, rfl, Nat.zero_le _, Lib.hid (HT.out.text (by simp) rfl)⟩
        case round =>
         obtain ⟨j, rfl, hj, HTj⟩ := hrel
         clear HT
         have HT := HTj
         clear HTj
         by_cases hjn : j < nQ
         ·obtain ⟨⟨x1, x2⟩, hx⟩ : ∃ x, ports[j]? = some x := ⟨_, List.getElem?_eq_getElem (by have := HnQ.out; omega)⟩
          have hx1 := (HPo.out (x1, x2) (List.mem_of_getElem? hx)).1
          have hx2 := (HPo.out (x1, x2) (List.mem_of_getElem? hx)).2
          simp only at hx1 hx2
          have hrd := (HRd.out _ HT.out.gr).ports
          simp only [HnQ.out] at hrd
          obtain ⟨b, oo, hA, hbl, hcell⟩ := hrd.one (fun _ => rfl) (by omega) (by omega)
          obtain ⟨c0, c1⟩ := two_cellsT (f := portC) hcell hx rfl
          have HSn := Lib.hid (show (ports.take (j + 1)).map portT = (ports.take j).map portT ++ [portT (x1, x2)] by rw [List.take_add_one, hx, List.map_append]; rfl)
          have HSe := Lib.hid (show (((⟨#[112, 111, 114, 116, 32]⟩ ++ ⟨(Lib.decDigits x1).toArray⟩) ++ ⟨#[32]⟩) ++ ⟨(Rt.textL x2).toArray⟩ : ByteArray) = ⟨(portT (x1, x2)).toArray⟩ from ba_ext (by simp [portT]))
          have hlen : (l3 ++ (ports.take j).map portT).length ≤ 1000 := by rw [List.length_append, List.length_map, List.length_take]; omega
          have lt144 := text144 x2
          have hd1 : (Lib.decDigits x1).length ≤ 20 := dec20 (by omega)
          have wx : IntKind.u64.wrap (x1 : Int) = (x1 : Int) := by rw [IntKind.wrap_u64]; omega
          have s1 : ¬ 9223372036854775807 < 5 + (Lib.decDigits x1).length := by omega
          have s2 : ¬ 9223372036854775807 < 5 + (Lib.decDigits x1).length + 1 := by omega
          have s3 : ¬ 9223372036854775807 < 5 + (Lib.decDigits x1).length + 1 + (Rt.textL x2).length := by omega
          subst hA
          clear hcell hx hrd
          go_upto_region 17 with fail
          have hbx := oneb wr (.cells #[.int .u16 x1, .int .u16 x2] 97)
          have hkx := Bk.new wr 97 #[.int .u16 x1, .int .u16 x2] (l := [.int .u16 x1, .int .u16 x2]) rfl
          clear c0 c1
          generalize World.alloc wr _ = wa at hbx hkx ⊢
          generalize wr.heap.size = g9 at hkx ⊢
          have HT := Lib.hid (HT.out.below (hbx.trans ((Below.refl wa.heap.size wa).drew.mono hbx.size)))
          have HK9 := Lib.hid (hkx.kept (Below.refl wa.heap.size wa).drew)
          clear hbx hkx
          refine wp_region_held_drew (S := (fun w' => w'.cell? ⟨g9, 0, none⟩ = some (.int .u16 x1) ∧ w'.cell? ⟨g9, 1, none⟩ = some (.int .u16 x2))) (by kernel_rfl) ?_ (fun hHeld0 => ?_)
          ·exact ⟨HK9.out.cell 0 rfl, HK9.out.cell 1 rfl⟩
          generalize wa.drew = vh0 at hHeld0 HT HK9 ⊢
          refine wpAnyH_take (i := 0) (v := ?_) (by first | (simp only [List.getElem?_toArray, List.getElem?_cons_zero] <;> rfl) | rfl) (by kernel_rfl) (by kernel_rfl) (by kernel_rfl) (by exact fun _ _ _ h => h) (Or.inl ⟨by rfl, ?_⟩) hHeld0 ?_
          rotate_left 1
          ·intro w hSw
           try dsimp only at hSw
           (go_simp) <;> (with_reducible rfl)
          try simp only [Act.put, List.setIfInBounds_toArray, List.set_cons_zero, List.set_cons_succ]
          refine wpAnyH_take (i := 1) (v := ?_) (by first | (simp only [List.getElem?_toArray, List.getElem?_cons_succ, List.getElem?_cons_zero] <;> rfl) | rfl) (by kernel_rfl) (by kernel_rfl) (by kernel_rfl) (by exact fun _ _ _ h => h) (Or.inl ⟨by rfl, ?_⟩) hHeld0 ?_
          rotate_left 1
          ·intro w hSw
           try dsimp only at hSw
           (go_simp) <;> (with_reducible rfl)
          try simp only [Act.put, List.setIfInBounds_toArray, List.set_cons_zero, List.set_cons_succ]
          refine wpAnyH_take (i := 2) (v := ?_) (by first | (simp only [List.getElem?_toArray, List.getElem?_cons_succ, List.getElem?_cons_zero] <;> rfl) | rfl) (by kernel_rfl) (by kernel_rfl) (by kernel_rfl) (by exact fun _ _ _ h => h) (Or.inl ⟨by rfl, ?_⟩) hHeld0 ?_
          rotate_left 1
          ·intro w hSw
           try dsimp only at hSw
           (go_simp) <;> (with_reducible rfl)
          try simp only [Act.put, List.setIfInBounds_toArray, List.set_cons_zero, List.set_cons_succ]
          refine wpAnyH_take (i := 3) (v := ?_) (by first | (simp only [List.getElem?_toArray, List.getElem?_cons_succ, List.getElem?_cons_zero] <;> rfl) | rfl) (by kernel_rfl) (by kernel_rfl) (by kernel_rfl) (by exact fun _ _ _ h => h) (Or.inl ⟨by rfl, ?_⟩) hHeld0 ?_
          rotate_left 1
          ·intro w hSw
           try dsimp only at hSw
           (go_simp) <;> (with_reducible rfl)
          try simp only [Act.put, List.setIfInBounds_toArray, List.set_cons_zero, List.set_cons_succ]
          refine wpAnyH_take (i := 7) (v := ?_) (by first | (simp only [List.getElem?_toArray, List.getElem?_cons_succ, List.getElem?_cons_zero] <;> rfl) | rfl) (by kernel_rfl) (by kernel_rfl) (by kernel_rfl) (by exact fun _ _ _ h => h) (Or.inl ⟨by rfl, ?_⟩) hHeld0 ?_
          rotate_left 1
          ·intro w hSw
           try dsimp only at hSw
           (go_simp) <;> (with_reducible rfl)
          try simp only [Act.put, List.setIfInBounds_toArray, List.set_cons_zero, List.set_cons_succ]
          refine wpAnyH_take (i := 8) (v := ?_) (by first | (simp only [List.getElem?_toArray, List.getElem?_cons_succ, List.getElem?_cons_zero] <;> rfl) | rfl) (by kernel_rfl) (by kernel_rfl) (by kernel_rfl) (by exact fun _ _ _ h => h) (Or.inl ⟨by rfl, ?_⟩) hHeld0 ?_
          rotate_left 1
          ·intro w hSw
           try dsimp only at hSw
           (go_simp) <;> (with_reducible rfl)
          try simp only [Act.put, List.setIfInBounds_toArray, List.set_cons_zero, List.set_cons_succ]
          refine wpAnyH_ready (rs := [4]) (by kernel_rfl) (by simp) ?_
          refine AllReadyH.cons (by first | (simp only [List.getElem?_toArray, List.getElem?_cons_succ, List.getElem?_cons_zero] <;> rfl) | rfl) (fun K hK => ?_) ?_
          ·go_simp
           refine (printed_any x1 (by omega) _ (hE.out _ HT.out.gr).pow).mono ?_
           rintro e vh1 ⟨rfl, hbb⟩
           have HT := Lib.hid (HT.out.below hbb)
           have HK9 := Lib.hid (HK9.out.kept hbb)
           refine hK.out _ _ ?_ (fun hHeld1 => ?_)
           ·exact ⟨HK9.out.cell 0 rfl, HK9.out.cell 1 rfl⟩
           clear hK K
           clear hbb hHeld0
           try simp only [Act.put, List.setIfInBounds_toArray, List.set_cons_zero, List.set_cons_succ]
           refine wpAnyH_take (i := 5) (v := ?_) (by first | (simp only [List.getElem?_toArray, List.getElem?_cons_succ, List.getElem?_cons_zero] <;> rfl) | rfl) (by kernel_rfl) (by kernel_rfl) (by kernel_rfl) (by exact fun _ _ _ h => h) (Or.inl ⟨by rfl, ?_⟩) hHeld1 ?_
           rotate_left 1
           ·intro w hSw
            try dsimp only at hSw
            (go_simp) <;> (with_reducible rfl)
           try simp only [Act.put, List.setIfInBounds_toArray, List.set_cons_zero, List.set_cons_succ]
           refine wpAnyH_take (i := 6) (v := ?_) (by first | (simp only [List.getElem?_toArray, List.getElem?_cons_succ, List.getElem?_cons_zero] <;> rfl) | rfl) (by kernel_rfl) (by kernel_rfl) (by kernel_rfl) (by exact fun _ _ _ h => h) (Or.inl ⟨by rfl, ?_⟩) hHeld1 ?_
           rotate_left 1
           ·intro w hSw
            try dsimp only at hSw
            (go_simp) <;> (with_reducible rfl)
           try simp only [Act.put, List.setIfInBounds_toArray, List.set_cons_zero, List.set_cons_succ]
           refine wpAnyH_ready (rs := [9]) (by kernel_rfl) (by simp) ?_
           refine AllReadyH.cons (by first | (simp only [List.getElem?_toArray, List.getElem?_cons_succ, List.getElem?_cons_zero] <;> rfl) | rfl) (fun K hK => ?_) ?_
           ·go_simp
            refine (Rt.text_any x2 _ hx2 (hE.out _ HT.out.gr).g.nm).mono ?_
            rintro e vh2 ⟨rfl, hbb⟩
            have HT := Lib.hid (HT.out.below hbb)
            have HK9 := Lib.hid (HK9.out.kept hbb)
            refine hK.out _ _ ?_ (fun hHeld2 => ?_)
            ·exact ⟨HK9.out.cell 0 rfl, HK9.out.cell 1 rfl⟩
            clear hK K
            clear hbb hHeld1
            try simp only [Act.put, List.setIfInBounds_toArray, List.set_cons_zero, List.set_cons_succ]
            refine wpAnyH_take (i := 10) (v := ?_) (by first | (simp only [List.getElem?_toArray, List.getElem?_cons_succ, List.getElem?_cons_zero] <;> rfl) | rfl) (by kernel_rfl) (by kernel_rfl) (by kernel_rfl) (by exact fun _ _ _ h => h) (Or.inl ⟨by rfl, ?_⟩) hHeld2 ?_
            rotate_left 1
            ·intro w hSw
             try dsimp only at hSw
             (go_simp) <;> (with_reducible rfl)
            try simp only [Act.put, List.setIfInBounds_toArray, List.set_cons_zero, List.set_cons_succ]
            refine wpAnyH_ready (rs := [11]) (by kernel_rfl) (by simp) ?_
            refine AllReadyH.cons (by first | (simp only [List.getElem?_toArray, List.getElem?_cons_succ, List.getElem?_cons_zero] <;> rfl) | rfl) (fun K hK => ?_) ?_
            ·go_simp
             refine hK.out _ _ ?_ (fun hHeld3 => ?_)
             ·exact ⟨cell_below hHeld2.1 (oneb _ _), cell_below hHeld2.2 (oneb _ _)⟩
             clear hK K
             clear hHeld2
             try simp only [Act.put, List.setIfInBounds_toArray, List.set_cons_zero, List.set_cons_succ]
             refine wpAnyH_ready (rs := [12]) (by kernel_rfl) (by simp) ?_
             refine AllReadyH.cons (by first | (simp only [List.getElem?_toArray, List.getElem?_cons_succ, List.getElem?_cons_zero] <;> rfl) | rfl) (fun K hK => ?_) ?_
             ·skip
              rw [if_pos (by rfl)]
              obtain ⟨v', wb, hrun, ho, hg, hat⟩ := str_run HT.out.row (((⟨#[112, 111, 114, 116, 32]⟩ ++ ⟨(Lib.decDigits x1).toArray⟩) ++ ⟨#[32]⟩) ++ ⟨(Rt.textL x2).toArray⟩) hlen (by have := HT.out.bk.lt; omega)
              have hoa := own_keepN HT.out.row (oneb vh2 (.cells #[.string (((⟨#[112, 111, 114, 116, 32]⟩ ++ ⟨(Lib.decDigits x1).toArray⟩) ++ ⟨#[32]⟩) ++ ⟨(Rt.textL x2).toArray⟩)] 9))
              obtain ⟨_, _, _, _, _, hty, _⟩ := own_typed hoa
              have HK9 := Lib.hid ((HK9.out.kept (oneb vh2 (.cells #[.string (((⟨#[112, 111, 114, 116, 32]⟩ ++ ⟨(Lib.decDigits x1).toArray⟩) ++ ⟨#[32]⟩) ++ ⟨(Rt.textL x2).toArray⟩)] 9))).appended hg hty (by decide))
              rw [HSe.out] at ho
              have HT := Lib.hid (HT.out.app ho hg)
              obtain ⟨A7, c7, hv7, _⟩ := own_typed ho
              generalize hnx : List.length _ + 1 = nx at hv7
              clear hnx
              subst hv7
              refine op_append (.tmp 70) (.tmp 81) 60 rfl _ _ _ wb rfl rfl hrun ?_
              refine hK.out _ _ ?_ (fun hHeld4 => ?_)
              ·exact ⟨HK9.out.cell 0 rfl, HK9.out.cell 1 rfl⟩
              clear hK K
              clear hrun ho hg hat hoa hty hHeld3
              try simp only [Act.put, List.setIfInBounds_toArray, List.set_cons_zero, List.set_cons_succ]
              refine wpAnyH_take (i := 13) (v := ?_) (by first | (simp only [List.getElem?_toArray, List.getElem?_cons_succ, List.getElem?_cons_zero] <;> rfl) | rfl) (by kernel_rfl) (by kernel_rfl) (by kernel_rfl) (by exact fun _ _ _ h => h) (Or.inl ⟨by rfl, ?_⟩) hHeld4 ?_
              rotate_left 1
              ·intro w hSw
               try dsimp only at hSw
               (go_simp) <;> (with_reducible rfl)
              try simp only [Act.put, List.setIfInBounds_toArray, List.set_cons_zero, List.set_cons_succ]
              refine wpAnyH_done (by kernel_rfl) ?_ _
              have HT := Lib.hid (HT.out.text (l' := l3 ++ (ports.take (j + 1)).map portT) (by rw [HSn.out, List.append_assoc]) rfl)
              clear hHeld4
              go_wp2_with fail
              go_roundw
              case rel => exact ⟨j + 1, by go_num, by omega, HT⟩
              case measure => simp [intOf]; omega
             exact AllReadyH.nil
            exact AllReadyH.nil
           exact AllReadyH.nil
          exact AllReadyH.nil
         ·have HT := Lib.hid (HT.out.text (l' := linesP ⟨nm, dflt, rules.map RuleV.m, hd, paths, ports⟩) (by rw [List.take_of_length_le (by rw [HnQ.out]; omega), Hl3.out, Hl2.out, Hl1.out]; simp [linesP]) rfl)
          obtain ⟨L, hL⟩ : ∃ L, L = linesP ⟨nm, dflt, rules.map RuleV.m, hd, paths, ports⟩ := ⟨_, rfl⟩
          have hLn : L ≠ [] := by rw [hL]; exact linesP_ne _
          have hLl : L.length ≤ 200 := by rw [hL]; unfold linesP lnH; simp only [List.length_append, List.length_map, List.length_cons, List.length_nil]; have := HnR.out; have := HnP.out; have := HnQ.out; split <;> simp <;> omega
          rw [← hL] at HT HJ
          have hJl : (Lib.join L [10] ++ [10]).length ≤ 50000 := by rw [HJ.out]; exact HJl.out
          rw [List.length_append] at hJl
          clear hL
          obtain ⟨A9, c9, hv9, hc9, htr, _, _⟩ := own_typed HT.out.row
          subst hv9
          obtain ⟨jb, jo, hA9, hjb, hjc⟩ := htr.rd.pos (by have := List.length_pos_iff.2 hLn; omega)
          subst hA9
          have hjn := Tryz.strings_Join jb jo c9 (L.map fun s => (⟨s.toArray⟩ : ByteArray)) ⟨#[10]⟩ wr (fun k x hx => hjc k _ (by unfold strs; rw [List.getElem?_map] at hx ⊢; cases e : L[k]? with | none => rw [e] at hx; cases hx | some y => rw [e] at hx; simp at hx; subst hx; rfl)) hjb (by rw [List.length_map]; omega) (by rw [List.length_map]; omega) (by
           rw [List.map_map]
           have e : ((fun x : ByteArray => x.data.toList) ∘ fun s : Bs => (⟨s.toArray⟩ : ByteArray)) = id := by funext s; simp
           rw [e, List.map_id]
           show (Lib.join L [10]).length ≤ _
           omega)
          rw [List.length_map, List.map_map, show ((fun x : ByteArray => x.data.toList) ∘ fun s : Bs => (⟨s.toArray⟩ : ByteArray)) = id from by funext s; simp, List.map_id] at hjn
          have HJn := Lib.hid hjn
          have hJ2 : (Lib.join L [10]).length ≤ 50000 := by omega
          clear hjn hjc htr
          go_wp2_with fail
          refine HJn.out.mono ?_
          clear HJn
          rintro e wz ⟨rfl, hbz⟩
          have HT := Lib.hid (HT.out.below hbz)
          clear hbz
          go_wp2_with fail
          go_ret
          exact ⟨ret_str (by rw [← HJ.out]; simp), HT.out.ts, HT.out.gr⟩

  exact AllReadyH.nil
 exact AllReadyH.nil
end Go.Proofs.YtinofjbnfmalkaaGreatDoor.Tx
