/- Policies' texts, by lists alone: each thing's line, how long texts are; lines joined; texts made wide. -/
import Derived.Test.YtinofjbnfmalkaaGreatDoorParB
import Derived.Test.YtinofjbnfmalkaaGreatDoorGr
namespace Go.Proofs.YtinofjbnfmalkaaGreatDoor.Tx
theorem jt_app (g : Bs) (a b : List Bs) : Lib.joinTail g (a ++ b) = Lib.joinTail g a ++ Lib.joinTail g b := by
  simp [Lib.joinTail]
theorem jt_nil (g : Bs) : Lib.joinTail g [] = [] := by simp [Lib.joinTail]
def lineT (ws : List Wd3) : Bs := Lib.join (txs ws) [32]
theorem lineT_cons (w : Wd3) (ws : List Wd3) : lineT (w :: ws) = w.2.1 ++ Lib.joinTail [32] (txs ws) := by
  show Lib.join (w.2.1 :: txs ws) [32] = _
  rw [Lib.join_cons]
def condT (c : CondM) : Bs := argT c.arg.toNat ++ [32] ++ sgT.getD c.op [] ++ [32] ++ (if c.op = 7 then Lib.decDigits c.mask ++ [32, 61, 61, 32] else []) ++ Lib.decDigits c.val
def actT (a : Nat) : Bs := if Rec.strN a = 2 then [101, 114, 114, 110, 111, 32] ++ Lib.decDigits (Rec.numN a) else if Rec.strN a = 1 then logW else if Rec.strN a = 0 then allowW else killW
def condsT : Bool → List CondM → Bs
  | _, [] => []
  | b, c :: r => (if b then [32, 105, 102, 32] else [32, 97, 110, 100, 32]) ++ condT c ++ condsT false r
def ruT (r : RuleM) : Bs := [99, 97, 108, 108, 32] ++ callN r.num ++ [32] ++ actT r.act ++ condsT true r.conds
theorem condT_eq (c : CondM) : condT c = lineT (condWs c) := by
  unfold condT condWs
  rw [List.cons_append, lineT_cons]
  by_cases h : c.op = 7
  · rw [if_pos h, if_pos h]
    simp [txs, jt_cons, jt_nil, nmT, sgT1, numT, eqW]
  · rw [if_neg h, if_neg h]
    simp [txs, jt_cons, jt_nil, nmT, sgT1, numT]
theorem actT_eq (a : Nat) : actT a = lineT (actWs a) := by
  unfold actT actWs
  split
  · rw [lineT_cons]; simp [txs, jt_cons, jt_nil, nmT, numT, errnoW]
  · split
    · rw [lineT_cons]; simp [txs, jt_nil, nmT]
    · split <;> rw [lineT_cons] <;> simp [txs, jt_nil, nmT]
theorem jt_line {ws : List Wd3} (h : ws ≠ []) : Lib.joinTail [32] (txs ws) = 32 :: lineT ws := by
  cases ws with
  | nil => exact absurd rfl h
  | cons w ws => rw [lineT_cons]; show Lib.joinTail [32] (w.2.1 :: txs ws) = _; rw [jt_cons]; rfl
theorem txs_app (a b : List Wd3) : txs (a ++ b) = txs a ++ txs b := by simp [txs]
theorem condsT_eq : ∀ (cs : List CondM) (b : Bool), condsT b cs = Lib.joinTail [32] (txs (condsWs b cs))
  | [], _ => by simp [condsT, condsWs, txs, jt_nil]
  | c :: cs, b => by
    have h1 := jt_line (condWs_ne c)
    unfold condsT condsWs
    rw [condsT_eq cs false]
    show _ = Lib.joinTail [32] ((nmT (if b = true then ifW else andW)).2.1 :: txs (condWs c ++ condsWs false cs))
    rw [jt_cons, txs_app, jt_app, h1, condT_eq]
    cases b <;> simp [nmT, ifW, andW]
theorem actWs_ne (a : Nat) : actWs a ≠ [] := by unfold actWs; split <;> (try split) <;> (try split) <;> simp
theorem ruT_eq (r : RuleM) : ruT r = lineT (ruleWs r) := by
  have h1 := jt_line (actWs_ne r.act)
  unfold ruT ruleWs
  rw [lineT_cons]
  show _ = _ ++ Lib.joinTail [32] (callN r.num :: txs (actWs r.act ++ condsWs true r.conds))
  rw [jt_cons, txs_app, jt_app, h1, condsT_eq, actT_eq]
  simp [nmT, callW]
theorem join_nl : ∀ (L : List Bs), L ≠ [] → Lib.join L [10] ++ [10] = L.flatMap fun l => l ++ [10]
  | [], h => absurd rfl h
  | [a], _ => by rw [Lib.join_cons, jt_nil]; simp
  | a :: b :: L, _ => by
    have ih := join_nl (b :: L) (by simp)
    rw [Lib.join_cons] at ih ⊢
    rw [jt_cons, List.flatMap_cons, ← ih]
    simp
theorem txt_lines (WL : List (List Wd3)) (h : WL ≠ []) : Lib.join (WL.map lineT) [10] ++ [10] = txt WL := by
  rw [join_nl _ (by simpa using h), List.flatMap_map]; rfl
def wt (ws : List Wd3) : Nat := (ws.map fun w => w.2.1.length + 3).sum
theorem wt_cons (w : Wd3) (ws : List Wd3) : wt (w :: ws) = w.2.1.length + 3 + wt ws := by simp [wt]
theorem wt_nil : wt [] = 0 := rfl
theorem wt_app (a b : List Wd3) : wt (a ++ b) = wt a + wt b := by simp [wt]
theorem jt_wt {g : Bs} (hg : g.length ≤ 3) : ∀ (ws : List Wd3), (Lib.joinTail g (txs ws)).length ≤ wt ws
  | [] => by simp [txs, jt_nil]
  | w :: ws => by
    have := jt_wt hg ws
    show (Lib.joinTail g (w.2.1 :: txs ws)).length ≤ _
    rw [jt_cons, wt_cons]
    simp only [List.length_append]
    omega
theorem join_wt {g : Bs} (hg : g.length ≤ 3) (ws : List Wd3) : (Lib.join (txs ws) g).length ≤ wt ws := by
  cases ws with
  | nil => simp [txs, Lib.join_nil]
  | cons w ws =>
    have := jt_wt hg ws
    show (Lib.join (w.2.1 :: txs ws) g).length ≤ _
    rw [Lib.join_cons, wt_cons]
    simp only [List.length_append]
    omega
def wtL (WL : List (List Wd3)) : Nat := (WL.map fun ws => wt ws + 9).sum
theorem wtL_cons (ws : List Wd3) (WL : List (List Wd3)) : wtL (ws :: WL) = wt ws + 9 + wtL WL := by simp [wtL]
theorem wtL_nil : wtL [] = 0 := rfl
theorem wtL_app (a b : List (List Wd3)) : wtL (a ++ b) = wtL a + wtL b := by simp [wtL]
theorem wtL_map {α : Type} (f : α → List Wd3) (n : Nat) : ∀ (l : List α), (∀ x ∈ l, wt (f x) ≤ n) → wtL (l.map f) ≤ l.length * (n + 9)
  | [], _ => by simp [wtL]
  | x :: l, h => by
    have h1 := h x (by simp)
    have h2 := wtL_map f n l (fun y hy => h y (by simp [hy]))
    rw [List.map_cons, wtL_cons, List.length_cons, Nat.succ_mul]
    omega
theorem txt_wt : ∀ (WL : List (List Wd3)), (txt WL).length ≤ wtL WL
  | [] => by simp [txt]
  | ws :: WL => by
    have h1 := txt_wt WL
    have h2 := join_wt (g := [32]) (by simp) ws
    rw [wtL_cons]
    show ((Lib.join (txs ws) [32] ++ [10]) ++ txt WL).length ≤ _
    simp only [List.length_append, List.length_cons, List.length_nil]
    omega
theorem dec20 {u : Nat} (h : u < 18446744073709551616) : (Lib.decDigits u).length ≤ 20 := by
  rw [Lib.decDigits_length]
  by_cases h0 : u = 0
  · subst h0; rw [Lib.nDigits_small (by omega)]; omega
  · have := Lib.numDigits_eq u (by omega) h
    split at this <;> omega
theorem sg2 (o : Nat) : (sgT.getD o []).length ≤ 2 := by
  rcases (by omega : o = 0 ∨ o = 1 ∨ o = 2 ∨ o = 3 ∨ o = 4 ∨ o = 5 ∨ o = 6 ∨ o = 7 ∨ 8 ≤ o) with rfl | rfl | rfl | rfl | rfl | rfl | rfl | rfl | h
  · decide
  · decide
  · decide
  · decide
  · decide
  · decide
  · decide
  · decide
  · rw [List.getD_eq_getElem?_getD, List.getElem?_eq_none (by simpa [sgT] using h)]; simp
theorem cond_wt {c : CondM} (hc : c.ok) : wt (condWs c) ≤ 63 := by
  obtain ⟨_, _, _, h1, h2⟩ := hc
  have h3 : (numT c.mask).2.1.length ≤ 20 := dec20 h1
  have h4 : (numT c.val).2.1.length ≤ 20 := dec20 h2
  have h5 : (sgT1 (sgT.getD c.op [])).2.1.length ≤ 2 := sg2 c.op
  have h6 : (nmT (argT c.arg.toNat)).2.1.length = 4 := rfl
  have h7 : (sgT1 eqW).2.1.length = 2 := rfl
  unfold condWs
  split
  · simp only [wt_app, wt_cons, wt_nil]; omega
  · simp only [wt_app, wt_cons, wt_nil]; omega
theorem conds_wt : ∀ (cs : List CondM) (b : Bool), (∀ c ∈ cs, c.ok) → wt (condsWs b cs) ≤ cs.length * 69
  | [], _, _ => by simp [condsWs, wt]
  | c :: cs, b, h => by
    have h1 := cond_wt (h c (by simp))
    have h2 := conds_wt cs false (fun x hx => h x (by simp [hx]))
    unfold condsWs
    rw [wt_cons, wt_app, List.length_cons, Nat.succ_mul]
    have h3 : (nmT (if b = true then ifW else andW)).2.1.length ≤ 3 := by cases b <;> decide
    omega
theorem num_le (a : Nat) : Rec.numN a < 65536 := by unfold Rec.numN; split <;> omega
theorem act_wt (a : Nat) : wt (actWs a) ≤ 31 := by
  have h1 := num_le a
  have h3 := dec20 (u := Rec.numN a) (by omega)
  unfold actWs
  split
  · simp [wt, nmT, numT, errnoW]; omega
  · split
    · decide
    · split <;> decide
theorem rule_wt {r : RuleM} (h : ruleE r = 0) (hr : r.ok) : wt (ruleWs r) ≤ 463 := by
  obtain ⟨h1, h2, h3, h4⟩ := ruleE_zero h
  have a1 := (callN_ok h1).2
  have a2 := act_wt r.act
  have a3 := conds_wt r.conds true hr.2.2.2
  have a4 := Nat.mul_le_mul_right 69 h3
  unfold ruleWs
  rw [wt_cons, wt_cons, wt_app]
  have h5 : (nmT callW).2.1.length = 4 := rfl
  have h6 : (nmT (callN r.num)).2.1.length ≤ 8 := a1
  omega
theorem text144 (n : Nat) : (Rt.textL n).length ≤ 144 := Rt.text_size n
theorem pathB_len {s : Bs} (h : pathB s = true) : s.length ≤ 120 := by
  unfold pathB at h
  cases s with
  | nil => cases h
  | cons c t => simp only [Bool.and_eq_true, decide_eq_true_eq] at h; exact h.2.1
theorem pol_wt {p : PolM} (h : Gd p) (ho : p.ok) : wtL (polWs p) ≤ 50000 := by
  have hl := h.lim
  have n1 := (name_ok h.name).2.1
  have e1 : wtL ((p.rules.map Itm.rule).map Itm.ws) ≤ p.rules.length * 472 := by
    rw [List.map_map]; exact wtL_map (Itm.ws ∘ Itm.rule) 463 p.rules (fun r hr => rule_wt (h.rules r hr) (ho.each r hr))
  have e2 : wtL ((if p.handled = 0 then [] else [Itm.hand p.handled]).map Itm.ws) ≤ 180 := by
    split
    · simp [wtL]
    · have := text144 p.handled
      simp [wtL, wt, Itm.ws, handWs, nmT, handleW]; omega
  have e3 : wtL ((p.paths.map Itm.path).map Itm.ws) ≤ p.paths.length * 289 := by
    rw [List.map_map]
    refine wtL_map (Itm.ws ∘ Itm.path) 280 p.paths (fun x hx => ?_)
    obtain ⟨i, hi⟩ := List.getElem?_of_mem hx
    have a1 := pathB_len (h.paths i x hi).1
    have a2 := text144 x.2
    simp [wt, Itm.ws, pathWs, nmT, ptT, beneathW]; omega
  have e4 : wtL ((p.ports.map Itm.port).map Itm.ws) ≤ p.ports.length * 190 := by
    rw [List.map_map]
    refine wtL_map (Itm.ws ∘ Itm.port) 181 p.ports (fun x hx => ?_)
    have a1 := (ho.port x hx).1
    have a3 := dec20 (u := x.1) (by omega)
    have a2 := text144 x.2
    simp [wt, Itm.ws, portWs, nmT, numT, portW]; omega
  have e5 : wtL (hdWs p.name p.dflt) ≤ 200 := by
    have := act_wt p.dflt
    unfold hdWs
    rw [wtL_cons, wtL_cons, wt_cons, wt_cons, wt_cons, wtL_nil, wt_nil]
    simp [nmT, policyW, defaultW]
    omega
  unfold polWs polIs
  rw [wtL_app, List.map_append, List.map_append, List.map_append, wtL_app, wtL_app, wtL_app]
  have r1 := Nat.mul_le_mul_right 472 hl.r
  have r2 := Nat.mul_le_mul_right 289 hl.p
  have r3 := Nat.mul_le_mul_right 190 hl.q
  omega
end Go.Proofs.YtinofjbnfmalkaaGreatDoor.Tx
