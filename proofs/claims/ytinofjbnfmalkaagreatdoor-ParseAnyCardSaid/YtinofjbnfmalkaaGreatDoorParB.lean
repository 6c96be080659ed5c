/- A policy that may be, as a text, is read as that policy; by lists alone. -/
import Derived.Test.YtinofjbnfmalkaaGreatDoorParL
namespace Go.Proofs.YtinofjbnfmalkaaGreatDoor
def polIs (p : PolM) : List Itm := p.rules.map .rule ++ ((if p.handled = 0 then [] else [.hand p.handled]) ++ (p.paths.map .path ++ p.ports.map .port))
def hdWs (nm : Bs) (d : Nat) : List (List Wd3) := [[nmT policyW, nmT nm], nmT defaultW :: actWs d]
def polWs (p : PolM) : List (List Wd3) := hdWs p.name p.dflt ++ (polIs p).map Itm.ws
def textP (p : PolM) : Bs := txt (polWs p)
theorem enS_app (a b : List (List Wd3)) : enS (a ++ b) = enS a ++ enS b := by simp [enS]
theorem enS_items (is : List Itm) : enS (is.map Itm.ws) = linWs is := by
  induction is with
  | nil => rfl
  | cons i is ih => simp only [List.map_cons, enS, linWs, List.flatMap_cons] at ih ⊢; rw [ih]
structure Gd (p : PolM) : Prop where
  name : wordB p.name = true
  dflt : actB p.dflt = true
  lim : Lim p
  hd : p.handled &&& 51199 = p.handled
  rules : ∀ r ∈ p.rules, ruleE r = 0
  paths : ∀ i x, p.paths[i]? = some x → pathB x.1 = true ∧ grantB p.handled x.2 2047 = true ∧ ((p.paths.take i).any fun y => decide (y.1 = x.1)) = false
  ports : ∀ i x, p.ports[i]? = some x → grantB p.handled x.2 49152 = true ∧ ((p.ports.take i).any fun y => decide (y.1 = x.1)) = false
theorem valid_of {n : Nat} (h : n < 65536) : n &&& 14336 = 0 ↔ n &&& 51199 = n := by
  have e : n = (n &&& 51199) ||| (n &&& 14336) := by
    rw [← Nat.and_or_distrib_left]
    rw [show (51199 ||| 14336 : Nat) = 2 ^ 16 - 1 by decide, Nat.and_two_pow_sub_one_eq_mod]
    omega
  constructor
  · intro h0; rw [h0, Nat.or_zero] at e; exact e.symm
  · intro h0
    rw [← h0, Nat.and_assoc]
    rw [show (51199 &&& 14336 : Nat) = 0 by decide, Nat.and_zero]
theorem gd_polE {p : PolM} (h : Gd p) (hh : p.handled < 65536) : polE p = 0 := by
  have e1 : firstE (fun _ r => ruleE r) 0 p.rules = 0 := firstE_zero _ _ _ (fun i x hx => h.rules x (List.mem_of_getElem? hx))
  have e2 : firstE (pathE p.paths p.handled) 0 p.paths = 0 := firstE_zero _ _ _ (fun i x hx => by
    obtain ⟨q1, q2, q3⟩ := h.paths i x hx
    rw [Nat.zero_add]
    unfold pathE
    rw [if_neg (by rw [q1]; simp), if_neg (by rw [q2]; simp), if_neg (by rw [q3]; simp)])
  have e3 : firstE (portE p.ports p.handled) 0 p.ports = 0 := firstE_zero _ _ _ (fun i x hx => by
    obtain ⟨q1, q2⟩ := h.ports i x hx
    rw [Nat.zero_add]
    unfold portE
    rw [if_neg (by rw [q1]; simp), if_neg (by rw [q2]; simp)])
  have hl := h.lim
  unfold polE
  rw [if_neg (by rw [h.name]; simp), if_neg (by rw [h.dflt]; simp), if_neg (by have := hl.r; have := hl.p; have := hl.q; omega), if_neg (by rw [(valid_of hh).2 h.hd]; simp), e1, e2, e3]
  rfl
theorem okAll_app : ∀ (a b : List Itm) (p : PolM), okAll p (a ++ b) ↔ okAll p a ∧ okAll (a.foldl Itm.add p) b
  | [], b, p => by simp [okAll]
  | i :: a, b, p => by
    rw [List.cons_append, okAll, okAll, List.foldl_cons, okAll_app a b, and_assoc]
theorem all_rules : ∀ (l : List RuleM) (p : PolM), (∀ r ∈ l, ruleE r = 0) → p.rules.length + l.length ≤ 64 → okAll p (l.map .rule) ∧ (l.map Itm.rule).foldl Itm.add p = { p with rules := p.rules ++ l }
  | [], p, _, _ => ⟨trivial, by simp⟩
  | r :: l, p, h, hl => by
    simp only [List.length_cons] at hl
    obtain ⟨h1, h2⟩ := all_rules l (Itm.add p (.rule r)) (fun x hx => h x (by simp [hx])) (by simp [Itm.add]; omega)
    refine ⟨⟨⟨h r (by simp), by omega⟩, h1⟩, ?_⟩
    rw [List.map_cons, List.foldl_cons, h2]
    simp [Itm.add]
theorem any_take {α : Type} [DecidableEq α] (q l : List (α × Nat)) (i : Nat) (x y : α × Nat) (h : ((q ++ (y :: l).take (i + 1)).any fun z => decide (z.1 = x.1)) = false) : (((q ++ [y]) ++ l.take i).any fun z => decide (z.1 = x.1)) = false := by
  rw [List.take_succ_cons] at h
  simpa using h
theorem all_paths : ∀ (l : List (Bs × Nat)) (p : PolM), (∀ i x, l[i]? = some x → pathB x.1 = true ∧ grantB p.handled x.2 2047 = true ∧ ((p.paths ++ l.take i).any fun y => decide (y.1 = x.1)) = false) → p.paths.length + l.length ≤ 32 →
    okAll p (l.map .path) ∧ (l.map Itm.path).foldl Itm.add p = { p with paths := p.paths ++ l }
  | [], p, _, _ => ⟨trivial, by simp⟩
  | r :: l, p, h, hl => by
    simp only [List.length_cons] at hl
    obtain ⟨h1, h2⟩ := all_paths l (Itm.add p (.path r)) (fun i x hx => by
      obtain ⟨q1, q2, q3⟩ := h (i + 1) x (by simpa using hx)
      exact ⟨q1, q2, any_take p.paths l i x r q3⟩) (by simp [Itm.add]; omega)
    obtain ⟨q1, q2, q3⟩ := h 0 r rfl
    refine ⟨⟨⟨q1, q2, by simpa using q3, by omega⟩, h1⟩, ?_⟩
    rw [List.map_cons, List.foldl_cons, h2]
    simp [Itm.add]
theorem all_ports : ∀ (l : List (Nat × Nat)) (p : PolM), (∀ i x, l[i]? = some x → x.1 < 65536 ∧ grantB p.handled x.2 49152 = true ∧ ((p.ports ++ l.take i).any fun y => decide (y.1 = x.1)) = false) → p.ports.length + l.length ≤ 32 →
    okAll p (l.map .port) ∧ (l.map Itm.port).foldl Itm.add p = { p with ports := p.ports ++ l }
  | [], p, _, _ => ⟨trivial, by simp⟩
  | r :: l, p, h, hl => by
    simp only [List.length_cons] at hl
    obtain ⟨h1, h2⟩ := all_ports l (Itm.add p (.port r)) (fun i x hx => by
      obtain ⟨q1, q2, q3⟩ := h (i + 1) x (by simpa using hx)
      exact ⟨q1, q2, any_take p.ports l i x r q3⟩) (by simp [Itm.add]; omega)
    obtain ⟨q1, q2, q3⟩ := h 0 r rfl
    refine ⟨⟨⟨q1, q2, by simpa using q3, by omega⟩, h1⟩, ?_⟩
    rw [List.map_cons, List.foldl_cons, h2]
    simp [Itm.add]
theorem all_items {p : PolM} (h : Gd p) (hp : ∀ x ∈ p.ports, x.1 < 65536) : okAll ⟨p.name, p.dflt, [], 0, [], []⟩ (polIs p) ∧ (polIs p).foldl Itm.add ⟨p.name, p.dflt, [], 0, [], []⟩ = p := by
  obtain ⟨a1, a2⟩ := all_rules p.rules ⟨p.name, p.dflt, [], 0, [], []⟩ h.rules (by have := h.lim.r; simpa using this)
  have hb : okAll ⟨p.name, p.dflt, p.rules, 0, [], []⟩ (if p.handled = 0 then [] else [.hand p.handled]) ∧ (if p.handled = 0 then [] else [Itm.hand p.handled]).foldl Itm.add ⟨p.name, p.dflt, p.rules, 0, [], []⟩ = ⟨p.name, p.dflt, p.rules, p.handled, [], []⟩ := by
    by_cases h0 : p.handled = 0
    · rw [if_pos h0, h0]; exact ⟨trivial, rfl⟩
    · rw [if_neg h0]; exact ⟨⟨⟨rfl, h0, h.hd⟩, trivial⟩, rfl⟩
  obtain ⟨c1, c2⟩ := all_paths p.paths ⟨p.name, p.dflt, p.rules, p.handled, [], []⟩ (fun i x hx => by simpa using h.paths i x hx) (by have := h.lim.p; simpa using this)
  obtain ⟨d1, d2⟩ := all_ports p.ports ⟨p.name, p.dflt, p.rules, p.handled, p.paths, []⟩ (fun i x hx => ⟨hp x (List.mem_of_getElem? hx), by simpa using h.ports i x hx⟩) (by have := h.lim.q; simpa using this)
  have a2' : (p.rules.map Itm.rule).foldl Itm.add ⟨p.name, p.dflt, [], 0, [], []⟩ = ⟨p.name, p.dflt, p.rules, 0, [], []⟩ := by rw [a2]; rfl
  have c2' : (p.paths.map Itm.path).foldl Itm.add ⟨p.name, p.dflt, p.rules, p.handled, [], []⟩ = ⟨p.name, p.dflt, p.rules, p.handled, p.paths, []⟩ := by rw [c2]; rfl
  unfold polIs
  refine ⟨?_, ?_⟩
  · rw [okAll_app, okAll_app, okAll_app, a2', hb.2, c2']
    exact ⟨a1, hb.1, c1, d1⟩
  · rw [List.foldl_append, List.foldl_append, List.foldl_append, a2', hb.2, c2', d2]; rfl
theorem head_ok {nm : Bs} {d : Nat} (hn : wordB nm = true) (hd : actB d = true) {L : List Tok} (hL : L.map sig = enS (hdWs nm d)) (m : List Tok) :
    hdV (ok (L ++ m)) = ⟨nm, d, [], 0, [], []⟩ ∧ hdE (ok (L ++ m)) = ok m := by
  obtain ⟨x, l, rfl, hx, hl⟩ := map_cons3 (show L.map sig = nmT policyW :: nmT nm :: enT :: nmT defaultW :: (actWs d ++ [enT]) by rw [hL]; simp [enS, hdWs])
  obtain ⟨y, l, rfl, hy, hl⟩ := map_cons3 hl
  obtain ⟨z, l, rfl, hz, hl⟩ := map_cons3 hl
  obtain ⟨u, l, rfl, hu, hl⟩ := map_cons3 hl
  obtain ⟨la, l, rfl, hla, hl⟩ := map_app3 hl
  obtain ⟨e, l, rfl, he, hl⟩ := map_cons3 hl
  obtain rfl : l = [] := by simpa using hl
  obtain ⟨x1, x2, x3⟩ := sig3 hx
  obtain ⟨y1, y2, y3⟩ := sig3 hy
  obtain ⟨z1, z2, z3⟩ := sig3 hz
  obtain ⟨u1, u2, u3⟩ := sig3 hu
  obtain ⟨e1, e2, e3⟩ := sig3 he
  obtain ⟨n1, n2, n3⟩ := name_ok hn
  have s1 : wnS policyW (ok (x :: y :: z :: u :: (la ++ e :: m))) = ok (y :: z :: u :: (la ++ e :: m)) := wn_ok x2
  have s2 : owS (ok (y :: z :: u :: (la ++ e :: m))) = ok (z :: u :: (la ++ e :: m)) := by
    unfold owS; rw [nx_cons, y2, if_pos hn, nm_ok y1 (by rw [y2]; exact n3)]
  have s3 : tkS 0 (ok (z :: u :: (la ++ e :: m))) = ok (u :: (la ++ e :: m)) := tk_ok z1
  have s4 : wnS defaultW (ok (u :: (la ++ e :: m))) = ok (la ++ e :: m) := wn_ok u2
  obtain ⟨a1, a2⟩ := act_ok hd hla (e :: m)
  have s5 : hd2 (ok (x :: y :: z :: u :: (la ++ e :: m))) = ok (u :: (la ++ e :: m)) := by unfold hd2; rw [s1, s2, s3]
  have eL : x :: y :: z :: u :: (la ++ [e]) ++ m = x :: y :: z :: u :: (la ++ e :: m) := by simp
  rw [eL]
  unfold hdV hdE
  rw [s5, s1, s4, a1, a2, nx_cons, y2, tk_ok e1]
  exact ⟨rfl, rfl⟩
theorem read_pre {p : PolM} (h : Gd p) (hp : ∀ x ∈ p.ports, x.1 < 65536) {L : List Tok} (hL : L.map sig = enS (polWs p)) (m : List Tok) :
    ∃ f, m.length < f ∧ readP (L ++ m) = linesF f p (ok m) := by
  unfold polWs at hL
  rw [enS_app, enS_items] at hL
  obtain ⟨l1, l2, rfl, h1, h2⟩ := map_app3 hL
  obtain ⟨b1, b2⟩ := head_ok h.name h.dflt h1 (l2 ++ m)
  obtain ⟨c1, c2⟩ := all_items h hp
  obtain ⟨f, g1, g2, _⟩ := items_ok m (polIs p) ⟨p.name, p.dflt, [], 0, [], []⟩ l2 (((l1 ++ l2) ++ m).length + 1) ⟨by simp, by simp, by simp⟩ c1 h2 (by simp; omega)
  refine ⟨f, by simp only [List.length_append] at g1; omega, ?_⟩
  unfold readP
  show linesF _ (hdV (ok _)) (hdE (ok _)) = _
  rw [List.append_assoc l1 l2 m, b1, b2, ← List.append_assoc l1 l2 m, g2, c2]
theorem lines_end0 (f : Nat) (p : PolM) : linesF f p (ok []) = (p, ok []) := by
  cases f with
  | zero => rfl
  | succ f => rw [linesF, if_pos (show (ok []).left = [] from rfl)]
theorem read_back {p : PolM} (h : Gd p) (hp : ∀ x ∈ p.ports, x.1 < 65536) {L : List Tok} (hL : L.map sig = enS (polWs p)) : readP L = (p, ok []) := by
  obtain ⟨f, _, e⟩ := read_pre h hp hL []
  rw [List.append_nil] at e
  rw [e, lines_end0]
theorem parsB_of {p : PolM} (h : Gd p) (hp : ∀ x ∈ p.ports, x.1 < 65536) {s : Bs} {M : List Tok} (h1 : lexB s = (M, noW)) (h2 : M.map sig = enS (polWs p)) : parsB s = (p, noW) := by
  unfold parsB
  rw [h1, if_neg (by simp), read_back h hp h2, if_neg (by simp [ok])]
theorem callN_ok {n : Nat} (h : (byNum n).isSome = true) : nmOk (callN n) = true ∧ (callN n).length ≤ 8 := by
  obtain ⟨r, hr⟩ := Option.isSome_iff_exists.1 h
  have e : callN n = r.2.1 := by unfold callN; rw [hr]; rfl
  rw [e]
  exact (show ∀ r ∈ rows, nmOk r.2.1 = true ∧ r.2.1.length ≤ 8 by decide) r (List.mem_of_find?_eq_some hr)
def WsOk (ws : List Wd3) : Prop := ∀ w ∈ ws, WordOk (tk0 w)
theorem wsOk_cons {w : Wd3} {ws : List Wd3} (h : WordOk (tk0 w)) (k : WsOk ws) : WsOk (w :: ws) := fun x hx => by
  rcases List.mem_cons.1 hx with rfl | hx
  · exact h
  · exact k x hx
theorem wsOk_app {a b : List Wd3} (h : WsOk a) (k : WsOk b) : WsOk (a ++ b) := fun x hx => by
  rcases List.mem_append.1 hx with hx | hx
  · exact h x hx
  · exact k x hx
theorem wsOk_nil : WsOk [] := fun x hx => by simp at hx
theorem act_ws {a : Nat} (h : actB a = true) : WsOk (actWs a) := by
  rcases act_kinds h with rfl | rfl | rfl | ⟨n, h1, h2, rfl⟩
  · exact wsOk_cons (word_nm (by decide)) wsOk_nil
  · exact wsOk_cons (word_nm (by decide)) wsOk_nil
  · exact wsOk_cons (word_nm (by decide)) wsOk_nil
  · obtain ⟨e1, e2⟩ := str_err h2
    unfold actWs
    rw [if_pos e1, e2]
    exact wsOk_cons (word_nm (by decide)) (wsOk_cons (word_num (by omega)) wsOk_nil)
theorem cond_ws {c : CondM} (h : condE c = 0) (hc : c.ok) : WsOk (condWs c) := by
  obtain ⟨a1, a2, a3, a4, a5⟩ := condE_zero h
  have hs : sgT.getD c.op [] ∈ sgT.tail := by
    rcases (by omega : c.op = 1 ∨ c.op = 2 ∨ c.op = 3 ∨ c.op = 4 ∨ c.op = 5 ∨ c.op = 6 ∨ c.op = 7) with e | e | e | e | e | e | e <;> rw [e] <;> decide
  have ha : ∀ i, i < 6 → nmOk (argT i) = true := by decide
  obtain ⟨_, _, _, hm, hv⟩ := hc
  unfold condWs
  refine wsOk_app (wsOk_cons (word_nm (ha _ (by omega))) (wsOk_cons (word_sg hs) wsOk_nil)) (wsOk_app ?_ (wsOk_cons (word_num hv) wsOk_nil))
  split
  · exact wsOk_cons (word_num hm) (wsOk_cons (word_sg (by decide)) wsOk_nil)
  · exact wsOk_nil
theorem conds_ws : ∀ (cs : List CondM) (b : Bool), (∀ c ∈ cs, condE c = 0 ∧ c.ok) → WsOk (condsWs b cs)
  | [], _, _ => wsOk_nil
  | c :: cs, b, h => wsOk_cons (word_nm (by cases b <;> decide)) (wsOk_app (cond_ws (h c (by simp)).1 (h c (by simp)).2) (conds_ws cs false (fun x hx => h x (by simp [hx]))))
theorem rule_ws {r : RuleM} (h : ruleE r = 0) (hr : r.ok) : WsOk (ruleWs r) := by
  obtain ⟨h1, h2, h3, h4⟩ := ruleE_zero h
  exact wsOk_cons (word_nm (by decide)) (wsOk_cons (word_nm (callN_ok h1).1) (wsOk_app (act_ws h2) (conds_ws _ _ (fun c hc => ⟨h4 c hc, hr.2.2.2 c hc⟩))))
theorem right_ws {r k : Nat} (h0 : r ≠ 0) (hk : k &&& 51199 = k) (h : hasS k r = true) : WordOk (tk0 (nmT (Rt.textL r))) := word_nm (textL_ok h0 (mask_of hk h))
theorem pol_lin {p : PolM} (h : Gd p) (ho : p.ok) : LinOk (polWs p) := by
  intro ws hws
  unfold polWs hdWs polIs at hws
  simp only [List.map_append, List.mem_append, List.map_map, List.mem_cons, List.not_mem_nil, or_false] at hws
  rcases hws with (rfl | rfl) | hws | hws | hws | hws
  · exact ⟨by simp, wsOk_cons (word_nm (by decide)) (wsOk_cons (word_nm (name_ok h.name).1) wsOk_nil)⟩
  · exact ⟨by simp, wsOk_cons (word_nm (by decide)) (act_ws h.dflt)⟩
  · obtain ⟨r, hr, rfl⟩ := List.mem_map.1 hws
    exact ⟨ws_ne _, rule_ws (h.rules r hr) (ho.each r hr)⟩
  · split at hws
    · simp at hws
    · rename_i h0
      simp only [List.map_cons, List.map_nil, List.mem_singleton] at hws
      subst hws
      exact ⟨ws_ne _, wsOk_cons (word_nm (by decide)) (wsOk_cons (word_nm (textL_ok h0 h.hd)) wsOk_nil)⟩
  · obtain ⟨x, hx, rfl⟩ := List.mem_map.1 hws
    obtain ⟨i, hi⟩ := List.getElem?_of_mem hx
    obtain ⟨q1, q2, _⟩ := h.paths i x hi
    obtain ⟨g1, g2, g3⟩ := grant_parts q2
    exact ⟨ws_ne _, wsOk_cons (word_nm (by decide)) (wsOk_cons (word_pt q1) (wsOk_cons (right_ws g1 (by decide) g3) wsOk_nil))⟩
  · obtain ⟨x, hx, rfl⟩ := List.mem_map.1 hws
    obtain ⟨i, hi⟩ := List.getElem?_of_mem hx
    obtain ⟨q2, _⟩ := h.ports i x hi
    obtain ⟨g1, g2, g3⟩ := grant_parts q2
    exact ⟨ws_ne _, wsOk_cons (word_nm (by decide)) (wsOk_cons (word_num (by have := (ho.port x hx).1; omega)) (wsOk_cons (right_ws g1 (by decide) g3) wsOk_nil))⟩
end Go.Proofs.YtinofjbnfmalkaaGreatDoor
