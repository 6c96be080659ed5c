/- Policies as texts, by lists alone: the words of each line; lines of words are read as the thing that they tell. -/
import Derived.Test.YtinofjbnfmalkaaGreatDoorParM
namespace Go.Proofs.YtinofjbnfmalkaaGreatDoor
abbrev Wd3 := Nat × Bs × Nat
def nmT (t : Bs) : Wd3 := (1, t, 0)
def numT (n : Nat) : Wd3 := (2, Lib.decDigits n, n)
def ptT (t : Bs) : Wd3 := (3, t, 0)
def sgT1 (t : Bs) : Wd3 := (4, t, 0)
def enT : Wd3 := (0, [], 0)
def actWs (a : Nat) : List Wd3 :=
  if Rec.strN a = 2 then [nmT errnoW, numT (Rec.numN a)] else if Rec.strN a = 1 then [nmT logW] else if Rec.strN a = 0 then [nmT allowW] else [nmT killW]
def condWs (c : CondM) : List Wd3 :=
  [nmT (argT c.arg.toNat), sgT1 (sgT.getD c.op [])] ++ ((if c.op = 7 then [numT c.mask, sgT1 eqW] else []) ++ [numT c.val])
def condsWs : Bool → List CondM → List Wd3
  | _, [] => []
  | b, c :: r => nmT (if b then ifW else andW) :: (condWs c ++ condsWs false r)
def callN (n : Nat) : Bs := ((byNum n).getD zeroRow).2.1
def ruleWs (r : RuleM) : List Wd3 := nmT callW :: nmT (callN r.num) :: (actWs r.act ++ condsWs true r.conds)
def handWs (h : Nat) : List Wd3 := [nmT handleW, nmT (Rt.textL h)]
def pathWs (x : Bs × Nat) : List Wd3 := [nmT beneathW, ptT x.1, nmT (Rt.textL x.2)]
def portWs (x : Nat × Nat) : List Wd3 := [nmT portW, numT x.1, nmT (Rt.textL x.2)]
inductive Itm where
  | rule (r : RuleM)
  | hand (h : Nat)
  | path (x : Bs × Nat)
  | port (x : Nat × Nat)
def Itm.ws : Itm → List Wd3
  | .rule r => ruleWs r
  | .hand h => handWs h
  | .path x => pathWs x
  | .port x => portWs x
def Itm.add (p : PolM) : Itm → PolM
  | .rule r => { p with rules := p.rules ++ [r] }
  | .hand h => { p with handled := h }
  | .path x => { p with paths := p.paths ++ [x] }
  | .port x => { p with ports := p.ports ++ [x] }
def Itm.ok (p : PolM) : Itm → Prop
  | .rule r => ruleE r = 0 ∧ p.rules.length < 64
  | .hand h => p.handled = 0 ∧ h ≠ 0 ∧ h &&& 51199 = h
  | .path x => pathB x.1 = true ∧ grantB p.handled x.2 2047 = true ∧ (p.paths.any fun y => decide (y.1 = x.1)) = false ∧ p.paths.length < 32
  | .port x => x.1 < 65536 ∧ grantB p.handled x.2 49152 = true ∧ (p.ports.any fun y => decide (y.1 = x.1)) = false ∧ p.ports.length < 32
theorem sig3 {x : Tok} {k n : Nat} {t : Bs} (h : sig x = (k, t, n)) : x.k = k ∧ x.t = t ∧ x.n = n := by
  simp only [sig, Prod.mk.injEq] at h; exact h
theorem map_cons3 {L : List Tok} {w : Wd3} {r : List Wd3} (h : L.map sig = w :: r) : ∃ x l, L = x :: l ∧ sig x = w ∧ l.map sig = r := by
  cases L with
  | nil => simp at h
  | cons x l => simp only [List.map_cons, List.cons.injEq] at h; exact ⟨x, l, rfl, h.1, h.2⟩
theorem map_app3 {L : List Tok} {a b : List Wd3} (h : L.map sig = a ++ b) : ∃ l m, L = l ++ m ∧ l.map sig = a ∧ m.map sig = b := by
  obtain ⟨l, m, h1, h2, h3⟩ := List.map_eq_append_iff.1 h
  exact ⟨l, m, h1, h2, h3⟩
def ok (L : List Tok) : RS := ⟨L, noW⟩
theorem nx_cons (x : Tok) (l : List Tok) : nx (ok (x :: l)) = x := rfl
theorem tk_ok {x : Tok} {l : List Tok} {k : Nat} (h : x.k = k) : tkS k (ok (x :: l)) = ok l := by
  unfold tkS; rw [nx_cons, if_pos h]; rfl
theorem nm_ok {x : Tok} {l : List Tok} (h : x.k = 1) (hc : (44 : UInt8) ∉ x.t) : nmS (ok (x :: l)) = ok l := by
  unfold nmS; rw [nx_cons, if_neg hc, tk_ok h]
theorem wn_ok {x : Tok} {l : List Tok} {t : Bs} (h : x.t = t) : wnS t (ok (x :: l)) = ok l := by
  unfold wnS; rw [nx_cons, if_pos h]; rfl
theorem i64_small (n : Nat) (h : n ≤ 4095) : IntKind.i64.wrap (n : Int) = n := by
  rw [IntWalk.i64_in]; omega
theorem errV_of {n : Nat} (h : n ≤ 4095) : errV n = 327680 + n := by
  unfold errV
  rw [i64_small n h]
  unfold Rec.clampN; omega
theorem act_kinds {a : Nat} (h : actB a = true) : a = 2147483648 ∨ a = 2147221504 ∨ a = 2147418112 ∨ ∃ n, 1 ≤ n ∧ n ≤ 4095 ∧ a = 327680 + n := by
  unfold actB at h
  rcases of_decide_eq_true h with h | h | h | h
  · exact .inl h
  · exact .inr (.inl h)
  · exact .inr (.inr (.inl h))
  · exact .inr (.inr (.inr ⟨a - 327680, by omega, by omega, by omega⟩))
theorem str_err {n : Nat} (h : n ≤ 4095) : Rec.strN (327680 + n) = 2 ∧ Rec.numN (327680 + n) = n := by
  have h1 := Rec.strN_errno n (by omega)
  refine ⟨h1, ?_⟩
  unfold Rec.numN
  rw [if_pos h1]; omega
theorem act_ok {a : Nat} (h : actB a = true) {L : List Tok} (hL : L.map sig = actWs a) (m : List Tok) : actV (ok (L ++ m)) = a ∧ actS (ok (L ++ m)) = ok m := by
  rcases act_kinds h with rfl | rfl | rfl | ⟨n, h1, h2, rfl⟩
  · obtain ⟨x, l, rfl, hx, hl⟩ := map_cons3 (show L.map sig = nmT killW :: [] from hL)
    obtain rfl : l = [] := by simpa using hl
    obtain ⟨k1, k2, k3⟩ := sig3 hx
    unfold actV actS
    rw [List.cons_append, nx_cons, k2, if_pos rfl, if_pos rfl, List.nil_append]
    exact ⟨rfl, nm_ok k1 (by rw [k2]; decide)⟩
  · obtain ⟨x, l, rfl, hx, hl⟩ := map_cons3 (show L.map sig = nmT logW :: [] from hL)
    obtain rfl : l = [] := by simpa using hl
    obtain ⟨k1, k2, k3⟩ := sig3 hx
    unfold actV actS
    rw [List.cons_append, nx_cons, k2, if_neg (by decide), if_neg (by decide), if_pos rfl, if_neg (by decide), if_neg (by decide), if_pos rfl, List.nil_append]
    exact ⟨rfl, nm_ok k1 (by rw [k2]; decide)⟩
  · obtain ⟨x, l, rfl, hx, hl⟩ := map_cons3 (show L.map sig = nmT allowW :: [] from hL)
    obtain rfl : l = [] := by simpa using hl
    obtain ⟨k1, k2, k3⟩ := sig3 hx
    unfold actV actS
    rw [List.cons_append, nx_cons, k2, if_neg (by decide), if_neg (by decide), if_neg (by decide), if_pos rfl, if_neg (by decide), if_neg (by decide), if_neg (by decide), if_pos rfl, List.nil_append]
    exact ⟨rfl, nm_ok k1 (by rw [k2]; decide)⟩
  · obtain ⟨e1, e2⟩ := str_err h2
    have hL2 : L.map sig = nmT errnoW :: numT n :: [] := by rw [hL]; unfold actWs; rw [if_pos e1, e2]
    obtain ⟨x, l, rfl, hx, hl⟩ := map_cons3 hL2
    obtain ⟨y, l, rfl, hy, hl⟩ := map_cons3 hl
    obtain rfl : l = [] := by simpa using hl
    obtain ⟨k1, k2, k3⟩ := sig3 hx
    obtain ⟨j1, j2, j3⟩ := sig3 hy
    have hn : nmS (ok (x :: y :: m)) = ok (y :: m) := nm_ok k1 (by rw [k2]; decide)
    rw [show ([x, y] ++ m : List Tok) = x :: y :: m from rfl]
    unfold actV actS
    rw [nx_cons, k2, if_neg (by decide), if_pos rfl, if_neg (by decide), if_pos rfl, hn, nx_cons, j3]
    refine ⟨errV_of h2, ?_⟩
    unfold erS
    rw [nx_cons, j3, if_neg (by omega), tk_ok j1]
theorem call_tab : ∀ r ∈ rows, byNum (r.1 : Nat) = some r ∧ byName r.2.1 = some r ∧ (44 : UInt8) ∉ r.2.1 := by decide
theorem call_ok {n : Nat} (h : (byNum n).isSome = true) {x : Tok} (hx : sig x = nmT (callN n)) (m : List Tok) : callV (ok (x :: m)) = n ∧ callS (ok (x :: m)) = ok m := by
  obtain ⟨r, hr⟩ := Option.isSome_iff_exists.1 h
  obtain ⟨h1, h2, h3⟩ := call_tab r (List.mem_of_find?_eq_some hr)
  have hn : (r.1 : Int) = n := by simpa using List.find?_some hr
  obtain ⟨k1, k2, k3⟩ := sig3 hx
  have e : callN n = r.2.1 := by unfold callN; rw [hr]; rfl
  unfold callV callS
  rw [nx_cons, k2, e, h2]
  refine ⟨by show r.1 = n; omega, ?_⟩
  rw [if_pos (show (some r).isSome = true from rfl)]
  exact nm_ok k1 (by rw [k2, e]; exact h3)
theorem arg_tab : ∀ i, i < 6 → argB (argT i) = some i ∧ (44 : UInt8) ∉ argT i := by decide
theorem sg_tab : ∀ o, 1 ≤ o → o ≤ 7 → opB (sgT.getD o []) = o := by
  intro o h1 h2
  rcases (by omega : o = 1 ∨ o = 2 ∨ o = 3 ∨ o = 4 ∨ o = 5 ∨ o = 6 ∨ o = 7) with rfl | rfl | rfl | rfl | rfl | rfl | rfl <;> decide
theorem condE_zero {c : CondM} (h : condE c = 0) : 0 ≤ c.arg ∧ c.arg ≤ 5 ∧ 1 ≤ c.op ∧ c.op ≤ 7 ∧ (c.op ≠ 7 → c.mask = 0) := by
  unfold condE at h
  split at h
  · cases h
  · split at h
    · cases h
    · split at h
      · split at h
        · cases h
        · exact ⟨by omega, by omega, by omega, by omega, fun _ => by omega⟩
      · exact ⟨by omega, by omega, by omega, by omega, fun _ => by omega⟩
theorem cond_ok {c : CondM} (h : condE c = 0) {L : List Tok} (hL : L.map sig = condWs c) (m : List Tok) : cndV (ok (L ++ m)) = c ∧ cndS (ok (L ++ m)) = ok m := by
  obtain ⟨a1, a2, a3, a4, a5⟩ := condE_zero h
  obtain ⟨x, l, rfl, hx, hl⟩ := map_cons3 (show L.map sig = nmT (argT c.arg.toNat) :: _ from hL)
  obtain ⟨y, l, rfl, hy, hl⟩ := map_cons3 hl
  obtain ⟨k1, k2, k3⟩ := sig3 hx
  obtain ⟨j1, j2, j3⟩ := sig3 hy
  obtain ⟨t1, t2⟩ := arg_tab c.arg.toNat (by omega)
  have t3 := sg_tab c.op a3 a4
  simp only [List.cons_append]
  have e1 : agV (ok (x :: y :: (l ++ m))) = c.arg.toNat ∧ agS (ok (x :: y :: (l ++ m))) = ok (y :: (l ++ m)) := by
    unfold agV agS
    rw [nx_cons, k2, t1]
    exact ⟨rfl, by rw [if_pos (show (some c.arg.toNat).isSome = true from rfl)]; exact nm_ok k1 (by rw [k2]; exact t2)⟩
  have e2 : opV (ok (y :: (l ++ m))) = c.op := by unfold opV; rw [nx_cons, j2, t3]
  have e3 : tkS 4 (ok (y :: (l ++ m))) = ok (l ++ m) := tk_ok j1
  by_cases h7 : c.op = 7
  · rw [if_pos h7] at hl
    obtain ⟨z, l, rfl, hz, hl⟩ := map_cons3 (show l.map sig = numT c.mask :: sgT1 eqW :: numT c.val :: [] from hl)
    obtain ⟨u, l, rfl, hu, hl⟩ := map_cons3 hl
    obtain ⟨v, l, rfl, hv, hl⟩ := map_cons3 hl
    obtain rfl : l = [] := by simpa using hl
    obtain ⟨z1, z2, z3⟩ := sig3 hz
    obtain ⟨u1, u2, u3⟩ := sig3 hu
    obtain ⟨v1, v2, v3⟩ := sig3 hv
    have e4 : mkS (opV (agS (ok (x :: y :: ([z, u, v] ++ m))))) (tkS 4 (agS (ok (x :: y :: ([z, u, v] ++ m))))) = ok (v :: m) := by
      rw [e1.2, e2, e3]
      unfold mkS
      rw [if_pos h7]
      simp only [List.cons_append, List.nil_append]
      rw [tk_ok z1, wn_ok u2]
    have e5 : cndV (ok (x :: y :: ([z, u, v] ++ m))) = c := by
      unfold cndV
      rw [e4, e1.2, e2, e3, e1.1]
      unfold mkV
      rw [if_pos h7]
      simp only [List.cons_append, nx_cons, z3, v3]
      have : ((c.arg.toNat : Nat) : Int) = c.arg := by omega
      rw [this]
    refine ⟨e5, ?_⟩
    unfold cndS vlS
    rw [e5, e4, if_pos h, tk_ok v1]
  · rw [if_neg h7] at hl
    obtain ⟨v, l, rfl, hv, hl⟩ := map_cons3 (show l.map sig = numT c.val :: [] from hl)
    obtain rfl : l = [] := by simpa using hl
    obtain ⟨v1, v2, v3⟩ := sig3 hv
    have e4 : mkS (opV (agS (ok (x :: y :: ([v] ++ m))))) (tkS 4 (agS (ok (x :: y :: ([v] ++ m))))) = ok (v :: m) := by
      rw [e1.2, e2, e3]
      unfold mkS
      rw [if_neg h7]; rfl
    have e5 : cndV (ok (x :: y :: ([v] ++ m))) = c := by
      unfold cndV
      rw [e4, e1.2, e2, e3, e1.1]
      unfold mkV
      rw [if_neg h7]
      simp only [nx_cons, v3]
      have : ((c.arg.toNat : Nat) : Int) = c.arg := by omega
      rw [this, ← a5 h7]
    refine ⟨e5, ?_⟩
    unfold cndS vlS
    rw [e5, e4, if_pos h, tk_ok v1]
theorem condWs_ne (c : CondM) : condWs c ≠ [] := by unfold condWs; simp
theorem conds_ok (e : Tok) (he : e.k = 0) (m : List Tok) : ∀ (cs l : List CondM) (L : List Tok) (f : Nat), (∀ c ∈ cs, condE c = 0) → l.length + cs.length ≤ 6 → L.map sig = condsWs (decide (l = [])) cs → L.length < f →
    cndsF f l (ok (L ++ e :: m)) = (l ++ cs, ok (e :: m))
  | _, _, _, 0, _, _, _, h => by omega
  | [], l, L, f + 1, _, _, hL, _ => by
    obtain rfl : L = [] := by simpa [condsWs] using hL
    unfold cndsF
    rw [if_pos (by simpa [nx, ok] using he)]
    simp
  | c :: cs, l, L, f + 1, hc, hl, hL, hf => by
    simp only [List.length_cons] at hl
    obtain ⟨x, l1, rfl, hx, hl1⟩ := map_cons3 hL
    obtain ⟨l2, l3, rfl, hl2, hl3⟩ := map_app3 hl1
    obtain ⟨k1, k2, k3⟩ := sig3 hx
    have hw : wnS (if l = [] then ifW else andW) (ok (x :: ((l2 ++ l3) ++ e :: m))) = ok ((l2 ++ l3) ++ e :: m) := wn_ok (by rw [k2]; by_cases h0 : l = [] <;> simp [h0])
    obtain ⟨e1, e2⟩ := cond_ok (hc c (by simp)) hl2 (l3 ++ e :: m)
    unfold cndsF
    rw [List.cons_append, if_neg (by rw [nx_cons, k1]; omega)]
    have e3 : roundV l (ok (x :: ((l2 ++ l3) ++ e :: m))) = c := by unfold roundV; rw [hw, List.append_assoc, e1]
    have e4 : roundS l (ok (x :: ((l2 ++ l3) ++ e :: m))) = ok (l3 ++ e :: m) := by unfold roundS; rw [if_neg (by omega), hw, List.append_assoc, e2]
    rw [e3, e4]
    simp only [List.length_cons, List.length_append] at hf
    rw [conds_ok e he m cs (l ++ [c]) l3 f (fun y hy => hc y (by simp [hy])) (by simp; omega) (by rw [hl3]; simp) (by omega)]
    simp
theorem firstE_all {α : Type} {f : α → Nat} : ∀ {l : List α} {k : Nat}, firstE (fun _ x => f x) k l = 0 → ∀ x ∈ l, f x = 0
  | [], _, _, x, hx => by simp at hx
  | a :: l, k, h, x, hx => by
    unfold firstE at h
    split at h
    · rename_i h1; exact absurd h h1
    · rename_i h1
      rcases List.mem_cons.1 hx with rfl | hx
      · simpa using h1
      · exact firstE_all h x hx
theorem ruleE_zero {r : RuleM} (h : ruleE r = 0) : (byNum r.num).isSome = true ∧ actB r.act = true ∧ r.conds.length ≤ 6 ∧ ∀ c ∈ r.conds, condE c = 0 := by
  unfold ruleE at h
  split at h
  · cases h
  · split at h
    · cases h
    · split at h
      · cases h
      · rename_i h1 h2 h3
        exact ⟨eq_true_of_ne_false h1, eq_true_of_ne_false h2, by omega, firstE_all h⟩
theorem rule_ok {r : RuleM} (h : ruleE r = 0) {L : List Tok} (hL : L.map sig = nmT (callN r.num) :: (actWs r.act ++ condsWs true r.conds)) (e : Tok) (he : e.k = 0) (m : List Tok) :
    rulV (ok (L ++ e :: m)) = r ∧ rulS (ok (L ++ e :: m)) = ok (e :: m) := by
  obtain ⟨h1, h2, h3, h4⟩ := ruleE_zero h
  obtain ⟨x, l, rfl, hx, hl⟩ := map_cons3 hL
  obtain ⟨l1, l2, rfl, hl1, hl2⟩ := map_app3 hl
  obtain ⟨c1, c2⟩ := call_ok h1 hx ((l1 ++ l2) ++ e :: m)
  obtain ⟨a1, a2⟩ := act_ok h2 hl1 (l2 ++ e :: m)
  have c3 : callS (ok (x :: (l1 ++ l2) ++ e :: m)) = ok (l1 ++ (l2 ++ e :: m)) := by rw [List.cons_append, c2, List.append_assoc]
  have d := conds_ok e he m r.conds [] l2 ((ok (l2 ++ e :: m)).left.length + 1) h4 (by simpa using h3) hl2 (by simp [ok]; omega)
  have d2 : cnds (actS (callS (ok (x :: (l1 ++ l2) ++ e :: m)))) = (r.conds, ok (e :: m)) := by
    rw [c3, a2]
    exact d
  unfold rulV rulS
  rw [d2, c3, a1]
  refine ⟨?_, rfl⟩
  rw [List.cons_append, c1]
theorem text_reads {n : Nat} (h0 : n ≠ 0) (h : n &&& 51199 = n) : Rt.pars 0 (Rt.words (Rt.textL n)) = (n, 0) := by
  rw [Rt.pars_text, h, if_neg h0]
theorem rights_ok {n may : Nat} (h0 : n ≠ 0) (h : n &&& 51199 = n) (hm : hasS may n = true) {x : Tok} (hx : sig x = nmT (Rt.textL n)) (m : List Tok) : rtV (ok (x :: m)) = n ∧ rtS may (ok (x :: m)) = ok m := by
  obtain ⟨k1, k2, k3⟩ := sig3 hx
  have e1 : rtV (ok (x :: m)) = n := by unfold rtV; rw [nx_cons, k2, text_reads h0 h]
  have e2 : rtE (ok (x :: m)) = 0 := by unfold rtE; rw [nx_cons, k2, text_reads h0 h]
  refine ⟨e1, ?_⟩
  unfold rtS
  rw [e1, if_pos hm]
  unfold rt1
  rw [if_pos e2, tk_ok k1]
theorem hasS_all {n : Nat} (h : n &&& 51199 = n) : hasS 51199 n = true := by
  unfold hasS; rw [decide_eq_true]; rw [Nat.and_comm]; exact h
theorem grant_parts {h r k : Nat} (hg : grantB h r k = true) : r ≠ 0 ∧ hasS h r = true ∧ hasS k r = true := by
  unfold grantB at hg
  simp only [Bool.and_eq_true, decide_eq_true_eq] at hg
  exact ⟨hg.1, hg.2.1, hg.2.2⟩
theorem hasS_and {h k r : Nat} (h1 : hasS h r = true) (h2 : hasS k r = true) : hasS (h &&& k) r = true := by
  unfold hasS at *
  have h1 := of_decide_eq_true h1
  have h2 := of_decide_eq_true h2
  rw [decide_eq_true]
  rw [Nat.and_assoc, h2, h1]
theorem mask_of {r k : Nat} (hk : k &&& 51199 = k) (h : hasS k r = true) : r &&& 51199 = r := by
  unfold hasS at h
  have h := of_decide_eq_true h
  rw [← h, Nat.and_assoc, Nat.and_comm r, ← Nat.and_assoc, hk]
theorem many_no {p : PolM} (h1 : p.rules.length ≤ 64) (h2 : p.paths.length ≤ 32) (h3 : p.ports.length ≤ 32) : many p = false := by
  unfold many
  simp; omega
structure Lim (x : PolM) : Prop where
  r : x.rules.length ≤ 64
  p : x.paths.length ≤ 32
  q : x.ports.length ≤ 32
theorem item_ok {p : PolM} (hp : Lim p) {i : Itm} (hi : i.ok p) {L : List Tok} (hL : L.map sig = i.ws) (e : Tok) (he : e.k = 0) (m : List Tok) :
    lineV p (ok (L ++ e :: m)) = i.add p ∧ lineS p (ok (L ++ e :: m)) = ok m ∧ Lim (i.add p) := by
  cases i with
  | rule r =>
    obtain ⟨x, l, rfl, hx, hl⟩ := map_cons3 (show L.map sig = nmT callW :: _ from hL)
    obtain ⟨k1, k2, k3⟩ := sig3 hx
    obtain ⟨e1, e2⟩ := rule_ok hi.1 hl e he m
    have hn : nmS (ok (x :: (l ++ e :: m))) = ok (l ++ e :: m) := nm_ok k1 (by rw [k2]; decide)
    have hv : lineV p (ok (x :: (l ++ e :: m))) = Itm.add p (.rule r) := by unfold lineV bodyP; rw [nx_cons, hn, if_pos k2, e1]; rfl
    have hlim : Lim (Itm.add p (.rule r)) := ⟨by have := hi.2; simp [Itm.add]; omega, hp.p, hp.q⟩
    refine ⟨hv, ?_, hlim⟩
    unfold lineS
    rw [List.cons_append, hv, many_no hlim.r hlim.p hlim.q, if_neg (by simp)]
    unfold bodyS
    rw [nx_cons, hn, if_pos k2, e2, tk_ok he]
  | hand h =>
    obtain ⟨h1, h2, h3⟩ := hi
    obtain ⟨x, l, rfl, hx, hl⟩ := map_cons3 (show L.map sig = nmT handleW :: _ from hL)
    obtain ⟨y, l, rfl, hy, hl⟩ := map_cons3 hl
    obtain rfl : l = [] := by simpa using hl
    obtain ⟨k1, k2, k3⟩ := sig3 hx
    obtain ⟨e1, e2⟩ := rights_ok h2 h3 (hasS_all h3) hy (e :: m)
    simp only [List.cons_append, List.nil_append]
    have hn : nmS (ok (x :: y :: e :: m)) = ok (y :: e :: m) := nm_ok k1 (by rw [k2]; decide)
    have hh : hdS p.handled x (ok (y :: e :: m)) = ok (y :: e :: m) := by unfold hdS; rw [if_pos h1]
    have hv : lineV p (ok (x :: y :: e :: m)) = Itm.add p (.hand h) := by
      unfold lineV bodyP; rw [nx_cons, hn, if_neg (by rw [k2]; decide), if_pos k2, hh, e1]; rfl
    have hlim : Lim (Itm.add p (.hand h)) := ⟨hp.r, hp.p, hp.q⟩
    refine ⟨hv, ?_, hlim⟩
    unfold lineS
    rw [hv, many_no hlim.r hlim.p hlim.q, if_neg (by simp)]
    unfold bodyS
    rw [nx_cons, hn, if_neg (by rw [k2]; decide), if_pos k2, hh, e2, tk_ok he]
  | path z =>
    obtain ⟨h1, h2, h3, h4⟩ := hi
    obtain ⟨g1, g2, g3⟩ := grant_parts h2
    obtain ⟨x, l, rfl, hx, hl⟩ := map_cons3 (show L.map sig = nmT beneathW :: _ from hL)
    obtain ⟨y, l, rfl, hy, hl⟩ := map_cons3 hl
    obtain ⟨u, l, rfl, hu, hl⟩ := map_cons3 hl
    obtain rfl : l = [] := by simpa using hl
    obtain ⟨k1, k2, k3⟩ := sig3 hx
    obtain ⟨j1, j2, j3⟩ := sig3 hy
    obtain ⟨e1, e2⟩ := rights_ok g1 (mask_of (by decide) g3) (hasS_and g2 g3) hu (e :: m)
    simp only [List.cons_append, List.nil_append]
    have hn : nmS (ok (x :: y :: u :: e :: m)) = ok (y :: u :: e :: m) := nm_ok k1 (by rw [k2]; decide)
    have hp1 : pt1 (ok (y :: u :: e :: m)) = ok (u :: e :: m) := by unfold pt1; rw [nx_cons, j2, if_pos h1, tk_ok j1]
    have hv : lineV p (ok (x :: y :: u :: e :: m)) = Itm.add p (.path z) := by
      unfold lineV bodyP; rw [nx_cons, hn, if_neg (by rw [k2]; decide), if_neg (by rw [k2]; decide), if_pos k2, hp1, nx_cons, e1, j2]; rfl
    have hlim : Lim (Itm.add p (.path z)) := ⟨hp.r, by simp [Itm.add]; omega, hp.q⟩
    refine ⟨hv, ?_, hlim⟩
    unfold lineS
    rw [hv, many_no hlim.r hlim.p hlim.q, if_neg (by simp)]
    unfold bodyS
    rw [nx_cons, hn, if_neg (by rw [k2]; decide), if_neg (by rw [k2]; decide), if_pos k2]
    unfold ptS
    rw [nx_cons, j2, h3, if_neg (by simp), hp1, e2, tk_ok he]
  | port z =>
    obtain ⟨h1, h2, h3, h4⟩ := hi
    obtain ⟨g1, g2, g3⟩ := grant_parts h2
    obtain ⟨x, l, rfl, hx, hl⟩ := map_cons3 (show L.map sig = nmT portW :: _ from hL)
    obtain ⟨y, l, rfl, hy, hl⟩ := map_cons3 hl
    obtain ⟨u, l, rfl, hu, hl⟩ := map_cons3 hl
    obtain rfl : l = [] := by simpa using hl
    obtain ⟨k1, k2, k3⟩ := sig3 hx
    obtain ⟨j1, j2, j3⟩ := sig3 hy
    obtain ⟨e1, e2⟩ := rights_ok g1 (mask_of (by decide) g3) (hasS_and g2 g3) hu (e :: m)
    simp only [List.cons_append, List.nil_append]
    have hn : nmS (ok (x :: y :: u :: e :: m)) = ok (y :: u :: e :: m) := nm_ok k1 (by rw [k2]; decide)
    have hp1 : qt1 (ok (y :: u :: e :: m)) = ok (u :: e :: m) := by unfold qt1; rw [nx_cons, j3, if_neg (by omega), tk_ok j1]
    have hmod : z.1 % 65536 = z.1 := Nat.mod_eq_of_lt h1
    have hv : lineV p (ok (x :: y :: u :: e :: m)) = Itm.add p (.port z) := by
      unfold lineV bodyP; rw [nx_cons, hn, if_neg (by rw [k2]; decide), if_neg (by rw [k2]; decide), if_neg (by rw [k2]; decide), if_pos k2, hp1, nx_cons, e1, j3, hmod]; rfl
    have hlim : Lim (Itm.add p (.port z)) := ⟨hp.r, hp.p, by simp [Itm.add]; omega⟩
    refine ⟨hv, ?_, hlim⟩
    unfold lineS
    rw [hv, many_no hlim.r hlim.p hlim.q, if_neg (by simp)]
    unfold bodyS
    rw [nx_cons, hn, if_neg (by rw [k2]; decide), if_neg (by rw [k2]; decide), if_neg (by rw [k2]; decide), if_pos k2]
    unfold qtS
    rw [nx_cons, j3, hmod, h3, if_neg (by simp), hp1, e2, tk_ok he]
def okAll : PolM → List Itm → Prop
  | _, [] => True
  | p, i :: r => i.ok p ∧ okAll (i.add p) r
def linWs (is : List Itm) : List Wd3 := is.flatMap fun i => i.ws ++ [enT]
theorem ws_ne (i : Itm) : i.ws ≠ [] := by cases i <;> simp [Itm.ws, ruleWs, handWs, pathWs, portWs]
theorem items_ok (m : List Tok) : ∀ (is : List Itm) (p : PolM) (L : List Tok) (f : Nat), Lim p → okAll p is → L.map sig = linWs is → L.length ≤ f →
    ∃ f', f - L.length ≤ f' ∧ linesF f p (ok (L ++ m)) = linesF f' (is.foldl Itm.add p) (ok m) ∧ Lim (is.foldl Itm.add p)
  | [], p, L, f, hp, _, hL, _ => by
    obtain rfl : L = [] := by simpa [linWs] using hL
    exact ⟨f, by simp, rfl, hp⟩
  | i :: is, p, L, f, hp, hi, hL, hf => by
    obtain ⟨l1, l2, rfl, h1, h2⟩ := map_app3 (show L.map sig = (i.ws ++ [enT]) ++ linWs is by rw [hL]; simp [linWs])
    obtain ⟨l3, l4, rfl, h3, h4⟩ := map_app3 h1
    obtain ⟨e, l5, rfl, he, h5⟩ := map_cons3 h4
    obtain rfl : l5 = [] := by simpa using h5
    obtain ⟨k1, k2, k3⟩ := sig3 he
    obtain ⟨e1, e2, e3⟩ := item_ok hp hi.1 h3 e k1 (l2 ++ m)
    have hl3 : l3 ≠ [] := by rintro rfl; exact ws_ne i h3.symm
    have hlen := List.length_pos_iff.2 hl3
    cases f with
    | zero => simp at hf
    | succ f =>
      simp only [List.length_append, List.length_cons, List.length_nil] at hf
      obtain ⟨f', g1, g2, g3⟩ := items_ok m is (i.add p) l2 f e3 hi.2 h2 (by omega)
      refine ⟨f', by simp only [List.length_append, List.length_cons, List.length_nil]; omega, ?_, g3⟩
      conv => lhs; rw [linesF]
      have ea : (l3 ++ [e]) ++ l2 ++ m = l3 ++ e :: (l2 ++ m) := by simp
      rw [ea, if_neg (by show l3 ++ e :: (l2 ++ m) ≠ []; simp), e1, e2, g2]
      rfl
end Go.Proofs.YtinofjbnfmalkaaGreatDoor
