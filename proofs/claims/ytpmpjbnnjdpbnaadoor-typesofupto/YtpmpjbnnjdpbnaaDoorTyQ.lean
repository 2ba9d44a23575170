/- Types as texts: how a function's type is taken apart, and what the other reading (by the document's answer) comes to. No program stands in it. -/
import Derived.Test.YtpmpjbnnjdpbnaaDoorTyP
namespace Go.Proofs.YtpmpjbnnjdpbnaaDoor.Lx

theorem ok_no {q : List UInt8} (h : okR q = true) : hd q = .no := by
  cases q with
  | nil => rfl
  | cons c q =>
    simp [okR] at h
    have H := hd_is (c :: q)
    generalize hx : hd (c :: q) = x at H
    generalize hl : c :: q = l at H
    cases H <;> first | rfl | (simp [tL, tC, tF, tI, tB, tS, tP] at hl; rcases h with h | h <;> (rw [h] at hl; exact absurd hl.1 (by decide)))
theorem ty_len {m : Nat} {l s : List UInt8} (t : Ty m l s) : s.length ≤ l.length ∧ (m ≠ 2 → s.length < l.length) := by
  induction t with
  | @wrap l r s h t i => have := (hd_len l).1 _ h; exact ⟨by omega, fun _ => by omega⟩
  | @base l r h => have := (hd_len l).2.2.1 _ h; exact ⟨by omega, fun _ => by omega⟩
  | @ptr l r h n => have := (hd_len l).2.2.2 _ h; have := nmR_len r; exact ⟨by omega, fun _ => by omega⟩
  | @fn0 l r s h t i => have := (hd_len l).2.1 _ h; simp at this; exact ⟨by omega, fun _ => by omega⟩
  | @fn1 l r s h n t i => have := (hd_len l).2.1 _ h; exact ⟨by omega, fun _ => by omega⟩
  | more t u i j => have := i.2 (by decide); have := j.1; simp at *; omega
  | last t u i j => have := i.2 (by decide); have := j.1; simp at *; omega
  | res0 h => exact ⟨Nat.le_refl _, fun h => absurd rfl h⟩
  | res1 h t i => exact ⟨i.1, fun h => absurd rfl h⟩
/-- A function's type behind its first bracket, taken apart by counting brackets. -/
def spl : List UInt8 → Nat → List UInt8 → List (List UInt8) → List (List UInt8) × List UInt8
  | [], _, _, acc => (acc, [])
  | c :: q, k, cur, acc =>
    if c = 40 then spl q (k + 1) (cur ++ [c]) acc
    else if c = 41 then
      if 0 < k then spl q (k - 1) (cur ++ [c]) acc
      else (if (cur.isEmpty && acc.isEmpty) = true then acc else acc ++ [cur], q)
    else if c = 44 then
      if k = 0 then spl q 0 [] (acc ++ [cur]) else spl q k (cur ++ [c]) acc
    else spl q k (cur ++ [c]) acc
def Bal (x : List UInt8) : Prop := ∀ (k : Nat) (cur : List UInt8) (acc : List (List UInt8)) (q : List UInt8), spl (x ++ q) k cur acc = spl q k (cur ++ x) acc
def Bal1 (x : List UInt8) : Prop := ∀ (k : Nat) (cur : List UInt8) (acc : List (List UInt8)) (q : List UInt8), spl (x ++ q) (k + 1) cur acc = spl q k (cur ++ x) acc
theorem bal_nil : Bal [] := by intro k cur acc q; simp
theorem bal_app {x y : List UInt8} (hx : Bal x) (hy : Bal y) : Bal (x ++ y) := by
  intro k cur acc q; rw [List.append_assoc, hx, hy, List.append_assoc]
theorem bal1_app {x y : List UInt8} (hx : Bal x) (hy : Bal1 y) : Bal1 (x ++ y) := by
  intro k cur acc q; rw [List.append_assoc, hx, hy, List.append_assoc]
theorem bal_plain : ∀ (x : List UInt8), (∀ c ∈ x, c ≠ 40 ∧ c ≠ 41 ∧ c ≠ 44) → Bal x
  | [], _ => bal_nil
  | c :: x, h => by
    intro k cur acc q
    obtain ⟨h1, h2, h3⟩ := h c (List.mem_cons_self ..)
    rw [List.cons_append, spl, if_neg h1, if_neg h2, if_neg h3, bal_plain x (fun d hd => h d (List.mem_cons_of_mem _ hd))]
    simp
theorem nam_ne {c : UInt8} (h : isNam c = true) : c ≠ 40 ∧ c ≠ 41 ∧ c ≠ 44 := by
  refine ⟨?_, ?_, ?_⟩ <;> (rintro rfl; revert h; decide)
theorem isNm_all {x : List UInt8} (h : isNm x = true) : ∀ c ∈ x, isNam c = true := by
  simp [isNm] at h; exact h.1.2
theorem bal_nm {x : List UInt8} (h : isNm x = true) : Bal x := bal_plain x (fun c hc => nam_ne (isNm_all h c hc))
theorem balF {x : List UInt8} (h : Bal1 x) : Bal (tF ++ x) := by
  intro k cur acc q
  have hF : Bal [102, 117, 110, 99] := bal_plain _ (by decide)
  rw [show tF ++ x ++ q = [102, 117, 110, 99] ++ (40 :: (x ++ q)) from by simp [tF], hF, spl, if_pos rfl, h]
  simp [tF]
theorem hd_parts (l : List UInt8) : (∀ r, hd l = .wrap r → ∃ p, l = p ++ r ∧ Bal p) ∧ (∀ r, hd l = .func r → l = tF ++ r) ∧ (∀ r, hd l = .base r → ∃ p, l = p ++ r ∧ Bal p) ∧ (∀ r, hd l = .ptr r → l = tP ++ r) := by
  have H := hd_is l
  generalize hd l = x at H
  cases H with
  | L r => refine ⟨?_, by simp, by simp, by simp⟩; intro r' e; cases e; exact ⟨tL, rfl, bal_plain _ (by decide)⟩
  | C r => refine ⟨?_, by simp, by simp, by simp⟩; intro r' e; cases e; exact ⟨tC, rfl, bal_plain _ (by decide)⟩
  | F r => simp
  | I r => refine ⟨by simp, by simp, ?_, by simp⟩; intro r' e; cases e; exact ⟨tI, rfl, bal_plain _ (by decide)⟩
  | B r => refine ⟨by simp, by simp, ?_, by simp⟩; intro r' e; cases e; exact ⟨tB, rfl, bal_plain _ (by decide)⟩
  | S r => refine ⟨by simp, by simp, ?_, by simp⟩; intro r' e; cases e; exact ⟨tS, rfl, bal_plain _ (by decide)⟩
  | P r => simp
  | no => simp
theorem ty_bal {m : Nat} {l s : List UInt8} (t : Ty m l s) : ∃ x, l = x ++ s ∧ (m ≠ 1 → Bal x) ∧ (m = 1 → Bal1 x) := by
  induction t with
  | @wrap l r s h t i =>
    obtain ⟨p, rfl, hp⟩ := (hd_parts l).1 _ h
    obtain ⟨x, rfl, hx, _⟩ := i
    exact ⟨p ++ x, by simp, fun _ => bal_app hp (hx (by decide)), by simp⟩
  | @base l r h =>
    obtain ⟨p, rfl, hp⟩ := (hd_parts l).2.2.1 _ h
    exact ⟨p, rfl, fun _ => hp, by simp⟩
  | @ptr l r h n =>
    have e := (hd_parts l).2.2.2 _ h
    refine ⟨tP ++ nm r, ?_, fun _ => bal_app (bal_plain _ (by decide)) (bal_nm n), by simp⟩
    rw [List.append_assoc, nm_app]; exact e
  | @fn0 l q s h t i =>
    have e := (hd_parts l).2.1 _ h
    obtain ⟨x, rfl, hx, _⟩ := i
    refine ⟨tF ++ (41 :: x), by simp [e], fun _ => balF ?_, by simp⟩
    intro k cur acc q
    rw [List.cons_append, spl, if_neg (by decide), if_pos rfl, if_pos (by omega), hx (by decide)]
    simp
  | @fn1 l r s h n t i =>
    have e := (hd_parts l).2.1 _ h
    obtain ⟨x, rfl, _, hx⟩ := i
    exact ⟨tF ++ x, by simp [e], fun _ => balF (hx rfl), by simp⟩
  | @more l r s t u i j =>
    obtain ⟨x, rfl, hx, _⟩ := i
    obtain ⟨y, rfl, _, hy⟩ := j
    refine ⟨x ++ (44 :: y), by simp, by simp, fun _ => ?_⟩
    intro k cur acc q
    rw [List.append_assoc, hx (by decide), List.cons_append, spl, if_neg (by decide), if_neg (by decide), if_pos rfl, if_neg (by omega), hy rfl]
    simp
  | @last l r s t u i j =>
    obtain ⟨x, rfl, hx, _⟩ := i
    obtain ⟨y, rfl, hy, _⟩ := j
    refine ⟨x ++ (41 :: y), by simp, by simp, fun _ => ?_⟩
    intro k cur acc q
    rw [List.append_assoc, hx (by decide), List.cons_append, spl, if_neg (by decide), if_pos rfl, if_pos (by omega), hy (by decide)]
    simp
  | res0 h => exact ⟨[], rfl, fun _ => bal_nil, by simp⟩
  | res1 h t i => obtain ⟨x, e, hx, _⟩ := i; exact ⟨x, e, fun _ => hx (by decide), by simp⟩
/-- Texts with a comma between. -/
def joinC : List (List UInt8) → List UInt8
  | [] => []
  | [x] => x
  | x :: y :: xs => x ++ 44 :: joinC (y :: xs)
theorem spl_join (res : List UInt8) : ∀ (ps : List (List UInt8)) (acc : List (List UInt8)), ps ≠ [] → (∀ x ∈ ps, Bal x ∧ x ≠ []) → spl (joinC ps ++ 41 :: res) 0 [] acc = (acc ++ ps, res)
  | [], _, h, _ => absurd rfl h
  | [x], acc, _, h => by
    obtain ⟨h1, h2⟩ := h x (List.mem_singleton_self x)
    rw [joinC, h1, spl, if_neg (by decide), if_pos rfl, if_neg (by omega)]
    cases x with
    | nil => exact absurd rfl h2
    | cons c x => simp
  | x :: y :: xs, acc, _, h => by
    obtain ⟨h1, h2⟩ := h x (List.mem_cons_self ..)
    rw [joinC, List.append_assoc, h1, List.cons_append, spl, if_neg (by decide), if_neg (by decide), if_pos rfl, if_pos rfl, spl_join res (y :: xs) _ (by simp) (fun z hz => h z (List.mem_cons_of_mem _ hz))]
    simp
theorem spl_none (res : List UInt8) : spl (41 :: res) 0 [] [] = ([], res) := by
  rw [spl, if_neg (by decide), if_pos rfl, if_neg (by omega)]; rfl
/-- Params, each of which is a type, are read to the end. -/
theorem ty_join {res s : List UInt8} (t : Ty 2 res s) : ∀ (ps : List (List UInt8)), ps ≠ [] → (∀ x ∈ ps, Ty 0 x []) → Ty 1 (joinC ps ++ 41 :: res) s
  | [], h, _ => absurd rfl h
  | [x], _, h => .last (by rw [joinC]; exact ty_app (41 :: res) rfl (h x (List.mem_singleton_self x))) t
  | x :: y :: xs, _, h => by
    refine .more (r := joinC (y :: xs) ++ 41 :: res) ?_ (ty_join t (y :: xs) (by simp) (fun z hz => h z (List.mem_cons_of_mem _ hz)))
    rw [joinC, List.append_assoc]
    exact ty_app _ rfl (h x (List.mem_cons_self ..))
theorem ty_head {x : List UInt8} {s : List UInt8} (t : Ty 0 x s) (q : List UInt8) : cut [41] (x ++ q) = none ∧ okR (x ++ q) = false := by
  cases x with
  | nil => exact absurd rfl (ty_nil t (by decide))
  | cons c x =>
    have h : okR (c :: x) = false := by
      cases ho : okR (c :: x) with
      | false => rfl
      | true =>
        have := ok_no ho
        cases t with
        | wrap h => rw [this] at h; cases h
        | base h => rw [this] at h; cases h
        | ptr h => rw [this] at h; cases h
        | fn0 h => rw [this] at h; cases h
        | fn1 h => rw [this] at h; cases h
    refine ⟨?_, h⟩
    apply cut_none
    intro r e
    simp at e
    rw [e.1] at h
    simp [okR] at h
theorem joinC_head : ∀ (ps : List (List UInt8)), ps ≠ [] → (∀ x ∈ ps, Ty 0 x []) → ∀ q, cut [41] (joinC ps ++ q) = none
  | [], h, _, _ => absurd rfl h
  | [x], _, h, q => (ty_head (h x (List.mem_singleton_self x)) q).1
  | x :: y :: xs, _, h, q => by rw [joinC, List.append_assoc]; exact (ty_head (h x (List.mem_cons_self ..)) _).1
theorem ty_res {res : List UInt8} (h : res = [] ∨ Ty 0 res []) : Ty 2 res [] := by
  rcases h with rfl | h
  · exact .res0 rfl
  · exact .res1 (by have := (ty_head h []).2; simpa using this) h
/-- A function's type of any params and result. -/
theorem ty_fn (ps : List (List UInt8)) (res : List UInt8) (h : ∀ x ∈ ps, Ty 0 x []) (hr : res = [] ∨ Ty 0 res []) : Ty 0 (tF ++ (joinC ps ++ 41 :: res)) [] := by
  cases ps with
  | nil => exact .fn0 (hdF _) (ty_res hr)
  | cons x xs => exact .fn1 (hdF _) (joinC_head (x :: xs) (by simp) h _) (ty_join (ty_res hr) (x :: xs) (by simp) h)
theorem ty_ne {x : List UInt8} (h : Ty 0 x []) : Bal x ∧ x ≠ [] := by
  obtain ⟨y, e, hy, _⟩ := ty_bal h
  rw [List.append_nil] at e
  rw [e]; exact ⟨hy (by decide), by rw [← e]; exact ty_nil h (by decide)⟩
theorem spl_fn (ps : List (List UInt8)) (res : List UInt8) (h : ∀ x ∈ ps, Ty 0 x []) : spl (joinC ps ++ 41 :: res) 0 [] [] = (ps, res) := by
  cases ps with
  | nil => exact spl_none res
  | cons x xs => rw [spl_join res (x :: xs) [] (by simp) (fun z hz => ty_ne (h z hz))]; rfl

/-- The document's reading: a name. -/
def rNm (r : List UInt8) : Option (List UInt8) := if isNm (r.takeWhile isNam) = true then some (r.dropWhile isNam) else none
theorem nam_notCC {c : UInt8} (h : isNam c = true) : notCC c = true := by
  obtain ⟨_, h2, h3⟩ := nam_ne h
  simp [notCC, h2, h3]
theorem twCC (p : UInt8 → Bool) : ∀ (x q : List UInt8), (∀ c ∈ x, p c = true) → (∀ c, q.head? = some c → p c = false) → (x ++ q).takeWhile p = x ∧ (x ++ q).dropWhile p = q
  | [], q, _, h => by
    cases q with
    | nil => exact ⟨rfl, rfl⟩
    | cons c q => have := h c rfl; exact ⟨List.takeWhile_cons_of_neg (by simp [this]), List.dropWhile_cons_of_neg (by simp [this])⟩
  | c :: x, q, h, h' => by
    obtain ⟨i1, i2⟩ := twCC p x q (fun d hd => h d (List.mem_cons_of_mem _ hd)) h'
    have := h c (List.mem_cons_self ..)
    rw [List.cons_append, List.takeWhile_cons_of_pos this, List.dropWhile_cons_of_pos this, i1, i2]; exact ⟨rfl, rfl⟩
theorem ok_nam {q : List UInt8} (h : okR q = true) (p : UInt8 → Bool) (h1 : p 44 = false) (h2 : p 41 = false) : ∀ c, q.head? = some c → p c = false := by
  intro c hc
  cases q with
  | nil => cases hc
  | cons d q => cases hc; simp [okR] at h; rcases h with rfl | rfl; exact h1; exact h2
theorem rNm_iff {r s : List UInt8} (hs : okR s = true) : rNm r = some s ↔ isNm (nm r) = true ∧ s = nmR r := by
  unfold rNm
  constructor
  · intro h
    split at h
    · rename_i hn
      injection h with h
      have e : r.takeWhile isNam ++ s = r := by rw [← h]; exact List.takeWhile_append_dropWhile
      obtain ⟨a, b⟩ := twCC notCC (r.takeWhile isNam) s (fun c hc => nam_notCC (isNm_all hn c hc)) (ok_nam hs notCC (by decide) (by decide))
      rw [e] at a b
      unfold nm nmR
      rw [a, b]; exact ⟨hn, rfl⟩
    · cases h
  · rintro ⟨hn, rfl⟩
    have e := nm_app r
    obtain ⟨a, b⟩ := twCC isNam (nm r) (nmR r) (isNm_all hn) (ok_nam (nmR_ok r) isNam (by decide) (by decide))
    rw [e] at a b
    rw [a, b, if_pos hn]
/-- The document's reading of params, by a reading of types. -/
def rPs (E : List UInt8 → Option (List UInt8)) : Nat → List UInt8 → List (List UInt8) → Option (List UInt8 × List (List UInt8) × List UInt8)
  | 0, _, _ => none
  | n + 1, l, acc =>
    match cut [41] l with
    | some q => some (match E q with
      | none => (q, acc, [])
      | some r => (r, acc, q.take (q.length - r.length)))
    | none =>
      match (if acc.isEmpty = true then some l else cut [44] l) with
      | none => none
      | some q => match E q with
        | none => none
        | some r => rPs E n r (acc ++ [q.take (q.length - r.length)])
def rT : Nat → List UInt8 → Option (List UInt8)
  | 0, _ => none
  | n + 1, l =>
    match hd l with
    | .wrap r => rT n r
    | .func r => (rPs (rT n) (r.length + 1) r []).map (·.1)
    | .base r => some r
    | .ptr r => rNm r
    | .no => none
theorem rNm_len {r s : List UInt8} (h : rNm r = some s) : s.length ≤ r.length := by
  unfold rNm at h
  split at h
  · injection h with h
    have e : r.takeWhile isNam ++ s = r := by rw [← h]; exact List.takeWhile_append_dropWhile
    have := congrArg List.length e
    simp at this; omega
  · cases h
theorem rPs_len {E : List UInt8 → Option (List UInt8)} (hE : ∀ q r, E q = some r → r.length < q.length) : ∀ (n : Nat) (l : List UInt8) (acc : List (List UInt8)) (s : List UInt8) (ps : List (List UInt8)) (res : List UInt8), rPs E n l acc = some (s, ps, res) → s.length < l.length
  | 0, _, _, _, _, _, h => by cases h
  | n + 1, l, acc, s, ps, res, h => by
    rw [rPs] at h
    split at h
    · rename_i q hq
      have := congrArg List.length (cut_some.1 hq)
      simp at this
      split at h
      · cases h; omega
      · rename_i r hr; cases h; have := hE _ _ hr; omega
    · split at h
      · cases h
      · rename_i q hq
        have hle : q.length ≤ l.length := by
          split at hq
          · cases hq; omega
          · have := congrArg List.length (cut_some.1 hq); simp at this; omega
        split at h
        · cases h
        · rename_i r hr
          have := hE _ _ hr
          have := rPs_len hE n r _ s ps res h
          omega
theorem rT_len : ∀ (n : Nat) (l r : List UInt8), rT n l = some r → r.length < l.length
  | 0, _, _, h => by cases h
  | n + 1, l, s, h => by
    obtain ⟨g1, g2, g3, g4⟩ := hd_len l
    rw [rT] at h
    split at h
    · rename_i r hr; have := g1 r hr; have := rT_len n r s h; omega
    · rename_i r hr
      have := g2 r hr
      cases hp : rPs (rT n) (r.length + 1) r [] with
      | none => rw [hp] at h; cases h
      | some x =>
        rw [hp] at h
        injection h with h
        have := rPs_len (rT_len n) (r.length + 1) r [] x.1 x.2.1 x.2.2 hp
        have h2 : x.1 = s := h
        rw [h2] at this; omega
    · rename_i r hr; cases h; exact g3 _ hr
    · rename_i r hr; have := g4 r hr; have := rNm_len h; omega
    · cases h
theorem rPs_congr {E E' : List UInt8 → Option (List UInt8)} (hE : ∀ q r, E q = some r → r.length < q.length) : ∀ (n m : Nat) (l : List UInt8) (acc : List (List UInt8)), (∀ q, q.length ≤ l.length → E q = E' q) → l.length < n → l.length < m → rPs E n l acc = rPs E' m l acc
  | 0, _, _, _, _, h, _ => by omega
  | _ + 1, 0, _, _, _, _, h => by omega
  | n + 1, m + 1, l, acc, he, hn, hm => by
    rw [rPs, rPs]
    cases hc : cut [41] l with
    | some q =>
      have := congrArg List.length (cut_some.1 hc)
      simp at this
      simp only
      rw [he q (by omega)]
    | none =>
      simp only
      cases hx : (if acc.isEmpty = true then some l else cut [44] l) with
      | none => rfl
      | some q =>
        have hle : q.length ≤ l.length := by
          split at hx
          · cases hx; omega
          · have := congrArg List.length (cut_some.1 hx); simp at this; omega
        simp only
        rw [← he q hle]
        cases hr : E q with
        | none => rfl
        | some r =>
          have := hE _ _ hr
          exact rPs_congr hE n m r _ (fun p hp => he p (by omega)) (by omega) (by omega)
theorem rT_fuel : ∀ (n m : Nat) (l : List UInt8), l.length < n → l.length < m → rT n l = rT m l
  | 0, _, _, h, _ => by omega
  | _ + 1, 0, _, _, h => by omega
  | n + 1, m + 1, l, hn, hm => by
    obtain ⟨g1, g2, g3, g4⟩ := hd_len l
    rw [rT, rT]
    split
    · rename_i r hr; have := g1 r hr; exact rT_fuel n m r (by omega) (by omega)
    · rename_i r hr
      have := g2 r hr
      rw [rPs_congr (rT_len n) (r.length + 1) (r.length + 1) r [] (fun q hq => rT_fuel n m q (by omega) (by omega)) (by omega) (by omega)]
    · rfl
    · rfl
    · rfl
def rE (l : List UInt8) : Option (List UInt8) := rT (l.length + 1) l
def rF (l : List UInt8) : Option (List UInt8 × List (List UInt8) × List UInt8) := rPs rE (l.length + 1) l []
theorem rE_len {l r : List UInt8} (h : rE l = some r) : r.length < l.length := rT_len _ l r h
theorem rE_eq (l : List UInt8) : rE l = match hd l with
    | .wrap r => rE r
    | .func r => (rF r).map (·.1)
    | .base r => some r
    | .ptr r => rNm r
    | .no => none := by
  obtain ⟨g1, g2, g3, g4⟩ := hd_len l
  show rT (l.length + 1) l = _
  rw [rT]
  split
  · rename_i r hr; have := g1 r hr; exact rT_fuel _ _ r (by omega) (by omega)
  · rename_i r hr
    have := g2 r hr
    unfold rF
    rw [rPs_congr (rT_len _) (r.length + 1) (r.length + 1) r [] (fun q hq => rT_fuel _ _ q (by omega) (Nat.lt_succ_self _)) (by omega) (by omega)]
    rfl
  · rfl
  · rfl
  · rfl
theorem rPs_eq (n : Nat) (l : List UInt8) (acc : List (List UInt8)) (hn : l.length < n) : rPs rE n l acc = rPs rE (l.length + 1) l acc := rPs_congr (fun _ _ h => rE_len h) _ _ l acc (fun _ _ => rfl) hn (Nat.lt_succ_self _)
end Go.Proofs.YtpmpjbnnjdpbnaaDoor.Lx
