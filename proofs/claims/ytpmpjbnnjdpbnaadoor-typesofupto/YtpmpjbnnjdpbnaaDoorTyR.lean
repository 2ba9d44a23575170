/- Types as texts: the two readings agree. No program stands in it. -/
import Derived.Test.YtpmpjbnnjdpbnaaDoorTyQ
namespace Go.Proofs.YtpmpjbnnjdpbnaaDoor.Lx

theorem rE_no {q : List UInt8} (h : hd q = .no) : rE q = none := by rw [rE_eq, h]
theorem ty_hd {q s : List UInt8} (t : Ty 0 q s) : okR q = false := by have := (ty_head t []).2; simpa using this
theorem take_diff (x r : List UInt8) : (x ++ r).take ((x ++ r).length - r.length) = x := by simp
/-- What stands behind params, if a type's reading is right below a length. -/
theorem rPs_sound (N : Nat) (IH : ∀ (l r : List UInt8), l.length < N → okR r = true → rE l = some r → Ty 0 l r) : ∀ (n : Nat) (l : List UInt8) (acc : List (List UInt8)) (s : List UInt8) (ps : List (List UInt8)) (res : List UInt8), l.length < N → okR s = true → rPs rE n l acc = some (s, ps, res) →
    ∃ ps', ps = acc ++ ps' ∧ (∀ x ∈ ps', Bal x ∧ x ≠ []) ∧ Ty 2 (res ++ s) s ∧
      ((ps' = [] ∧ l = 41 :: (res ++ s)) ∨ (ps' ≠ [] ∧ acc ≠ [] ∧ ∃ q, l = 44 :: q ∧ q = joinC ps' ++ 41 :: (res ++ s) ∧ Ty 1 q s) ∨ (ps' ≠ [] ∧ acc = [] ∧ cut [41] l = none ∧ l = joinC ps' ++ 41 :: (res ++ s) ∧ Ty 1 l s))
  | 0, _, _, _, _, _, _, _, h => by cases h
  | n + 1, l, acc, s, ps, res, hN, hs, h => by
    rw [rPs] at h
    split at h
    · rename_i q hq
      have e := cut_some.1 hq
      have hql : q.length < l.length := by rw [e]; simp
      split at h
      · cases h
        exact ⟨[], by simp, by simp, .res0 hs, .inl ⟨rfl, e⟩⟩
      · rename_i r hr
        cases h
        have t := IH q s (by omega) hs hr
        obtain ⟨x, ex, _, _⟩ := ty_bal t
        have et : q.take (q.length - s.length) = x := by rw [ex]; exact take_diff x s
        rw [et, ← ex]
        exact ⟨[], by simp, by simp, .res1 (ty_hd t) t, .inl ⟨rfl, e⟩⟩
    · rename_i hc
      split at h
      · cases h
      · rename_i q hq
        split at h
        · cases h
        · rename_i r hr
          have hrq := rE_len hr
          have hql : q.length ≤ l.length := by
            split at hq
            · cases hq; omega
            · have := congrArg List.length (cut_some.1 hq); simp at this; omega
          obtain ⟨ps', e1, e2, e3, e4⟩ := rPs_sound N IH n r _ s ps res (by omega) hs h
          have hone : ∃ x, Ty 1 q s ∧ q = joinC (x :: ps') ++ 41 :: (res ++ s) ∧ Bal x ∧ x ≠ [] ∧ x = q.take (q.length - r.length) := by
            rcases e4 with ⟨p0, er⟩ | ⟨p1, _, r', er, ej, t1⟩ | ⟨_, hno, _⟩
            · have hok : okR r = true := by rw [er]; rfl
              have t := IH q r (by omega) hok hr
              obtain ⟨x, ex, hx, _⟩ := ty_bal t
              refine ⟨x, .last (by rw [← er]; exact t) e3, ?_, hx (by decide), ?_, ?_⟩
              · rw [ex, er, p0]; rfl
              · rintro rfl; rw [ex] at hrq; simp at hrq
              · rw [ex]; exact (take_diff x r).symm
            · have hok : okR r = true := by rw [er]; rfl
              have t := IH q r (by omega) hok hr
              obtain ⟨x, ex, hx, _⟩ := ty_bal t
              refine ⟨x, .more (by rw [← er]; exact t) t1, ?_, hx (by decide), ?_, ?_⟩
              · cases ps' with
                | nil => exact absurd rfl p1
                | cons y ys => rw [ex, er, ej, joinC]; simp
              · rintro rfl; rw [ex] at hrq; simp at hrq
              · rw [ex]; exact (take_diff x r).symm
            · exact absurd hno (by simp)
          obtain ⟨x, t1, ej, hb, hne, ex⟩ := hone
          rw [← ex] at e1
          refine ⟨x :: ps', by rw [e1]; simp, ?_, e3, .inr ?_⟩
          · intro z hz
            rcases List.mem_cons.1 hz with rfl | hz
            · exact ⟨hb, hne⟩
            · exact e2 z hz
          · cases acc with
            | nil =>
              have : l = q := by simpa using hq
              rw [← this] at t1 ej
              exact .inr ⟨by simp, rfl, hc, ej, t1⟩
            | cons a acc =>
              have := cut_some.1 (show cut [44] l = some q by simpa using hq)
              exact .inl ⟨by simp, by simp, q, this, ej, t1⟩
theorem rE_sound : ∀ (N : Nat) (l r : List UInt8), l.length < N → okR r = true → rE l = some r → Ty 0 l r
  | 0, _, _, h, _, _ => by omega
  | N + 1, l, s, hN, hs, h => by
    obtain ⟨g1, g2, g3, g4⟩ := hd_len l
    rw [rE_eq] at h
    split at h
    · rename_i r hr; have := g1 r hr; exact .wrap hr (rE_sound N r s (by omega) hs h)
    · rename_i r hr
      have := g2 r hr
      cases hp : rF r with
      | none => rw [hp] at h; cases h
      | some x =>
        obtain ⟨s', ps, res⟩ := x
        rw [hp] at h
        have h2 : s' = s := Option.some.inj h
        subst h2
        obtain ⟨ps', e1, e2, e3, e4⟩ := rPs_sound N (rE_sound N) _ r [] s' ps res (by omega) hs hp
        rcases e4 with ⟨p0, er⟩ | ⟨_, hno, _⟩ | ⟨p1, _, hc, ej, t1⟩
        · exact .fn0 (by rw [← er]; exact hr) e3
        · exact absurd rfl hno
        · exact .fn1 hr hc t1
    · rename_i r hr; cases h; exact .base hr
    · rename_i r hr
      obtain ⟨h1, h2⟩ := (rNm_iff hs).1 h
      rw [h2]; exact .ptr hr h1
    · cases h
theorem rE_complete {m : Nat} {l s : List UInt8} (t : Ty m l s) : okR s = true → match m with
    | 0 => rE l = some s
    | 1 => ∀ (n : Nat) (acc : List (List UInt8)), l.length < n → ∃ r, rE l = some r ∧ ∃ ps res, rPs rE n r (acc ++ [l.take (l.length - r.length)]) = some (s, ps, res)
    | _ => ∀ (acc : List (List UInt8)), ∃ ps res, (match rE l with | none => (l, acc, []) | some r => (r, acc, l.take (l.length - r.length))) = (s, ps, res) := by
  induction t with
  | wrap h t i => intro hs; show rE _ = _; rw [rE_eq, h]; exact i hs
  | base h => intro hs; show rE _ = _; rw [rE_eq, h]
  | ptr h n => intro hs; show rE _ = _; rw [rE_eq, h]; exact (rNm_iff hs).2 ⟨n, rfl⟩
  | @fn0 l q s h t i =>
    intro hs
    show rE _ = _
    rw [rE_eq, h]
    obtain ⟨ps, res, e⟩ := i hs []
    simp only [rF, rPs]
    rw [show (41 :: q : List UInt8) = [41] ++ q from rfl, cut_app]
    exact congrArg (fun x => some (Prod.fst x)) e
  | @fn1 l r s h n t i =>
    intro hs
    show rE _ = _
    rw [rE_eq, h]
    obtain ⟨r', e1, ps, res, e2⟩ := i hs r.length.succ [] (by omega)
    have hl := rE_len e1
    rw [rPs_eq _ _ _ (by omega)] at e2
    simp only [rF]
    rw [rPs, n]
    simp only [List.isEmpty_nil, if_true, e1]
    rw [rPs_eq _ _ _ (by omega)]
    simp only [List.nil_append] at e2
    simp only [List.nil_append]
    rw [e2]; rfl
  | @more l r s t u i j =>
    intro hs n acc hn
    have e1 : rE l = some (44 :: r) := i rfl
    have hl := rE_len e1
    refine ⟨44 :: r, e1, ?_⟩
    obtain ⟨r', e2, ps, res, e3⟩ := j hs n (acc ++ [l.take (l.length - (44 :: r).length)]) (by simp at hl; omega)
    have hl2 := rE_len e2
    refine ⟨ps, res, ?_⟩
    cases n with
    | zero => omega
    | succ n =>
      rw [rPs, cut_none (p := [41]) (by intro x hx; cases hx)]
      simp only
      rw [if_neg (by simp), show (44 :: r : List UInt8) = [44] ++ r from rfl, cut_app]
      simp only [e2]
      rw [rPs_eq _ _ _ (by simp at hl; omega)] at e3
      rw [rPs_eq _ _ _ (by simp at hl; omega)]
      exact e3
  | @last l r s t u i j =>
    intro hs n acc hn
    have e1 : rE l = some (41 :: r) := i rfl
    refine ⟨41 :: r, e1, ?_⟩
    obtain ⟨ps, res, e⟩ := j hs (acc ++ [l.take (l.length - (41 :: r).length)])
    refine ⟨ps, res, ?_⟩
    cases n with
    | zero => omega
    | succ n =>
      rw [rPs, show (41 :: r : List UInt8) = [41] ++ r from rfl, cut_app]
      simp only
      rw [← e]; rfl
  | @res0 l h => intro hs acc; rw [rE_no (ok_no h)]; exact ⟨acc, [], rfl⟩
  | @res1 l s h t i => intro hs acc; rw [show rE l = some s from i hs]; exact ⟨acc, l.take (l.length - s.length), rfl⟩
/-- Whether a text is a type, by the document's reading. -/
theorem vd_rE (l : List UInt8) : rE l = some [] ↔ vd l = true := by
  rw [vd_ty]
  exact ⟨rE_sound (l.length + 1) l [] (by omega) rfl, fun t => rE_complete t rfl⟩
/-- A function's type's parts, by both readings. -/
theorem rF_spl {r : List UInt8} (h : vd (tF ++ r) = true) : ∃ ps res, rF r = some ([], ps, res) ∧ spl r 0 [] [] = (ps, res) := by
  have h1 := (vd_rE _).2 h
  rw [rE_eq, hdF] at h1
  simp only at h1
  cases hp : rF r with
  | none => rw [hp] at h1; cases h1
  | some x =>
    obtain ⟨s, ps, res⟩ := x
    rw [hp] at h1
    have h2 : s = [] := Option.some.inj h1
    subst h2
    refine ⟨ps, res, rfl, ?_⟩
    obtain ⟨ps', e1, e2, e3, e4⟩ := rPs_sound (r.length + 1) (rE_sound _) _ r [] [] ps res (by omega) rfl hp
    rw [List.nil_append] at e1
    subst e1
    rw [List.append_nil] at e4
    rcases e4 with ⟨p0, er⟩ | ⟨_, hno, _⟩ | ⟨p1, _, hc, ej, t1⟩
    · rw [er, p0]; exact spl_none res
    · exact absurd rfl hno
    · rw [ej, spl_join res ps [] p1 e2]; rfl
end Go.Proofs.YtpmpjbnnjdpbnaaDoor.Lx
