import Derived.Test.YtfkfccpjfagamaaGreatDoorYb
import Derived.MapKept
import Derived.Laws.BytesString
import Derived.Lib.UnsafeStr
import Derived.Lib.Builder
set_option linter.all false
namespace Ex
open Go Go.MapKept
variable [Base] {P : Program} {ρ : Rho} {h : H} {w : World} {η : Env} {a : Act} {nx : Nx}
theorem mapS_ok {t e : Nat} (h : mapS P t = some e) : ∃ k, P.underlying t = some (.map k e) ∧ P.underlying k = some .string := by
  unfold mapS at h
  split at h
  · rename_i k e' hu
    split at h
    · rename_i hk; injection h with h; subst h; exact ⟨k, hu, hk⟩
    · cases h
  · cases h
theorem bytes_sym {x y : ByteArray} : (x == y) = true ↔ x = y := by
  rw [beq_toListBytes, ByteArray.toList_eq, ByteArray.toList_eq]
  obtain ⟨⟨x⟩⟩ := x
  obtain ⟨⟨y⟩⟩ := y
  simp
theorem beqL_bs (s t : List Nat) : beqL s t = (bs s == bs t) := by rw [beqL_eq, ← beq_toListBytes]
/-- What is found at a key, and where. -/
theorem findK_ok : ∀ {es : List ME} {ms : List MapEntry} {k : List Nat} {q : Option V} (i : Nat), MEs ρ es ms → findK k es = .ok q →
    (q = none ∧ Instr.findNow .string (.string (bs k)) ms i = some none) ∨ ∃ v x j, q = some v ∧ DV ρ v x ∧ Instr.findNow .string (.string (bs k)) ms i = some (some (i + j, x))
  | [], [], k, q, i, _, e => .inl ⟨(okinj (show O.ok none = .ok q from e)).symm, rfl⟩
  | [], _ :: _, _, _, _, h, _ => h.elim
  | _ :: _, [], _, _, _, h, _ => h.elim
  | m :: es, n :: ms, k, q, i, h, e => by
    obtain ⟨h1, h2, h3, h4⟩ := h
    have e' : findKS k m (findK k es) = .ok q := e
    unfold findKS at e'
    split at e'
    · rename_i s hs
      rw [hs] at h1
      generalize hn : n.key = nk at h1
      cases h1
      have hsn : Instr.sameNow .string (.string (bs k)) n.key = some (bs k == bs s) := by rw [hn]; rfl
      cases hb : beqL k s with
      | true =>
        rw [hb] at e'
        rw [beqL_bs] at hb
        right
        exact ⟨m.val, n.val, 0, (okinj (show O.ok (some m.val) = .ok q from e')).symm, h2, by simp [Instr.findNow, hsn, hb]⟩
      | false =>
        rw [hb] at e'
        rw [beqL_bs] at hb
        rcases findK_ok (i + 1) h4 (show findK k es = .ok q from e') with ⟨a1, a2⟩ | ⟨v, x, j, a1, a2, a3⟩
        · exact .inl ⟨a1, by simp [Instr.findNow, hsn, hb, a2]⟩
        · exact .inr ⟨v, x, j + 1, a1, a2, by simp [Instr.findNow, hsn, hb, a3]; omega⟩
    · cases e'
/-- The same of numbers. -/
theorem findI_ok : ∀ {es : List ME} {ms : List MapEntry} {kd : IntKind} {k : Int} {q : Option V} (i : Nat), MEs ρ es ms → findI kd k es = .ok q →
    (q = none ∧ Instr.findNow (.int kd) (.int kd k) ms i = some none) ∨ ∃ v x j, q = some v ∧ DV ρ v x ∧ Instr.findNow (.int kd) (.int kd k) ms i = some (some (i + j, x))
  | [], [], kd, k, q, i, _, e => .inl ⟨(okinj (show O.ok none = .ok q from e)).symm, rfl⟩
  | [], _ :: _, _, _, _, _, h, _ => h.elim
  | _ :: _, [], _, _, _, _, h, _ => h.elim
  | m :: es, n :: ms, kd, k, q, i, h, e => by
    obtain ⟨h1, h2, h3, h4⟩ := h
    have e' : findIS kd k m (findI kd k es) = .ok q := e
    unfold findIS at e'
    split at e'
    · rename_i kd' s hs
      rw [hs] at h1
      generalize hn : n.key = nk at h1
      cases h1
      obtain ⟨hkd, e9⟩ := bifok e'
      clear e'
      have hkd := kindB_eq hkd; subst hkd
      have e' := e9
      clear e9
      have hsn : Instr.sameNow (.int kd) (.int kd k) n.key = some (k == s) := by rw [hn]; simp [Instr.sameNow]
      cases hb : eqI k s with
      | true =>
        rw [hb] at e'
        rw [eqI_eq] at hb
        right
        exact ⟨m.val, n.val, 0, (okinj (show O.ok (some m.val) = .ok q from e')).symm, h2, by simp [Instr.findNow, hsn, hb]⟩
      | false =>
        rw [hb] at e'
        rw [eqI_eq] at hb
        rcases findI_ok (i + 1) h4 (show findI kd k es = .ok q from e') with ⟨a1, a2⟩ | ⟨v, x, j, a1, a2, a3⟩
        · exact .inl ⟨a1, by simp [Instr.findNow, hsn, hb, a2]⟩
        · exact .inr ⟨v, x, j + 1, a1, a2, by simp [Instr.findNow, hsn, hb, a3]; omega⟩
    · cases e'
theorem key_run {k : Nat} (hk : P.underlying k = some .string) (s : ByteArray) (b : Bool) : (Instr.checkKey b 10000 k (.string s)).run P w = .ok () w :=
  run_checkKey hk (by trivial) b 9999
theorem mapI_ok {t e : Nat} {kd : IntKind} (h : mapI P t kd = some e) : ∃ k, P.underlying t = some (.map k e) ∧ P.underlying k = some (.int kd) := by
  unfold mapI at h
  split at h
  · rename_i k e' hu
    split at h
    · rename_i kd' hk
      cases hb : kindB kd kd' with
      | false => rw [hb] at h; cases h
      | true =>
        rw [hb] at h
        have h' : some e' = some e := h
        injection h' with h'; subst h'
        rw [← kindB_eq hb] at hk
        exact ⟨k, hu, hk⟩
    · cases h
  · cases h
theorem keyI_run {k : Nat} {kd : IntKind} (hk : P.underlying k = some (.int kd)) (n : Int) (b : Bool) : (Instr.checkKey b 10000 k (.int kd n)).run P w = .ok () w :=
  run_checkKey hk (by simp [IsKey]) b 9999
theorem lookS_ok (r : HR P ρ h w) {t : Nat} {ok : Bool} {mv : V} {xv : Value} (hx : DV ρ mv xv) {s : List Nat} (e : lookS P h t ok mv s = .ok nx) : OpOk P ρ h w (do pure (.value (← Instr.lookup t xv (.string (bs s)) ok))) nx := by
  unfold lookS at e
  split at e
  · rename_i el hm
    obtain ⟨k, hu, hks⟩ := mapS_ok hm
    cases hx
    obtain ⟨z, e5, e6⟩ := bnd_ok e
    obtain ⟨zx, hz, hzx⟩ := zero_run (ρ := ρ) e5 w
    refine pair_ok r hzx e6 ?_
    have hf : (Instr.findKey k (.string (bs s)) []).run P w = .ok none w := run_findKey hks rfl
    cases ok <;> simp [Instr.lookup, run_u hu, key_run hks, hf, hz]
  · rename_i el b hm
    obtain ⟨k, hu, hks⟩ := mapS_ok hm
    cases hx with
    | @map _ l hl =>
    split at e
    · rename_i es c hget
      obtain ⟨m', hm', hor⟩ := r.ob _ _ hget
      rw [hl] at hm'; injection hm' with hm'; subst hm'
      obtain ⟨ms, q1, q2⟩ := hor
      have hgo := run_getObj_map (P := P) q1
      obtain ⟨res, e5, e6⟩ := bnd_ok e
      rcases findK_ok (ρ := ρ) 0 q2 e5 with ⟨a1, a2⟩ | ⟨v, y, j, a1, a2, a3⟩
      · subst a1
        obtain ⟨z, e7, e8⟩ := bnd_ok (show (zero P el).bnd _ = .ok nx from e6)
        obtain ⟨zx, hz, hzx⟩ := zero_run (ρ := ρ) e7 w
        have hf := run_findKey (P := P) (w := w) hks a2
        refine pair_ok r hzx e8 ?_
        cases ok <;> simp [Instr.lookup, run_u hu, hgo, key_run hks, hf, hz]
      · subst a1
        have hf := run_findKey (P := P) (w := w) hks a3
        refine pair_ok r a2 (show pairV ok v true h = .ok nx from e6) ?_
        cases ok <;> simp [Instr.lookup, run_u hu, hgo, key_run hks, hf]
    · cases e
  · cases e
theorem lookI_ok (r : HR P ρ h w) {t : Nat} {ok : Bool} {mv : V} {xv : Value} (hx : DV ρ mv xv) {kd : IntKind} {s : Int} (e : lookI P h t ok mv kd s = .ok nx) : OpOk P ρ h w (do pure (.value (← Instr.lookup t xv (.int kd s) ok))) nx := by
  unfold lookI at e
  split at e
  · rename_i el hm
    obtain ⟨k, hu, hks⟩ := mapI_ok hm
    cases hx
    obtain ⟨z, e5, e6⟩ := bnd_ok e
    obtain ⟨zx, hz, hzx⟩ := zero_run (ρ := ρ) e5 w
    refine pair_ok r hzx e6 ?_
    have hf : (Instr.findKey k (.int kd s) []).run P w = .ok none w := run_findKey hks rfl
    cases ok <;> simp [Instr.lookup, run_u hu, keyI_run hks, hf, hz]
  · rename_i el b hm
    obtain ⟨k, hu, hks⟩ := mapI_ok hm
    cases hx with
    | @map _ l hl =>
    split at e
    · rename_i es c hget
      obtain ⟨m', hm', hor⟩ := r.ob _ _ hget
      rw [hl] at hm'; injection hm' with hm'; subst hm'
      obtain ⟨ms, q1, q2⟩ := hor
      have hgo := run_getObj_map (P := P) q1
      obtain ⟨res, e5, e6⟩ := bnd_ok e
      rcases findI_ok (ρ := ρ) 0 q2 e5 with ⟨a1, a2⟩ | ⟨v, y, j, a1, a2, a3⟩
      · subst a1
        obtain ⟨z, e7, e8⟩ := bnd_ok (show (zero P el).bnd _ = .ok nx from e6)
        obtain ⟨zx, hz, hzx⟩ := zero_run (ρ := ρ) e7 w
        have hf := run_findKey (P := P) (w := w) hks a2
        refine pair_ok r hzx e8 ?_
        cases ok <;> simp [Instr.lookup, run_u hu, hgo, keyI_run hks, hf, hz]
      · subst a1
        have hf := run_findKey (P := P) (w := w) hks a3
        refine pair_ok r a2 (show pairV ok v true h = .ok nx from e6) ?_
        cases ok <;> simp [Instr.lookup, run_u hu, hgo, keyI_run hks, hf]
    · cases e
  · cases e
theorem op_lookup (he : ER ρ η a) (hg : Gl ρ) (r : HR P ρ h w) {o : Oper} {t : Nat} {x ix : Operand} {ok : Bool} (ho : o.op = .lookup t x ix ok) (e : opLookup P η h t x ix ok = .ok nx) : OpOk P ρ h w (execOp a.eval o) nx := by
  unfold opLookup at e
  obtain ⟨m, e1, e2⟩ := bnd_ok e
  obtain ⟨kv, e3, e4⟩ := bnd_ok e2
  have hx := opd_ok he hg e1
  have hk := opd_ok he hg e3
  have hrun : execOp a.eval o = (do pure (.value (← Instr.lookup t (a.eval x) (a.eval ix) ok))) := by simp [execOp, ho]
  rw [hrun]
  generalize a.eval ix = kx at hk
  split at e4
  · cases hk; exact lookS_ok r hx e4
  · cases hk; exact lookI_ok r hx e4
  · cases e4
theorem MEs.app {ρ : Rho} : ∀ {l m : List ME} {x y : List MapEntry}, MEs ρ l x → MEs ρ m y → MEs ρ (l ++ m) (x ++ y)
  | [], _, [], _, _, k => by simpa using k
  | [], _, _ :: _, _, h, _ => h.elim
  | _ :: _, _, [], _, h, _ => h.elim
  | _ :: _, _, _ :: _, _, h, k => ⟨h.1, h.2.1, h.2.2.1, MEs.app h.2.2.2 k⟩
theorem setK_ok {v : V} {x : Value} (hv : DV ρ v x) (c : Nat) : ∀ {es : List ME} {ms : List MapEntry} {k : List Nat} {p : List ME × Bool} (i : Nat), MEs ρ es ms → setK k v c es = .ok p →
    (p.2 = false ∧ Instr.findNow .string (.string (bs k)) ms i = some none ∧ MEs ρ p.1 (ms ++ [{ key := .string (bs k), val := x, born := c }])) ∨
    ∃ j u n, p.2 = true ∧ Instr.findNow .string (.string (bs k)) ms i = some (some (i + j, u)) ∧ ms[j]? = some n ∧ n.key = .string (bs k) ∧ MEs ρ p.1 (ms.modify j fun e => { e with key := .string (bs k), val := x })
  | [], [], k, p, i, _, e => by
    rw [← okinj (show O.ok ([⟨.str k, v, c⟩], false) = .ok p from e)]
    exact .inl ⟨rfl, rfl, .str k, hv, rfl, trivial⟩
  | [], _ :: _, _, _, _, h, _ => h.elim
  | _ :: _, [], _, _, _, h, _ => h.elim
  | m :: es, n :: ms, k, p, i, h, e => by
    obtain ⟨h1, h2, h3, h4⟩ := h
    have e' : setKS k v m es (setK k v c es) = .ok p := e
    unfold setKS at e'
    split at e'
    · rename_i s hs
      rw [hs] at h1
      generalize hn : n.key = nk at h1
      cases h1
      have hsn : Instr.sameNow .string (.string (bs k)) n.key = some (bs k == bs s) := by rw [hn]; rfl
      cases hb : beqL k s with
      | true =>
        rw [hb] at e'
        rw [beqL_bs] at hb
        rw [← okinj (show O.ok (⟨.str k, v, m.born⟩ :: es, true) = .ok p from e')]
        right
        exact ⟨0, n.val, n, rfl, by simp [Instr.findNow, hsn, hb], rfl, by rw [hn, bytes_sym.1 hb], .str k, hv, h3, h4⟩
      | false =>
        rw [hb] at e'
        rw [beqL_bs] at hb
        obtain ⟨p', e1, e2⟩ := bnd_ok (show (setK k v c es).bnd _ = .ok p from e')
        rw [← okinj e2]
        rcases setK_ok hv c (i + 1) h4 e1 with ⟨a1, a2, a3⟩ | ⟨j, u, n', a1, a2, a3, a4, a5⟩
        · exact .inl ⟨a1, by simp [Instr.findNow, hsn, hb, a2], by rw [hs, hn]; exact .str s, h2, h3, a3⟩
        · exact .inr ⟨j + 1, u, n', a1, by simp [Instr.findNow, hsn, hb, a2]; omega, by simpa using a3, a4, by
            rw [List.modify_succ_cons]
            exact ⟨by rw [hs, hn]; exact .str s, h2, h3, a5⟩⟩
    · cases e'
theorem setI_ok {v : V} {x : Value} (hv : DV ρ v x) (c : Nat) : ∀ {es : List ME} {ms : List MapEntry} {kd : IntKind} {k : Int} {p : List ME × Bool} (i : Nat), MEs ρ es ms → setI kd k v c es = .ok p →
    (p.2 = false ∧ Instr.findNow (.int kd) (.int kd k) ms i = some none ∧ MEs ρ p.1 (ms ++ [{ key := .int kd k, val := x, born := c }])) ∨
    ∃ j u n, p.2 = true ∧ Instr.findNow (.int kd) (.int kd k) ms i = some (some (i + j, u)) ∧ ms[j]? = some n ∧ n.key = .int kd k ∧ MEs ρ p.1 (ms.modify j fun e => { e with key := .int kd k, val := x })
  | [], [], kd, k, p, i, _, e => by
    rw [← okinj (show O.ok ([⟨.int kd k, v, c⟩], false) = .ok p from e)]
    exact .inl ⟨rfl, rfl, .int kd k, hv, rfl, trivial⟩
  | [], _ :: _, _, _, _, _, h, _ => h.elim
  | _ :: _, [], _, _, _, _, h, _ => h.elim
  | m :: es, n :: ms, kd, k, p, i, h, e => by
    obtain ⟨h1, h2, h3, h4⟩ := h
    have e' : setIS kd k v m es (setI kd k v c es) = .ok p := e
    unfold setIS at e'
    split at e'
    · rename_i kd' s hs
      rw [hs] at h1
      generalize hn : n.key = nk at h1
      cases h1
      obtain ⟨hkd, e9⟩ := bifok e'
      clear e'
      have hkd := kindB_eq hkd; subst hkd
      have e' := e9
      clear e9
      have hsn : Instr.sameNow (.int kd) (.int kd k) n.key = some (k == s) := by rw [hn]; simp [Instr.sameNow]
      cases hb : eqI k s with
      | true =>
        rw [hb] at e'
        rw [eqI_eq] at hb
        rw [← okinj (show O.ok (⟨.int kd k, v, m.born⟩ :: es, true) = .ok p from e')]
        right
        exact ⟨0, n.val, n, rfl, by simp [Instr.findNow, hsn, hb], rfl, by rw [hn]; simp at hb; rw [hb], .int kd k, hv, h3, h4⟩
      | false =>
        rw [hb] at e'
        rw [eqI_eq] at hb
        obtain ⟨p', e1, e2⟩ := bnd_ok (show (setI kd k v c es).bnd _ = .ok p from e')
        rw [← okinj e2]
        rcases setI_ok hv c (i + 1) h4 e1 with ⟨a1, a2, a3⟩ | ⟨j, u, n', a1, a2, a3, a4, a5⟩
        · exact .inl ⟨a1, by simp [Instr.findNow, hsn, hb, a2], by rw [hs, hn]; exact .int kd s, h2, h3, a3⟩
        · exact .inr ⟨j + 1, u, n', a1, by simp [Instr.findNow, hsn, hb, a2]; omega, by simpa using a3, a4, by
            rw [List.modify_succ_cons]
            exact ⟨by rw [hs, hn]; exact .int kd s, h2, h3, a5⟩⟩
    · cases e'
end Ex
namespace Ex
open Go Go.MapKept
variable [Base] {P : Program} {ρ : Rho} {h : H} {w : World} {η : Env} {a : Act} {nx : Nx}
theorem OpOk.skip {s : Sem Next} {h' : H} {w' : World} (hs : s.run P w = .ok .skip w') (r : HR P ρ h' w') (st : St ρ h w ρ h' w') : OpOk P ρ h w s (.skip h') := ⟨ρ, w', hs, r, st⟩
theorem updS_ok (r : HR P ρ h w) {t : Nat} {mv xv : V} {mx xx : Value} (hm : DV ρ mv mx) (hx : DV ρ xv xx) {s : List Nat} (e : updS P h t mv s xv = .ok nx) : OpOk P ρ h w (do Instr.mapUpdate t mx (.string (bs s)) xx; pure .skip) nx := by
  unfold updS at e
  split at e
  · rename_i el b hm'
    obtain ⟨kt, hu, hks⟩ := mapS_ok hm'
    cases hm with
    | @map _ l hl =>
    split at e
    · rename_i es c hget
      obtain ⟨m', hm', hor⟩ := r.ob _ _ hget
      rw [hl] at hm'; injection hm' with hm'; subst hm'
      obtain ⟨ms, q1, q2⟩ := hor
      have hgo := run_getObj_map (P := P) q1
      obtain ⟨res, e7, e8⟩ := bnd_ok e
      rw [← okinj e8]
      have hlt := r.lt _ _ _ hget hl
      rcases setK_ok hx c 0 q2 e7 with ⟨a1, a2, a3⟩ | ⟨j, u, n, a1, a2, a3, a4, a5⟩
      · have hf := run_findKey (P := P) (w := w) hks a2
        have hso := fun ob => run_setObj_map (P := P) ob q1
        rw [a1]
        refine OpOk.skip (w' := { w with heap := w.heap.setIfInBounds l.blk (.map (ms.toArray.push { key := .string (bs s), val := xx, born := c }) (c + 1)) }) ?_ (r.set _ hget hl rfl (by simp) ?_ ?_) (St.set r _ hget hl rfl (by simp) ?_ rfl rfl rfl)
        · simp [Instr.mapUpdate, run_u hu, hgo, key_run hks, hf, hso, Result.andThen]
        · intro k hk; simp [Array.getElem?_setIfInBounds, Ne.symm hk]
        · refine ⟨ms ++ [{ key := .string (bs s), val := xx, born := c }], ?_, a3⟩
          simp [Array.getElem?_setIfInBounds, hlt]
        · intro k hk; simp [Array.getElem?_setIfInBounds, Ne.symm hk]
      · have hf := run_findKey (P := P) (w := w) hks a2
        have hso := fun ob => run_setObj_map (P := P) ob q1
        have hst := run_keyThatStays (P := P) (w := w) (d := .string) (k := .string (bs s)) (by trivial)
        rw [a1]
        refine OpOk.skip (w' := { w with heap := w.heap.setIfInBounds l.blk (.map (ms.toArray.modify j fun e => { e with key := .string (bs s), val := xx }) c) }) ?_ (r.set _ hget hl rfl (by simp) ?_ ?_) (St.set r _ hget hl rfl (by simp) ?_ rfl rfl rfl)
        · simp [Instr.mapUpdate, run_u hu, hgo, key_run hks, hf, a3, a4, hst, hso, Result.andThen]
        · intro k hk; simp [Array.getElem?_setIfInBounds, Ne.symm hk]
        · refine ⟨ms.modify j fun e => { e with key := .string (bs s), val := xx }, ?_, a5⟩
          simp [Array.getElem?_setIfInBounds, hlt]
        · intro k hk; simp [Array.getElem?_setIfInBounds, Ne.symm hk]
    · cases e
  · cases e
theorem updI_ok (r : HR P ρ h w) {t : Nat} {mv xv : V} {mx xx : Value} (hm : DV ρ mv mx) (hx : DV ρ xv xx) {kd : IntKind} {s : Int} (e : updI P h t mv kd s xv = .ok nx) : OpOk P ρ h w (do Instr.mapUpdate t mx (.int kd s) xx; pure .skip) nx := by
  unfold updI at e
  split at e
  · rename_i el b hm'
    obtain ⟨kt, hu, hks⟩ := mapI_ok hm'
    cases hm with
    | @map _ l hl =>
    split at e
    · rename_i es c hget
      obtain ⟨m', hm', hor⟩ := r.ob _ _ hget
      rw [hl] at hm'; injection hm' with hm'; subst hm'
      obtain ⟨ms, q1, q2⟩ := hor
      have hgo := run_getObj_map (P := P) q1
      obtain ⟨res, e7, e8⟩ := bnd_ok e
      rw [← okinj e8]
      have hlt := r.lt _ _ _ hget hl
      rcases setI_ok hx c 0 q2 e7 with ⟨a1, a2, a3⟩ | ⟨j, u, n, a1, a2, a3, a4, a5⟩
      · have hf := run_findKey (P := P) (w := w) hks a2
        have hso := fun ob => run_setObj_map (P := P) ob q1
        rw [a1]
        refine OpOk.skip (w' := { w with heap := w.heap.setIfInBounds l.blk (.map (ms.toArray.push { key := .int kd s, val := xx, born := c }) (c + 1)) }) ?_ (r.set _ hget hl rfl (by simp) ?_ ?_) (St.set r _ hget hl rfl (by simp) ?_ rfl rfl rfl)
        · simp [Instr.mapUpdate, run_u hu, hgo, keyI_run hks, hf, hso, Result.andThen]
        · intro k hk; simp [Array.getElem?_setIfInBounds, Ne.symm hk]
        · refine ⟨ms ++ [{ key := .int kd s, val := xx, born := c }], ?_, a3⟩
          simp [Array.getElem?_setIfInBounds, hlt]
        · intro k hk; simp [Array.getElem?_setIfInBounds, Ne.symm hk]
      · have hf := run_findKey (P := P) (w := w) hks a2
        have hso := fun ob => run_setObj_map (P := P) ob q1
        have hst := run_keyThatStays (P := P) (w := w) (d := .int kd) (k := .int kd s) (by simp [IsKey])
        rw [a1]
        refine OpOk.skip (w' := { w with heap := w.heap.setIfInBounds l.blk (.map (ms.toArray.modify j fun e => { e with key := .int kd s, val := xx }) c) }) ?_ (r.set _ hget hl rfl (by simp) ?_ ?_) (St.set r _ hget hl rfl (by simp) ?_ rfl rfl rfl)
        · simp [Instr.mapUpdate, run_u hu, hgo, keyI_run hks, hf, a3, a4, hst, hso, Result.andThen]
        · intro k hk; simp [Array.getElem?_setIfInBounds, Ne.symm hk]
        · refine ⟨ms.modify j fun e => { e with key := .int kd s, val := xx }, ?_, a5⟩
          simp [Array.getElem?_setIfInBounds, hlt]
        · intro k hk; simp [Array.getElem?_setIfInBounds, Ne.symm hk]
    · cases e
  · cases e
theorem op_mapUpdate (he : ER ρ η a) (hg : Gl ρ) (r : HR P ρ h w) {o : Oper} {t : Nat} {m k x : Operand} (ho : o.op = .mapUpdate t m k x ∨ o.op = .insert t m k x) (e : opMapupdate P η h t m k x = .ok nx) : OpOk P ρ h w (execOp a.eval o) nx := by
  have hrun : (execOp a.eval o) = (do Instr.mapUpdate t (a.eval m) (a.eval k) (a.eval x); pure .skip) := by
    rcases ho with ho | ho <;> simp [execOp, ho]
  rw [hrun]
  unfold opMapupdate at e
  obtain ⟨mv, e1, e2⟩ := bnd_ok e
  obtain ⟨kv, e3, e4⟩ := bnd_ok e2
  obtain ⟨xv, e5, e6⟩ := bnd_ok e4
  have hm := opd_ok he hg e1
  have hk := opd_ok he hg e3
  have hx := opd_ok he hg e5
  generalize a.eval k = kx at hk
  split at e6
  · cases hk; exact updS_ok r hm hx e6
  · cases hk; exact updI_ok r hm hx e6
  · cases e6
theorem newMap_ok (r : HR P ρ h w) : ∃ σ z w', (do let r ← newObj (.map #[] 0); pure (Value.map (some r)) : Sem Value).run P w = .ok z w' ∧ DV σ (.map h.next) z ∧ HR P σ (h.new (.map [] 0)) w' ∧ St ρ h w σ (h.new (.map [] 0)) w' := by
  have hr := r.new (w' := w.alloc (.map #[] 0)) (.map [] 0) ⟨w.heap.size, 0, 0⟩ rfl (by show (w.heap.push _).size = _; simp) (fun k hk => by show (w.heap.push _)[k]? = _; simp [Array.getElem?_push, Nat.ne_of_lt hk]) ⟨[], by show (w.heap.push _)[w.heap.size]? = _; simp, trivial⟩
  have hs := St.new (w' := w.alloc (.map #[] 0)) r (.map [] 0) ⟨w.heap.size, 0, 0⟩ rfl (by show (w.heap.push _).size = _; simp) (fun k hk => by show (w.heap.push _)[k]? = _; simp [Array.getElem?_push, Nat.ne_of_lt hk]) rfl rfl rfl
  exact ⟨_, .map (some w.heap.size), _, by simp, .map (l := ⟨w.heap.size, 0, 0⟩) (Rho.put_same _ _ _), hr, hs⟩
theorem op_makeMap0 (r : HR P ρ h w) {o : Oper} {t : Nat} (ho : o.op = .makeMap t none) (e : opMakemap0 P η h = .ok nx) : OpOk P ρ h w (execOp a.eval o) nx := by
  unfold opMakemap0 at e
  rw [← okinj e]
  obtain ⟨σ, z, w', h1, h2, h3, h4⟩ := newMap_ok r
  refine ⟨σ, z, w', ?_, h2, h3, h4⟩
  simp only [execOp, ho, Instr.makeMap, Option.map_none, Sem.run_bind] at *
  simp at h1 ⊢
  exact h1
theorem op_makeMap (he : ER ρ η a) (hg : Gl ρ) (r : HR P ρ h w) {o : Oper} {t : Nat} {x : Operand} (ho : o.op = .makeMap t (some x)) (e : opMakemap P η h t x = .ok nx) : OpOk P ρ h w (execOp a.eval o) nx := by
  unfold opMakemap at e
  obtain ⟨v, e1, e2⟩ := bnd_ok e
  have hx := opd_ok he hg e1
  generalize hq : a.eval x = xv at hx
  split at e2
  · rename_i k el kd n hu
    cases hx
    rw [← okinj e2]
    obtain ⟨σ, z, w', h1, h2, h3, h4⟩ := newMap_ok r
    refine ⟨σ, z, w', ?_, h2, h3, h4⟩
    simp [execOp, ho, hq, Instr.makeMap, run_u hu, asInt, asIntOf] at h1 ⊢
    exact h1
  · cases e2
theorem ti_run {t : Nat} {i : TypeInfo} (hi : P.info? t = some i) (w : World) : (typeInfo t).run P w = .ok i w := by simp [typeInfo, hi]
theorem zv_run {t : Nat} {i : TypeInfo} {z : Value} (hi : P.info? t = some i) (hz : i.zero = some z) (w : World) : (zeroValue t).run P w = .ok z w := by simp [zeroValue, typeInfo, hi, hz]
theorem wrap_nat {n : Nat} (h : n ≤ 100000) : IntKind.i64.wrap (n : Int) = (n : Int) := by
  simp [IntKind.wrap, IntKind.bits, IntKind.signed]
  omega
theorem op_makeSlice (he : ER ρ η a) (hg : Gl ρ) (r : HR P ρ h w) {o : Oper} {t : Nat} {lx cx : Operand} (ho : o.op = .makeSlice t lx cx) (e : opMakeslice P η h t lx cx = .ok nx) : OpOk P ρ h w (execOp a.eval o) nx := by
  unfold opMakeslice at e
  obtain ⟨lv, e1, e2⟩ := bnd_ok e
  obtain ⟨cv, e3, e4⟩ := bnd_ok e2
  have hl := opd_ok he hg e1
  have hc := opd_ok he hg e3
  generalize hq : a.eval lx = lxv at hl
  generalize hq2 : a.eval cx = cxv at hc
  split at e4
  · rename_i el l c hu hnl hnc
    obtain ⟨hio, e4⟩ := bifok e4
    obtain ⟨hlc, e4⟩ := bifok e4
    obtain ⟨hcs, e4⟩ := bifok e4
    obtain ⟨hgr, e4⟩ := bifok e4
    obtain ⟨z, e5, e6⟩ := bnd_ok e4
    rw [← okinj e6]
    obtain ⟨i, zv, hi, hiz, hsz, hzs, hpos, hby⟩ := item_ok hio
    obtain ⟨zx, hz, hzx⟩ := zero_run (ρ := ρ) e5 w
    have hp : plainV z = true := by
      unfold itemOk at hio
      rw [e5] at hio
      cases hp : plainV z with
      | true => rfl
      | false => simp only [hp] at hio; cases hio
    obtain ⟨cs, c1, c2, c3⟩ := cells_ok hzx hp
    have hzz : zx = zv := by
      have := zv_run hi hiz w
      rw [this] at hz; injection hz with hz; exact hz.symm
    subst hzz
    have hcl : cs.length = P.cellsOf el := by rw [← hzs, ← c2]; exact Array.length_toList
    obtain ⟨xs, r1, r2, r3, r4⟩ := rep_ok c1 c3 c
    have k := newRow_ok (P := P) (w0 := w) r ⟨rfl, rfl, rfl, rfl⟩ el r1 r2 [] c (by simp [r3, hcl])
    refine ⟨_, .slice (some ⟨w.heap.size, 0, none⟩) l c, _, ?_, .sl (l := ⟨w.heap.size, 0, c⟩) 0 l c (Rho.put_same _ _ _), k.1, k.2⟩
    have hcells : zx.cells = cs.toArray := by rw [← c2]
    have hrow : (Array.range (c * P.cellsOf el)).map (fun i => cs.toArray[i % cs.toArray.size]!) = xs.toArray := by
      rw [← hcl]; exact rep_cells (by omega) r3 r4
    have hti := ti_run hi w
    obtain ⟨k1, rfl⟩ := natI_ok hl hnl
    obtain ⟨k2, rfl⟩ := natI_ok hc hnc
    have hlc' := ble_le hlc
    have hcs' := ble_le hcs
    have hw1 : IntKind.i64.wrap (l : Int) = (l : Int) := wrap_nat (by omega)
    have hw2 : IntKind.i64.wrap (c : Int) = (c : Int) := wrap_nat (by omega)
    have hbytes : i.bytes * c ≤ 281474976710656 := by
      unfold growOk at hgr
      simp only [Bool.and_eq_true] at hgr
      have h1 := ble_le hgr.1
      rw [hby] at h1
      refine Nat.le_trans ?_ h1
      rw [Nat.mul_comm]
      exact Nat.mul_le_mul_right _ (by omega)
    have hlarge : ¬ (((c : Int) < 0 || (i.bytes : Int) * (c : Int) > 2 ^ 48 || (l : Int) < 0 || (l : Int) > (c : Int)) = true) := by
      have h2 := Int.ofNat_le.2 hbytes
      rw [Int.natCast_mul] at h2
      generalize (i.bytes : Int) * (c : Int) = q at h2 ⊢
      simp only [Bool.or_eq_true, decide_eq_true_eq]
      omega
    have hn0 : (c * P.cellsOf el = 0) = (c = 0) := by
      apply propext
      constructor
      · intro q; rcases Nat.mul_eq_zero.1 q with q | q
        · exact q
        · omega
      · rintro rfl; exact Nat.zero_mul _
    simp only [execOp, ho, hq, hq2, Instr.makeSlice, Sem.run_bind, Result.andThen_ok, run_u hu, asInt, asIntOf, Sem.run_pure, hw1, hw2, hti]
    rw [if_neg hlarge]
    simp only [Sem.run_bind, run_askRoom, Result.andThen_ok, size_info hi, Int.toNat_natCast]
    by_cases h0 : c * P.cellsOf el = 0
    · have hx0 : xs = [] := by
        cases xs with
        | nil => rfl
        | cons x r => simp [hcl, h0] at r3
      subst hx0
      have hr0 : (Array.range (c * P.cellsOf el)).map (fun x => (#[] : Array Value)[x % (#[] : Array Value).size]!) = ([] : List Value).toArray := by rw [h0]; apply Array.ext'; rw [Array.toList_map, Array.toList_range]; rfl
      rw [if_pos h0]
      simp only [Sem.run_bind, Sem.run_pure, Result.andThen_ok]
      rw [hr0]
      simp [Go.newRow]
    · rw [if_neg h0]
      simp only [Sem.run_bind, Sem.run_pure, hz, Result.andThen_ok, hcells]
      rw [hrow]
      simp [Go.newRow]
  · cases e4
end Ex
namespace Ex
open Go Go.MapKept
variable [Base] {P : Program} {ρ : Rho} {h : H} {w : World} {η : Env} {a : Act} {nx : Nx}
theorem op_range (he : ER ρ η a) (hg : Gl ρ) (r : HR P ρ h w) {o : Oper} {t : Nat} {x : Operand} (ho : o.op = .range t x) (e : opRange P η h t x = .ok nx) : OpOk P ρ h w (execOp a.eval o) nx := by
  unfold opRange at e
  obtain ⟨v, e1, e2⟩ := bnd_ok e
  have hx := opd_ok he hg e1
  generalize hq : a.eval x = xv at hx
  split at e2
  · rename_i s hu
    cases hx
    rw [← okinj e2]
    have hr := r.new (w' := w.alloc (.stringIter (bs s) 0)) (.iter s 0) ⟨w.heap.size, 0, 0⟩ rfl (by show (w.heap.push _).size = _; simp) (fun k hk => by show (w.heap.push _)[k]? = _; simp [Array.getElem?_push, Nat.ne_of_lt hk]) ⟨by show (w.heap.push _)[w.heap.size]? = _; simp, rfl⟩
    have hs := St.new (w' := w.alloc (.stringIter (bs s) 0)) r (.iter s 0) ⟨w.heap.size, 0, 0⟩ rfl (by show (w.heap.push _).size = _; simp) (fun k hk => by show (w.heap.push _)[k]? = _; simp [Array.getElem?_push, Nat.ne_of_lt hk]) rfl rfl rfl
    refine ⟨_, .pointer (some ⟨w.heap.size, 0, none⟩), _, ?_, .ptr (l := ⟨w.heap.size, 0, 0⟩) 0 (Rho.put_same _ _ _), hr, hs⟩
    simp [execOp, ho, hq, Instr.range, run_u hu]
  · cases e2
theorem bs_at {s : List Nat} {i c : Nat} (h : s[i]? = some c) : (bs s).get! i = UInt8.ofNat c := by
  have := bs_get s i
  rw [h] at this
  show (bs s).data[i]! = _
  have h2 : (bs s).data[i]? = some (UInt8.ofNat c) := this
  rw [Array.getElem!_eq_getD, Array.getD_eq_getD_getElem?, h2]
  rfl
theorem decode_low {s : List Nat} {i c : Nat} (h : s[i]? = some c) (hc : c < 128) : Utf8.decode (bs s) i = (c, 1) := by
  have hb : ((bs s).get! (i + 0)).toNat = c := by
    rw [Nat.add_zero, bs_at h]
    simp
    omega
  unfold Utf8.decode
  simp only [hb]
  rw [if_pos (show c < 0x80 from hc)]
theorem op_next (he : ER ρ η a) (hg : Gl ρ) (r : HR P ρ h w) {o : Oper} {x : Operand} {isS : Bool} (ho : o.op = .next x isS) (e : opNext P η h x isS = .ok nx) : OpOk P ρ h w (execOp a.eval o) nx := by
  unfold opNext at e
  obtain ⟨v, e1, e2⟩ := bnd_ok e
  have hx := opd_ok he hg e1
  generalize hq : a.eval x = xv at hx
  split at e2
  · rename_i b
    cases hx with
    | @ptr _ l _ hl =>
    split at e2
    · rename_i s pos hget
      obtain ⟨m, hm, hor⟩ := r.ob _ _ hget
      rw [hl] at hm; injection hm with hm; subst hm
      obtain ⟨q1, q2⟩ := hor
      have hgo : (getObj l.blk).run P w = .ok (.stringIter (bs s) pos) w := by simp [getObj, Sem.run, q1]
      have hlt := r.lt _ _ _ hget hl
      split at e2
      · rename_i c hc
        rw [nthL_eq] at hc
        obtain ⟨h128, e3⟩ := bifok e2
        have h128 : c < 128 := by simpa [Nat.blt_eq] using h128
        rw [← okinj e3]
        have hso : ∀ ob, (setObj l.blk ob).run P w = .ok () { w with heap := w.heap.setIfInBounds l.blk ob } := fun ob => by simp [setObj, Sem.run, q1]
        have hpos : pos < (bs s).size := by
          rw [bs_size]
          rcases Nat.lt_or_ge pos s.length with q | q
          · exact q
          · rw [List.getElem?_eq_none q] at hc; cases hc
        refine ⟨ρ, .tuple #[.bool true, goInt pos, .int .i32 c], { w with heap := w.heap.setIfInBounds l.blk (.stringIter (bs s) (pos + 1)) }, ?_, ?_, r.set _ hget hl rfl (by simp) ?_ ?_, St.set r _ hget hl rfl (by simp) ?_ rfl rfl rfl⟩
        · simp [execOp, ho, hq, Instr.next, q2, hgo, hpos, decode_low hc h128, hso]
        · exact .tup (xs := [.bool true, goInt pos, .int .i32 c]) (.cons (.bool _) (.cons (.int _ _) (.cons (.int _ _) .nil)))
        · intro k hk; simp [Array.getElem?_setIfInBounds, Ne.symm hk]
        · exact ⟨by simp [hlt], q2⟩
        · intro k hk; simp [Array.getElem?_setIfInBounds, Ne.symm hk]
      · rename_i hc
        rw [nthL_eq] at hc
        rw [← okinj e2]
        have hpos : ¬ pos < (bs s).size := by
          rw [bs_size]
          intro q
          rw [List.getElem?_eq_getElem q] at hc; cases hc
        refine OpOk.same r ?_ (.tup (xs := [.bool false]) (.cons (.bool _) .nil))
        simp [execOp, ho, hq, Instr.next, q2, hgo, hpos]
    · cases e2
  · cases e2
end Ex
namespace Ex
open Go Go.MapKept
variable [Base] {P : Program} {ρ : Rho} {h : H} {w : World} {η : Env} {a : Act} {nx : Nx}
/-- A row of bytes as numbers. -/
theorem bytesOf_ok : ∀ {l : V} {xs : List Value} {s : List Nat}, DV ρ l (LV xs) → bytesOfCells l = .ok s → xs = s.map (fun n : Nat => Value.int .u8 (n : Int))
  | .nil, xs, s, hl, e => by
    generalize hq : LV xs = y at hl
    cases hl with
    | nil =>
      have : xs = [] := by simpa [LV] using hq
      subst this
      rw [← okinj (show O.ok [] = .ok s from e)]; rfl
  | .cons v l, xs, s, hl, e => by
    generalize hq : LV xs = y at hl
    cases hl with
    | @cons _ _ x ys h hl =>
      have : xs = x :: ys := by simpa [LV] using hq
      subst this
      have e' : bytS v (bytesOfCells l) = .ok s := e
      unfold bytS at e'
      split at e'
      · split at e'
        · rename_i n l' hl'
          cases h
          rw [← okinj e', bytesOf_ok hl hl']; rfl
        · cases e'
      · cases e'
  | .bool _, xs, s, hl, _ => by generalize hq : LV xs = y at hl; cases hl <;> cases hq
  | .int _ _, xs, s, hl, _ => by generalize hq : LV xs = y at hl; cases hl <;> cases hq
  | .str _, xs, s, hl, _ => by generalize hq : LV xs = y at hl; cases hl <;> cases hq
  | .nilp, xs, s, hl, _ => by generalize hq : LV xs = y at hl; cases hl <;> cases hq
  | .ptr _ _, xs, s, hl, _ => by generalize hq : LV xs = y at hl; cases hl <;> cases hq
  | .nils, xs, s, hl, _ => by generalize hq : LV xs = y at hl; cases hl <;> cases hq
  | .sl _ _ _ _, xs, s, hl, _ => by generalize hq : LV xs = y at hl; cases hl <;> cases hq
  | .slu _ _ _ _, xs, s, hl, _ => by generalize hq : LV xs = y at hl; cases hl <;> cases hq
  | .nilmap, xs, s, hl, _ => by generalize hq : LV xs = y at hl; cases hl <;> cases hq
  | .map _, xs, s, hl, _ => by generalize hq : LV xs = y at hl; cases hl <;> cases hq
  | .nilfn, xs, s, hl, _ => by generalize hq : LV xs = y at hl; cases hl <;> cases hq
  | .fn _ _ _, xs, s, hl, _ => by generalize hq : LV xs = y at hl; cases hl <;> cases hq
  | .nili, xs, s, hl, _ => by generalize hq : LV xs = y at hl; cases hl <;> cases hq
  | .iface _ _, xs, s, hl, _ => by generalize hq : LV xs = y at hl; cases hl <;> cases hq
  | .agg _, xs, s, hl, _ => by generalize hq : LV xs = y at hl; cases hl <;> cases hq
  | .tup _, xs, s, hl, _ => by generalize hq : LV xs = y at hl; cases hl <;> cases hq
theorem push_bs : ∀ (s : List Nat) (b : ByteArray), (s.map (fun n : Nat => (n : Int))).foldl (fun r n => r.push (UInt8.ofNat n.toNat)) b = ⟨b.data ++ (s.map UInt8.ofNat).toArray⟩
  | [], b => by simp
  | n :: s, b => by
    rw [List.map_cons, List.foldl_cons, push_bs s]
    show (⟨b.data.push _ ++ _⟩ : ByteArray) = _
    congr 1
    apply Array.ext'
    simp
theorem bytesRow_ok (r : HR P ρ h w) {e : Nat} {b : K} {o n c : Nat} {v : V} {h' : H} {l : Loc} (hl : ρ b = some l) (ev : bytesRow P h e b o n = .ok (v, h')) :
    h' = h ∧ P.underlying e = some (.int .u8) ∧ ∃ x, (Conv.bytesToString (.slice (some ⟨l.blk, l.off + o, none⟩) n c)).run P w = .ok x w ∧ DV ρ v x := by
  unfold bytesRow at ev
  split at ev
  · rename_i hu
    obtain ⟨row, e1, e2⟩ := bnd_ok ev
    obtain ⟨s, e3, e4⟩ := bnd_ok e2
    have e4 := okinj e4
    injection e4 with e5 e6
    subst e5; subst e6
    obtain ⟨xs, o1, o2, o3, o4⟩ := rowOf_ok r hl e1
    have hx := bytesOf_ok o1 e3
    refine ⟨rfl, hu, .string (bs s), ?_, .str s⟩
    have hlc : (loadCells ⟨l.blk, l.off + o, none⟩ n).run P w = .ok ((s.map (fun n : Nat => (n : Int))).map (Value.int .u8)).toArray w := by
      have := run_loadCells_list (P := P) w ⟨l.blk, l.off + o, none⟩ xs (fun j u hj => by rw [Addr.add_mid]; exact o3 j u hj)
      rw [o2] at this
      rw [this, hx, List.map_map]; rfl
    rw [run_bytesToString w _ n c _ hlc, push_bs]
    have : (ByteArray.empty.data ++ (s.map UInt8.ofNat).toArray) = (s.map UInt8.ofNat).toArray := by apply Array.ext'; simp
    rw [this]; rfl
  · cases ev
theorem convert_ok (r : HR P ρ h w) {s d : Nat} {x v : V} {xv : Value} {h' : H} (hx : DV ρ x xv) (hnp : P.underlying d ≠ some .unsafePointer ∧ P.underlying s ≠ some .unsafePointer) (e : convertV P h s d x = .ok (v, h')) :
    h' = h ∧ ∃ y, (convert s d xv).run P w = .ok y w ∧ DV ρ v y := by
  unfold convertV at e
  split at e
  · rename_i hs hd
    cases hx
    have e := okinj e; injection e with e1 e2; subst e1; subst e2
    exact ⟨rfl, _, by simp [convert, run_u hs, run_u hd, Conv.intToInt], .int _ _⟩
  · rename_i hs hd
    cases hx
    have e := okinj e; injection e with e1 e2; subst e1; subst e2
    exact ⟨rfl, _, by simp [convert, run_u hs, run_u hd], .str _⟩
  · rename_i el hs hd
    cases hx
    split at e
    · rename_i hu
      have e := okinj e; injection e with e1 e2; subst e1; subst e2
      exact ⟨rfl, _, by rw [run_convert_bytes_string w s d el _ _ _ hs hu hd]; rfl, .str []⟩
    · cases e
  · rename_i el b o n c hs hd
    cases hx with
    | @sl _ l _ _ _ hl =>
    obtain ⟨rfl, hu, y, q1, q2⟩ := bytesRow_ok (c := c) r hl e
    exact ⟨rfl, y, by rw [run_convert_bytes_string w s d el _ _ _ hs hu hd]; exact q1, q2⟩
  · rename_i el b o n c hs hd
    cases hx with
    | @slu _ l _ _ _ hl hlc =>
    obtain ⟨rfl, hu, y, q1, q2⟩ := bytesRow_ok (c := l.cap - c) r hl e
    exact ⟨rfl, y, by rw [run_convert_bytes_string w s d el _ _ _ hs hu hd]; exact q1, q2⟩
  · rename_i hs hd; exact absurd hd hnp.1
  · rename_i hs hd; exact absurd hd hnp.1
  · rename_i hs hd; exact absurd hs hnp.2
  · rename_i hs hd; exact absurd hs hnp.2
  · cases e
end Ex
namespace Ex
open Go Go.MapKept
variable [Base] {P : Program} {ρ : Rho} {h : H} {w : World} {η : Env} {a : Act} {nx : Nx}
theorem shape_of {b : Nat} {cs : Array Value} {ty : TypeId} {fr : Nat × Nat} (h : w.heap[b]? = some (.cells cs ty fr)) : w.shape? b = some (ty, cs.size) := by
  simp [World.shape?, h]
theorem lies {e u count k : Nat} (hu : P.underlyingId e = P.underlyingId u) (hc : 1 ≤ P.cellsOf e) (hk : k + 1 ≤ count) : liesAt P P.depth e count (k * P.cellsOf e) u 1 = true := by
  have hd : P.depth = (2 * (P.types.size + Made.depth) + 1) + 1 := rfl
  have h1 : k * P.cellsOf e / P.cellsOf e = k := Nat.mul_div_cancel _ hc
  have h2 : k * P.cellsOf e % P.cellsOf e = 0 := Nat.mul_mod_left _ _
  have h3 : P.cellsOf e ≠ 0 := by omega
  rw [hd]
  simp only [liesAt, Bool.or_eq_true]
  left
  rw [hd]
  simp [rowAt, h1, h2, h3, hk, sameLayout, hu]
theorem toU_ok (r : HR P ρ h w) {s d t : Nat} {b : K} {o : Nat} {l : Loc} (hs : P.underlying s = some (.pointer t)) (hd : P.underlying d = some .unsafePointer) (hl : ρ b = some l) (hc : Nat.beq (P.cellsOf t) 0 = false) (hp : placed h b o 1 = true) :
    (convert s d (.pointer (some ⟨l.blk, l.off + o, none⟩))).run P w = .ok (.pointer (some ⟨l.blk, l.off + o, none⟩)) w := by
  unfold placed at hp
  split at hp
  · rename_i ro fz c m ty hg
    obtain ⟨l', hl', hor⟩ := r.ob _ _ hg
    rw [hl] at hl'; injection hl' with hl'; subst hl'
    obtain ⟨cs, fr, hh, hsz, _⟩ := hor
    have hsh := shape_of hh
    have hlt := ble_le hp
    have hc' : P.cellsOf t ≠ 0 := by intro q; rw [q] at hc; cases hc
    obtain ⟨i, hi, _⟩ := cells_info (P := P) (t := t) (by omega)
    have hnot : ¬ cs.size ≤ l.off + o := by omega
    have hsr := size_info hi w
    simp [convert, run_u hs, run_u hd, Conv.unsafePointer, Conv.seenAt, viewAt, cellsIn, hsh, hsr, hc', hnot]
  · cases hp
theorem ofU_ok (r : HR P ρ h w) {s d u : Nat} {b : K} {o : Nat} {l : Loc} (hs : P.underlying s = some .unsafePointer) (hd : P.underlying d = some (.pointer u)) (hl : ρ b = some l) (hp : typed P h b o u = true) :
    (convert s d (.pointer (some ⟨l.blk, l.off + o, none⟩))).run P w = .ok (.pointer (some ⟨l.blk, l.off + o, none⟩)) w := by
  unfold typed at hp
  split at hp
  · rename_i ro fz c m ty hg
    obtain ⟨l', hl', hor⟩ := r.ob _ _ hg
    rw [hl] at hl'; injection hl' with hl'; subst hl'
    obtain ⟨cs, fr, hh, hsz, hcap, ⟨_, hoff0⟩, _⟩ := hor
    have hro : ro = false := by
      cases ro with
      | false => rfl
      | true => cases hp
    subst hro
    obtain ⟨k, hoff⟩ := hoff0 rfl
    have hsh := shape_of hh
    simp only [cond_eq_ite, Bool.false_eq_true, if_false] at hp
    split at hp
    · rename_i h0
      split at hp
      · rename_i h1
        split at hp
        · rename_i h2
          split at hp
          · rename_i h3
            have h0 := beq_eq h0
            have h1 := beq_eq h1
            have h2 := ble_le h2
            have h3 := ble_le h3
            have h4 := ble_le hp
            subst h0
            obtain ⟨i, hi, _⟩ := cells_info (P := P) (t := u) (by omega)
            have hsr := size_info hi w
            have hcu : P.cellsOf u ≠ 0 := by omega
            have hk : k + 1 ≤ cs.size / P.cellsOf ty := by
              rw [Nat.le_div_iff_mul_le h2, Nat.add_mul]; omega
            have hli := lies (P := P) h1 h2 hk
            rw [← hoff] at hli
            simp [convert, run_u hs, run_u hd, Conv.unsafePointer, Conv.seenAt, viewAt, hsh, hsr, hcu, variablesAt, hli]
          · cases hp
        · cases hp
      · cases hp
    · cases hp
  · cases hp
theorem op_convert (he : ER ρ η a) (hg : Gl ρ) (r : HR P ρ h w) {o : Oper} {s d : Nat} {x : Operand} (ho : o.op = .convert s d x) (e : opConvert P η h s d x = .ok nx) : OpOk P ρ h w (execOp a.eval o) nx := by
  unfold opConvert at e
  obtain ⟨v, e1, e2⟩ := bnd_ok e
  obtain ⟨y, h', e3, e4⟩ := ovalh_ok e2
  have hx := opd_ok he hg e1
  generalize hq : a.eval x = xv at hx
  rw [e4]
  have main : h' = h ∧ ∃ z, (convert s d xv).run P w = .ok z w ∧ DV ρ y z := by
    by_cases hnp : P.underlying d ≠ some .unsafePointer ∧ P.underlying s ≠ some .unsafePointer
    · exact convert_ok r hx hnp e3
    · unfold convertV at e3
      split at e3
      · rename_i hs hd; simp [hs, hd] at hnp
      · rename_i hs hd; simp [hs, hd] at hnp
      · rename_i hs hd; simp [hs, hd] at hnp
      · rename_i hs hd; simp [hs, hd] at hnp
      · rename_i hs hd; simp [hs, hd] at hnp
      · rename_i hs hd
        cases hx
        have e := okinj e3; injection e with e1 e2; subst e1; subst e2
        exact ⟨rfl, _, by simp [convert, run_u hs, run_u hd, Conv.unsafePointer], .nilp⟩
      · rename_i t b o hs hd
        cases hx with
        | @ptr _ l _ hl =>
        cases hc : Nat.beq (P.cellsOf t) 0 with
        | true => rw [hc] at e3; cases e3
        | false =>
          rw [hc] at e3
          obtain ⟨hp, e5⟩ := bifok (show (bif placed h b o 1 then O.ok (V.ptr b o, h) else .no 43) = _ from e3)
          have e := okinj e5; injection e with e1 e2; subst e1; subst e2
          exact ⟨rfl, _, toU_ok r hs hd hl hc hp, .ptr _ hl⟩
      · rename_i hs hd
        cases hx
        have e := okinj e3; injection e with e1 e2; subst e1; subst e2
        exact ⟨rfl, _, by simp [convert, run_u hs, run_u hd, Conv.unsafePointer], .nilp⟩
      · rename_i u b o hs hd
        cases hx with
        | @ptr _ l _ hl =>
        obtain ⟨hp, e5⟩ := bifok e3
        have e := okinj e5; injection e with e1 e2; subst e1; subst e2
        exact ⟨rfl, _, ofU_ok r hs hd hl hp, .ptr _ hl⟩
      · cases e3
  obtain ⟨rfl, z, q1, q2⟩ := main
  refine OpOk.same r ?_ q2
  simp [execOp, ho, hq, q1]
end Ex
namespace Ex
open Go Go.MapKept
variable [Base] {P : Program} {ρ : Rho} {h : H} {w : World} {η : Env} {a : Act} {nx : Nx}
theorem b_recover {at_ : Array Nat} {ty : Nat} {args : V} {xs : List Value} {cs : Array Bool} (e : bi_recover P h at_ args = .ok nx) : OpOk P ρ h w (builtin .recover at_ ty cs xs.toArray) nx := by
  rw [← okinj (show O.ok (Nx.recover h) = .ok nx from e)]
  exact ⟨rfl, rfl⟩
theorem one_inv {v : V} {xs : List Value} (h : DV ρ (.cons v .nil) (LV xs)) : ∃ x, xs = [x] ∧ DV ρ v x := by
  obtain ⟨x, ys, rfl, h1, h2⟩ := h.cons_inv
  rw [h2.nil_inv]
  exact ⟨x, rfl, h1⟩
theorem b_sliceData (r : HR P ρ h w) {at_ : Array Nat} {ty : Nat} {args : V} {xs : List Value} {cs : Array Bool} (ha : DV ρ args (LV xs)) (e : bi_unsafeSliceData P h at_ args = .ok nx) : OpOk P ρ h w (builtin .unsafeSliceData at_ ty cs xs.toArray) nx := by
  unfold bi_unsafeSliceData at e
  split at e
  · obtain ⟨y, rfl, hy⟩ := one_inv ha
    split at e
    · cases hy
      rw [← okinj e]
      have := Lib.run_unsafeSliceData_nil (P := P) w at_ ty 0 0
      exact OpOk.same r (by simp [builtin, this]) .nilp
    · rename_i b o n c
      cases hy with
      | @sl _ l _ _ _ hl =>
      cases hc : Nat.beq c 0 with
      | true => rw [hc] at e; cases e
      | false =>
        rw [hc] at e
        rw [← okinj (show O.ok (Nx.val (V.ptr b o) h) = .ok nx from e)]
        have hc' : c ≠ 0 := by intro q; subst q; cases hc
        refine OpOk.same r ?_ (.ptr _ hl)
        have := Lib.run_unsafeSliceData_row (P := P) w at_ ty ⟨l.blk, l.off + o, none⟩ n c hc'
        simp [builtin, this]
    · rename_i b o n d
      cases hy with
      | @slu _ l _ _ _ hl hlc =>
      cases hc : Nat.beq n 0 with
      | true => rw [hc] at e; cases e
      | false =>
        rw [hc] at e
        rw [← okinj (show O.ok (Nx.val (V.ptr b o) h) = .ok nx from e)]
        have hc' : n ≠ 0 := by intro q; subst q; cases hc
        refine OpOk.same r ?_ (.ptr _ hl)
        have := Lib.run_unsafeSliceData_row (P := P) w at_ ty ⟨l.blk, l.off + o, none⟩ n (l.cap - d) (by omega)
        simp [builtin, this]
    · cases e
  · cases e
theorem ustr_ex : ∃ m1 m2 m3 m4 m5 : String, ∀ (at_ : Array Nat) (ty : Nat) (p : Option Addr) (x : Value), Builtin.unsafeString_ at_ ty #[.pointer p, x] = (do
    let n ← asInt x
    let some pt := at_[0]? | stuck m1
    if n < 0 then runtimePanic (.error m2)
    if n > IntKind.i64.max then unsupported (.unsafePointer m3)
    match p with
    | none =>
      if n = 0 then pure (.string .empty)
      else runtimePanic (.error m4)
    | some a =>
      if n = 0 then pure (.string .empty)
      else if ← variablesAt a (← elemOf pt) n.toNat then do
        let s ← loadBytes a .empty n.toNat
        freeze a n.toNat
        pure (.string s)
      else unsupported (.unsafePointer m5)) := ⟨_, _, _, _, _, fun _ _ _ _ => rfl⟩
theorem run_bytes : ∀ (s : List Nat) (a : Addr) (acc : ByteArray), (∀ (j : Nat) (x : Nat), s[j]? = some x → w.cell? (a.add j) = some (.int .u8 (x : Int))) →
    (loadBytes a acc s.length).run P w = .ok ⟨acc.data ++ (s.map UInt8.ofNat).toArray⟩ w
  | [], a, acc, _ => by simp [loadBytes]
  | x :: s, a, acc, h => by
    have h0 : w.cell? a = some (.int .u8 (x : Int)) := by
      have := h 0 x rfl
      simpa [Addr.add] using this
    have ih := run_bytes s (a.add 1) (acc.push (UInt8.ofNat x)) (fun j y hy => by
      have := h (j + 1) y (by simpa using hy)
      have e : (a.add 1).add j = a.add (j + 1) := by
        unfold Addr.add
        by_cases hj : j = 0
        · subst hj; simp
        · simp [hj]; omega
      rw [e]; exact this)
    simp only [List.length_cons, loadBytes, Sem.run_bind, run_load, h0, Result.andThen, Int.toNat_natCast]
    show (loadBytes (a.add 1) (acc.push (UInt8.ofNat x)) s.length).run P w = _
    rw [ih]
    congr 1
    apply ByteArray.ext
    simp [ByteArray.push]
theorem b_unsafeString (r : HR P ρ h w) {at_ : Array Nat} {ty : Nat} {args : V} {xs : List Value} {cs : Array Bool} (ha : DV ρ args (LV xs)) (e : bi_unsafeString P h at_ args = .ok nx) : OpOk P ρ h w (builtin .unsafeString at_ ty cs xs.toArray) nx := by
  obtain ⟨_, _, _, _, _, ustr_def⟩ := ustr_ex
  unfold bi_unsafeString at e
  split at e
  · rename_i p k n
    obtain ⟨px, ys, rfl, h1, h2⟩ := ha.cons_inv
    obtain ⟨nv, rfl, h3⟩ := one_inv h2
    cases h3
    have hmax : IntKind.i64.max = 9223372036854775807 := rfl
    split at e
    · rename_i u hu
      obtain ⟨pt, p1, p2⟩ := bind_some hu
      cases h1
      obtain ⟨hn, e1⟩ := bifok e
      have := beq_eq hn; subst this
      rw [← okinj e1]
      refine OpOk.same r ?_ (.str [])
      have hb : bs [] = ByteArray.empty := rfl
      rw [hb]
      simp [builtin, ustr_def, asInt, asIntOf, p1, hmax]
    · rename_i u b o hu
      obtain ⟨pt, p1, p2⟩ := bind_some hu
      cases h1 with
      | @ptr _ l _ hl =>
      cases hn : Nat.beq n 0 with
      | true =>
        have := beq_eq hn; subst this
        rw [hn] at e
        rw [← okinj (show O.ok (Nx.val (V.str []) h) = .ok nx from e)]
        refine OpOk.same r ?_ (.str [])
        have hb : bs [] = ByteArray.empty := rfl
        rw [hb]
        simp [builtin, ustr_def, asInt, asIntOf, p1, hmax]
      | false =>
        rw [hn] at e
        simp only [cond_false] at e
        split at e
        · rename_i ro fz c m ty' hg
          cases ro with
          | true => cases e
          | false =>
          simp only [cond_false] at e
          obtain ⟨q1, e⟩ := bifok e
          obtain ⟨q2, e⟩ := bifok e
          obtain ⟨q3, e⟩ := bifok e
          obtain ⟨row, e1, e2⟩ := bnd_ok e
          obtain ⟨s, e3, e4⟩ := bnd_ok e2
          rw [← okinj e4]
          have q1 := beq_eq q1; subst q1
          have q2 := beq_eq q2
          have q3 := ble_le q3
          obtain ⟨xs, o1, o2, o3, o4⟩ := rowOf_ok r hl e1
          have hx := bytesOf_ok o1 e3
          have hsn : s.length = n := by rw [← o2, hx]; simp
          obtain ⟨l', hl', hor⟩ := r.ob _ _ hg
          rw [hl] at hl'; injection hl' with hl'; subst hl'
          obtain ⟨cs', fr, hh, hsz, hcap, ⟨_, koff⟩, hc⟩ := hor
          have hlt := r.lt _ _ _ hg hl
          have hsh := shape_of hh
          have hpos : 0 < n := by
            rcases Nat.eq_zero_or_pos n with q | q
            · subst q; cases hn
            · exact q
          have hlast : l.off + o + n ≤ cs'.size := by
            have hj : (n - 1) < xs.length := by omega
            have := o3 (n - 1) _ (List.getElem?_eq_getElem hj)
            rw [cell_of hh] at this
            obtain ⟨hlt', _⟩ := Array.getElem?_eq_some_iff.1 this
            omega
          have hli : liesAt P P.depth ty' (cs'.size / P.cellsOf ty') (l.off + o) ty' n = true := by
            have hd : P.depth = (2 * (P.types.size + Made.depth) + 1) + 1 := rfl
            rw [hd]
            simp only [liesAt, Bool.or_eq_true]
            left
            rw [hd]
            simp [rowAt, q2, hlast, sameLayout, Nat.mod_one]
          have hlb : (loadBytes ⟨l.blk, l.off + o, none⟩ .empty n).run P w = .ok (bs s) w := by
            have := run_bytes (P := P) (w := w) s ⟨l.blk, l.off + o, none⟩ .empty (fun j x hj => by
              rw [Addr.add_mid]
              refine o3 j _ ?_
              rw [hx]; simp [hj])
            rw [hsn] at this
            rw [this]
            have hb : (ByteArray.empty.data ++ (s.map UInt8.ofNat).toArray) = (s.map UInt8.ofNat).toArray := by apply Array.ext'; simp
            rw [hb]; rfl
          have hneg : ¬ (n : Int) < 0 := by omega
          have hbig : ¬ (9223372036854775807 : Int) < (n : Int) := by omega
          have hn0 : ¬ n = 0 := by omega
          have hfz : ∀ k, (w.freeze ⟨l.blk, l.off + o, none⟩ n).heap[k]? = if k = l.blk then some (.cells cs' ty' (if fr.1 == fr.2 then (l.off + o, l.off + o + n) else (min fr.1 (l.off + o), max fr.2 (l.off + o + n)))) else w.heap[k]? := fun k => by
            unfold World.freeze
            rw [if_neg hn0]
            simp only [Array.getElem?_modify]
            by_cases hk : k = l.blk
            · subst hk; simp [hh]
            · rw [if_neg hk, if_neg (Ne.symm hk)]
          have hfs : (w.freeze ⟨l.blk, l.off + o, none⟩ n).heap.size = w.heap.size := by unfold World.freeze; rw [if_neg hn0]; simp
          refine ⟨ρ, .string (bs s), w.freeze ⟨l.blk, l.off + o, none⟩ n, ?_, .str s, r.set _ hg hl rfl hfs (fun k hk => by rw [hfz, if_neg hk]) ?_, St.set r _ hg hl rfl hfs (fun k hk => by rw [hfz, if_neg hk]) ?_ ?_ ?_⟩
          · simp [builtin, ustr_def, asInt, asIntOf, p1, hmax, hneg, hbig, hn0, variablesAt, hsh, elemOf, run_u p2, hli, hlb]
          · exact ⟨cs', _, by rw [hfz, if_pos rfl], hsz, hcap, ⟨(fun q => nomatch q), koff⟩, hc⟩
          · unfold World.freeze; rw [if_neg hn0]
          · unfold World.freeze; rw [if_neg hn0]
          · unfold World.freeze; rw [if_neg hn0]
        · cases e
    · cases e
  · cases e
end Ex
namespace Ex
open Go Go.MapKept
variable [Base] {P : Program} {ρ : Rho} {h : H} {w : World} {η : Env} {a : Act} {nx : Nx}
/-- No function of the program has a name that the model answers by itself though it has a body. -/
def NG (P : Program) : Prop := ∀ (f : Nat) (fn : Func), P.funcs[f]? = some fn → (fn.name == "runtime.NumGoroutine") = false
/-- What a function without code answers. -/
def ExtOk (P : Program) : Prop := ∀ (ρ : Rho) (h : H) (w : World) (f : Nat) (fn : Func) (args : V) (xs : List Value) (nx : Nx), P.funcs[f]? = some fn → fn.body.isNone = true → DV ρ args (LV xs) → Gl ρ → HR P ρ h w → callF P h f args = .ok nx → OpOk P ρ h w (callFunc f xs.toArray) nx
theorem callF_ok (ng : NG P) (ex : ExtOk P) (hg : Gl ρ) (r : HR P ρ h w) {f : Nat} {args : V} {xs : List Value} (ha : DV ρ args (LV xs)) (e : callF P h f args = .ok nx) : OpOk P ρ h w (callFunc f xs.toArray) nx := by
  cases hf : P.funcs[f]? with
  | none => unfold callF at e; rw [hf] at e; cases e
  | some fn =>
    cases hb : fn.body.isNone with
    | true => exact ex ρ h w f fn args xs nx hf hb ha hg r e
    | false =>
      unfold callF at e
      rw [hf] at e
      simp only [hb, cond_false] at e
      rw [← okinj e]
      refine ⟨rfl, xs, ?_, ha⟩
      have hn := ng f fn hf
      unfold callFunc
      simp only [Sem.run_bind, run_program, Result.andThen_ok, hf]
      rw [if_neg (by rw [hn]; decide), if_neg (by rw [hb]; decide)]
      rfl
theorem resolve_value {c : Go.Call} {ty : Nat} {g : Operand} (hc : c.callee = .value g) (ev : Operand → Value) : resolve ev c ty = Deferred.ofValue (ev g) (c.args.map ev) := by simp [resolve, hc]
theorem op_defer (he : ER ρ η a) (hg : Gl ρ) {o : Oper} {c : Go.Call} (ho : o.op = .defer c) (e : opDefer P η h c = .ok nx) : OpOk P ρ h w (execOp a.eval o) nx := by
  unfold opDefer at e
  obtain ⟨args, e1, e2⟩ := bnd_ok e
  have hargs := opds_ok he hg e1
  split at e2
  · rename_i g hc
    obtain ⟨fv, e3, e4⟩ := bnd_ok e2
    have hf := opd_ok he hg e3
    generalize hq : a.eval g = fx at hf
    split at e4
    · cases hf with
      | @fn _ _ xs ys _ hx hy =>
      rename_i f _ _
      rw [← okinj e4]
      refine ⟨rfl, { target := .fn (.func f) ys.toArray, args := xs.toArray ++ c.args.map a.eval }, ys.toArray, (xs ++ c.args.toList.map a.eval) ++ ys, ?_, rfl, ?_, ?_⟩
      · simp [execOp, ho, resolve_value hc, hq, Deferred.ofValue]
      · simp
      · exact (hx.app hargs).app hy
    · cases e4
  · cases e2
theorem OpOk.run {s s' : Sem Next} (q : s.run P w = s'.run P w) (k : OpOk P ρ h w s' nx) : OpOk P ρ h w s nx := by
  cases nx <;> simp only [OpOk] at * <;> rw [q] <;> exact k
theorem inv_inv {mf : Option (Nat × Bool)} {ut : Option TypeDesc} {F : Nat → O Nx} (e : (match mf, ut with
        | some (f, true), some (.pointer _) => F f
        | some (_, false), some (.pointer _) => .no 53
        | some (f, false), some _ => F f
        | _, _ => .no 53) = .ok nx) : ∃ f pr d, mf = some (f, pr) ∧ ut = some d ∧ F f = .ok nx ∧ ((∃ el, d = .pointer el ∧ pr = true) ∨ (pr = false ∧ ∀ el, d ≠ .pointer el)) := by
  rcases mf with _ | ⟨f, _ | _⟩
  · cases e
  · rcases ut with _ | d
    · cases e
    · cases d
      case pointer el => cases e
      all_goals exact ⟨f, false, _, rfl, rfl, e, .inr ⟨rfl, fun el q => by cases q⟩⟩
  · rcases ut with _ | d
    · cases e
    · cases d
      case pointer el => exact ⟨f, true, _, rfl, rfl, e, .inl ⟨el, rfl, rfl⟩⟩
      all_goals cases e
theorem op_call (ng : NG P) (ex : ExtOk P) (he : ER ρ η a) (hg : Gl ρ) (r : HR P ρ h w) {o : Oper} {c : Go.Call} (ho : o.op = .call c) (e : opCall P η h c = .ok nx) : OpOk P ρ h w (execOp a.eval o) nx := by
  unfold opCall at e
  obtain ⟨args, e1, e2⟩ := bnd_ok e
  have hargs := opds_ok he hg e1
  split at e2
  · rename_i g hc
    obtain ⟨fv, e3, e4⟩ := bnd_ok e2
    have hf := opd_ok he hg e3
    generalize hq : a.eval g = fx at hf
    split at e4
    · cases hf with
      | @fn _ _ xs ys _ hx hy =>
      rename_i f _ _
      have main := callF_ok ng ex hg r ((hx.app hargs).app hy) e4
      have : execOp a.eval o = (do let d ← (pure { target := .fn (.func f) ys.toArray, args := xs.toArray ++ c.args.map a.eval } : Sem Deferred); invoke d.target d.args) := by
        simp only [execOp, ho, resolve_value hc, hq, Deferred.ofValue]
      rw [this]
      have h2 : (do let d ← (pure { target := .fn (.func f) ys.toArray, args := xs.toArray ++ c.args.map a.eval } : Sem Deferred); invoke d.target d.args) = callFunc f ((xs ++ c.args.toList.map a.eval) ++ ys).toArray := by
        show callFunc f (xs.toArray ++ c.args.map a.eval ++ ys.toArray) = _
        congr 1
        apply Array.ext'; simp
      rw [h2]; exact main
    · rename_i b
      cases hf with
      | @yld _ l hl =>
      rw [← okinj e4]
      refine ⟨rfl, l, c.args.toList.map a.eval, hl, hargs, ?_⟩
      have : execOp a.eval o = (do let d ← (pure { target := .fn (.yield l.blk) #[], args := #[] ++ c.args.map a.eval } : Sem Deferred); invoke d.target d.args) := by
        simp only [execOp, ho, resolve_value hc, hq, Deferred.ofValue]
      rw [this]
      show (Instr.yield l.blk (#[] ++ c.args.map a.eval)).run P w = _
      congr 2
      apply Array.ext'; simp
    · cases e4
  · rename_i g name hc
    obtain ⟨rv, e3, e4⟩ := bnd_ok e2
    have hr := opd_ok he hg e3
    generalize hq : a.eval g = gx at hr
    unfold invokeV at e4
    split at e4
    · rename_i t v
      cases hr with
      | @iface _ x _ hv =>
      split at e4
      · rename_i m hm
        cases hi : P.info? t with
        | none => rw [hi] at hm; cases hm
        | some i =>
        rw [hi] at hm
        have hm' : i.methods.find? (·.name == name) = some m := hm
        obtain ⟨hpath, e5⟩ := bifok e4
        have hpath' : m.path = #[] := by simpa using hpath
        have key : ∃ f pr, m.func = some (f, pr) ∧ callF P h f (.cons v args) = .ok nx ∧ (receiverAt t (.val x) pr (if m.path.isEmpty then some ((name.splitOn ".").getLastD name) else none)).run P w = .ok x w := by
          obtain ⟨f, pr, d, hf, hu, e6, hcase⟩ := inv_inv (F := fun f => callF P h f (.cons v args)) e5
          refine ⟨f, pr, hf, e6, ?_⟩
          rcases hcase with ⟨el, rfl, rfl⟩ | ⟨rfl, hnp⟩
          · simp [receiverAt, run_u hu, Place.get]
          · cases d with
            | pointer el => exact absurd rfl (hnp el)
            | _ => simp [receiverAt, run_u hu, Place.get]
        obtain ⟨f, pr, hf, e6, hrec⟩ := key
        have hpos : 0 < Made.depth := by decide
        obtain ⟨k, hk⟩ : ∃ k, P.types.size + Made.depth = k + 1 := ⟨P.types.size + Made.depth - 1, by omega⟩
        have hmeth : (method (P.types.size + Made.depth) t x name).run P w = .ok (f, x) w := by
          rw [hk]
          unfold method
          simp only [Sem.run_bind, ti_run hi, Result.andThen_ok, hm', hpath', follow, Sem.run_pure, hf]
          rw [hpath'] at hrec
          rw [hrec]; rfl
        have hx2 := DV.cons hv hargs
        have main := callF_ok ng ex hg r hx2 e6
        have hall : execOp a.eval o = callMethod (.iface t x) name (c.args.map a.eval) := by
          have h0 : (#[Value.iface t x] ++ c.args.map a.eval)[0]? = some (.iface t x) := by rw [Array.getElem?_append_left (by simp)]; rfl
          simp [execOp, ho, resolve, hc, hq, invoke, h0]
          congr 1
          apply Array.ext'; simp
          exact List.take_of_length_le (by simp)
        have hrunall : (execOp a.eval o).run P w = (callFunc f (x :: c.args.toList.map a.eval).toArray).run P w := by
          rw [hall]
          unfold callMethod
          simp only [Sem.run_bind, run_program, Result.andThen_ok, hmeth]
          congr 2
          apply Array.ext'; simp
        exact OpOk.run hrunall main
      · cases e4
    · cases e4
  · rename_i b hc
    have h2 : execOp a.eval o = builtin b c.argTypes o.type (c.args.map fun | .const _ => true | _ => false) (c.args.toList.map a.eval).toArray := by
      simp only [execOp, ho, resolve, hc]
      show builtin b c.argTypes o.type _ (c.args.map a.eval) = _
      congr 1
      apply Array.ext'; simp
    rw [h2]
    unfold opBuiltin at e2
    split at e2
    · exact b_len r hargs e2
    · exact b_cap r hargs e2
    · obtain ⟨hs, e3⟩ := bifok e2
      exact b_append r (beq_eq hs) hargs e3
    · exact b_clear r hargs e2
    · exact b_max r hargs e2
    · exact b_min r hargs e2
    · exact b_recover e2
    · exact b_sliceData r hargs e2
    · exact b_unsafeString r hargs e2
    · cases e2
end Ex
namespace Ex
open Go Go.MapKept
variable [Base] {P : Program} {ρ : Rho} {h : H} {w : World} {η : Env} {a : Act} {nx : Nx}
/-- Every operation that the evaluator carries out comes to what it says. -/
theorem evOp_ok (ng : NG P) (ex : ExtOk P) (he : ER ρ η a) (hg : Gl ρ) (r : HR P ρ h w) {o : Oper} (e : evOp P o η h = .ok nx) : OpOk P ρ h w (execOp a.eval o) nx := by
  unfold evOp at e
  split at e
  case h_1 ho => exact op_move he hg r (.inl ho) e
  case h_2 ho => exact op_move he hg r (.inr ho) e
  case h_3 ho => exact op_pick he hg r ho e
  case h_4 ho => exact op_alloc r ho e
  case h_5 ho => exact op_box he hg r ho e
  case h_6 ho => exact op_build he hg r ho e
  case h_7 ho => exact op_buildSlice he hg r ho e
  case h_8 ho => exact op_load he hg r ho e
  case h_9 ho => exact op_store he hg r ho e
  case h_10 ho => exact op_nilCheck he hg r ho e
  case h_11 ho => exact op_binOp he hg r ho e
  case h_12 ho => exact op_unOp he hg r ho e
  case h_13 ho => exact op_convert he hg r ho e
  case h_14 ho => exact op_makeInterface he hg r ho e
  case h_15 ho => exact op_makeFunc he hg r ho e
  case h_16 ho => exact op_makeMap0 (η := η) r ho e
  case h_17 ho => exact op_makeMap he hg r ho e
  case h_18 ho => exact op_makeSlice he hg r ho e
  case h_19 ho => exact op_slice he hg r ho e
  case h_20 ho => exact op_fieldAddr he hg r ho e
  case h_21 ho => exact op_field he hg r ho e
  case h_22 ho => exact op_indexAddr he hg r ho e
  case h_23 ho => exact op_index he hg r ho e
  case h_24 ho => exact op_lookup he hg r ho e
  case h_25 ho => exact op_mapUpdate he hg r (.inl ho) e
  case h_26 ho => exact op_mapUpdate he hg r (.inr ho) e
  case h_27 ho => exact op_typeAssert he hg r ho e
  case h_28 ho => exact op_range he hg r ho e
  case h_29 ho => exact op_next he hg r ho e
  case h_30 ho => exact op_extract he hg r ho e
  case h_31 ho => exact op_panic he hg ho e
  case h_32 ho => exact op_defer he hg ho e
  case h_33 ho => exact op_call ng ex he hg r ho e
  case h_34 => cases e
end Ex
namespace Ex
open Go Go.MapKept
variable [Base] {P : Program} {ρ : Rho} {h : H} {w : World} {nx : Nx}
/-- A function without code, answered by the model's own table. -/
theorem ext_run (ng : NG P) {f : Nat} {fn : Func} {g : Array Value → Sem Value} {args : Array Value} {x : Value} {w' : World} (hf : P.funcs[f]? = some fn) (hb : fn.body.isNone = true) (h1 : Extern.findNext fn = none) (h2 : Extern.find fn = some g)
    (hr : (g args).run P w = .ok x w') : (callFunc f args).run P w = .ok (.value x) w' := by
  have hn := ng f fn hf
  unfold callFunc
  simp only [Sem.run_bind, run_program, Result.andThen_ok, hf]
  rw [if_neg (by rw [hn]; decide), if_pos hb]
  simp [h1, h2, hr]
theorem ext_noEscape (ng : NG P) {f : Nat} {fn : Func} {x : V} {y : Value} (hf : P.funcs[f]? = some fn) (hb : fn.body.isNone = true) (h1 : Extern.findNext fn = none) (h2 : Extern.find fn = some Extern.AbiNoEscape.same)
    (r : HR P ρ h w) (hy : DV ρ x y) : OpOk P ρ h w (callFunc f [y].toArray) (.val x h) :=
  OpOk.same r (ext_run ng hf hb h1 h2 (Lib.run_noEscape w y)) hy
theorem handle_dv (hg : Gl ρ) (h40 : P.globals.size ≤ GB) (t : Nat) : DV ρ (.ptr (key P.globals.size) t) (typeHandle P t) := by
  obtain ⟨c, hc⟩ := hg _ h40
  have := DV.ptr (ρ := ρ) t hc
  simpa [typeHandle] using this
theorem toType_ok (hg : Gl ρ) (h40 : P.globals.size ≤ GB) {n : String} {q : Nat} (hq : P.cutTypes.find? (·.1 == "internal/reflectlite.rtype") = some (n, q)) (t : Nat) :
    ∃ x, (Extern.ReflectliteType.toType t).run P w = .ok x w ∧ DV ρ (.iface q (.agg (.cons (.ptr (key P.globals.size) t) .nil))) x := by
  refine ⟨.iface q (.agg #[typeHandle P t]), ?_, .iface _ (.agg (xs := [typeHandle P t]) (.cons (handle_dv hg h40 t) .nil) ?_)⟩
  · simp [Extern.ReflectliteType.toType, Go.cutType, hq, Extern.Rtype.handle]
  · intro u hu
    have : u = .ptr (key P.globals.size) t := by simpa [V.toL] using hu
    subst this; rfl
theorem ext_typeOf (ng : NG P) (hg : Gl ρ) (h40 : P.globals.size ≤ GB) {f : Nat} {fn : Func} {args : V} {xs : List Value} (hf : P.funcs[f]? = some fn) (hb : fn.body.isNone = true) (h1 : Extern.findNext fn = none) (h2 : Extern.find fn = some Extern.ReflectliteType.typeOf)
    (r : HR P ρ h w) (ha : DV ρ args (LV xs)) {q : Nat} {n : String} (hq : P.cutTypes.find? (·.1 == "internal/reflectlite.rtype") = some (n, q)) :
    (args = .cons .nili .nil → OpOk P ρ h w (callFunc f xs.toArray) (.val .nili h)) ∧
    ∀ t v, args = .cons (.iface t v) .nil → OpOk P ρ h w (callFunc f xs.toArray) (.val (.iface q (.agg (.cons (.ptr (key P.globals.size) t) .nil))) h) := by
  constructor
  · rintro rfl
    obtain ⟨y, rfl, hy⟩ := one_inv ha
    cases hy
    exact OpOk.same r (ext_run ng hf hb h1 h2 rfl) .nili
  · rintro t v rfl
    obtain ⟨y, rfl, hy⟩ := one_inv ha
    cases hy with
    | @iface _ x _ hv =>
    obtain ⟨z, q1, q2⟩ := toType_ok (w := w) hg h40 hq t
    exact OpOk.same r (ext_run ng hf hb h1 h2 q1) q2
end Ex
