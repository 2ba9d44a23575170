import Derived.Test.YtfkfccpjfagamaaGreatDoorYd
set_option linter.all false
namespace Ex
open Go
variable [Base]
/-- The orders in which a region's operations may be done. -/
def Ready (ops : Array Oper) (D : List Nat) (i : Nat) : Prop := i ∉ D ∧ ∃ o, ops[i]? = some o ∧ ∀ e ∈ o.after.toList, alwG e.ground = true → e.on ∈ D
def Good (ops : Array Oper) : List Nat → List Nat → Prop
  | D, [] => ∀ i, i < ops.size → i ∈ D
  | D, i :: r => Ready ops D i ∧ Good ops (i :: D) r
/-- All of them can be done in a mode: a list that has each of them behind those that it waits for. -/
def Full (m : Region.Mode) (ops : Array Oper) (R : List Nat) : Prop := (∀ i, i < ops.size → i ∈ R) ∧ ∀ pre i post, R = pre ++ i :: post → ∃ o, ops[i]? = some o ∧ ∀ e ∈ o.after.toList, Region.binds m e = true → e.on ∈ pre
def unl (n : Nat) (D : List Nat) : Nat := ((List.range n).filter fun i => !D.contains i).length
theorem first_not {D : List Nat} : ∀ (R : List Nat) (pre : List Nat), (∀ i ∈ pre, i ∈ D) → (∃ i ∈ R, i ∉ D) → ∃ p i q, R = p ++ i :: q ∧ (∀ j ∈ pre ++ p, j ∈ D) ∧ i ∉ D
  | [], pre, _, h => by obtain ⟨i, hi, _⟩ := h; cases hi
  | x :: r, pre, hp, h => by
    by_cases hx : x ∈ D
    · obtain ⟨p, i, q, h1, h2, h3⟩ := first_not r (pre ++ [x]) (fun i hi => by
        rcases List.mem_append.1 hi with k | k
        · exact hp i k
        · rw [List.mem_singleton.1 k]; exact hx) (by
        obtain ⟨i, hi, hn⟩ := h
        cases hi with
        | head => exact (hn hx).elim
        | tail _ hi => exact ⟨i, hi, hn⟩)
      exact ⟨x :: p, i, q, by rw [h1]; rfl, by simpa using h2, h3⟩
    · exact ⟨[], x, r, rfl, by simpa using hp, hx⟩
theorem binds_alw {m : Region.Mode} {e : Edge} (h : alwG e.ground = true) : Region.binds m e = true := by
  obtain ⟨on, g⟩ := e
  cases g <;> first | rfl | cases h
theorem nodup_len : ∀ (n : Nat) (l : List Nat), l.Nodup → (∀ x ∈ l, x < n) → l.length ≤ n
  | 0, l, _, h => by
    cases l with
    | nil => simp
    | cons x r => have := h x List.mem_cons_self; omega
  | n+1, l, hn, h => by
    by_cases hm : n ∈ l
    · have := nodup_len n (l.erase n) (hn.erase n) (fun x hx => by
        have := (hn.mem_erase_iff).1 hx
        have := h x this.2
        omega)
      rw [List.length_erase_of_mem hm] at this
      omega
    · have := nodup_len n l hn (fun x hx => by
        have h1 := h x hx
        have : x ≠ n := fun e => hm (e ▸ hx)
        omega)
      omega
theorem lin_good (m : Region.Mode) (ops : Array Oper) {R : List Nat} (hR : Full m ops R) : ∀ (fuel t : Nat) (listed : Array Bool) (acc D : List Nat), listed.size = ops.size → (∀ i, i < ops.size → (listed.getD i false = true ↔ i ∈ D)) → (∀ i ∈ D, i < ops.size) → D.Nodup → ops.size ≤ fuel + D.length →
    ∃ r, Region.linearise.go m ops fuel t listed acc = acc.reverse ++ r ∧ Good ops D r
  | 0, t, listed, acc, D, hs, hl, hd, hn, hf => by
    refine ⟨[], by simp [Region.linearise.go], fun i hi => ?_⟩
    -- D has all of them
    have h1 : D.length ≥ ops.size := by omega
    apply Classical.byContradiction
    intro hni
    have := nodup_len ops.size (i :: D) (List.nodup_cons.2 ⟨hni, hn⟩) (fun x hx => by
      cases hx with
      | head => exact hi
      | tail _ hx => exact hd x hx)
    simp at this
    omega
  | fuel+1, t, listed, acc, D, hs, hl, hd, hn, hf => by
    unfold Region.linearise.go
    simp only
    generalize hrs : ((List.range ops.size).filter fun i => !listed.getD i true && ((ops[i]?).map (·.after.all fun e => !Region.binds m e || listed.getD e.on false)).getD false) = rs
    have hmem : ∀ i, i ∈ rs ↔ i < ops.size ∧ i ∉ D ∧ ∃ o, ops[i]? = some o ∧ ∀ e ∈ o.after.toList, Region.binds m e = true → listed.getD e.on false = true := by
      intro i
      rw [← hrs, List.mem_filter, List.mem_range]
      refine and_congr_right fun hi => ?_
      have hli := hl i hi
      have hii : i < listed.size := by omega
      have hd1 : listed.getD i true = listed.getD i false := by simp [Array.getD, hii]
      rw [hd1]
      have ho : ops[i]? = some ops[i] := Array.getElem?_eq_getElem hi
      rw [ho]
      simp only [Bool.and_eq_true, Bool.not_eq_true', Option.map_some, Option.getD_some]
      constructor
      · rintro ⟨a, b⟩
        refine ⟨fun k => (by rw [hli.2 k] at a; cases a), _, rfl, fun e he hb => ?_⟩
        rw [Array.all_eq_true'] at b
        have := b e (Array.mem_toList_iff.1 he)
        simpa [hb] using this
      · rintro ⟨a, o, ho', b⟩
        injection ho' with ho'
        subst ho'
        refine ⟨by
          cases q : listed.getD i false with
          | false => rfl
          | true => exact (a (hli.1 q)).elim, ?_⟩
        rw [Array.all_eq_true']
        intro e he
        cases hb : Region.binds m e with
        | false => rfl
        | true => simpa using b e (Array.mem_toList_iff.2 he) hb
    have hgd : ∀ j, listed.getD j false = true → j ∈ D := by
      intro j hj
      by_cases hjs : j < ops.size
      · exact (hl j hjs).1 hj
      · exfalso
        have : ¬ j < listed.size := by omega
        simp [Array.getD, this] at hj
    cases hget : rs[t % rs.length]? with
    | none =>
      -- nothing is ready: all are done
      have hempty : rs = [] := by
        by_cases hz : rs.length = 0
        · exact List.eq_nil_of_length_eq_zero hz
        · exfalso
          have := List.getElem?_eq_none_iff.1 hget
          have := Nat.mod_lt t (Nat.pos_of_ne_zero hz)
          omega
      refine ⟨[], by simp, fun i hi => ?_⟩
      apply Classical.byContradiction
      intro hni
      obtain ⟨p, j, q, h1, h2, h3⟩ := first_not R [] (fun _ h => by cases h) ⟨i, hR.1 i hi, hni⟩
      obtain ⟨o, ho, hall⟩ := hR.2 p j q h1
      have hj : j < ops.size := by
        rcases Nat.lt_or_ge j ops.size with k | k
        · exact k
        · rw [Array.getElem?_eq_none k] at ho; cases ho
      have : j ∈ rs := (hmem j).2 ⟨hj, h3, o, ho, fun e he hb => by
        have hp := h2 e.on (by simpa using hall e he hb)
        exact (hl _ (hd _ hp)).2 hp⟩
      rw [hempty] at this; cases this
    | some i =>
      have hi := (hmem i).1 (List.mem_of_getElem? hget)
      obtain ⟨hi1, hi2, o, ho, hall⟩ := hi
      obtain ⟨r, e1, e2⟩ := lin_good m ops hR fuel (t / rs.length) (listed.setIfInBounds i true) (i :: acc) (i :: D) (by simpa using hs) (fun j hj => by
        have hjs : j < listed.size := by omega
        by_cases q : j = i
        · subst q; simp [Array.getD, hjs]
        · have := hl j hj
          simp [Array.getD, hjs, Array.getElem_setIfInBounds, Ne.symm q, q] at this ⊢
          exact this) (fun j hj => by
          cases hj with
          | head => exact hi1
          | tail _ hj => exact hd j hj) (List.nodup_cons.2 ⟨hi2, hn⟩) (by simp; omega)
      refine ⟨i :: r, ?_, ⟨hi2, o, ho, fun e he ha => hgd _ (hall e he (binds_alw ha))⟩, e2⟩
      show Region.linearise.go m ops fuel (t / rs.length) (listed.setIfInBounds i true) (i :: acc) = _
      rw [e1]; simp
theorem linearise_good {m : Region.Mode} {ops : Array Oper} {R : List Nat} (hR : Full m ops R) (t : Nat) : Good ops [] (Region.linearise m ops t) := by
  obtain ⟨r, e1, e2⟩ := lin_good m ops hR ops.size t (Array.replicate ops.size false) [] [] (by simp) (fun i hi => by simp [Array.getD, hi]) (fun i hi => by cases hi) List.nodup_nil (by simp)
  unfold Region.linearise
  rw [e1]; simpa using e2
end Ex
namespace Ex
open Go
variable [Base]
theorem bit_eq (m k : Nat) : bit m k = m.testBit k := by
  unfold bit Nat.testBit
  show Nat.beq ((m >>> k) &&& 1) 1 = (1 &&& (m >>> k) != 0)
  rw [Nat.and_comm 1, Nat.and_one_is_mod]
  have := Nat.mod_lt (m >>> k) (show 0 < 2 by omega)
  generalize (m >>> k) % 2 = x at this ⊢
  match x, this with
  | 0, _ => rfl
  | 1, _ => rfl
theorem getN_eq (l : List Nat) (k : Nat) : getN l k = l[k]?.getD 0 := by
  unfold getN; rw [nthL_eq]; cases l[k]? <;> rfl
theorem lor_bit (a b k : Nat) : (Nat.lor a b).testBit k = (a.testBit k || b.testBit k) := Nat.testBit_or ..
theorem land_bit (a b k : Nat) : (Nat.land a b).testBit k = (a.testBit k && b.testBit k) := Nat.testBit_and ..
theorem pow_bit (i k : Nat) : (Nat.pow 2 i).testBit k = decide (i = k) := Nat.testBit_two_pow
theorem mskE_bit {acc : List Nat} {k : Nat} : ∀ {es : List Edge}, (mskE acc es).testBit k = true → ∃ e ∈ es, alwG e.ground = true ∧ (k = e.on ∨ (getN acc e.on).testBit k = true)
  | [], h => by simp [mskE] at h
  | e :: r, h => by
    have h' : (mskS acc e (mskE acc r)).testBit k = true := h
    unfold mskS at h'
    cases ha : alwG e.ground with
    | true =>
      rw [ha] at h'
      have h2 : (Nat.lor (Nat.lor (Nat.pow 2 e.on) (getN acc e.on)) (mskE acc r)).testBit k = true := h'
      rw [lor_bit, lor_bit, pow_bit] at h2
      simp only [Bool.or_eq_true, decide_eq_true_eq] at h2
      rcases h2 with (h2 | h2) | h2
      · exact ⟨e, List.mem_cons_self, ha, .inl h2.symm⟩
      · exact ⟨e, List.mem_cons_self, ha, .inr h2⟩
      · obtain ⟨e', a, b⟩ := mskE_bit h2; exact ⟨e', List.mem_cons_of_mem _ a, b⟩
    | false =>
      rw [ha] at h'
      obtain ⟨e', a, b⟩ := mskE_bit (es := r) h'
      exact ⟨e', List.mem_cons_of_mem _ a, b⟩
theorem msks_cons (o : Oper) (r : List Oper) (acc : List Nat) : msks (o :: r) acc = msks r (acc ++ [mskE acc o.after.toList]) := by
  show msks r (appL acc [mskE acc o.after.toList]) = _
  rw [appL_eq]
theorem msks_pre : ∀ (l : List Oper) (acc : List Nat), ∃ m, msks l acc = acc ++ m
  | [], acc => ⟨[], by simp [msks]⟩
  | o :: r, acc => by
    obtain ⟨m, h⟩ := msks_pre r (acc ++ [mskE acc o.after.toList])
    exact ⟨mskE acc o.after.toList :: m, by rw [msks_cons, h]; simp⟩
theorem msks_get : ∀ (l : List Oper) (acc : List Nat) (j : Nat) (o : Oper), l[j]? = some o → ∃ m, m.length = acc.length + j ∧ (∃ s, msks l acc = m ++ s) ∧ getN (msks l acc) (acc.length + j) = mskE m o.after.toList
  | [], acc, j, o, h => by simp at h
  | x :: r, acc, 0, o, h => by
    simp at h; subst h
    obtain ⟨m, hm⟩ := msks_pre r (acc ++ [mskE acc x.after.toList])
    refine ⟨acc, by simp, ⟨mskE acc x.after.toList :: m, by rw [msks_cons, hm]; simp⟩, ?_⟩
    rw [msks_cons, hm, getN_eq]; simp
  | x :: r, acc, j+1, o, h => by
    obtain ⟨m, h1, h2, h3⟩ := msks_get r (acc ++ [mskE acc x.after.toList]) j o (by simpa using h)
    refine ⟨m, by rw [h1]; simp; omega, by rw [msks_cons]; exact h2, ?_⟩
    rw [msks_cons, ← h3]; congr 1; simp; omega
noncomputable def Bm (ops : Array Oper) (i : Nat) : Nat := getN (msks ops.toList []) i
def Dn (ops : Array Oper) (D : List Nat) : Prop := ∀ i ∈ D, ∀ k, (Bm ops i).testBit k = true → k ∈ D
theorem dn_ready {ops : Array Oper} {D : List Nat} {i : Nat} (hd : Dn ops D) (hr : Ready ops D i) (k : Nat) (hk : (Bm ops i).testBit k = true) : k ∈ D := by
  obtain ⟨_, o, ho, he⟩ := hr
  obtain ⟨m, h1, ⟨s, h2⟩, h3⟩ := msks_get ops.toList [] i o (by simpa using ho)
  simp only [List.length_nil, Nat.zero_add] at h1 h3
  unfold Bm at hk
  rw [h3] at hk
  obtain ⟨e, e1, e2, e3⟩ := mskE_bit hk
  have hon := he e e1 e2
  rcases e3 with rfl | e3
  · exact hon
  · refine hd _ hon k ?_
    unfold Bm
    rw [h2, getN_eq]
    rw [getN_eq] at e3
    by_cases hlt : e.on < m.length
    · rw [List.getElem?_append_left hlt]; exact e3
    · rw [List.getElem?_eq_none (by omega)] at e3; simp at e3
theorem Dn.cons {ops : Array Oper} {D : List Nat} {i : Nat} (hd : Dn ops D) (hr : Ready ops D i) : Dn ops (i :: D) := by
  intro j hj k hk
  cases hj with
  | head => exact List.mem_cons_of_mem _ (dn_ready hd hr k hk)
  | tail _ hj => exact List.mem_cons_of_mem _ (hd j hj k hk)
/-- A row of the order. -/
structure WR (ops : Array Oper) (r : Rw) : Prop where
  op : ops[r.i]? = some r.o
  b : r.b = Bm ops r.i
  hv : r.hv = !lightB r.o.op
theorem rws_mem {ms : List Nat} : ∀ {l : List Oper} {i : Nat} {r : Rw}, r ∈ rws ms l i → ∃ j, r.i = i + j ∧ l[j]? = some r.o ∧ r.b = getN ms r.i ∧ r.hv = !lightB r.o.op
  | [], i, r, h => by cases h
  | o :: l, i, r, h => by
    have h' : r ∈ (⟨i, o, getN ms i, bif lightB o.op then false else true⟩ : Rw) :: rws ms l (Nat.succ i) := h
    cases h' with
    | head => exact ⟨0, rfl, rfl, rfl, by cases lightB o.op <;> rfl⟩
    | tail _ h' =>
      obtain ⟨j, a, b, c⟩ := rws_mem h'
      exact ⟨j + 1, by rw [a]; omega, by simpa using b, c⟩
theorem dropR_mem {fa : Rw} : ∀ {l : List Rw} {r : Rw}, r ∈ dropR fa l → r ∈ l
  | [], r, h => by cases h
  | x :: l, r, h => by
    have h' : r ∈ (bif Nat.beq x.i fa.i then dropR fa l else x :: dropR fa l) := h
    cases q : Nat.beq x.i fa.i with
    | true => rw [q] at h'; exact List.mem_cons_of_mem _ (dropR_mem h')
    | false =>
      rw [q] at h'
      cases h' with
      | head => exact List.mem_cons_self
      | tail _ h' => exact List.mem_cons_of_mem _ (dropR_mem h')
theorem lateR_mem {fa : Rw} : ∀ {l : List Rw} {r : Rw}, r ∈ lateR fa l → r = fa ∨ r ∈ l
  | [], r, h => .inl (List.mem_singleton.1 h)
  | x :: l, r, h => by
    have h' : r ∈ (bif Nat.beq x.i fa.i then lateR fa l else bif bit x.b fa.i then fa :: x :: dropR fa l else x :: lateR fa l) := h
    cases q : Nat.beq x.i fa.i with
    | true => rw [q] at h'; exact (lateR_mem h').imp id (List.mem_cons_of_mem _)
    | false =>
      rw [q] at h'
      cases q2 : bit x.b fa.i with
      | true =>
        rw [q2] at h'
        cases h' with
        | head => exact .inl rfl
        | tail _ h' =>
          cases h' with
          | head => exact .inr List.mem_cons_self
          | tail _ h' => exact .inr (List.mem_cons_of_mem _ (dropR_mem h'))
      | false =>
        rw [q2] at h'
        cases h' with
        | head => exact .inr List.mem_cons_self
        | tail _ h' => exact (lateR_mem h').imp id (List.mem_cons_of_mem _)
theorem freeS_mem {all : List Rw} {fa : Rw} : ∀ {l : List Rw}, freeS all l = some fa → fa ∈ l ∧ isAlG fa.o = true
  | [], h => by cases h
  | x :: l, h => by
    have h' : (bif isAlG x.o then bif chainR (faMask all) (lateR x all) 0 [] then some x else freeS all l else freeS all l) = some fa := h
    cases q : isAlG x.o with
    | false => rw [q] at h'; exact (freeS_mem h').imp (List.mem_cons_of_mem _) id
    | true =>
      rw [q] at h'
      cases q2 : chainR (faMask all) (lateR x all) 0 [] with
      | false => rw [q2] at h'; exact (freeS_mem h').imp (List.mem_cons_of_mem _) id
      | true => rw [q2] at h'; injection h' with h'; subst h'; exact ⟨List.mem_cons_self, q⟩
theorem freeR_mem {all : List Rw} {fa : Rw} {l : List Rw} (h : freeR all l = some fa) : fa ∈ l ∧ isAlG fa.o = true := by
  unfold freeR at h
  cases q : chainR (faMask all) all 0 [] with
  | true => rw [q] at h; cases h
  | false => rw [q] at h; exact freeS_mem h
theorem ord_mem {ops : Array Oper} {r : Rw} (h : r ∈ ordOf ops) : WR ops r := by
  have key : ∀ {r : Rw}, r ∈ rws (msks ops.toList []) ops.toList 0 → WR ops r := by
    intro r h
    obtain ⟨j, a, b, c, d⟩ := rws_mem h
    have : r.i = j := by omega
    subst this
    exact ⟨by simpa using b, c, d⟩
  unfold ordOf ordR at h
  split at h
  · rename_i fa hf
    rcases lateR_mem h with rfl | h
    · exact key (freeR_mem hf).1
    · exact key h
  · exact key h
theorem faMask_bit {k : Nat} : ∀ {l : List Rw}, (faMask l).testBit k = true → ∃ r ∈ l, r.i = k ∧ isAlG r.o = true
  | [], h => by simp [faMask] at h
  | x :: l, h => by
    have h' : (bif isAlG x.o then Nat.lor (Nat.pow 2 x.i) (faMask l) else faMask l).testBit k = true := h
    cases q : isAlG x.o with
    | false =>
      rw [q] at h'
      obtain ⟨r, a, b⟩ := faMask_bit (l := l) h'
      exact ⟨r, List.mem_cons_of_mem _ a, b⟩
    | true =>
      rw [q] at h'
      have h2 : (Nat.lor (Nat.pow 2 x.i) (faMask l)).testBit k = true := h'
      rw [lor_bit, pow_bit] at h2
      simp only [Bool.or_eq_true, decide_eq_true_eq] at h2
      rcases h2 with h2 | h2
      · exact ⟨x, List.mem_cons_self, h2, q⟩
      · obtain ⟨r, a, b⟩ := faMask_bit h2
        exact ⟨r, List.mem_cons_of_mem _ a, b⟩
theorem fa_al {ops : Array Oper} {r : Rw} (hw : WR ops r) (h : isFa (faOf ops) r = true) : isAlG r.o = true := by
  unfold isFa at h
  rw [bit_eq] at h
  obtain ⟨r', a, b, c⟩ := faMask_bit h
  obtain ⟨j, a1, b1, c1, d1⟩ := rws_mem a
  have e : r'.i = j := by omega
  have h1 := hw.op
  have b2 : ops[r'.i]? = some r'.o := by rw [e]; simpa using b1
  rw [← b, b2] at h1
  injection h1 with h1
  rw [← h1]; exact c
/-- The order's facts. -/
theorem topo_ok {n : Nat} : ∀ (l : List Rw) (d : Nat) (pre : List Rw), (∀ k, d.testBit k = true ↔ ∃ r ∈ pre, r.i = k) → topoR n l d = true →
    (∀ i, i < n → ∃ r ∈ pre ++ l, r.i = i) ∧ ∀ p r q, l = p ++ r :: q → (∀ k, r.b.testBit k = true → ∃ r' ∈ pre ++ p, r'.i = k) ∧ ∀ r' ∈ pre ++ p, r'.i ≠ r.i
  | [], d, pre, hd, h => by
    have h' : Nat.beq d (Nat.sub (Nat.pow 2 n) 1) = true := h
    have := beq_eq h'
    refine ⟨fun i hi => ?_, fun p r q e => by cases p <;> cases e⟩
    rw [List.append_nil]
    refine (hd i).1 ?_
    rw [this]
    show (2 ^ n - 1).testBit i = true
    rw [Nat.testBit_two_pow_sub_one]; simpa using hi
  | x :: l, d, pre, hd, h => by
    have h' : (bif bit d x.i then false else bif Nat.beq (Nat.land x.b d) x.b then topoR n l (Nat.lor d (Nat.pow 2 x.i)) else false) = true := h
    cases q : bit d x.i with
    | true => rw [q] at h'; cases h'
    | false =>
      rw [q] at h'
      cases q2 : Nat.beq (Nat.land x.b d) x.b with
      | false => rw [q2] at h'; cases h'
      | true =>
        rw [q2] at h'
        have hland := beq_eq q2
        rw [bit_eq] at q
        obtain ⟨a, b⟩ := topo_ok l _ (pre ++ [x]) (fun k => by
          rw [lor_bit, pow_bit]
          simp only [Bool.or_eq_true, decide_eq_true_eq, List.mem_append, List.mem_singleton]
          rw [hd k]
          constructor
          · rintro (⟨r, h1, h2⟩ | h2)
            · exact ⟨r, .inl h1, h2⟩
            · exact ⟨x, .inr rfl, h2⟩
          · rintro ⟨r, h1 | h1, h2⟩
            · exact .inl ⟨r, h1, h2⟩
            · subst h1; exact .inr h2) h'
        refine ⟨fun i hi => by simpa using a i hi, fun p r q' e => ?_⟩
        cases p with
        | nil =>
          injection e with e1 e2
          subst e1
          refine ⟨fun k hk => ?_, fun r' hr' he => ?_⟩
          · rw [List.append_nil]
            refine (hd k).1 ?_
            have := congrArg (·.testBit k) hland
            simp only [land_bit, hk, Bool.true_and] at this
            exact this
          · rw [List.append_nil] at hr'
            have := (hd x.i).2 ⟨r', hr', he⟩
            rw [q] at this; cases this
        | cons y p =>
          injection e with e1 e2
          subst e1
          have := b p r q' e2
          simpa using this
theorem pairs_ok {all : List Oper} {rs l : List Rw} (h : pairsR all rs l = true) : ∀ a ∈ l, ∀ b ∈ rs, pairOk all a b = true := by
  have k1 : ∀ {a : Rw} {m : List Rw}, pairsA all a m = true → ∀ b ∈ m, pairOk all a b = true := by
    intro a m
    induction m with
    | nil => intro _ b hb; cases hb
    | cons x m ih =>
      intro h b hb
      have h' : (bif pairOk all a x then pairsA all a m else false) = true := h
      obtain ⟨h1, h2⟩ := bifand h'
      cases hb with
      | head => exact h1
      | tail _ hb => exact ih h2 b hb
  induction l with
  | nil => intro a ha; cases ha
  | cons x l ih =>
    intro a ha
    have h' : (bif pairsA all x rs then pairsR all rs l else false) = true := h
    obtain ⟨h1, h2⟩ := bifand h'
    cases ha with
    | head => exact k1 h1
    | tail _ ha => exact ih h2 a ha
theorem behind_ok {b : Nat} : ∀ {fs : List (Nat × Nat)}, behindFa fs b = true → ∀ p ∈ fs, b.testBit p.1 = true → ∀ k, p.2.testBit k = true → b.testBit k = true
  | [], _, p, hp => by cases hp
  | x :: fs, h, p, hp => by
    have h' : behindS b x (behindFa fs b) = true := h
    unfold behindS at h'
    intro hb k hk
    cases q : bit b x.1 with
    | true =>
      rw [q] at h'
      obtain ⟨h1, h2⟩ := bifand (show (bif Nat.beq (Nat.land x.2 b) x.2 then behindFa fs b else false) = true from h')
      cases hp with
      | head =>
        have := congrArg (·.testBit k) (beq_eq h1)
        simp only [land_bit, hk, Bool.true_and] at this
        exact this
      | tail _ hp => exact behind_ok h2 p hp hb k hk
    | false =>
      rw [q] at h'
      cases hp with
      | head => rw [bit_eq] at q; rw [q] at hb; cases hb
      | tail _ hp => exact behind_ok (show behindFa fs b = true from h') p hp hb k hk
theorem chain_ok {fa : Nat} : ∀ (l : List Rw) (hm : Nat) (fs : List (Nat × Nat)) (pre : List Rw), (∀ g ∈ pre, g.hv = true → hm.testBit g.i = true) → (∀ f p1 p2, f.hv = true → isFa fa f = true → pre = p1 ++ f :: p2 → ∃ m, (f.i, m) ∈ fs ∧ ∀ g ∈ p1, g.hv = true → m.testBit g.i = true) → chainR fa l hm fs = true →
    ∀ p r q, l = p ++ r :: q → (r.hv = true → isFa fa r = false → ∀ g ∈ pre ++ p, g.hv = true → r.b.testBit g.i = true) ∧
      (∀ f p1 p2, f.hv = true → isFa fa f = true → pre ++ p = p1 ++ f :: p2 → r.b.testBit f.i = true → ∀ g ∈ p1, g.hv = true → r.b.testBit g.i = true)
  | [], hm, fs, pre, hh, hff, h, p, r, q, e => by cases p <;> cases e
  | x :: l, hm, fs, pre, hh, hff, h, p, r, q, e => by
    have h' : (bif behindFa fs x.b then (bif x.hv then bif isFa fa x then chainR fa l (Nat.lor hm (Nat.pow 2 x.i)) ((x.i, hm) :: fs) else bif Nat.beq (Nat.land hm x.b) hm then chainR fa l (Nat.lor hm (Nat.pow 2 x.i)) fs else false else chainR fa l hm fs) else false) = true := h
    obtain ⟨hbh, h2⟩ := bifand h'
    have hmem : ∀ g ∈ pre ++ [x], g.hv = true → (Nat.lor hm (Nat.pow 2 x.i)).testBit g.i = true := by
      intro g hg hv
      rw [lor_bit, pow_bit]
      rcases List.mem_append.1 hg with k | k
      · rw [hh g k hv]; rfl
      · rw [List.mem_singleton.1 k]; simp
    cases p with
    | nil =>
      injection e with e1 e2
      subst e1
      rw [List.append_nil]
      constructor
      · intro hv hnf g hg hgv
        rw [hv, hnf] at h2
        obtain ⟨h3, _⟩ := bifand (show (bif Nat.beq (Nat.land hm x.b) hm then _ else false) = true from h2)
        have := congrArg (·.testBit g.i) (beq_eq h3)
        simp only [land_bit, hh g hg hgv, Bool.true_and] at this
        exact this
      · intro f p1 p2 hfv hfa hpre hb g hg hgv
        obtain ⟨m, hm1, hm2⟩ := hff f p1 p2 hfv hfa hpre
        exact behind_ok hbh _ hm1 hb _ (hm2 g hg hgv)
    | cons y p =>
      injection e with e1 e2
      subst e1
      have app : ∀ (s : List Rw), pre ++ [x] ++ s = pre ++ x :: s := fun s => by simp
      -- where a place is the last of those ahead
      have last : ∀ {f : Rw} {p1 p2 : List Rw}, pre ++ [x] = p1 ++ f :: p2 → (p2 = [] ∧ p1 = pre ∧ f = x) ∨ ∃ p3, p2 = p3 ++ [x] ∧ pre = p1 ++ f :: p3 := by
        intro f p1 p2 he
        rcases List.eq_nil_or_concat p2 with rfl | ⟨p3, z, rfl⟩
        · have := List.append_inj' (s₁ := pre) (s₂ := p1) (t₁ := [x]) (t₂ := [f]) he rfl
          refine .inl ⟨rfl, this.1.symm, ?_⟩
          have := this.2; injection this with t; exact t.symm
        · have he' : pre ++ [x] = (p1 ++ f :: p3) ++ [z] := by rw [he]; simp
          have := List.append_inj' he' rfl
          refine .inr ⟨p3, ?_, this.1⟩
          have t := this.2; injection t with t; rw [t]; simp
      cases hv : x.hv with
      | false =>
        rw [hv] at h2
        have := chain_ok l hm fs (pre ++ [x]) (fun g hg hgv => by
          rcases List.mem_append.1 hg with k | k
          · exact hh g k hgv
          · rw [List.mem_singleton.1 k, hv] at hgv; cases hgv) (fun f p1 p2 hfv hfa hpre => by
          rcases last hpre with ⟨rfl, rfl, rfl⟩ | ⟨p3, rfl, h4⟩
          · rw [hfv] at hv; cases hv
          · exact hff f p1 p3 hfv hfa h4) h2 p r q e2
        rw [app] at this; exact this
      | true =>
        rw [hv] at h2
        cases hfx : isFa fa x with
        | true =>
          rw [hfx] at h2
          have := chain_ok l _ ((x.i, hm) :: fs) (pre ++ [x]) hmem (fun f p1 p2 hfv hfa hpre => by
            rcases last hpre with ⟨rfl, rfl, rfl⟩ | ⟨p3, rfl, h4⟩
            · exact ⟨hm, List.mem_cons_self, hh⟩
            · obtain ⟨m, a, b⟩ := hff f p1 p3 hfv hfa h4
              exact ⟨m, List.mem_cons_of_mem _ a, b⟩) h2 p r q e2
          rw [app] at this; exact this
        | false =>
          rw [hfx] at h2
          obtain ⟨_, h3⟩ := bifand (show (bif Nat.beq (Nat.land hm x.b) hm then chainR fa l (Nat.lor hm (Nat.pow 2 x.i)) fs else false) = true from h2)
          have := chain_ok l _ fs (pre ++ [x]) hmem (fun f p1 p2 hfv hfa hpre => by
            rcases last hpre with ⟨rfl, rfl, rfl⟩ | ⟨p3, rfl, h4⟩
            · rw [hfa] at hfx; cases hfx
            · exact hff f p1 p3 hfv hfa h4) h3 p r q e2
          rw [app] at this; exact this
end Ex
namespace Ex
open Go
variable [Base]
/-- Every order that is drawn is a good one. -/
theorem edge_facts {ops : Array Oper} {l : List Rw} (h : textOk l = true) : ∀ r ∈ l, ∀ e ∈ r.o.after.toList, gcG e.ground = true ∨ e.on < r.i := by
  have k1 : ∀ {i : Nat} {m : List Edge}, edgesOk i m = true → ∀ e ∈ m, gcG e.ground = true ∨ e.on < i := by
    intro i m
    induction m with
    | nil => intro _ e he; cases he
    | cons x m ih =>
      intro h e he
      obtain ⟨h1, h2⟩ := bifand (show (bif edgeOk i x then edgesOk i m else false) = true from h)
      cases he with
      | head =>
        unfold edgeOk at h1
        cases q : gcG x.ground with
        | true => exact .inl rfl
        | false => rw [q] at h1; exact .inr (ble_le (show Nat.ble (x.on + 1) i = true from h1))
      | tail _ he => exact ih h2 e he
  induction l with
  | nil => intro r hr; cases hr
  | cons x l ih =>
    intro r hr
    obtain ⟨h1, h2⟩ := bifand (show (bif edgesOk x.i x.o.after.toList then textOk l else false) = true from h)
    cases hr with
    | head => exact k1 h1
    | tail _ hr => exact ih h2 r hr
theorem range_split {n : Nat} {pre : List Nat} {i : Nat} {post : List Nat} (h : List.range n = pre ++ i :: post) : i < n ∧ ∀ j, j < i → j ∈ pre := by
  have hlen : n = pre.length + (post.length + 1) := by
    have := congrArg List.length h
    simpa using this
  have hi : i = pre.length := by
    have h1 : (List.range n)[pre.length]? = some i := by rw [h]; simp
    rw [List.getElem?_range (by omega)] at h1
    injection h1 with h1; exact h1.symm
  refine ⟨by omega, fun j hj => ?_⟩
  have h1 : (List.range n)[j]? = pre[j]? := by rw [h, List.getElem?_append_left (by omega)]
  rw [List.getElem?_range (by omega)] at h1
  exact List.mem_of_getElem? h1.symm
theorem full_text {ops : Array Oper} {m : Region.Mode} (hm : ∀ e : Edge, gcG e.ground = true → Region.binds m e = false) (h : ∀ (i : Nat) (o : Oper), ops[i]? = some o → ∀ e ∈ o.after.toList, gcG e.ground = true ∨ e.on < i) : Full m ops (List.range ops.size) := by
  refine ⟨fun i hi => List.mem_range.2 hi, fun pre i post e => ?_⟩
  obtain ⟨h1, h2⟩ := range_split e
  refine ⟨ops[i], Array.getElem?_eq_getElem h1, fun e he hb => ?_⟩
  rcases h i _ (Array.getElem?_eq_getElem h1) e he with k | k
  · rw [hm e k] at hb; cases hb
  · exact h2 _ k
theorem gcTopo_ok {ops : Array Oper} {n : Nat} : ∀ (l : List Nat) (d : Nat) (pre : List Nat), (∀ k, d.testBit k = true ↔ k ∈ pre) → gcTopo ops.toList n l d = true →
    (∀ i, i < n → i ∈ pre ++ l) ∧ ∀ p i q, l = p ++ i :: q → ∃ o, ops[i]? = some o ∧ ∀ e ∈ o.after.toList, Region.binds .gc e = true → e.on ∈ pre ++ p
  | [], d, pre, hd, h => by
    have := beq_eq (show Nat.beq d (Nat.sub (Nat.pow 2 n) 1) = true from h)
    refine ⟨fun i hi => ?_, fun p r q e => by cases p <;> cases e⟩
    rw [List.append_nil]
    refine (hd i).1 ?_
    rw [this]
    show (2 ^ n - 1).testBit i = true
    rw [Nat.testBit_two_pow_sub_one]; simpa using hi
  | x :: l, d, pre, hd, h => by
    have h' : (bif bit d x then false else bif gcAt ops.toList d x then gcTopo ops.toList n l (Nat.lor d (Nat.pow 2 x)) else false) = true := h
    cases q : bit d x with
    | true => rw [q] at h'; cases h'
    | false =>
      rw [q] at h'
      obtain ⟨hg, h2⟩ := bifand (show (bif gcAt ops.toList d x then gcTopo ops.toList n l (Nat.lor d (Nat.pow 2 x)) else false) = true from h')
      obtain ⟨a, b⟩ := gcTopo_ok l _ (pre ++ [x]) (fun k => by
        rw [lor_bit, pow_bit]
        simp only [Bool.or_eq_true, decide_eq_true_eq, List.mem_append, List.mem_singleton]
        rw [hd k]
        exact or_congr_right ⟨fun e => e.symm, fun e => e.symm⟩) h2
      refine ⟨fun i hi => by simpa using a i hi, fun p i q' e => ?_⟩
      cases p with
      | nil =>
        injection e with e1 e2
        subst e1
        unfold gcAt at hg
        split at hg
        · rename_i o ho
          refine ⟨o, by simpa using ho, fun e he hb => ?_⟩
          rw [List.append_nil]
          refine (hd _).1 ?_
          have k1 : ∀ {m : List Edge}, gcEdges d m = true → ∀ e ∈ m, txG e.ground = true ∨ bit d e.on = true := by
            intro m
            induction m with
            | nil => intro _ e he; cases he
            | cons y m ih =>
              intro h e he
              have h3 : (bif txG y.ground then gcEdges d m else bif bit d y.on then gcEdges d m else false) = true := h
              cases q1 : txG y.ground with
              | true =>
                rw [q1] at h3
                cases he with
                | head => exact .inl q1
                | tail _ he => exact ih h3 e he
              | false =>
                rw [q1] at h3
                obtain ⟨h4, h5⟩ := bifand (show (bif bit d y.on then gcEdges d m else false) = true from h3)
                cases he with
                | head => exact .inr h4
                | tail _ he => exact ih h5 e he
          rcases k1 hg e he with k | k
          · exfalso
            obtain ⟨on, g⟩ := e
            cases g <;> first | exact absurd (show false = true from k) (by decide) | exact absurd (show false = true from hb) (by decide)
          · rw [← bit_eq]; exact k
        · cases hg
      | cons y p =>
        injection e with e1 e2
        subst e1
        have := b p i q' e2
        simpa using this
theorem sched_good {ops : Array Oper} (h1 : topoR ops.size (ordOf ops) 0 = true) (h2 : textOk (ordOf ops) = true) (h3 : gcOk ops = true) (mixed : Bool) (t : Nat) : Good ops [] (Region.schedule mixed ops t) := by
  have hall : ∀ (i : Nat) (o : Oper), ops[i]? = some o → ∀ e ∈ o.after.toList, gcG e.ground = true ∨ e.on < i := by
    intro i o ho
    have hi : i < ops.size := by
      rcases Nat.lt_or_ge i ops.size with k | k
      · exact k
      · rw [Array.getElem?_eq_none k] at ho; cases ho
    obtain ⟨a, _⟩ := topo_ok (ordOf ops) 0 [] (fun k => by simp) h1
    obtain ⟨r, hr, rfl⟩ := a i hi
    have hw := ord_mem hr
    rw [hw.op] at ho
    injection ho with ho
    subst ho
    exact edge_facts (ops := ops) h2 r hr
  have bany : ∀ e : Edge, gcG e.ground = true → Region.binds .any e = false := by
    rintro ⟨on, g⟩ k; cases g <;> first | rfl | cases k
  have btext : ∀ e : Edge, gcG e.ground = true → Region.binds .text e = false := by
    rintro ⟨on, g⟩ k; cases g <;> first | rfl | cases k
  unfold Region.schedule
  split
  · exact linearise_good (full_text bany hall) t
  · rename_i hd
    split
    · exact linearise_good (full_text btext hall) _
    · have hdep : Region.departs ops = true := by
        simp only [Bool.or_eq_true, not_or, Bool.not_eq_true, Bool.not_eq_true'] at hd
        cases q : Region.departs ops with
        | true => rfl
        | false => exact (hd.2 (by simp [q])).elim
      unfold gcOk at h3
      rw [hdep] at h3
      obtain ⟨a, b⟩ := gcTopo_ok (ops := ops) (Region.linearise .gc ops 0) 0 [] (fun k => by simp) h3
      exact linearise_good (R := Region.linearise .gc ops 0) ⟨fun i hi => by simpa using a i hi, fun pre i post e => by simpa using b pre i post e⟩ _
theorem boolB_eq {a b : Bool} (h : boolB a b = true) : a = b := by cases a <;> cases b <;> first | rfl | cases h
theorem eqL_eq : ∀ {s t : List Nat}, eqL s t = true → s = t
  | [], [], _ => rfl
  | [], _ :: _, h => by cases h
  | a :: s, [], h => by cases h
  | a :: s, b :: t, h => by
    obtain ⟨h1, h2⟩ := bifand (show (bif Nat.beq a b then eqL s t else false) = true from h)
    rw [beq_eq h1, eqL_eq h2]
theorem eqI_to {a b : Int} (h : eqI a b = true) : a = b := by
  unfold eqI at h
  split at h
  · rw [beq_eq h]
  · rw [beq_eq h]
  · cases h
theorem V.beq_eq : ∀ {v u : V}, V.beq v u = true → v = u := by
  intro v
  induction v with
  | bool b => intro u h; cases u <;> first | cases h | (rw [boolB_eq h])
  | int k n =>
    intro u h
    cases u with
    | int k' m => obtain ⟨h1, h2⟩ := bifand (show (bif kindB k k' then eqI n m else false) = true from h); rw [kindB_eq h1, eqI_to h2]
    | _ => cases h
  | str s => intro u h; cases u <;> first | cases h | (rw [eqL_eq h])
  | nilp => intro u h; cases u <;> first | rfl | cases h
  | ptr b o =>
    intro u h
    cases u with
    | ptr c p => obtain ⟨h1, h2⟩ := bifand (show (bif K.beq b c then Nat.beq o p else false) = true from h); rw [K.beq_eq.1 h1, _root_.Ex.beq_eq h2]
    | _ => cases h
  | nils => intro u h; cases u <;> first | rfl | cases h
  | sl b o n c =>
    intro u h
    cases u with
    | sl b' o' n' c' =>
      obtain ⟨h1, h2⟩ := bifand (show (bif K.beq b b' then _ else false) = true from h)
      obtain ⟨h3, h4⟩ := bifand h2
      obtain ⟨h5, h6⟩ := bifand h4
      rw [K.beq_eq.1 h1, _root_.Ex.beq_eq h3, _root_.Ex.beq_eq h5, _root_.Ex.beq_eq h6]
    | _ => cases h
  | slu b o n c =>
    intro u h
    cases u with
    | slu b' o' n' c' =>
      obtain ⟨h1, h2⟩ := bifand (show (bif K.beq b b' then _ else false) = true from h)
      obtain ⟨h3, h4⟩ := bifand h2
      obtain ⟨h5, h6⟩ := bifand h4
      rw [K.beq_eq.1 h1, _root_.Ex.beq_eq h3, _root_.Ex.beq_eq h5, _root_.Ex.beq_eq h6]
    | _ => cases h
  | nilmap => intro u h; cases u <;> first | rfl | cases h
  | map b => intro u h; cases u <;> first | cases h | (rw [K.beq_eq.1 h])
  | nilfn => intro u h; cases u <;> first | rfl | cases h
  | fn f x y hx hy =>
    intro u h
    cases u with
    | fn g a b =>
      obtain ⟨h1, h2⟩ := bifand (show (bif Nat.beq f g then (bif V.beq x a then V.beq y b else false) else false) = true from h)
      obtain ⟨h3, h4⟩ := bifand h2
      rw [_root_.Ex.beq_eq h1, hx h3, hy h4]
    | _ => cases h
  | yld b => intro u h; cases u <;> first | cases h | (rw [K.beq_eq.1 h])
  | sle => intro u h; cases u <;> first | rfl | cases h
  | nili => intro u h; cases u <;> first | rfl | cases h
  | iface t x hx =>
    intro u h
    cases u with
    | iface t' a =>
      obtain ⟨h1, h2⟩ := bifand (show (bif Nat.beq t t' then V.beq x a else false) = true from h)
      rw [_root_.Ex.beq_eq h1, hx h2]
    | _ => cases h
  | agg x hx => intro u h; cases u <;> first | cases h | (rw [hx h])
  | tup x hx => intro u h; cases u <;> first | cases h | (rw [hx h])
  | nil => intro u h; cases u <;> first | rfl | cases h
  | cons x y hx hy =>
    intro u h
    cases u with
    | cons a b =>
      obtain ⟨h1, h2⟩ := bifand (show (bif V.beq x a then V.beq y b else false) = true from h)
      rw [hx h1, hy h2]
    | _ => cases h
end Ex
namespace Ex
open Go
variable [Base] {P : Program}
/-- A heavy operation that comes back. -/
def HvOk (P : Program) (call : Call) (en : En) : Prop := ∃ nx, evOp P en.r.o en.e en.hb = .ok nx ∧ match nx with
  | .val v h' => en.v = v ∧ en.ha = h'
  | .skip h' => en.v = .tup .nil ∧ en.ha = h'
  | .enter f args h1 => ∃ v h' rc, call.c none f args h1 = .ok (.ret v h' rc) ∧ en.v = v ∧ en.ha = h'
  | .round b args h1 => ∃ v h' rc, call.r b args h1 = .ok (.ret v h' rc) ∧ en.v = v ∧ en.ha = h'
  | _ => False
/-- One that doesn't. -/
def PnD (P : Program) (call : Call) (en : En) (v : V) (h' : H) : Prop := ∃ nx, evOp P en.r.o en.e en.hb = .ok nx ∧ match nx with
  | .pan v1 h1 => v1 = v ∧ h1 = h'
  | .enter f args h1 => ∃ rc, call.c none f args h1 = .ok (.pan v h' rc)
  | .round b args h1 => ∃ rc, call.r b args h1 = .ok (.pan v h' rc)
  | _ => False
structure Norm (P : Program) (call : Call) (all : List Oper) (en : En) : Prop where
  want : wantedB all en.e en.r.o.guard = .ok en.y
  no : en.y = false → en.v = .tup .nil ∧ en.ha = en.hb
  light : en.y = true → en.r.hv = false → evL P en.r.o en.e en.hb = .ok en.v ∧ en.ha = en.hb
  heavy : en.y = true → en.r.hv = true → HvOk P call en
def StepE (P : Program) (call : Call) (all : List Oper) (px : Option (Nat × V × H)) (en : En) : Prop :=
  (∃ x v h', px = some (x, v, h') ∧ en.r.b.testBit x = true ∧ en.y = false ∧ en.ha = en.hb) ∨
  (∃ v h', px = some (en.r.i, v, h') ∧ en.r.hv = true ∧ wantedB all en.e en.r.o.guard = .ok true ∧ PnD P call en v h') ∨
  Norm P call all en
def Tr (P : Program) (call : Call) (all : List Oper) (px : Option (Nat × V × H)) : Env → H → List En → Prop
  | _, _, [] => True
  | η, h, en :: es => en.e = η ∧ en.hb = h ∧ (en.r.hv = false → en.ha = en.hb) ∧ StepE P call all px en ∧ Tr P call all px (putD η en.r.o.dst en.v) en.ha es
theorem evL_bit {x : Nat} {r : Rw} (h : bit r.b x = true) : r.b.testBit x = true := by rw [← bit_eq]; exact h
theorem postD_ok {call : Call} {all : List Oper} {x : Nat} {v : V} {h' h : H} : ∀ (l : List Rw) (η : Env) (es : List En), postD P all x h l η = .ok es → Tr P call all (some (x, v, h')) η h es ∧ es.map (·.r) = l ∧ hEnd es h = h
  | [], η, es, e => by rw [← okinj (show O.ok [] = .ok es from e)]; exact ⟨trivial, rfl, rfl⟩
  | r :: l, η, es, e => by
    have e' : (bif bit r.b x then deadS r (postD P all x h l) η h else bif r.hv then .no 152 else (wantedB all η r.o.guard).bnd fun y => postS P all r (postD P all x h l) η h y) = .ok es := e
    cases q : bit r.b x with
    | true =>
      rw [q] at e'
      obtain ⟨es', e1, e2⟩ := bnd_ok (show (postD P all x h l (putD η r.o.dst (.tup .nil))).bnd _ = .ok es from e')
      rw [← okinj e2]
      obtain ⟨a, b, c⟩ := postD_ok l _ es' e1
      exact ⟨⟨rfl, rfl, fun _ => rfl, .inl ⟨x, v, h', rfl, evL_bit q, rfl, rfl⟩, a⟩, by simp [b], c⟩
    | false =>
      rw [q] at e'
      cases hv : r.hv with
      | true => rw [hv] at e'; cases e'
      | false =>
        rw [hv] at e'
        obtain ⟨y, hy, e1⟩ := bnd_ok (show (wantedB all η r.o.guard).bnd _ = .ok es from e')
        unfold postS at e1
        obtain ⟨u, hu, e2⟩ := bnd_ok e1
        obtain ⟨es', e3, e4⟩ := bnd_ok e2
        rw [← okinj e4]
        obtain ⟨a, b, c⟩ := postD_ok l _ es' e3
        refine ⟨⟨rfl, rfl, fun _ => rfl, .inr (.inr ⟨hy, fun hn => ?_, fun hn _ => ?_, fun _ hn => ?_⟩), a⟩, by simp [b], c⟩
        · have hn' : y = false := hn
          rw [hn'] at hu
          exact ⟨(okinj hu).symm, rfl⟩
        · have hn' : y = true := hn
          rw [hn'] at hu
          exact ⟨hu, rfl⟩
        · rw [hv] at hn; cases hn
theorem contD_inv {r : Rw} {η : Env} {y : Bool} {h h' : H} {ih : RunT} {v : V} {p : List En × Option (V × H)} (e : contD r η y h ih v h' = .ok p) : ∃ q, ih (putD η r.o.dst v) h' = .ok q ∧ p = (⟨r, η, y, v, h, h'⟩ :: q.1, q.2) := by
  unfold contD at e
  obtain ⟨q, a, b⟩ := bnd_ok e
  exact ⟨q, a, (okinj b).symm⟩
/-- The run's trace. -/
theorem runD_ok {call : Call} {all : List Oper} : ∀ (l : List Rw) (η : Env) (h : H) (p : List En × Option (V × H)), runD P all call l η h = .ok p →
    p.1.map (·.r) = l ∧ ((p.2 = none ∧ Tr P call all none η h p.1) ∨ ∃ v h' x, p.2 = some (v, h') ∧ x ∈ p.1 ∧ x.r.hv = true ∧ PnD P call x v h' ∧ wantedB all x.e x.r.o.guard = .ok true ∧ Tr P call all (some (x.r.i, v, h')) η h p.1)
  | [], η, h, p, e => by rw [← okinj (show O.ok ([], none) = .ok p from e)]; exact ⟨rfl, .inl ⟨rfl, trivial⟩⟩
  | r :: l, η, h, p, e => by
    obtain ⟨y, hy, e1⟩ := bnd_ok (show (wantedB all η r.o.guard).bnd _ = .ok p from e)
    have cont : ∀ {v : V} {h' : H}, contD r η y h (runD P all call l) v h' = .ok p → Norm P call all ⟨r, η, y, v, h, h'⟩ → (r.hv = false → h' = h) →
        p.1.map (·.r) = r :: l ∧ ((p.2 = none ∧ Tr P call all none η h p.1) ∨ ∃ v h' x, p.2 = some (v, h') ∧ x ∈ p.1 ∧ x.r.hv = true ∧ PnD P call x v h' ∧ wantedB all x.e x.r.o.guard = .ok true ∧ Tr P call all (some (x.r.i, v, h')) η h p.1) := by
      intro v h' k hn hl
      obtain ⟨q, k1, rfl⟩ := contD_inv k
      obtain ⟨a, b⟩ := runD_ok l _ _ q k1
      refine ⟨by simp [a], ?_⟩
      rcases b with ⟨b1, b2⟩ | ⟨v1, h1, x, b1, b2, b3, b4, b6, b5⟩
      · exact .inl ⟨b1, rfl, rfl, hl, .inr (.inr hn), b2⟩
      · exact .inr ⟨v1, h1, x, b1, List.mem_cons_of_mem _ b2, b3, b4, b6, rfl, rfl, hl, .inr (.inr hn), b5⟩
    have pan : ∀ {v : V} {h' : H}, panD P all r η h l v h' = .ok p → r.hv = true → y = true → PnD P call ⟨r, η, true, .tup .nil, h, h⟩ v h' →
        p.1.map (·.r) = r :: l ∧ ((p.2 = none ∧ Tr P call all none η h p.1) ∨ ∃ v h' x, p.2 = some (v, h') ∧ x ∈ p.1 ∧ x.r.hv = true ∧ PnD P call x v h' ∧ wantedB all x.e x.r.o.guard = .ok true ∧ Tr P call all (some (x.r.i, v, h')) η h p.1) := by
      intro v h' k hv hyt hp
      subst hyt
      obtain ⟨es, k1, k2⟩ := bnd_ok (show (postD P all r.i h l (putD η r.o.dst (.tup .nil))).bnd _ = .ok p from k)
      obtain ⟨a, b, c⟩ := postD_ok (call := call) (v := v) (h' := h') l _ es k1
      rw [← okinj k2]
      exact ⟨by simp [b], .inr ⟨v, h', _, rfl, List.mem_cons_self, hv, hp, hy, rfl, rfl, fun q => (by cases hv.symm.trans q), .inr (.inl ⟨v, h', rfl, hv, hy, hp⟩), a⟩⟩
    unfold runS at e1
    cases y with
    | false => exact cont e1 ⟨hy, fun _ => ⟨rfl, rfl⟩, fun q => (by cases q), fun q => (by cases q)⟩ fun _ => rfl
    | true =>
      cases hv : r.hv with
      | false =>
        rw [hv] at e1
        obtain ⟨v, k1, k2⟩ := bnd_ok (show (evL P r.o η h).bnd _ = .ok p from e1)
        exact cont k2 ⟨hy, fun q => (by cases q), fun _ _ => ⟨k1, rfl⟩, fun _ q => (by have q' : r.hv = true := q; rw [hv] at q'; cases q')⟩ fun _ => rfl
      | true =>
        rw [hv] at e1
        obtain ⟨nx, k1, k2⟩ := bnd_ok (show (evOp P r.o η h).bnd _ = .ok p from e1)
        have nl : ∀ {α : Prop}, r.hv = false → α := fun q => by rw [hv] at q; cases q
        unfold heavyD at k2
        cases nx with
        | val v h' => exact cont k2 ⟨hy, fun q => (by cases q), fun _ q => nl q, fun _ _ => ⟨_, k1, rfl, rfl⟩⟩ fun q => nl q
        | skip h' => exact cont k2 ⟨hy, fun q => (by cases q), fun _ q => nl q, fun _ _ => ⟨_, k1, rfl, rfl⟩⟩ fun q => nl q
        | enter f args h1 =>
          obtain ⟨ee, k3, k4⟩ := bnd_ok (show (call.c none f args h1).bnd _ = .ok p from k2)
          unfold callD at k4
          cases ee with
          | ret v h' rc => exact cont k4 ⟨hy, fun q => (by cases q), fun _ q => nl q, fun _ _ => ⟨_, k1, v, h', rc, k3, rfl, rfl⟩⟩ fun q => nl q
          | pan v h' rc => exact pan k4 hv rfl ⟨_, k1, rc, k3⟩
        | round b args h1 =>
          obtain ⟨ee, k3, k4⟩ := bnd_ok (show (call.r b args h1).bnd _ = .ok p from k2)
          unfold callD at k4
          cases ee with
          | ret v h' rc => exact cont k4 ⟨hy, fun q => (by cases q), fun _ q => nl q, fun _ _ => ⟨_, k1, v, h', rc, k3, rfl, rfl⟩⟩ fun q => nl q
          | pan v h' rc => exact pan k4 hv rfl ⟨_, k1, rc, k3⟩
        | pan v h' => exact pan k2 hv rfl ⟨_, k1, rfl, rfl⟩
        | defer f args h' => cases k2
        | recover h' => cases k2
/-- Where a trace stands. -/
theorem hEnd_app : ∀ (a b : List En) (h : H), hEnd (a ++ b) h = hEnd b (hEnd a h)
  | [], b, h => rfl
  | x :: a, b, h => by show hEnd (a ++ b) x.ha = hEnd b (hEnd a x.ha); exact hEnd_app a b _
theorem eEnd_app : ∀ (a b : List En) (η : Env), eEnd (a ++ b) η = eEnd b (eEnd a η)
  | [], b, η => rfl
  | x :: a, b, η => by show eEnd (a ++ b) (putD η x.r.o.dst x.v) = eEnd b (eEnd a (putD η x.r.o.dst x.v)); exact eEnd_app a b _
theorem Tr.at {call : Call} {all : List Oper} {px : Option (Nat × V × H)} : ∀ {pre : List En} {k : En} {post : List En} {η : Env} {h : H}, Tr P call all px η h (pre ++ k :: post) → k.e = eEnd pre η ∧ k.hb = hEnd pre h ∧ (k.r.hv = false → k.ha = k.hb) ∧ StepE P call all px k
  | [], k, post, η, h, t => ⟨t.1, t.2.1, t.2.2.1, t.2.2.2.1⟩
  | x :: pre, k, post, η, h, t => Tr.at (pre := pre) t.2.2.2.2
theorem eEnd_get : ∀ (es : List En) (η : Env) (t : Nat), (∃ k ∈ es, k.r.o.dst = some t ∧ (eEnd es η).get (key t) = some k.v) ∨ ((∀ k ∈ es, k.r.o.dst ≠ some t) ∧ (eEnd es η).get (key t) = η.get (key t))
  | [], η, t => .inr ⟨fun k hk => (by cases hk), rfl⟩
  | x :: es, η, t => by
    rcases eEnd_get es (putD η x.r.o.dst x.v) t with ⟨k, a, b, c⟩ | ⟨a, b⟩
    · exact .inl ⟨k, List.mem_cons_of_mem _ a, b, c⟩
    · by_cases hd : x.r.o.dst = some t
      · refine .inl ⟨x, List.mem_cons_self, hd, ?_⟩
        show (eEnd es (putD η x.r.o.dst x.v)).get (key t) = _
        rw [b, hd]
        show (η.set (key t) x.v).get (key t) = _
        rw [T.get_set, if_pos rfl]
      · refine .inr ⟨fun k hk => ?_, ?_⟩
        · cases hk with
          | head => exact hd
          | tail _ hk => exact a k hk
        · show (eEnd es (putD η x.r.o.dst x.v)).get (key t) = _
          rw [b]
          cases hdd : x.r.o.dst with
          | none => rfl
          | some d =>
            show (η.set (key d) x.v).get (key t) = _
            rw [T.get_set, if_neg (fun q => hd (by rw [hdd, key_inj q]))]
/-- What is read at one time is what is read at another. -/
theorem lvls_ok {hf : H} {k : En} : ∀ (es : List En) (h : H) (own : Bool), (∀ pre x post, es = pre ++ x :: post → x.hb = hEnd pre h ∧ (x.r.hv = false → x.ha = x.hb) ∧ (x.r.i = k.r.i → x.r.hv = false → evL P k.r.o k.e x.hb = .ok k.v)) →
    (own = true → evL P k.r.o k.e h = .ok k.v) → hf = hEnd es h → lvls P k hf es own = true → ∀ pre post, es = pre ++ post → (∀ g ∈ pre, g.r.hv = true → g.r.b.testBit k.r.i = false) → (post = [] ∨ ∃ x q, post = x :: q ∧ x.r.hv = true ∧ k.r.b.testBit x.r.i = false) →
    evL P k.r.o k.e (hEnd pre h) = .ok k.v := by
  have same : ∀ {h : H}, sameAt P k h = true → evL P k.r.o k.e h = .ok k.v := by
    intro h q
    unfold sameAt at q
    split at q
    · rename_i v hv; rw [hv, V.beq_eq q]
    · cases q
  intro es
  induction es with
  | nil =>
    intro h own hx ho hf' hl pre post e hp hq
    have e1 := List.append_eq_nil_iff.1 e.symm
    rw [e1.1]
    have hl' : (bif own then true else sameAt P k hf) = true := hl
    cases own with
    | true => exact ho rfl
    | false => rw [hf'] at hl'; exact same hl'
  | cons x es ih =>
    intro h own hx ho hf' hl pre post e hp hq
    obtain ⟨x1, x2, x3⟩ := hx [] x es rfl
    have x1' : x.hb = h := x1
    have hl' : lvlS P k x (lvls P k hf es) own = true := hl
    unfold lvlS at hl'
    have hx' : ∀ pre y post, es = pre ++ y :: post → y.hb = hEnd pre x.ha ∧ (y.r.hv = false → y.ha = y.hb) ∧ (y.r.i = k.r.i → y.r.hv = false → evL P k.r.o k.e y.hb = .ok k.v) := fun pre y post e => hx (x :: pre) y post (by rw [e]; rfl)
    cases pre with
    | nil =>
      simp only [List.nil_append] at e
      rcases hq with rfl | ⟨y, q, rfl, hy1, hy2⟩
      · cases e
      · injection e with e1 e2
        subst e1
        rw [hy1] at hl'
        obtain ⟨h1, _⟩ := bifand (show (bif (bif own then true else bif bit k.r.b x.r.i then true else sameAt P k x.hb) then _ else false) = true from hl')
        show evL P k.r.o k.e h = _
        cases own with
        | true => exact ho rfl
        | false =>
          have h2 : (bif bit k.r.b x.r.i then true else sameAt P k x.hb) = true := h1
          rw [bit_eq, hy2] at h2
          rw [← x1']
          exact same h2
    | cons z pre =>
      injection e with e1 e2
      subst e1
      show evL P k.r.o k.e (hEnd pre x.ha) = _
      have hp' : ∀ g ∈ pre, g.r.hv = true → g.r.b.testBit k.r.i = false := fun g hg => hp g (List.mem_cons_of_mem _ hg)
      cases hv : x.r.hv with
      | true =>
        rw [hv] at hl'
        obtain ⟨_, h2⟩ := bifand (show (bif (bif own then true else bif bit k.r.b x.r.i then true else sameAt P k x.hb) then (bif bit x.r.b k.r.i then true else lvls P k hf es false) else false) = true from hl')
        rw [bit_eq, hp x List.mem_cons_self hv] at h2
        exact ih x.ha false hx' (fun q => by cases q) hf' h2 pre post e2 hp' hq
      | false =>
        rw [hv] at hl'
        have h2 : lvls P k hf es (bif Nat.beq x.r.i k.r.i then true else own) = true := hl'
        refine ih x.ha _ hx' (fun q => ?_) hf' h2 pre post e2 hp' hq
        rw [x2 hv, x1']
        cases hb : Nat.beq x.r.i k.r.i with
        | true => rw [← x1']; exact x3 (beq_eq hb) hv
        | false => rw [hb] at q; exact ho q
theorem lvlA_ok {hf : H} {all l : List En} (h : lvlA P hf all l = true) : ∀ k ∈ l, k.r.hv = false → k.y = true → lvls P k hf all false = true := by
  induction l with
  | nil => intro k hk; cases hk
  | cons x l ih =>
    intro k hk hv hy
    obtain ⟨h1, h2⟩ := bifand (show (bif lvlK P hf all x then lvlA P hf all l else false) = true from h)
    cases hk with
    | head =>
      unfold lvlK at h1
      rw [hv, hy] at h1
      exact h1
    | tail _ hk => exact ih h2 k hk hv hy
end Ex
namespace Ex
open Go Go.MapKept
variable [Base] {P : Program}
/-- The registers that are read. -/
noncomputable def ures (l : List Nat) (η : Env) : Env := List.rec (motive := fun _ => Env) .e (fun t _ ih => match η.get (key t) with | some v => ih.set (key t) v | none => ih) l
theorem ures_get {η : Env} (t : Nat) : ∀ (l : List Nat), (ures l η).get (key t) = if t ∈ l then η.get (key t) else none
  | [] => by
    rw [if_neg (by simp)]
    show (T.e : Env).get (key t) = none
    cases key t <;> rfl
  | u :: l => by
    have ih := ures_get (η := η) t l
    have hr : ures (u :: l) η = match η.get (key u) with | some v => (ures l η).set (key u) v | none => ures l η := rfl
    rw [hr]
    cases hu : η.get (key u) with
    | some v =>
      show ((ures l η).set (key u) v).get (key t) = _
      rw [T.get_set]
      by_cases e : key t = key u
      · have := key_inj e; subst this
        rw [if_pos rfl, if_pos List.mem_cons_self, hu]
      · rw [if_neg e, ih]
        have hne : t ≠ u := fun q => e (by rw [q])
        simp [hne]
    | none =>
      show (ures l η).get (key t) = _
      rw [ih]
      by_cases e : t = u
      · subst e; rw [hu]; simp
      · simp [e]
theorem tmpsU_mem {t : Nat} : ∀ {l : List Operand}, .tmp t ∈ l → t ∈ tmpsU l
  | [], h => by cases h
  | x :: l, h => by
    show t ∈ tmpU x (tmpsU l)
    cases h with
    | head => exact List.mem_cons_self
    | tail _ h =>
      have := tmpsU_mem h
      cases x <;> first | exact this | exact List.mem_cons_of_mem _ this
theorem uses_op {all : List Oper} {r : Rw} {t : Nat} (h : .tmp t ∈ r.o.op.operands.toList) : t ∈ usesR all r := by
  unfold usesR guardU
  have := tmpsU_mem h
  split
  · exact this
  · split
    · exact List.mem_cons_of_mem _ this
    · exact this
theorem uses_guard {all : List Oper} {r : Rw} {j : Nat} {want : Bool} {d : Nat} (h : r.o.guard = some (j, want)) (hd : (all[j]?).bind (·.dst) = some d) : d ∈ usesR all r := by
  unfold usesR guardU
  rw [h]
  simp only [hd]
  exact List.mem_cons_self
theorem ures_op {all : List Oper} {r : Rw} {η : Env} {h : H} : evOp P r.o (ures (usesR all r) η) h = evOp P r.o η h :=
  evOp_congr fun x hx => by
    cases x with
    | tmp t => show O.of 3 ((ures _ η).get (key t)) = O.of 3 (η.get (key t)); rw [ures_get, if_pos (uses_op hx)]
    | _ => rfl
theorem ures_want {all : List Oper} {r : Rw} {η : Env} : wantedB all (ures (usesR all r) η) r.o.guard = wantedB all η r.o.guard := by
  unfold wantedB
  split
  · rfl
  · rename_i j want hg
    split
    · rename_i d hd
      rw [ures_get, if_pos (uses_guard hg hd)]
    · rfl
theorem hasN_mem {t : Nat} : ∀ {l : List Nat}, t ∈ l → hasN t l = true
  | [], h => by cases h
  | u :: l, h => by
    show (bif Nat.beq t u then true else hasN t l) = true
    cases q : Nat.beq t u with
    | true => rfl
    | false =>
      cases h with
      | head => simp at q
      | tail _ h => exact hasN_mem h
theorem pair_dst {all : List Oper} {a b : Rw} (h : pairOk all a b = true) (hne : a.i ≠ b.i) {t : Nat} (ha : a.o.dst = some t) : b.o.dst ≠ some t ∧ (t ∈ usesR all b → a.b.testBit b.i = true ∨ b.b.testBit a.i = true) := by
  unfold pairOk at h
  have h1 : Nat.beq a.i b.i = false := by
    cases q : Nat.beq a.i b.i with
    | true => exact (hne (beq_eq q)).elim
    | false => rfl
  rw [h1] at h
  have h2 : (bif sameD a b then false else bif dstIn a (usesR all b) then (bif bit a.b b.i then true else bit b.b a.i) else true) = true := h
  cases q : sameD a b with
  | true => rw [q] at h2; cases h2
  | false =>
    rw [q] at h2
    constructor
    · intro hb
      unfold sameD at q
      rw [ha, hb] at q
      simp at q
    · intro ht
      have hd : dstIn a (usesR all b) = true := by unfold dstIn; rw [ha]; exact hasN_mem ht
      rw [hd] at h2
      have h3 : (bif bit a.b b.i then true else bit b.b a.i) = true := h2
      rw [bit_eq, bit_eq] at h3
      cases q2 : a.b.testBit b.i with
      | true => exact .inl rfl
      | false => rw [q2] at h3; exact .inr h3
/-- What is known of a region's trace. -/
structure Fx (P : Program) (call : Call) (ops : Array Oper) (η0 : Env) (h0 : H) (px : Option (Nat × V × H)) (es : List En) : Prop where
  tr : Tr P call ops.toList px η0 h0 es
  all : ∀ i, i < ops.size → ∃ k ∈ es, k.r.i = i
  topo : ∀ p k s, es = p ++ k :: s → (∀ j, k.r.b.testBit j = true → ∃ y ∈ p, y.r.i = j) ∧ ∀ y ∈ p, y.r.i ≠ k.r.i
  pair : ∀ a ∈ es, ∀ b ∈ es, pairOk ops.toList a.r b.r = true
  chain : ∀ p k s, es = p ++ k :: s → (k.r.hv = true → isFa (faOf ops) k.r = false → ∀ g ∈ p, g.r.hv = true → k.r.b.testBit g.r.i = true) ∧
    (∀ f p1 p2, isFa (faOf ops) f.r = true → p = p1 ++ f :: p2 → k.r.b.testBit f.r.i = true → ∀ g ∈ p1, g.r.hv = true → k.r.b.testBit g.r.i = true)
  wr : ∀ k ∈ es, WR ops k.r
  fa : ∀ k ∈ es, isFa (faOf ops) k.r = true → isAlG k.r.o = true
  lv : ∀ k ∈ es, k.r.hv = false → k.y = true → lvls P k (hEnd es h0) es false = true
section
variable {call : Call} {ops : Array Oper} {η0 : Env} {h0 : H} {px : Option (Nat × V × H)} {es : List En}
theorem Fx.uniq (F : Fx P call ops η0 h0 px es) {a b : En} (ha : a ∈ es) (hb : b ∈ es) (h : a.r.i = b.r.i) : a = b := by
  obtain ⟨p, s, rfl⟩ := List.append_of_mem ha
  rcases List.mem_append.1 hb with k | k
  · exact ((F.topo p a s rfl).2 b k h.symm).elim
  · cases k with
    | head => rfl
    | tail _ k =>
      obtain ⟨s1, s2, rfl⟩ := List.append_of_mem k
      exact ((F.topo (p ++ a :: s1) b s2 (by simp)).2 a (by simp) h).elim
theorem Fx.before (F : Fx P call ops η0 h0 px es) {p : List En} {k : En} {s : List En} (e : es = p ++ k :: s) {b : En} (hb : b ∈ es) (h : k.r.b.testBit b.r.i = true) : b ∈ p := by
  obtain ⟨y, hy, he⟩ := (F.topo p k s e).1 _ h
  have := F.uniq (a := y) (by rw [e]; exact List.mem_append_left _ hy) hb he
  rwa [← this]
theorem Fx.notafter (F : Fx P call ops η0 h0 px es) {p : List En} {k : En} {s : List En} (e : es = p ++ k :: s) {b : En} (hb : b ∈ s) : b ≠ k ∧ b ∉ p := by
  obtain ⟨s1, s2, rfl⟩ := List.append_of_mem hb
  have := (F.topo (p ++ k :: s1) b s2 (by rw [e]; simp)).2
  exact ⟨fun q => this k (by simp) (by rw [q]), fun q => this b (by simp [q]) rfl⟩
/-- A pending place. -/
def PendE (P : Program) (ops : Array Oper) (ρ : Rho) (h : H) (w0 w : World) (a : Act) (bk : Nat → Nat) (f : En) : Prop := isFa (faOf ops) f.r = true ∧ ∃ (x : Value) (ob : Ob) (mk : K → V), f.v = mk f.hb.next ∧ f.ha = f.hb.new ob ∧ OR P ρ ⟨bk f.r.i, 0, 0⟩ w ob ∧ (∀ b o m, h.get b = some o → ρ b = some m → m.blk ≠ bk f.r.i) ∧ w0.heap.size ≤ bk f.r.i ∧ bk f.r.i < w.heap.size ∧
  (∀ t, f.r.o.dst = some t → a.tmps[t]? = some x) ∧ ∀ (σ : Rho) (b : K), σ b = some ⟨bk f.r.i, 0, 0⟩ → DV σ (mk b) x
/-- How a region stands. -/
structure Inv (P : Program) (ops : Array Oper) (N : Nat) (ds : V) (η0 : Env) (h0 : H) (px : Option (Nat × V × H)) (es : List En) (ρ0 : Rho) (w0 : World) (bk : Nat → Nat) (D : List Nat) (ρ : Rho) (a : Act) (w : World) (pre post : List En) : Prop where
  split : es = pre ++ post
  dn : Dn ops D
  hr : HR P ρ (hEnd pre h0) w
  st : St ρ0 h0 w0 ρ (hEnd pre h0) w
  df : DSs ρ ds a.defers
  sz : N ≤ a.tmps.size
  done : ∀ g ∈ pre, g.r.hv = true → g.r.i ∈ D
  ea : ∀ k ∈ es, k.r.i ∈ D → (k.r.hv = true → k ∈ pre) → ∀ t, k.r.o.dst = some t → ∃ x, a.tmps[t]? = some x ∧ DV ρ k.v x
  eb : ∀ t v, (∀ k ∈ es, k.r.i ∈ D → k.r.o.dst ≠ some t) → η0.get (key t) = some v → ∃ x, a.tmps[t]? = some x ∧ DV ρ v x
  pn : ∀ f ∈ post, f.r.hv = true → f.r.i ∈ D → PendE P ops ρ (hEnd pre h0) w0 w a bk f
  pd : ∀ f ∈ post, ∀ g ∈ post, f.r.hv = true → g.r.hv = true → f.r.i ∈ D → g.r.i ∈ D → f.r.i ≠ g.r.i → bk f.r.i ≠ bk g.r.i
  px' : ∀ x v h', px = some (x, v, h') → x ∉ D
  bs : Base.w.heap.size ≤ w0.heap.size
variable {N : Nat} {ds : V} {ρ0 : Rho} {w0 : World} {bk : Nat → Nat}
def HeadOk (D : List Nat) (post : List En) : Prop := post = [] ∨ ∃ x q, post = x :: q ∧ x.r.hv = true ∧ x.r.i ∉ D
/-- What lies ready gets its name, up to the next one that isn't done. -/
theorem advance (F : Fx P call ops η0 h0 px es) {D : List Nat} {a : Act} {w : World} : ∀ (post pre : List En) (ρ : Rho), Inv P ops N ds η0 h0 px es ρ0 w0 bk D ρ a w pre post → ∃ ρ' pre' post', Inv P ops N ds η0 h0 px es ρ0 w0 bk D ρ' a w pre' post' ∧ HeadOk D post' ∧ Rho.le ρ ρ'
  | [], pre, ρ, I => ⟨ρ, pre, [], I, .inl rfl, Rho.le_refl _⟩
  | x :: q, pre, ρ, I => by
    obtain ⟨t1, t2, t3, t4⟩ := Tr.at (P := P) (call := call) (all := ops.toList) (px := px) (pre := pre) (k := x) (post := q) (η := η0) (h := h0) (by rw [← I.split]; exact F.tr)
    have hend : hEnd (pre ++ [x]) h0 = x.ha := by rw [hEnd_app]; rfl
    have hs : es = (pre ++ [x]) ++ q := by rw [I.split]; simp
    have hxe : x ∈ es := by rw [I.split]; simp
    cases hv : x.r.hv with
    | false =>
      have hsame : hEnd (pre ++ [x]) h0 = hEnd pre h0 := by rw [hend, t3 hv, t2]
      have inpre : ∀ k : En, k.r.hv = true → k ∈ pre ++ [x] → k ∈ pre := by
        intro k hk hm
        rcases List.mem_append.1 hm with m | m
        · exact m
        · rw [List.mem_singleton.1 m, hv] at hk; cases hk
      exact advance F q (pre ++ [x]) ρ ⟨hs, I.dn, by rw [hsame]; exact I.hr, by rw [hsame]; exact I.st, I.df, I.sz, fun g hg hgv => I.done g (inpre g hgv hg) hgv,
        fun k hk hkd hkv => I.ea k hk hkd fun q => inpre k q (hkv q), I.eb, fun f hf => by rw [hsame]; exact I.pn f (List.mem_cons_of_mem _ hf), fun f hf g hg => I.pd f (List.mem_cons_of_mem _ hf) g (List.mem_cons_of_mem _ hg), I.px', I.bs⟩
    | true =>
      by_cases hxd : x.r.i ∈ D
      · obtain ⟨hfa, y, ob, mk, e1, e2, hor0, hno, hb1, hb2, hd, hmk⟩ := I.pn x List.mem_cons_self hv hxd
        have hB := I.bs
        have hnx : ρ (hEnd pre h0).next = none := I.hr.fresh _ (Nat.le_refl _)
        have hle := Rho.put_le (l := ⟨bk x.r.i, 0, 0⟩) hnx
        have hha : hEnd (pre ++ [x]) h0 = (hEnd pre h0).new ob := by rw [hend, e2, t2]
        have hor := hor0.mono hle
        obtain ⟨ρ', pre', post', k1, k2, k3⟩ := advance F q (pre ++ [x]) (ρ.put (hEnd pre h0).next ⟨bk x.r.i, 0, 0⟩) ⟨hs, I.dn, by rw [hha]; exact I.hr.adopt _ ⟨bk x.r.i, 0, 0⟩ hb2 (Nat.le_trans hB hb1) hno hor, by rw [hha]; exact I.st.adopt I.hr _ ⟨bk x.r.i, 0, 0⟩ hb1, I.df.mono hle, I.sz,
          fun g hg hgv => by
            rcases List.mem_append.1 hg with m | m
            · exact I.done g m hgv
            · rw [List.mem_singleton.1 m]; exact hxd,
          fun k hk hkd hkv t ht => by
            by_cases hkx : k = x
            · subst hkx
              refine ⟨y, hd t ht, ?_⟩
              rw [e1, t2]
              exact hmk _ _ (Rho.put_same _ _ _)
            · obtain ⟨z, z1, z2⟩ := I.ea k hk hkd (fun qv => by
                rcases List.mem_append.1 (hkv qv) with m | m
                · exact m
                · exact (hkx (List.mem_singleton.1 m)).elim) t ht
              exact ⟨z, z1, z2.mono hle⟩,
          fun t v h1 h2 => let ⟨z, z1, z2⟩ := I.eb t v h1 h2; ⟨z, z1, z2.mono hle⟩,
          fun f hf hfv hfd => by
            obtain ⟨gfa, z, ob', mk', g1, g2, g3, g4, g5, g6, g7, g8⟩ := I.pn f (List.mem_cons_of_mem _ hf) hfv hfd
            have hfx : x.r.i ≠ f.r.i := fun qe => (F.notafter (p := pre) (k := x) (s := q) I.split hf).1 (F.uniq (by rw [I.split]; simp [hf]) hxe qe.symm)
            have hbk := I.pd x List.mem_cons_self f (List.mem_cons_of_mem _ hf) hv hfv hxd hfd hfx
            refine ⟨gfa, z, ob', mk', g1, g2, g3.mono hle, fun b o m hgo hm => ?_, g5, g6, g7, g8⟩
            rw [hha, H.get_new] at hgo
            unfold Rho.put at hm
            by_cases qb : b = (hEnd pre h0).next
            · rw [if_pos qb] at hm; injection hm with hm; subst hm; exact hbk
            · rw [if_neg qb] at hgo hm; exact g4 b o m hgo hm,
          fun f hf g hg => I.pd f (List.mem_cons_of_mem _ hf) g (List.mem_cons_of_mem _ hg),
          I.px', I.bs⟩
        exact ⟨ρ', pre', post', k1, k2, Rho.le_trans hle k3⟩
      · exact ⟨ρ, pre, x :: q, I, .inr ⟨x, q, rfl, hv, hxd⟩, Rho.le_refl _⟩
end
end Ex
