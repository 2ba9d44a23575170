import Derived.Test.YtfkfccpjfagamaaGreatDoorYa
import Derived.Laws.StructEq
import Derived.Stop.Asserts
import Derived.Laws.BytesString
import Derived.MapKept
set_option linter.all false
namespace Ex
open Go
variable [Base] {P : Program} {ρ : Rho} {h : H} {w : World} {η : Env} {a : Act} {nx : Nx}
/-- An operand that may be missing. -/
def DO (ρ : Rho) : Option V → Option Value → Prop
  | none, none => True
  | some v, some x => DV ρ v x
  | _, _ => False
theorem opdO_ok (he : ER ρ η a) (hg : Gl ρ) {o : Option Operand} {v : Option V} (e : opdO η o = .ok v) : DO ρ v (o.map a.eval) := by
  cases o with
  | none => rw [← okinj (show O.ok none = .ok v from e)]; trivial
  | some z =>
    obtain ⟨u, e1, e2⟩ := bnd_ok (show (opd η z).bnd _ = .ok v from e)
    rw [← okinj e2]
    exact opd_ok he hg e1
theorem bnds_ok {lo hi : Option V} {lx hx : Option Value} {len most : Nat} {p : Nat × Nat} (h1 : DO ρ lo lx) (h2 : DO ρ hi hx) (e : bnds lo hi len most = .ok p) (b : Bool) (cap : Nat) (hm : most ≤ cap) :
    (Instr.sliceBounds b len cap lx hx none).run P w = .ok (p.1, p.2, cap) w ∧ p.1 ≤ p.2 ∧ p.2 ≤ most := by
  unfold bnds at e
  split at e
  · rename_i x y hx' hy'
    obtain ⟨c1, e⟩ := bifok e
    obtain ⟨c2, e⟩ := bifok e
    rw [← okinj e]
    have c1 := ble_le c1
    have c2 := ble_le c2
    refine ⟨?_, c1, c2⟩
    have hhi : (match (generalizing := false) hx with | some v => Instr.sliceBound v cap (if b then .sliceAcap else .sliceAlen) | none => (pure len : Sem Nat)).run P w = .ok y w := by
      cases hi with
      | none =>
        cases hx with
        | none => injection hy' with hy'; subst hy'; rfl
        | some v => exact h2.elim
      | some v =>
        cases hx with
        | none => exact h2.elim
        | some xv =>
          obtain ⟨k, rfl⟩ := natI_ok h2 hy'
          simp [Instr.sliceBound, asIntOf]; omega
    have hlo : (match (generalizing := false) lx with | some v => Instr.sliceBound v y .sliceB | none => (pure 0 : Sem Nat)).run P w = .ok x w := by
      cases lo with
      | none =>
        cases lx with
        | none => injection hx' with hx'; subst hx'; rfl
        | some v => exact h1.elim
      | some v =>
        cases lx with
        | none => exact h1.elim
        | some xv =>
          obtain ⟨k, rfl⟩ := natI_ok h1 hx'
          simp [Instr.sliceBound, asIntOf]; omega
    cases hx <;> cases lx <;> simp_all [Instr.sliceBounds]
  · cases e
theorem takeL_eq : ∀ (n : Nat) (l : List Nat), takeL n l = l.take n
  | 0, l => by simp; rfl
  | n+1, [] => rfl
  | n+1, x :: r => by show x :: takeL n r = _; rw [takeL_eq n r]; rfl
theorem dropL_eq : ∀ (n : Nat) (l : List Nat), dropL n l = l.drop n
  | 0, l => rfl
  | _+1, [] => rfl
  | n+1, x :: r => by show dropL n r = _; rw [dropL_eq n r]; rfl
theorem lenL_eq : ∀ l : List Nat, lenL l = l.length
  | [] => rfl
  | x :: r => by show lenL r + 1 = _; rw [lenL_eq r]; rfl
theorem bs_extract (s : List Nat) (i j : Nat) : (bs s).extract i j = bs ((s.drop i).take (j - i)) := by
  have : ((bs s).extract i j).data.toList = (bs ((s.drop i).take (j - i))).data.toList := by
    rw [ByteArray.data_extract, Array.toList_extract, bs_toList, bs_toList, List.extract_eq_take_drop, List.map_take, List.map_drop]
  exact congrArg ByteArray.mk (Array.ext' this)
theorem op_slice (he : ER ρ η a) (hg : Gl ρ) (r : HR P ρ h w) {o : Oper} {t : Nat} {x : Operand} {lo hi mx : Option Operand} (ho : o.op = .slice t x lo hi mx) (e : opSlice P η h t x lo hi mx = .ok nx) : OpOk P ρ h w (execOp a.eval o) nx := by
  unfold opSlice at e
  obtain ⟨v, e1, e2⟩ := bnd_ok e
  obtain ⟨va, e3, e4⟩ := bnd_ok e2
  obtain ⟨vb, e5, e6⟩ := bnd_ok e4
  have hx := opd_ok he hg e1
  have hlo := opdO_ok he hg e3
  have hhi := opdO_ok he hg e5
  cases mx with
  | some m => cases e6
  | none =>
  obtain ⟨u, e7, rfl⟩ := oval_ok (show oval h _ = .ok nx from e6)
  generalize hq : a.eval x = xv at hx
  unfold sliceV at e7
  split at e7
  · rename_i s hu
    cases hx
    obtain ⟨p, e8, e9⟩ := bnd_ok e7
    rw [← okinj e9]
    obtain ⟨b1, b2, b3⟩ := bnds_ok (P := P) (w := w) hlo hhi e8 false (lenL s) (Nat.le_refl _)
    refine OpOk.same r (x := .string _) ?_ (.str _)
    rw [lenL_eq] at b1
    simp [execOp, ho, hq, Instr.sliceAt, run_u hu, Instr.slice, bs_size, b1, takeL_eq, dropL_eq, bs_extract]
  · rename_i el bk i len cap hu
    cases hx with
    | sl i len cap hl =>
    obtain ⟨c1, e7⟩ := bifok e7
    obtain ⟨p, e8, e9⟩ := bnd_ok e7
    rw [← okinj e9]
    obtain ⟨b1, b2, b3⟩ := bnds_ok (P := P) (w := w) hlo hhi e8 true cap (Nat.le_refl _)
    obtain ⟨inf, hi, _⟩ := cells_info (P := P) (t := el) (by have := ble_le c1; omega)
    refine OpOk.same r ?_ (.sl _ _ _ hl)
    by_cases hc : p.1 = cap
    · have hb : Nat.beq p.1 cap = true := beq_tt hc
      simp [execOp, ho, hq, Instr.sliceAt, run_u hu, Instr.slice, b1, size_info hi, hb, hc]
    · have hb : Nat.beq p.1 cap = false := beq_ff hc
      have hc' : ¬ cap = p.1 := fun q => hc q.symm
      simp [execOp, ho, hq, Instr.sliceAt, run_u hu, Instr.slice, b1, size_info hi, hb, hc', Addr.add_mid, Nat.add_assoc]
  · rename_i el bk i len d hu
    cases hx with
    | @slu bk l i len d hl hd =>
    obtain ⟨c1, e7⟩ := bifok e7
    obtain ⟨p, e8, e9⟩ := bnd_ok e7
    obtain ⟨b1, b2, b3⟩ := bnds_ok (P := P) (w := w) hlo hhi e8 true (l.cap - d) (by omega)
    obtain ⟨inf, hi, _⟩ := cells_info (P := P) (t := el) (by have := ble_le c1; omega)
    cases c2 : Nat.blt p.1 len with
    | false =>
      rw [c2] at e9
      rw [← okinj (show O.ok V.sle = .ok u from e9)]
      have hge : ¬ p.1 < len := fun q => by
        have : Nat.blt p.1 len = true := Nat.ble_eq ▸ (show p.1 + 1 ≤ len from q)
        rw [this] at c2; cases c2
      have p1 : p.2 - p.1 = 0 := by omega
      by_cases hc : l.cap - d = p.1
      · exact OpOk.same r (x := .slice (some ⟨l.blk, l.off + i, none⟩) 0 (l.cap - d - p.1)) (by rw [hc] at b1; simp [execOp, ho, hq, Instr.sliceAt, run_u hu, Instr.slice, b1, size_info hi, hc, p1]) (.sle _ _)
      · have hc2 : ¬ p.1 = l.cap - d := fun q => hc q.symm
        exact OpOk.same r (x := .slice (some ((⟨l.blk, l.off + i, none⟩ : Addr).add (p.1 * P.cellsOf el))) 0 (l.cap - d - p.1)) (by simp [hc2, execOp, ho, hq, Instr.sliceAt, run_u hu, Instr.slice, b1, size_info hi, hc, p1]) (.sle _ _)
    | true =>
    rw [c2] at e9
    rw [← okinj (show O.ok (V.slu bk (i + p.1 * P.cellsOf el) (p.2 - p.1) (d + p.1)) = .ok u from e9)]
    have hlt := blt_lt c2
    have := DV.slu (ρ := ρ) (i + p.1 * P.cellsOf el) (p.2 - p.1) (d + p.1) hl (by omega)
    refine OpOk.same r ?_ this
    have hc' : ¬ (l.cap - d = p.1) := by omega
    simp [execOp, ho, hq, Instr.sliceAt, run_u hu, Instr.slice, b1, size_info hi, hc', Addr.add_mid, Nat.add_assoc, Nat.sub_sub]
  · rename_i el hu
    cases hx with
    | nils =>
    obtain ⟨c1, e7⟩ := bifok e7
    obtain ⟨p, e8, e9⟩ := bnd_ok e7
    rw [← okinj e9]
    obtain ⟨b1, b2, b3⟩ := bnds_ok (P := P) (w := w) hlo hhi e8 true 0 (Nat.le_refl _)
    obtain ⟨inf, hi, _⟩ := cells_info (P := P) (t := el) (by have := ble_le c1; omega)
    refine OpOk.same r ?_ .nils
    have p1 : p.1 = 0 := by omega
    have p2 : p.2 = 0 := by omega
    rw [p1, p2] at b1
    simp [execOp, ho, hq, Instr.sliceAt, run_u hu, Instr.slice, b1, size_info hi]
  · rename_i n el bk i hu
    cases hx with
    | ptr i hl =>
    obtain ⟨c1, e7⟩ := bifok e7
    obtain ⟨p, e8, e9⟩ := bnd_ok e7
    rw [← okinj e9]
    obtain ⟨b1, b2, b3⟩ := bnds_ok (P := P) (w := w) hlo hhi e8 false n (Nat.le_refl _)
    obtain ⟨inf, hi, _⟩ := cells_info (P := P) (t := el) (by have := ble_le c1; omega)
    refine OpOk.same r ?_ (.sl _ _ _ hl)
    by_cases hc : p.1 = n
    · have hb : Nat.beq p.1 n = true := beq_tt hc
      simp [execOp, ho, hq, Instr.sliceAt, run_u hu, Instr.sureAddr, b1, size_info hi, hb, hc]
    · have hb : Nat.beq p.1 n = false := beq_ff hc
      have hc' : ¬ n = p.1 := fun q => hc q.symm
      simp [execOp, ho, hq, Instr.sliceAt, run_u hu, Instr.sureAddr, b1, size_info hi, hb, hc', Addr.add_mid, Nat.add_assoc]
  · cases e7
end Ex
namespace Ex
open Go
variable [Base] {P : Program} {ρ : Rho} {h : H} {w : World} {η : Env} {a : Act} {nx : Nx}
theorem wrapI_eq (k : IntKind) (n : Int) : wrapI k n = k.wrap n := by
  unfold wrapI
  split
  · rename_i m
    cases e : Nat.ble m 9223372036854775807 with
    | false => rfl
    | true =>
      have := ble_le e
      simp [IntKind.wrap, IntKind.bits, IntKind.signed]
      omega
  · rfl
theorem nbeq_dec (m n : Nat) : Nat.beq m n = decide (m = n) := by
  by_cases e : m = n
  · rw [decide_eq_true e, beq_tt e]
  · rw [decide_eq_false e, beq_ff e]
theorem eqI_eq (a b : Int) : eqI a b = (a == b) := by
  have : (a == b) = decide (a = b) := rfl
  rw [this]
  cases a <;> cases b <;> simp only [eqI, nbeq_dec]
  · simp; omega
  · symm; simp
  · symm; simp
  · simp
theorem lt_dec (x y : Int) : decide (x < y) = !decide (y ≤ x) := by
  by_cases q : y ≤ x
  · simp [q]
  · simp [q]; omega
theorem ble_dec (m n : Nat) : Nat.ble m n = decide (m ≤ n) := by
  by_cases e : m ≤ n
  · rw [decide_eq_true e]; exact Nat.ble_eq_true_of_le e
  · rw [decide_eq_false e]
    cases q : Nat.ble m n with
    | false => rfl
    | true => exact absurd (ble_le q) e
theorem leI_eq (a b : Int) : leI a b = decide (a ≤ b) := by
  cases a <;> cases b <;> simp only [leI, ble_dec]
  · simp
  · symm; simp; omega
  · symm; simp; omega
  · simp; omega
theorem kindB_eq {a b : IntKind} (h : kindB a b = true) : a = b := by
  unfold kindB at h
  have := beq_eq h
  cases a <;> cases b <;> first | rfl | (simp [kindN] at this)
theorem kind_ne {a b : IntKind} (h : kindB a b = false) : a ≠ b := fun e => by subst e; unfold kindB at h; rw [beq_tt rfl] at h; cases h
theorem guard_quiet {op : BinOp} {t : TypeId} {x y : Operand} {u v : Value} (hq : (op ≠ .eql ∧ op ≠ .neq) ∨ (∀ xs ys, u = .agg xs → v = .agg ys → False) ∧ (u = .nilIface → v = .nilIface → False)) : (eqGuard op t x y u v).run P w = .ok () w := by
  rcases hq with ⟨h1, h2⟩ | ⟨h1, h2⟩
  · cases op <;> first | rfl | exact absurd rfl h1 | exact absurd rfl h2
  · cases op <;> first
      | rfl
      | (unfold eqGuard
         simp only [Bool.not_true, Bool.false_eq_true, if_false]
         first
           | rfl
           | (split
              · exact (h2 rfl rfl).elim
              · exact (h1 _ _ rfl rfl).elim
              · rfl))
theorem binI_ok {op : BinOp} {t : Nat} {k k' : IntKind} {x y : Int} {v : V} (e : binI op k x k' y = .ok v) : ∃ z, (binOp op t (.int k x) (.int k' y)).run P w = .ok z w ∧ DV ρ v z := by
  unfold binI at e
  split at e
  · cases e
  · split at e
    · rename_i m
      rw [← okinj e]
      refine ⟨_, ?_, .int _ _⟩
      simp [binOp, Op.shift]
      omega
    · cases e
  · rename_i h1 h2
    obtain ⟨hk, e2⟩ := bifok e
    clear e
    have hk := kindB_eq hk
    subst hk
    rename_i e0
    have e := e2
    clear e2
    unfold binI2 at e
    split at e
    all_goals first
      | (cases e; done)
      | (obtain ⟨hz, e⟩ := bifno e
         rw [eqI_eq] at hz
         rw [← okinj e]
         refine ⟨_, ?_, .int _ _⟩
         simp at hz
         simp [binOp, Op.intDiv, hz]
         done)
      | (rw [← okinj e]
         refine ⟨_, ?_, .int _ _⟩
         simp [binOp, Op.intArith, Op.intBits, wrapI_eq]
         done)
      | (rw [← okinj e]
         refine ⟨_, ?_, .bool _⟩
         simp [binOp, Op.intCmp, eqI_eq, leI_eq, bne]
         done)
      | (rw [← okinj e]
         refine ⟨_, ?_, .bool _⟩
         simp only [binOp, leI_eq]
         rw [← lt_dec]
         simp [Op.intCmp])
-- strings
theorem bsL (s : List Nat) : (bs s).toList = s.map UInt8.ofNat := by
  rw [ByteArray.toList_eq, bs_toList]
theorem byte_eq (a b : Nat) : (UInt8.ofNat a = UInt8.ofNat b) ↔ a % 256 = b % 256 := by
  constructor
  · intro e
    have := congrArg UInt8.toNat e
    simpa using this
  · intro e
    apply UInt8.toNat_inj.1
    simpa using e
theorem byte_lt (a b : Nat) : (UInt8.ofNat a < UInt8.ofNat b) ↔ a % 256 < b % 256 := by
  rw [UInt8.lt_iff_toNat_lt]; simp
theorem beqL_eq : ∀ (s t : List Nat), beqL s t = ((bs s).toList == (bs t).toList)
  | [], [] => by simp [bsL]; rfl
  | [], _ :: _ => by simp [bsL]; rfl
  | _ :: _, [] => by simp [bsL]; rfl
  | a :: r, b :: q => by
    have ih := beqL_eq r q
    rw [bsL, bsL] at *
    show (bif Nat.beq (Nat.mod a 256) (Nat.mod b 256) then beqL r q else false) = _
    rw [ih, nbeq_dec]
    have := byte_eq a b
    by_cases e : a % 256 = b % 256
    · have e2 := this.2 e
      have e' : Nat.mod a 256 = Nat.mod b 256 := e
      simp [e', e2]
    · have e2 := fun q => e (this.1 q)
      have e' : ¬ Nat.mod a 256 = Nat.mod b 256 := e
      simp [e']
      exact fun q => (e2 q).elim
theorem ltL_eq : ∀ (s t : List Nat), ltL s t = Op.bytesLess (bs s).toList (bs t).toList
  | [], [] => by simp [bsL]; rfl
  | [], _ :: _ => by simp [bsL]; rfl
  | _ :: _, [] => by simp [bsL]; rfl
  | a :: r, b :: q => by
    have ih := ltL_eq r q
    rw [bsL, bsL] at *
    show (bif Nat.blt (Nat.mod a 256) (Nat.mod b 256) then true else bif Nat.beq (Nat.mod a 256) (Nat.mod b 256) then ltL r q else false) = _
    have h1 := byte_lt a b
    have h2 := byte_eq a b
    have hb : Nat.blt (Nat.mod a 256) (Nat.mod b 256) = decide (a % 256 < b % 256) := ble_dec _ _
    rw [ih, nbeq_dec, hb]
    simp only [List.map_cons, Op.bytesLess]
    by_cases e : a % 256 < b % 256
    · simp [e, h1.2 e]
    · have e1 := fun q => e (h1.1 q)
      by_cases e2 : a % 256 = b % 256
      · have e' : Nat.mod a 256 = Nat.mod b 256 := e2
        simp [e, e1, e', h2.2 e2]
      · have e' : ¬ Nat.mod a 256 = Nat.mod b 256 := e2
        have e3 := fun q => e2 (h2.1 q)
        have e4 : decide (UInt8.ofNat a < UInt8.ofNat b) = false := decide_eq_false e1
        have e5 : (UInt8.ofNat a == UInt8.ofNat b) = false := by simpa using e3
        rw [e4, e5]
        simp [e, e']
theorem appL_eq : ∀ (s t : List Nat), appL s t = s ++ t
  | [], t => rfl
  | a :: r, t => by show a :: appL r t = _; rw [appL_eq r t]; rfl
theorem bs_app (s t : List Nat) : bs s ++ bs t = bs (s ++ t) := by
  have : (bs s ++ bs t).data.toList = (bs (s ++ t)).data.toList := by
    rw [ByteArray.data_append, Array.toList_append, bs_toList, bs_toList, bs_toList, List.map_append]
  exact congrArg ByteArray.mk (Array.ext' this)
theorem binS_ok {op : BinOp} {t : Nat} {x y : List Nat} {v : V} (e : binS op x y = .ok v) : ∃ z, (binOp op t (.string (bs x)) (.string (bs y))).run P w = .ok z w ∧ DV ρ v z := by
  unfold binS at e
  split at e
  all_goals first
    | (cases e; done)
    | (obtain ⟨hz, e2⟩ := bifok e
       rw [← okinj e2]
       have := ble_le hz
       rw [lenL_eq, lenL_eq] at this
       refine ⟨_, ?_, .str _⟩
       rw [appL_eq]
       have h2 : ¬ (((bs x).size + (bs y).size : Nat) : Int) > IntKind.i64.max := by
         rw [bs_size, bs_size]; simp [IntKind.max, IntKind.bits, IntKind.signed]; omega
       simp only [binOp, Op.stringOp, if_neg h2, bs_app]
       rfl)
    | (rw [← okinj e]
       refine ⟨_, ?_, .bool _⟩
       simp only [binOp, Op.stringOp, ← beqL_eq, ← ltL_eq]
       rfl)
end Ex
namespace Ex
open Go
variable [Base] {P : Program} {ρ : Rho} {h : H} {w : World} {η : Env} {a : Act} {nx : Nx}
theorem fieldsOf_eq {t : Nat} {fs : Array Field} (hu : P.underlying t = some (.struct fs)) : P.fieldsOf t = fs := by
  unfold Program.fieldsOf; rw [hu]
theorem eqF_ok {d : Nat} {eq : Nat → V → V → O Bool} (hq : ∀ t x y b xv yv, eq t x y = .ok b → DV ρ x xv → DV ρ y yv → (Op.equalIn d t xv yv).run P w = .ok b w) :
    ∀ (fs : List Field) {x y : V} {xs ys : List Value} {b : Bool}, DV ρ x (LV xs) → DV ρ y (LV ys) → (∀ u ∈ x.toL, u.one = true) → (∀ u ∈ y.toL, u.one = true) → eqF P eq fs x y = .ok b → (Op.eqFields d xs.toArray ys.toArray fs).run P w = .ok b w
  | [], x, y, xs, ys, b, _, _, _, _, e => by rw [← okinj (show O.ok true = .ok b from e)]; rfl
  | f :: fs, x, y, xs, ys, b, hx, hy, ox, oy, e => by
    have e' : eqFS P eq f (eqF P eq fs) x y = .ok b := e
    unfold eqFS at e'
    unfold Op.eqFields
    cases hn : (f.name == "_") with
    | true =>
      rw [hn] at e'
      rw [if_neg (by simpa using hn)]
      exact eqF_ok hq fs hx hy ox oy e'
    | false =>
      rw [hn] at e'
      rw [if_pos (by simpa using hn)]
      obtain ⟨u, e1, e2⟩ := bnd_ok (show O.bnd _ _ = .ok b from e')
      obtain ⟨v, e3, e4⟩ := bnd_ok e2
      obtain ⟨q, e5, e6⟩ := bnd_ok e4
      obtain ⟨uv, k1, k2⟩ := part_ok (w := w) hx ox e1
      obtain ⟨vv, k3, k4⟩ := part_ok (w := w) hy oy e3
      have k5 := hq _ _ _ _ _ _ e5 k2 k4
      cases q with
      | true =>
        have := eqF_ok hq fs hx hy ox oy (show eqF P eq fs x y = .ok b from e6)
        simp [k1, k3, k5, this]
      | false =>
        rw [← okinj (show O.ok false = .ok b from e6)]
        simp [k1, k3, k5]
theorem unfrozen_ok (r : HR P ρ h w) {b : K} {l : Loc} (hl : ρ b = some l) (e : unfrozen h b = true) : ∃ cs ty, w.heap[l.blk]? = some (.cells cs ty (0, 0)) ∧ ∃ o, h.get b = some o := by
  unfold unfrozen at e
  split at e
  · rename_i ro fz c n ty hg
    cases fz with
    | true => cases e
    | false =>
    obtain ⟨m, hm, hor⟩ := r.ob _ _ hg
    rw [hl] at hm; injection hm with hm; subst hm
    obtain ⟨cs, fr, hh, _, _, hf, _⟩ := hor
    have := hf.1 rfl; subst this
    exact ⟨cs, ty, hh, _, hg⟩
  · cases e
theorem same_far {l m : Loc} {o q : Nat} {cs ds : Array Value} {t u : TypeId} (h1 : w.heap[l.blk]? = some (.cells cs t (0, 0))) (h2 : w.heap[m.blk]? = some (.cells ds u (0, 0))) (hne : l.blk ≠ m.blk) :
    (sameAddr ⟨l.blk, l.off + o, none⟩ ⟨m.blk, m.off + q, none⟩).run P w = .ok false w := by
  have f1 : ∀ i, w.frozen? ⟨l.blk, i, none⟩ = false := fun i => frozen_of h1
  have f2 : ∀ i, w.frozen? ⟨m.blk, i, none⟩ = false := fun i => frozen_of h2
  have s1 : w.shape? l.blk = some (t, cs.size) := by simp [World.shape?, h1]
  have s2 : w.shape? m.blk = some (u, ds.size) := by simp [World.shape?, h2]
  simp [sameAddr, hne, f1, f2, noView, viewAt, s1, s2, mayBeOne, stringish]
set_option maxHeartbeats 2000000 in
theorem eqV_ok (r : HR P ρ h w) : ∀ (d : Nat) {t : Nat} {x y : V} {b : Bool} {xv yv : Value} (D : Nat), d ≤ D → eqV P h d t x y = .ok b → DV ρ x xv → DV ρ y yv → (Op.equalIn D t xv yv).run P w = .ok b w
  | 0, t, x, y, b, xv, yv, D, _, e, _, _ => by cases e
  | d+1, t, x, y, b, xv, yv, 0, hD, e, _, _ => by omega
  | d+1, t, x, y, b, xv, yv, D+1, hD, e, hx, hy => by
    have e' : eqS P h (eqV P h d) t x y = .ok b := e
    unfold eqS at e'
    split at e'
    · cases e'
    · rename_i u hu
      split at e'
      · cases hx; cases hy; rw [← okinj e']; simp [Op.equalIn, run_u hu]
      · cases hx; cases hy
        obtain ⟨hk, e2⟩ := bifok e'
        have hk := kindB_eq hk; subst hk
        rw [← okinj e2]; simp [Op.equalIn, run_u hu, eqI_eq]
      · cases hx; cases hy; rw [← okinj e']
        rw [beqL_eq, ← beq_toListBytes]; simp [Op.equalIn, run_u hu]
      · cases hx; cases hy; rw [← okinj e']; simp [Op.equalIn, run_u hu]
      · cases hx; cases hy; rw [← okinj e']; simp [Op.equalIn, run_u hu]
      · cases hx; cases hy; rw [← okinj e']; simp [Op.equalIn, run_u hu]
      · rename_i el b1 o1 b2 o2
        cases hx with
        | @ptr _ l _ hl =>
        cases hy with
        | @ptr _ m _ hm =>
        obtain ⟨hz, e2⟩ := bifno e'
        have hne : P.cellsOf el ≠ 0 := fun q => by rw [beq_tt q] at hz; cases hz
        obtain ⟨inf, hi, _⟩ := cells_info hne
        cases hk : K.beq b1 b2 with
        | true =>
          have := K.beq_eq.1 hk
          subst this
          rw [hl] at hm; injection hm with hm; subst hm
          rw [hk] at e2
          rw [← okinj (show O.ok (Nat.beq o1 o2) = .ok b from e2), nbeq_dec]
          have : ((⟨l.blk, l.off + o1, none⟩ : Addr) == ⟨l.blk, l.off + o2, none⟩) = decide (o1 = o2) := by
            show decide _ = _
            simp
          simp [Op.equalIn, run_u hu, size_info hi, hne, sameAddr, this]
        | false =>
          rw [hk] at e2
          obtain ⟨h1, e3⟩ := bifok (show (bif farOk h b1 b2 o1 o2 then O.ok false else .no 17) = .ok b from e2)
          rw [← okinj e3]
          unfold farOk at h1
          have hu1 : unfrozen h b1 = true := by cases z : unfrozen h b1 with | true => rfl | false => rw [z] at h1; cases h1
          have hu2 : unfrozen h b2 = true := by cases z : unfrozen h b2 with | true => rfl | false => rw [hu1, z] at h1; cases h1
          rw [hu1, hu2] at h1
          obtain ⟨cs, ty, q1, ob1, g1⟩ := unfrozen_ok r hl hu1
          obtain ⟨ds, ty2, q2, ob2, g2⟩ := unfrozen_ok r hm hu2
          by_cases hnb : l.blk = m.blk
          · rcases r.inj _ _ _ _ _ _ g1 g2 hl hm hnb with z | ⟨z1, z2, z3⟩
            · exact (K.beq_ne hk z).elim
            · have roz : ∀ {b : K} {ob : Ob}, unfrozen h b = true → h.get b = some ob → ob.rw = false → roAt h b = true := by
                intro b ob hu hg hz
                unfold roAt
                rw [hg]
                cases ob with
                | cells ro fz c n t => cases ro with | true => rfl | false => cases hz
                | map es c => cases hz
                | iter s p => cases hz
                | loop _ _ _ _ _ _ => cases hz
                | dfr => cases hz
              rw [roz hu1 g1 z1, roz hu2 g2 z2] at h1
              have h2 : (bif Nat.beq o1 0 then Nat.beq o2 0 else false) = true := h1
              cases k1 : Nat.beq o1 0 with
              | false => rw [k1] at h2; cases h2
              | true =>
                rw [k1] at h2
                have k3 := beq_eq k1
                have k4 := beq_eq (show Nat.beq o2 0 = true from h2)
                subst k3; subst k4
                have : ((⟨l.blk, l.off + 0, none⟩ : Addr) == ⟨m.blk, m.off + 0, none⟩) = false := by
                  show decide _ = _
                  simp [z3]
                simp [Op.equalIn, run_u hu, size_info hi, hne, sameAddr, hnb, z3]
          · have := same_far (P := P) (o := o1) (q := o2) q1 q2 hnb
            simp [Op.equalIn, run_u hu, size_info hi, hne, this]
      · cases hx; cases hy; rw [← okinj e']; simp [Op.equalIn, run_u hu]
      · cases hx; cases hy; rw [← okinj e']; simp [Op.equalIn, run_u hu]
      · cases hx; cases hy; rw [← okinj e']; simp [Op.equalIn, run_u hu]
      · rename_i ms tx vx ty vy
        cases hx with
        | iface _ hvx =>
        cases hy with
        | iface _ hvy =>
        cases hk : Nat.beq tx ty with
        | true =>
          have := beq_eq hk; subst this
          rw [hk] at e'
          cases hinf : P.info? tx with
          | none => rw [hinf] at e'; cases e'
          | some inf =>
            rw [hinf] at e'
            obtain ⟨hc, e2⟩ := bifok (show (bif inf.comparable then eqV P h d tx vx vy else .no 18) = .ok b from e')
            have := eqV_ok r d D (by omega) e2 hvx hvy
            simp [Op.equalIn, run_u hu, typeInfo, hinf, hc, this]
        | false =>
          rw [hk] at e'
          rw [← okinj (show O.ok false = .ok b from e')]
          have hne : ¬ tx = ty := fun q => by rw [beq_tt q] at hk; cases hk
          simp [Op.equalIn, run_u hu, hne]
      · rename_i fields xs ys
        cases hx with
        | agg hx ox =>
        cases hy with
        | agg hy oy =>
        obtain ⟨hs, e2⟩ := bifno e'
        rw [run_equalIn_struct w D t _ _ (by rw [fieldsOf_eq hu]; exact hu) hs, fieldsOf_eq hu]
        exact eqF_ok (fun t x y b xv yv q1 q2 q3 => eqV_ok r d D (by omega) q1 q2 q3) _ hx hy ox oy e2
      · cases hx; cases hy; rw [← okinj e']; simp only [Op.equalIn, Sem.run_bind, run_u hu, Result.andThen_ok]; rfl
      · cases hx; cases hy; rw [← okinj e']; simp only [Op.equalIn, Sem.run_bind, run_u hu, Result.andThen_ok]; rfl
      · cases hx; cases hy; rw [← okinj e']; simp only [Op.equalIn, Sem.run_bind, run_u hu, Result.andThen_ok]; rfl
      · cases hx; cases hy; rw [← okinj e']; simp only [Op.equalIn, Sem.run_bind, run_u hu, Result.andThen_ok]; rfl
      · cases hx; cases hy; rw [← okinj e']; simp only [Op.equalIn, Sem.run_bind, run_u hu, Result.andThen_ok]; rfl
      · cases hx; cases hy; rw [← okinj e']; simp only [Op.equalIn, Sem.run_bind, run_u hu, Result.andThen_ok]; rfl
      · cases hx; cases hy; rw [← okinj e']; simp only [Op.equalIn, Sem.run_bind, run_u hu, Result.andThen_ok]; rfl
      · cases hx; cases hy; rw [← okinj e']; simp only [Op.equalIn, Sem.run_bind, run_u hu, Result.andThen_ok]; rfl
      · cases hx; cases hy; rw [← okinj e']; simp only [Op.equalIn, Sem.run_bind, run_u hu, Result.andThen_ok]; rfl
      · cases hx; cases hy; rw [← okinj e']; simp only [Op.equalIn, Sem.run_bind, run_u hu, Result.andThen_ok]; rfl
      · cases hx; cases hy; rw [← okinj e']; simp only [Op.equalIn, Sem.run_bind, run_u hu, Result.andThen_ok]; rfl
      · cases hx; cases hy; rw [← okinj e']; simp only [Op.equalIn, Sem.run_bind, run_u hu, Result.andThen_ok]; rfl
      · cases hx; cases hy; rw [← okinj e']; simp only [Op.equalIn, Sem.run_bind, run_u hu, Result.andThen_ok]; rfl
      · exact absurd e' (by intro q; cases q)
theorem isC_ok {x : Operand} (h : isC x = true) : (x matches .const _) = true := by cases x <;> first | rfl | cases h
theorem eqG_ok {op : BinOp} {t : Nat} {ox oy : Operand} {x y : V} {xv yv : Value} (hx : DV ρ x xv) (hy : DV ρ y yv) (e : eqG P t ox oy x y = true) : (eqGuard op t ox oy xv yv).run P w = .ok () w := by
  unfold eqG at e
  split at e
  · cases hx; cases hy
    cases op <;> first | rfl | skip
    all_goals
      unfold eqGuard
      simp only [Bool.or_eq_true] at e
      rcases e with e | e
      · cases ox <;> first | (cases e; done) | rfl
      · cases oy <;> first | (cases e; done) | (cases ox <;> rfl)
  · cases hx; cases hy
    simp only [Bool.not_eq_true'] at e
    exact run_eqGuard_agg (w := w) op t ox oy _ _ e
  · rename_i h1 h2
    refine guard_quiet (.inr ⟨fun xs ys q1 q2 => ?_, fun q1 q2 => ?_⟩)
    · subst q1; subst q2; cases hx; cases hy; exact h2 _ _ rfl rfl
    · subst q1; subst q2; cases hx; cases hy; exact h1 rfl rfl
theorem binE_eql {t : Nat} {x y : V} {xv yv : Value} (hx : DV ρ x xv) (hy : DV ρ y yv) (px : plainN x = true) (py : plainN y = true) :
    binOp .eql t xv yv = (do pure (.bool (← Op.equal t xv yv))) := by
  cases hx <;> first | (cases px; done) | (cases hy <;> first | (cases py; done) | rfl)
theorem binE_neq {t : Nat} {x y : V} {xv yv : Value} (hx : DV ρ x xv) (hy : DV ρ y yv) (px : plainN x = true) (py : plainN y = true) :
    binOp .neq t xv yv = (do pure (.bool (!(← Op.equal t xv yv)))) := by
  cases hx <;> first | (cases px; done) | (cases hy <;> first | (cases py; done) | rfl)
theorem op_binOp (he : ER ρ η a) (hg : Gl ρ) (r : HR P ρ h w) {o : Oper} {op : BinOp} {t yt : Nat} {x y : Operand} (ho : o.op = .binOp op t x y yt) (e : opBinop P η h op t x y = .ok nx) : OpOk P ρ h w (execOp a.eval o) nx := by
  unfold opBinop at e
  obtain ⟨u, e1, e2⟩ := bnd_ok e
  obtain ⟨v, e3, e4⟩ := bnd_ok e2
  obtain ⟨z, e5, rfl⟩ := oval_ok e4
  have hx := opd_ok he hg e1
  have hy := opd_ok he hg e3
  generalize hq : a.eval x = xv at hx
  generalize hq2 : a.eval y = yv at hy
  unfold binV at e5
  split at e5
  · cases hx; cases hy
    obtain ⟨q, k1, k2⟩ := binI_ok (P := P) (ρ := ρ) (w := w) (t := t) e5
    exact OpOk.same r (by simp [execOp, ho, hq, hq2, guard_quiet (P := P) (w := w) (op := op) (t := t) (x := x) (y := y) (u := .int _ _) (v := .int _ _) (.inr ⟨by simp, by simp⟩), k1]) k2
  · cases hx; cases hy
    obtain ⟨q, k1, k2⟩ := binS_ok (P := P) (ρ := ρ) (w := w) (t := t) e5
    exact OpOk.same r (by simp [execOp, ho, hq, hq2, guard_quiet (P := P) (w := w) (op := op) (t := t) (x := x) (y := y) (u := .string _) (v := .string _) (.inr ⟨by simp, by simp⟩), k1]) k2
  · obtain ⟨px, e6⟩ := bifok e5
    obtain ⟨py, e7⟩ := bifok e6
    unfold binE at e7
    obtain ⟨pg, e8⟩ := bifok e7
    have hG := eqG_ok (P := P) (w := w) (op := op) hx hy pg
    split at e8
    · obtain ⟨b, e9, e10⟩ := bnd_ok e8
      rw [← okinj e10]
      have := eqV_ok r 50 Op.maxDepth (by decide) e9 hx hy
      refine OpOk.same r (x := .bool b) ?_ (.bool _)
      have hb := binE_eql (t := t) hx hy px py
      simp [execOp, ho, hq, hq2, hG, hb, Op.equal, this]
    · obtain ⟨b, e9, e10⟩ := bnd_ok e8
      rw [← okinj e10]
      have := eqV_ok r 50 Op.maxDepth (by decide) e9 hx hy
      refine OpOk.same r (x := .bool (!b)) ?_ (.bool _)
      have hb := binE_neq (t := t) hx hy px py
      simp [execOp, ho, hq, hq2, hG, hb, Op.equal, this]
    · cases e8
end Ex
namespace Ex
open Go
variable [Base] {P : Program} {ρ : Rho} {h : H} {w : World} {η : Env} {a : Act} {nx : Nx}
theorem HR.del (r : HR P ρ h w) (b : K) : HR P ρ (h.del b) w := by
  refine ⟨fun c o e => ?_, fun c d o q l m e1 e2 => ?_, r.fresh, fun c o l e => ?_, ⟨r.old.size, r.old.kept, fun k hw => (by
    obtain ⟨d, x, m, e, e2, e3, e4⟩ := hw
    rw [H.get_del] at e
    by_cases k' : d = b
    · rw [if_pos k'] at e; cases e
    · rw [if_neg k'] at e; exact r.old.wr k ⟨d, x, m, e, e2, e3, e4⟩)⟩⟩
  · rw [H.get_del] at e
    by_cases k : c = b
    · rw [if_pos k] at e; cases e
    · rw [if_neg k] at e; exact r.ob c o e
  · rw [H.get_del] at e1 e2
    by_cases k : c = b
    · rw [if_pos k] at e1; cases e1
    · by_cases k2 : d = b
      · rw [if_pos k2] at e2; cases e2
      · rw [if_neg k] at e1; rw [if_neg k2] at e2; exact r.inj c d o q l m e1 e2
  · rw [H.get_del] at e
    by_cases k : c = b
    · rw [if_pos k] at e; cases e
    · rw [if_neg k] at e; exact r.lt c o l e
theorem St.del (b : K) : St ρ h w ρ (h.del b) w := by
  refine ⟨Rho.le_refl _, rfl, rfl, rfl, Nat.le_refl _, fun _ _ _ => rfl, fun k hw => ?_, Nat.le_refl _, fun d x m e a => by
    rw [H.get_del] at e
    by_cases k : d = b
    · rw [if_pos k] at e; cases e
    · rw [if_neg k] at e; exact .inl ⟨d, x, m, e, a, rfl⟩⟩
  obtain ⟨c, o, l, e, e2, e3, e4⟩ := hw
  rw [H.get_del] at e
  by_cases k : c = b
  · rw [if_pos k] at e; cases e
  · rw [if_neg k] at e; exact .inl ⟨c, o, l, e, e2, e3, e4⟩
/-- A block goes on under another name. -/
theorem HR.reuse (r : HR P ρ h w) {w' : World} {b : K} {q : Ob} {l : Loc} (hg : h.get b = some q) (hl : ρ b = some l) (hq : q.rw = true) (o : Ob) (l' : Loc) (hb : l'.blk = l.blk) (hs : w'.heap.size = w.heap.size) (hk : ∀ k, k ≠ l.blk → w'.heap[k]? = w.heap[k]?)
    (ho : OR P (ρ.put h.next l') l' w' o) : HR P (ρ.put h.next l') ((h.del b).new o) w' := by
  have hn : ρ h.next = none := r.fresh _ (Nat.le_refl _)
  have hle := Rho.put_le (l := l') hn
  have hbn : b ≠ h.next := fun e => by subst e; rw [hn] at hl; cases hl
  have hget : ∀ c x, ((h.del b).new o).get c = some x → (c = h.next ∧ x = o) ∨ (c ≠ h.next ∧ c ≠ b ∧ h.get c = some x) := by
    intro c x e
    rw [H.get_new] at e
    by_cases k : c = h.next
    · rw [if_pos (show c = (h.del b).next from k)] at e; injection e with e; exact .inl ⟨k, e.symm⟩
    · rw [if_neg (show ¬ c = (h.del b).next from k), H.get_del] at e
      by_cases k2 : c = b
      · rw [if_pos k2] at e; cases e
      · rw [if_neg k2] at e; exact .inr ⟨k, k2, e⟩
  have hput : ∀ c m, (ρ.put h.next l') c = some m → (c = h.next ∧ m = l') ∨ (c ≠ h.next ∧ ρ c = some m) := by
    intro c m e
    unfold Rho.put at e
    by_cases k : c = h.next
    · rw [if_pos k] at e; injection e with e; exact .inl ⟨k, e.symm⟩
    · rw [if_neg k] at e; exact .inr ⟨k, e⟩
  have hbase := r.old.wr l.blk ⟨b, q, l, hg, hq, hl, rfl⟩
  refine ⟨fun c x e => ?_, fun c d o1 o2 l1 l2 e1 e2 a1 a2 eq => ?_, fun c hc => ?_, fun c o1 l1 e a => ?_, ⟨by rw [hs]; exact r.old.size, fun k hk' => by rw [hk k (by omega)]; exact r.old.kept k hk', fun k hw => by
    obtain ⟨d, x, m, e, e2, e3, e4⟩ := hw
    rcases hget d x e with ⟨rfl, rfl⟩ | ⟨k1, k2, e'⟩
    · rcases hput _ _ e3 with ⟨_, rfl⟩ | ⟨x1, _⟩
      · omega
      · exact absurd rfl x1
    · rcases hput _ _ e3 with ⟨x1, _⟩ | ⟨_, a'⟩
      · exact absurd x1 k1
      · exact r.old.wr k ⟨d, x, m, e', e2, a', e4⟩⟩⟩
  · rcases hget c x e with ⟨rfl, rfl⟩ | ⟨k1, k2, e'⟩
    · exact ⟨l', Rho.put_same _ _ _, ho⟩
    · obtain ⟨m, am, x'⟩ := r.ob c x e'
      exact ⟨m, hle _ _ am, (x'.heap (hk _ (fun q' => k2 ((r.inj c b x q m l e' hg am hl q').resolve_right fun z => z.n2 hq)))).mono hle⟩
  · rcases hget c o1 e1 with ⟨rfl, rfl⟩ | ⟨k1, k2, e1'⟩ <;> rcases hget d o2 e2 with ⟨rfl, rfl⟩ | ⟨k3, k4, e2'⟩
    · exact .inl rfl
    · rcases hput _ _ a1 with ⟨_, rfl⟩ | ⟨x1, _⟩
      · rcases hput _ _ a2 with ⟨x2, _⟩ | ⟨_, a2'⟩
        · exact absurd x2 k3
        · exact absurd ((r.inj d b o2 q l2 l e2' hg a2' hl (by omega)).resolve_right fun z => z.n2 hq) k4
      · exact absurd rfl x1
    · rcases hput _ _ a2 with ⟨_, rfl⟩ | ⟨x1, _⟩
      · rcases hput _ _ a1 with ⟨x2, _⟩ | ⟨_, a1'⟩
        · exact absurd x2 k1
        · exact absurd ((r.inj c b o1 q l1 l e1' hg a1' hl (by omega)).resolve_right fun z => z.n2 hq) k2
      · exact absurd rfl x1
    · rcases hput _ _ a1 with ⟨x1, _⟩ | ⟨_, a1'⟩
      · exact absurd x1 k1
      · rcases hput _ _ a2 with ⟨x2, _⟩ | ⟨_, a2'⟩
        · exact absurd x2 k3
        · exact r.inj c d o1 o2 l1 l2 e1' e2' a1' a2' eq
  · have : ((h.del b).new o).next.num = h.next.num + 1 := K.succ_num _
    unfold Rho.put
    rw [if_neg (fun e => by subst e; omega)]
    exact r.fresh c (by omega)
  · rcases hput _ _ a with ⟨_, rfl⟩ | ⟨x1, a'⟩
    · rw [hs, hb]; exact r.lt b q l hg hl
    · rcases hget c o1 e with ⟨x2, _⟩ | ⟨_, _, e'⟩
      · exact absurd x2 x1
      · rw [hs]; exact r.lt c o1 l1 e' a'
theorem St.reuse (r : HR P ρ h w) {w' : World} {b : K} {q : Ob} {l : Loc} (hg : h.get b = some q) (hl : ρ b = some l) (hq : q.rw = true) (o : Ob) (l' : Loc) (hb : l'.blk = l.blk) (hs : w'.heap.size = w.heap.size) (hk : ∀ k, k ≠ l.blk → w'.heap[k]? = w.heap[k]?)
    (a : w'.os = w.os) (b' : w'.tape = w.tape) (c : w'.output = w.output) : St ρ h w (ρ.put h.next l') ((h.del b).new o) w' := by
  have hn : ρ h.next = none := r.fresh _ (Nat.le_refl _)
  refine ⟨Rho.put_le hn, a, b', c, by omega, fun k _ hw => hk k (fun e => hw ⟨b, q, l, hg, hq, hl, e.symm⟩), fun k hw => ?_, ?_, fun d x m e0 e => by
    rw [H.get_new] at e0
    unfold Rho.put at e
    by_cases q' : d = h.next
    · rw [if_pos q'] at e; injection e with e; subst e; exact .inl ⟨b, q, l, hg, hl, hb.symm⟩
    · rw [if_neg q'] at e
      rw [if_neg (show ¬ d = (h.del b).next from q'), H.get_del] at e0
      by_cases k2 : d = b
      · rw [if_pos k2] at e0; cases e0
      · rw [if_neg k2] at e0; exact .inl ⟨d, x, m, e0, e, rfl⟩⟩
  · obtain ⟨d, x, m, e, e2, e3, e4⟩ := hw
    rw [H.get_new] at e
    unfold Rho.put at e3
    by_cases k' : d = h.next
    · rw [if_pos k'] at e3; injection e3 with e3; subst e3; exact .inl ⟨b, q, l, hg, hq, hl, by omega⟩
    · rw [if_neg (show ¬ d = (h.del b).next from k'), H.get_del] at e
      rw [if_neg k'] at e3
      by_cases k2 : d = b
      · rw [if_pos k2] at e; cases e
      · rw [if_neg k2] at e; exact .inl ⟨d, x, m, e, e2, e3, e4⟩
  · have : ((h.del b).new o).next.num = h.next.num + 1 := K.succ_num _
    omega
/-- The cells of a row. -/
theorem rowOf_ok (r : HR P ρ h w) {b : K} {o n : Nat} {v : V} {l : Loc} (hl : ρ b = some l) (e : rowOf h b o n = .ok v) : ∃ xs, DV ρ v (LV xs) ∧ xs.length = n ∧ (∀ j u, xs[j]? = some u → w.cell? ⟨l.blk, l.off + o + j, none⟩ = some u) ∧ ∀ u ∈ v.toL, u.one = true := by
  unfold rowOf at e
  split at e
  · rename_i ro fz c m ty hg
    obtain ⟨hb, e⟩ := bifok e
    obtain ⟨m', hm, hor⟩ := r.ob _ _ hg
    rw [hl] at hm; injection hm with hm; subst hm
    obtain ⟨cs, fr, hh, _, _, _, hc⟩ := hor
    obtain ⟨xs, h1, h2, h3, h4⟩ := getCells_ok hc _ _ _ (ble_le hb) e
    exact ⟨xs, h1, h2, fun j u hj => by rw [cell_of hh]; exact h3 j u hj, h4⟩
  · cases e
theorem item_ok {e : Nat} (h : itemOk P e = true) : ∃ i z, P.info? e = some i ∧ i.zero = some z ∧ i.size = P.cellsOf e ∧ z.cells.size = P.cellsOf e ∧ 1 ≤ P.cellsOf e ∧ P.bytesOf e = i.bytes := by
  unfold itemOk at h
  cases hz : zero P e with
  | no c => rw [hz] at h; cases h
  | ok z =>
    rw [hz] at h
    simp only at h
    cases hp : plainV z with
    | false => rw [hp] at h; cases h
    | true =>
      rw [hp] at h
      cases h1 : Nat.ble 1 (P.cellsOf e) with
      | false => rw [h1] at h; cases h
      | true =>
        rw [h1] at h
        have h2 : Nat.beq z.cells.len (P.cellsOf e) = true := h
        unfold zero at hz
        cases hi : P.info? e with
        | none => rw [hi] at hz; cases hz
        | some i =>
          rw [hi] at hz
          cases hiz : i.zero with
          | none => simp [hiz] at hz
          | some zv =>
            simp [hiz] at hz
            obtain ⟨zs, c1, c2, _⟩ := cells_ok (conv_ok (ρ := fun _ => none) hz) hp
            refine ⟨i, zv, rfl, hiz, by simp [Program.cellsOf, hi], ?_, ble_le h1, by simp [Program.bytesOf, hi]⟩
            have := c1.len
            rw [beq_eq h2, ← c2] at this
            simpa using this.symm
theorem grow_ge (w : World) (n s e : Nat) : n ≤ grownCap w n s e := by
  unfold grownCap Question.cut
  exact Nat.le_add_right _ _
theorem next_le (n c : Nat) (h : c < n) : Builtin.nextslicecap n c ≤ 4 * n + 1000 := by
  unfold Builtin.nextslicecap
  split
  · omega
  · split
    · omega
    · simp only [Builtin.growBy]
      repeat' split
      all_goals omega
end Ex
namespace Ex
open Go
variable [Base] {P : Program} {ρ : Rho} {h : H} {w : World} {η : Env} {a : Act} {nx : Nx}
theorem zc_size (z : Value) (n : Nat) : (Builtin.zeroCells z.cells n).size = n * z.cells.size := by simp [Builtin.zeroCells]
/-- The row that an append makes. -/
theorem grown_ok (r : HR P ρ h w) {w0 : World} {e n : Nat} {sc : Nat} {i : TypeInfo} {z : Value} (hs : i.size = P.cellsOf e) (hz : z.cells.size = P.cellsOf e) {l : V} {xs : List Value} (hl : DV ρ l (LV xs)) (h1 : ∀ v ∈ l.toL, v.one = true) (hn : xs.length = n * P.cellsOf e)
    (h0 : w0 = w) :
    HR P (ρ.put h.next ⟨w.heap.size, 0, grownCap w n sc e⟩) (newRow h e l) (w.drew.alloc (.cells (xs.toArray ++ Builtin.zeroCells z.cells (grownCap w n sc e - n)) e)) ∧
    St ρ h w (ρ.put h.next ⟨w.heap.size, 0, grownCap w n sc e⟩) (newRow h e l) (w.drew.alloc (.cells (xs.toArray ++ Builtin.zeroCells z.cells (grownCap w n sc e - n)) e)) := by
  have hd : HR P ρ h w.drew := r.drew rfl
  have hcap : grownCap w n sc e * P.cellsOf e ≤ xs.length + (Builtin.zeroCells z.cells (grownCap w n sc e - n)).toList.length := by
    have := grow_ge w n sc e
    have hq : (Builtin.zeroCells z.cells (grownCap w n sc e - n)).toList.length = (grownCap w n sc e - n) * P.cellsOf e := by
      rw [← hz, ← zc_size]; exact Array.length_toList
    rw [hq, hn, ← Nat.add_mul]
    exact Nat.mul_le_mul_right _ (by omega)
  have k := newRow_ok (P := P) (w0 := w) hd ⟨rfl, rfl, rfl, rfl⟩ e hl h1 (Builtin.zeroCells z.cells (grownCap w n sc e - n)).toList _ hcap
  have e1 : (xs ++ (Builtin.zeroCells z.cells (grownCap w n sc e - n)).toList).toArray = xs.toArray ++ Builtin.zeroCells z.cells (grownCap w n sc e - n) := by
    apply Array.ext'; simp
  rw [e1] at k
  exact k
theorem fits {e n sc : Nat} {i : TypeInfo} (hb : P.bytesOf e = i.bytes) (hg : growOk P e n = true) (hc : sc < n) : ((n : Nat) : Int) ≤ 9223372036854775807 ∧ Builtin.nextslicecap n sc * i.bytes ≤ 281474976710656 := by
  unfold growOk at hg
  simp only [Bool.and_eq_true] at hg
  have h1 := ble_le hg.1
  have h2 := ble_le hg.2
  refine ⟨by omega, ?_⟩
  rw [hb] at h1
  exact Nat.le_trans (Nat.mul_le_mul_right _ (next_le n sc hc)) h1
theorem first_run {size n c : Nat} {l : Loc} {o : Nat} {xs : List Value} (hn : xs.length = n * size) (hx : ∀ j u, xs[j]? = some u → w.cell? ⟨l.blk, l.off + o + j, none⟩ = some u) :
    (Builtin.firstCells size n (.slice (some ⟨l.blk, l.off + o, none⟩) n c)).run P w.drew = .ok xs.toArray w.drew :=
  run_firstCells_some w.drew size n ⟨l.blk, l.off + o, none⟩ n c xs hn (fun j u hj => by rw [Addr.add_mid]; exact hx j u hj)
set_option maxHeartbeats 2000000 in
theorem appendV_ok (r : HR P ρ h w) {t tx ty e n : Nat} {s y vs : V} {sv xv : Value} {xs : List Value} {h' : H} (ht : P.underlying t = some (.slice e)) (hs : DV ρ s sv) (hv : DV ρ vs (LV xs)) (h1 : ∀ v ∈ vs.toL, v.one = true)
    (src : Src P (P.cellsOf e) tx xv n xs w) (ev : appendV P h e s n vs = .ok (y, h')) :
    ∃ σ z w', (Builtin.append_ #[t, tx] ty #[sv, xv]).run P w = .ok z w' ∧ DV σ y z ∧ HR P σ h' w' ∧ St ρ h w σ h' w' := by
  unfold appendV at ev
  obtain ⟨hio, ev⟩ := bifok ev
  obtain ⟨hlen, ev⟩ := bifok ev
  obtain ⟨i, z, hi, hiz, hsz, hzs, hpos, hby⟩ := item_ok hio
  have hn : xs.length = n * P.cellsOf e := by rw [← hv.len]; exact beq_eq hlen
  have src' : Src P i.size tx xv n xs w := by rw [hsz]; exact src
  cases hs with
  | nils =>
    cases hb : Nat.beq n 0 with
    | true =>
      have ev : (bif Nat.beq n 0 then O.ok (V.nils, h) else bif growOk P e n then .ok (.slu h.next 0 n 0, newRow h e vs) else .no 47) = .ok (y, h') := ev
      rw [hb] at ev
      have := beq_eq hb; subst this
      have e0 := okinj (show O.ok (V.nils, h) = .ok (y, h') from ev)
      injection e0 with e1 e2
      subst e1; subst e2
      refine ⟨ρ, .slice none 0 0, w, ?_, .nils, r, St.refl _ _ _⟩
      rcases src'.kind with ⟨e', hk⟩ | hk <;> simp [Builtin.append_, run_u ht, run_u hk, Go.sizeOf, typeInfo, hi, src'.len, src'.cells]
    | false =>
      have ev : (bif Nat.beq n 0 then O.ok (V.nils, h) else bif growOk P e n then .ok (.slu h.next 0 n 0, newRow h e vs) else .no 47) = .ok (y, h') := ev
      rw [hb] at ev
      obtain ⟨hg, e0⟩ := bifok (show (bif growOk P e n then O.ok (V.slu h.next 0 n 0, newRow h e vs) else .no 47) = .ok (y, h') from ev)
      have e0 := okinj e0
      injection e0 with e1 e2
      subst e1; subst e2
      have hn0 : 0 < n := by
        cases n with
        | zero => rw [beq_tt rfl] at hb; cases hb
        | succ n => omega
      obtain ⟨f1, f2⟩ := fits (P := P) (sc := 0) hby hg hn0
      have hrun := run_append_grow_src (P := P) w t tx ty e i z ht hi hiz none 0 0 [] (run_firstCells_none w.drew i.size 0 0 0) xv n xs src' (by omega) (by omega) (by rw [Nat.zero_add]; exact f2)
      simp only [Nat.zero_add, List.nil_append] at hrun
      obtain ⟨k1, k2⟩ := grown_ok (P := P) (w0 := w) (n := n) (sc := 0) (i := i) r hsz hzs hv h1 hn rfl
      have dv := DV.slu (ρ := ρ.put h.next ⟨w.heap.size, 0, grownCap w n 0 e⟩) 0 n 0 (Rho.put_same _ _ _) (by simpa using grow_ge w n 0 e)
      exact ⟨_, _, _, hrun, dv, k1, k2⟩
  | @sl b l o len cap hl =>
    have ev : (bif Nat.ble (len + n) cap then inPlace P h e b o len cap n vs
      else bif growOk P e (len + n) then (rowOf h b o (len * P.cellsOf e)).bnd fun old => .ok (.slu h.next 0 (len + n) 0, newRow h e (old.app vs)) else .no 47) = .ok (y, h') := ev
    cases hb : Nat.ble (len + n) cap with
    | true =>
      rw [hb] at ev
      unfold inPlace at ev
      simp only [cond_true] at ev
      split at ev
      · rename_i ro fz c m ty' hg
        cases ro with
        | true => cases ev
        | false =>
        cases fz with
        | true => cases ev
        | false =>
        obtain ⟨hr, e0⟩ := bifok (show (bif Nat.ble (o + (len + n) * P.cellsOf e) m then O.ok (V.sl b o (len + n) cap, h.set b (.cells false false (putCells c vs (o + len * P.cellsOf e)) m ty')) else .no 44) = .ok (y, h') from ev)
        have e0 := okinj e0
        injection e0 with e1 e2
        subst e1; subst e2
        have hr := ble_le hr
        rw [Nat.add_mul] at hr
        obtain ⟨w1, w2, w3, w4⟩ := write_ok r hg hl hv h1 (o := o + len * P.cellsOf e) (by omega)
        rw [← Nat.add_assoc] at w1 w2
        have hrun := run_append_room_src (P := P) w t tx ty e i ht hi l.blk (l.off + o) len cap xv n xs src' (ble_le hb)
          (fun j hj => by rw [hsz, Nat.add_assoc l.off]; exact w3 j hj) (fun j hj => by rw [hsz, Nat.add_assoc l.off]; exact w4 j hj)
        rw [hsz] at hrun
        exact ⟨ρ, _, _, hrun, .sl o (len + n) cap hl, w1, w2⟩
      · cases ev
    | false =>
      rw [hb] at ev
      obtain ⟨hg, e0⟩ := bifok (show (bif growOk P e (len + n) then (rowOf h b o (len * P.cellsOf e)).bnd _ else .no 47) = .ok (y, h') from ev)
      obtain ⟨old, e3, e4⟩ := bnd_ok e0
      have e4 := okinj e4
      injection e4 with e1 e2
      subst e1; subst e2
      obtain ⟨os, o1, o2, o3, o4⟩ := rowOf_ok r hl e3
      have hlt : cap < len + n := by
        rw [ble_dec] at hb; simp at hb; omega
      obtain ⟨f1, f2⟩ := fits (P := P) (sc := cap) hby hg hlt
      have hrun := run_append_grow_src (P := P) w t tx ty e i z ht hi hiz (some ⟨l.blk, l.off + o, none⟩) len cap os (by rw [hsz]; exact first_run o2 o3) xv n xs src' hlt f1 f2
      obtain ⟨k1, k2⟩ := grown_ok (P := P) (w0 := w) (n := len + n) (sc := cap) (i := i) r hsz hzs (o1.app hv) (fun v hv' => by
        rw [V.app_toL] at hv'
        rcases List.mem_append.1 hv' with q | q
        · exact o4 v q
        · exact h1 v q) (by rw [List.length_append, o2, hn, Nat.add_mul]) rfl
      have dv := DV.slu (ρ := ρ.put h.next ⟨w.heap.size, 0, grownCap w (len + n) cap e⟩) 0 (len + n) 0 (Rho.put_same _ _ _) (by simpa using grow_ge w (len + n) cap e)
      exact ⟨_, _, _, hrun, dv, k1, k2⟩
  | @slu b l o len d hl hd =>
    have ev : (bif Nat.beq n 0 then O.ok (V.slu b o len d, h) else regrow P h e b o len d n vs) = .ok (y, h') := ev
    cases hb : Nat.beq n 0 with
    | true =>
      rw [hb] at ev
      have := beq_eq hb; subst this
      have e0 := okinj (show O.ok (V.slu b o len d, h) = .ok (y, h') from ev)
      injection e0 with e1 e2
      subst e1; subst e2
      have hx0 : xs = [] := by
        cases xs with
        | nil => rfl
        | cons x q => simp at hn
      subst hx0
      have hrun := run_append_room_src (P := P) w t tx ty e i ht hi l.blk (l.off + o) len (l.cap - d) xv 0 [] src' (by omega) (fun j hj => by simp at hj) (fun j hj => by simp at hj)
      exact ⟨ρ, _, _, hrun, .slu o len d hl hd, r, St.refl _ _ _⟩
    | false =>
      rw [hb] at ev
      have hn0 : 0 < n := by
        cases n with
        | zero => rw [beq_tt rfl] at hb; cases hb
        | succ n => omega
      unfold regrow at ev
      simp only [cond_false] at ev
      split at ev
      · rename_i ro fz c m ty' hg
        cases ro with
        | true => cases ev
        | false =>
        cases fz with
        | true => cases ev
        | false =>
        obtain ⟨hty, e0⟩ := bifok (show (bif Nat.beq ty' e then _ else O.no 45) = .ok (y, h') from ev)
        have hty := beq_eq hty; subst hty
        obtain ⟨hod, e0⟩ := bifok e0
        have hod := beq_eq hod
        obtain ⟨hgr, e0⟩ := bifok e0
        obtain ⟨old, e3, e4⟩ := bnd_ok e0
        have e4 := okinj e4
        injection e4 with e1 e2
        subst e1; subst e2
        obtain ⟨os, o1, o2, o3, o4⟩ := rowOf_ok r hl e3
        have hall : ∀ v ∈ (old.app vs).toL, v.one = true := fun v hv' => by
          rw [V.app_toL] at hv'
          rcases List.mem_append.1 hv' with q | q
          · exact o4 v q
          · exact h1 v q
        have hrow := o1.app hv
        have hrl : (os ++ xs).length = (len + n) * P.cellsOf ty' := by rw [List.length_append, o2, hn, Nat.add_mul]
        by_cases hroom : len + n ≤ l.cap - d
        · -- there is room
          obtain ⟨m', hm, hor⟩ := r.ob _ _ hg
          rw [hl] at hm; injection hm with hm; subst hm
          obtain ⟨cs, fr, hh, hsz', hcap, hfr, hc⟩ := hor
          obtain ⟨hfr, hoff0⟩ := hfr
          obtain ⟨koff, hoff⟩ := hoff0 rfl
          have hfr := hfr rfl; subst hfr
          have hfit : l.off + o + (len + n) * P.cellsOf ty' ≤ cs.size := by
            have : (d + (len + n)) * P.cellsOf ty' ≤ l.cap * P.cellsOf ty' := Nat.mul_le_mul_right _ (by omega)
            rw [Nat.add_mul] at this
            rw [hod]; omega
          rw [Nat.add_mul] at hfit
          have hrun := run_append_room_src (P := P) w t tx ty ty' i ht hi l.blk (l.off + o) len (l.cap - d) xv n xs src' hroom
            (fun j hj => by
              rw [cell_of hh, hsz]
              have : l.off + o + len * P.cellsOf ty' + j < cs.size := by omega
              simp [this])
            (fun j hj => frozen_of hh)
          rw [hsz] at hrun
          obtain ⟨q1, q2, q3, q4⟩ := setCells_rest l.blk xs (l.off + o + len * P.cellsOf ty') w
          have hk : ∀ k, k ≠ l.blk → (w.setCells l.blk (l.off + o + len * P.cellsOf ty') xs).heap[k]? = w.heap[k]? := fun k hk => by rw [setCells_heap _ _ _ xs _ w cs hh k, if_neg hk]
          have hle := Rho.put_le (l := ⟨l.blk, l.off + o, l.cap - d⟩) (r.fresh h.next (Nat.le_refl _))
          have hor' : OR P (ρ.put h.next ⟨l.blk, l.off + o, l.cap - d⟩) ⟨l.blk, l.off + o, l.cap - d⟩ (w.setCells l.blk (l.off + o + len * P.cellsOf ty') xs) (.cells false false (putCells .e (old.app vs) 0) (old.app vs).len ty') := by
            have hln := hrow.len
            refine ⟨wr cs (l.off + o + len * P.cellsOf ty') xs, (0, 0), by rw [setCells_heap _ _ _ xs _ w cs hh, if_pos rfl], ?_, ?_, ⟨fun _ => rfl, fun _ => ⟨koff + d, by show l.off + o = _; rw [Nat.add_mul, ← hoff, ← hod]⟩⟩, fun j hj => ?_⟩
            · rw [wr_size, hln, hrl, Nat.add_mul]; show l.off + o + _ ≤ _; omega
            · rw [wr_size]
              show l.off + o + (l.cap - d) * P.cellsOf ty' ≤ cs.size
              rw [Nat.sub_mul, hod]
              have : d * P.cellsOf ty' ≤ l.cap * P.cellsOf ty' := Nat.mul_le_mul_right _ (by omega)
              omega
            · rw [V.len_eq] at hj
              have hg2 := List.getElem?_eq_getElem hj
              obtain ⟨x, p1, p2⟩ := hrow.lst.2.get j _ hg2
              refine ⟨_, x, ?_, ?_, p2.mono hle, hall _ (List.getElem_mem hj)⟩
              · rw [putCells_at _ _ _ _ hrow.lst.1, if_pos ⟨Nat.zero_le _, by omega⟩]; simpa using hg2
              · show (wr cs (l.off + o + len * P.cellsOf ty') xs)[l.off + o + j]? = some x
                rw [wr_get _ _ _ _ (by omega)]
                by_cases hin : j < len * P.cellsOf ty'
                · rw [if_neg (by omega)]
                  rw [List.getElem?_append_left (by omega)] at p1
                  have := o3 j x p1
                  rw [cell_of hh] at this
                  exact this
                · rw [List.getElem?_append_right (by omega), o2] at p1
                  have hb2 : j - len * P.cellsOf ty' < xs.length := by
                    rw [List.getElem?_eq_some_iff] at p1; exact p1.1
                  rw [if_pos ⟨by omega, by omega⟩, ← p1]
                  congr 1; omega
          have k1 := HR.reuse r hg hl rfl _ ⟨l.blk, l.off + o, l.cap - d⟩ rfl q1 hk hor'
          have k2 := St.reuse r hg hl rfl (.cells false false (putCells .e (old.app vs) 0) (old.app vs).len ty') ⟨l.blk, l.off + o, l.cap - d⟩ rfl q1 hk q2 q3 q4
          have dv := DV.slu (ρ := ρ.put h.next ⟨l.blk, l.off + o, l.cap - d⟩) 0 (len + n) 0 (Rho.put_same _ _ _) (by simpa using hroom)
          exact ⟨_, _, _, hrun, dv, k1, k2⟩
        · obtain ⟨f1, f2⟩ := fits (P := P) (sc := l.cap - d) hby hgr (by omega)
          have hrun := run_append_grow_src (P := P) w t tx ty ty' i z ht hi hiz (some ⟨l.blk, l.off + o, none⟩) len (l.cap - d) os (by rw [hsz]; exact first_run o2 o3) xv n xs src' (by omega) f1 f2
          obtain ⟨k1, k2⟩ := grown_ok (P := P) (w0 := w) (n := len + n) (sc := l.cap - d) (i := i) (r.del b) hsz hzs hrow hall hrl rfl
          have dv := DV.slu (ρ := ρ.put h.next ⟨w.heap.size, 0, grownCap w (len + n) (l.cap - d) ty'⟩) 0 (len + n) 0 (Rho.put_same _ _ _) (by simpa using grow_ge w (len + n) (l.cap - d) ty')
          exact ⟨_, _, _, hrun, dv, k1, (St.del b).trans k2⟩
      · cases ev
  | _ => cases ev
end Ex
namespace Ex
open Go
variable [Base] {P : Program} {ρ : Rho} {h : H} {w : World} {η : Env} {a : Act} {nx : Nx}
theorem DV.cons_inv {v l : V} {xs : List Value} (h : DV ρ (.cons v l) (LV xs)) : ∃ x ys, xs = x :: ys ∧ DV ρ v x ∧ DV ρ l (LV ys) := by
  have k := h.lst
  cases xs with
  | nil => exact k.2.elim
  | cons x ys => exact ⟨x, ys, rfl, k.2.1, DV.ofL k.1 k.2.2⟩
theorem DV.nil_inv {xs : List Value} (h : DV ρ .nil (LV xs)) : xs = [] := by
  have k := h.lst
  cases xs with
  | nil => rfl
  | cons x ys => exact k.2.elim
theorem bind_some {at_ : Array Nat} {i : Nat} {d : TypeDesc} (h : (at_[i]?).bind P.underlying = some d) : ∃ t, at_[i]? = some t ∧ P.underlying t = some d := by
  cases e : at_[i]? with
  | none => rw [e] at h; cases h
  | some t => rw [e] at h; exact ⟨t, rfl, h⟩
theorem map_len {ρ : Rho} : ∀ {es : List ME} {ms : List MapEntry}, MEs ρ es ms → es.length = ms.length
  | [], [], _ => rfl
  | [], _ :: _, h => h.elim
  | _ :: _, [], h => h.elim
  | _ :: r, _ :: s, h => by simp [map_len (es := r) (ms := s) h.2.2.2]
theorem b_len (r : HR P ρ h w) {at_ : Array Nat} {ty : Nat} {args : V} {xs : List Value} {cs : Array Bool} (ha : DV ρ args (LV xs)) (e : bi_len P h at_ args = .ok nx) : OpOk P ρ h w (builtin .len at_ ty cs xs.toArray) nx := by
  unfold bi_len at e
  split at e
  · rename_i x
    obtain ⟨xv, ys, rfl, hx, hy⟩ := ha.cons_inv
    rw [hy.nil_inv]
    split at e
    · rename_i s hd; obtain ⟨t, h1, h2⟩ := bind_some hd
      cases hx; rw [← okinj e]
      refine OpOk.same r (x := .int .i64 (Int.ofNat (lenL s))) ?_ (.int _ _)
      simp [builtin, Builtin.len_, h1, run_u h2, goInt, bs_size, lenL_eq]
    · rename_i hd; obtain ⟨t, h1, h2⟩ := bind_some hd
      cases hx; rw [← okinj e]
      exact OpOk.same r (by simp [builtin, Builtin.len_, h1, run_u h2, goInt]) (.int _ _)
    · rename_i hd; obtain ⟨t, h1, h2⟩ := bind_some hd
      cases hx; rw [← okinj e]
      exact OpOk.same r (by simp [builtin, Builtin.len_, h1, run_u h2, goInt]) (.int _ _)
    · rename_i hd; obtain ⟨t, h1, h2⟩ := bind_some hd
      cases hx; rw [← okinj e]
      exact OpOk.same r (by simp [builtin, Builtin.len_, h1, run_u h2, goInt]) (.int _ _)
    · rename_i hd; obtain ⟨t, h1, h2⟩ := bind_some hd
      cases hx; rw [← okinj e]
      exact OpOk.same r (by simp [builtin, Builtin.len_, h1, run_u h2, goInt]) (.int _ _)
    · rename_i hd; obtain ⟨t, h1, h2⟩ := bind_some hd
      cases hx; rw [← okinj e]
      exact OpOk.same r (by simp [builtin, Builtin.len_, h1, run_u h2, goInt]) (.int _ _)
    · rename_i b hd; obtain ⟨t, h1, h2⟩ := bind_some hd
      cases hx with
      | @map _ l hl =>
      split at e
      · rename_i es c hg
        rw [← okinj e]
        obtain ⟨m, hm, hor⟩ := r.ob _ _ hg
        rw [hl] at hm; injection hm with hm; subst hm
        obtain ⟨ms, q1, q2⟩ := hor
        refine OpOk.same r (x := .int .i64 (Int.ofNat es.length)) ?_ (.int _ _)
        have hgo : (getObj l.blk).run P w = .ok (.map ms.toArray c) w := by simp [getObj, Sem.run, q1]
        simp [builtin, Builtin.len_, h1, run_u h2, goInt, hgo, map_len q2]
      · cases e
    · rename_i n hd; obtain ⟨t, h1, h2⟩ := bind_some hd
      rw [← okinj e]
      exact OpOk.same r (by simp [builtin, Builtin.len_, h1, run_u h2, goInt]) (.int _ _)
    · rename_i p hd; obtain ⟨t, h1, h2⟩ := bind_some hd
      split at e
      · rename_i n q hq
        rw [← okinj e]
        exact OpOk.same r (by simp [builtin, Builtin.len_, h1, run_u h2, run_u hq, goInt]) (.int _ _)
      · cases e
    · cases e
  · cases e
theorem b_cap (r : HR P ρ h w) {at_ : Array Nat} {ty : Nat} {args : V} {xs : List Value} {cs : Array Bool} (ha : DV ρ args (LV xs)) (e : bi_cap P h at_ args = .ok nx) : OpOk P ρ h w (builtin .cap at_ ty cs xs.toArray) nx := by
  unfold bi_cap at e
  split at e
  · obtain ⟨xv, ys, rfl, hx, hy⟩ := ha.cons_inv
    rw [hy.nil_inv]
    split at e
    · rename_i hd; obtain ⟨t, h1, h2⟩ := bind_some hd
      cases hx; rw [← okinj e]
      exact OpOk.same r (by simp [builtin, Builtin.cap_, h1, run_u h2, goInt]) (.int _ _)
    · rename_i hd; obtain ⟨t, h1, h2⟩ := bind_some hd
      cases hx; rw [← okinj e]
      exact OpOk.same r (by simp [builtin, Builtin.cap_, h1, run_u h2, goInt]) (.int _ _)
    · cases e
  · cases e
theorem b_max (r : HR P ρ h w) {at_ : Array Nat} {ty : Nat} {args : V} {xs : List Value} {cs : Array Bool} (ha : DV ρ args (LV xs)) (e : bi_max P h at_ args = .ok nx) : OpOk P ρ h w (builtin .max at_ ty cs xs.toArray) nx := by
  unfold bi_max at e
  split at e
  · rename_i k x k' y
    obtain ⟨xv, ys, rfl, hx, hy⟩ := ha.cons_inv
    obtain ⟨yv, zs, rfl, hy, hz⟩ := hy.cons_inv
    rw [hz.nil_inv]
    cases hx; cases hy; rw [← okinj e]
    refine OpOk.same r (x := .int k (bif leI y x then x else y)) ?_ (.int _ _)
    rw [leI_eq]
    by_cases q : y ≤ x
    · have : ¬ x < y := by omega
      simp [builtin, Builtin.max_, Builtin.max2, q, this]
    · have : x < y := by omega
      simp [builtin, Builtin.max_, Builtin.max2, q, this]
  · cases e
theorem b_min (r : HR P ρ h w) {at_ : Array Nat} {ty : Nat} {args : V} {xs : List Value} {cs : Array Bool} (ha : DV ρ args (LV xs)) (e : bi_min P h at_ args = .ok nx) : OpOk P ρ h w (builtin .min at_ ty cs xs.toArray) nx := by
  unfold bi_min at e
  split at e
  · rename_i k x k' y
    obtain ⟨xv, ys, rfl, hx, hy⟩ := ha.cons_inv
    obtain ⟨yv, zs, rfl, hy, hz⟩ := hy.cons_inv
    rw [hz.nil_inv]
    cases hx; cases hy; rw [← okinj e]
    refine OpOk.same r (x := .int k (bif leI x y then x else y)) ?_ (.int _ _)
    rw [leI_eq]
    by_cases q : x ≤ y
    · have : ¬ y < x := by omega
      simp [builtin, Builtin.min_, Builtin.min2, q, this]
    · have : y < x := by omega
      simp [builtin, Builtin.min_, Builtin.min2, q, this]
  · cases e
theorem clearRow_ok (r : HR P ρ h w) {at_ : Array Nat} {ty t e : Nat} {cs : Array Bool} (h1 : at_[0]? = some t) (h2 : P.underlying t = some (.slice e)) {b : K} {l : Loc} (hl : ρ b = some l) {o n cap : Nat} (he : clearRow P h e b o n = .ok nx) :
    OpOk P ρ h w (builtin .clear at_ ty cs #[.slice (some ⟨l.blk, l.off + o, none⟩) n cap]) nx := by
  unfold clearRow at he
  cases n with
  | zero =>
    rw [← okinj (show O.ok (Nx.val (V.tup .nil) h) = .ok nx from he)]
    refine OpOk.same r (x := .tuple #[]) ?_ (.tup .nil)
    simp [builtin, Builtin.clear_, h1, run_u h2]
  | succ n =>
    simp only [show Nat.beq (n + 1) 0 = false from rfl, cond_false] at he
    obtain ⟨hio, he1⟩ := bifok he
    obtain ⟨z, e5, he2⟩ := bnd_ok he1
    split at he2
    · rename_i ro fz c m ty' hget
      cases ro with
      | true => cases he2
      | false =>
      cases fz with
      | true => cases he2
      | false =>
      simp only [cond_false] at he2
      obtain ⟨hm, he3⟩ := bifok he2
      rw [← okinj he3]
      obtain ⟨i, zv, hi, hiz, hsz, hzs, hpos, hby⟩ := item_ok hio
      obtain ⟨zx, hz, hzx⟩ := zero_run (ρ := ρ) e5 w
      have hp : plainV z = true := by
        unfold itemOk at hio
        rw [e5] at hio
        cases hp : plainV z with
        | true => rfl
        | false => simp only [hp] at hio; cases hio
      obtain ⟨cs1, c1, c2, c3⟩ := cells_ok hzx hp
      have hzz : zx = zv := by
        have : (zeroValue e).run P w = .ok zv w := by simp [zeroValue, typeInfo, hi, hiz]
        rw [this] at hz; injection hz with hz; exact hz.symm
      subst hzz
      have hcl : cs1.length = P.cellsOf e := by rw [← hzs, ← c2]; exact Array.length_toList
      obtain ⟨xs, r1, r2, r3, r4⟩ := rep_ok c1 c3 (n + 1)
      obtain ⟨w1, w2, w3, w4⟩ := write_ok r hget hl r1 r2 (o := o) (by rw [r3, hcl]; exact ble_le hm)
      have hst := run_storeCells_cells (P := P) l.blk (l.off + o) xs 0 w (by simpa using w3) (by simpa using w4) (one_of r1 r2)
      simp only [Nat.add_zero] at hst
      have hcells : zx.cells = cs1.toArray := by rw [← c2]
      have hrow : (Builtin.zeroCells zx.cells (n + 1)).toList = xs := by
        have := rep_cells (by omega) r3 r4
        unfold Builtin.zeroCells
        rw [hcells]
        have hs : cs1.toArray.size = cs1.length := by simp
        simp only [hs] at this ⊢
        rw [this]
      refine ⟨ρ, .tuple #[], w.setCells l.blk (l.off + o) xs, ?_, .tup .nil, w1, w2⟩
      simp [builtin, Builtin.clear_, h1, run_u h2, hz, hrow, hst]
    · cases he2
theorem b_clear (r : HR P ρ h w) {at_ : Array Nat} {ty : Nat} {args : V} {xs : List Value} {cs : Array Bool} (ha : DV ρ args (LV xs)) (e : bi_clear P h at_ args = .ok nx) : OpOk P ρ h w (builtin .clear at_ ty cs xs.toArray) nx := by
  unfold bi_clear at e
  split at e
  · obtain ⟨xv, ys, rfl, hx, hy⟩ := ha.cons_inv
    rw [hy.nil_inv]
    split at e
    · rename_i d hd; obtain ⟨t, h1, h2⟩ := bind_some hd
      cases hx; rw [← okinj e]
      exact OpOk.same r (x := .tuple #[]) (by simp [builtin, Builtin.clear_, h1, run_u h2]) (.tup .nil)
    · rename_i d hd; obtain ⟨t, h1, h2⟩ := bind_some hd
      cases hx; rw [← okinj e]
      exact OpOk.same r (x := .tuple #[]) (by simp [builtin, Builtin.clear_, h1, run_u h2]) (.tup .nil)
    · rename_i el b o n cap hd; obtain ⟨t, h1, h2⟩ := bind_some hd
      cases hx with
      | @sl _ l _ _ _ hl => exact clearRow_ok r h1 h2 hl e
    · rename_i el b o n dd hd; obtain ⟨t, h1, h2⟩ := bind_some hd
      cases hx with
      | @slu _ l _ _ _ hl _ => exact clearRow_ok r h1 h2 hl e
    · rename_i d b hd; obtain ⟨t, h1, h2⟩ := bind_some hd
      cases hx with
      | @map _ l hl =>
      split at e
      · rename_i es c hg
        rw [← okinj e]
        obtain ⟨m, hm, hor⟩ := r.ob _ _ hg
        rw [hl] at hm; injection hm with hm; subst hm
        obtain ⟨ms, q1, q2⟩ := hor
        have hgo : (getObj l.blk).run P w = .ok (.map ms.toArray c) w := by simp [getObj, Sem.run, q1]
        have hlt : l.blk < w.heap.size := r.lt _ _ _ hg hl
        have hso : (setObj l.blk (.map #[] c)).run P w = .ok () { w with heap := w.heap.setIfInBounds l.blk (.map #[] c) } := by simp [setObj, Sem.run, q1]
        have hk : ∀ k, k ≠ l.blk → (w.heap.setIfInBounds l.blk (.map #[] c))[k]? = w.heap[k]? := fun k hk => by
          rw [Array.getElem?_setIfInBounds, if_neg (fun q => hk q.symm)]
        refine ⟨ρ, .tuple #[], { w with heap := w.heap.setIfInBounds l.blk (.map #[] c) }, ?_, .tup .nil, ?_, ?_⟩
        · cases d <;> simp [builtin, Builtin.clear_, h1, run_u h2, hgo, hso]
        · refine r.set _ hg hl rfl (by simp) hk ⟨[], ?_, trivial⟩
          simp [hlt]
        · exact St.set r _ hg hl rfl (by simp) hk rfl rfl rfl
      · cases e
    · rename_i d hd; obtain ⟨t, h1, h2⟩ := bind_some hd
      cases hx; rw [← okinj e]
      refine OpOk.same r (x := .tuple #[]) ?_ (.tup .nil)
      cases d <;> simp [builtin, Builtin.clear_, h1, run_u h2]
    · cases e
  · cases e
theorem cob_ok : ∀ l : List Nat, DV ρ (cellsOfBytes l) (LV (byteCells (bs l))) ∧ ∀ u ∈ (cellsOfBytes l).toL, u.one = true
  | [] => ⟨by have : byteCells (bs []) = [] := rfl
              rw [this]; exact .nil, fun u hu => by cases hu⟩
  | b :: l => by
    obtain ⟨h1, h2⟩ := cob_ok l
    have : byteCells (bs (b :: l)) = Value.int .u8 (Int.ofNat (b % 256)) :: byteCells (bs l) := by
      unfold byteCells; rw [bs_toList, bs_toList]; simp
    rw [this]
    exact ⟨.cons (.int _ _) h1, fun u hu => by
      cases hu with
      | head => rfl
      | tail _ hu => exact h2 u hu⟩
theorem b_append (r : HR P ρ h w) {at_ : Array Nat} {ty : Nat} {args : V} {xs : List Value} {cs : Array Bool} (hsz : at_.size = 2) (ha : DV ρ args (LV xs)) (e : bi_append P h at_ args = .ok nx) : OpOk P ρ h w (builtin .append at_ ty cs xs.toArray) nx := by
  unfold bi_append at e
  split at e
  · rename_i s x
    obtain ⟨sv, ys, rfl, hs, hy⟩ := ha.cons_inv
    obtain ⟨xv, zs, rfl, hx, hz⟩ := hy.cons_inv
    rw [hz.nil_inv]
    have key : ∀ {t tx el n : Nat} {y vs : V} {xs : List Value} {h' : H}, at_[0]? = some t → at_[1]? = some tx → P.underlying t = some (.slice el) → DV ρ vs (LV xs) → (∀ v ∈ vs.toL, v.one = true) → Src P (P.cellsOf el) tx xv n xs w →
        appendV P h el s n vs = .ok (y, h') → OpOk P ρ h w (builtin .append at_ ty cs #[sv, xv]) (.val y h') := by
      intro t tx el n y vs xs h' h1 h2 ht hv ho src ev
      obtain ⟨σ, z, w', k1, k2, k3, k4⟩ := appendV_ok (ty := ty) r ht hs hv ho src ev
      have hat : at_ = #[t, tx] := by
        apply Array.ext'
        apply List.ext_getElem?
        intro i
        rw [Array.getElem?_toList]
        match i with
        | 0 => simpa using h1
        | 1 => simpa using h2
        | i+2 => simp [hsz]
      exact ⟨σ, z, w', by simp [builtin, hat, k1], k2, k3, k4⟩
    split at e
    · rename_i el l hd1 hd2
      obtain ⟨t, h1, ht⟩ := bind_some hd1
      obtain ⟨tx, h2, htx⟩ := bind_some hd2
      obtain ⟨hc, e⟩ := bifok e
      obtain ⟨y, h', ev, rfl⟩ := ovalh_ok e
      cases hx
      have hc := beq_eq hc
      obtain ⟨c1, c2⟩ := cob_ok (ρ := ρ) l
      refine key h1 h2 ht c1 c2 ?_ ev
      rw [hc]
      have := Src.ofString (P := P) w htx (bs l)
      rw [bs_size, ← lenL_eq] at this
      exact this
    · rename_i el el' hd1 hd2
      obtain ⟨t, h1, ht⟩ := bind_some hd1
      obtain ⟨tx, h2, htx⟩ := bind_some hd2
      obtain ⟨y, h', ev, rfl⟩ := ovalh_ok e
      cases hx
      exact key h1 h2 ht .nil (fun v hv => by cases hv) (Src.ofNil w htx 0) ev
    · rename_i el el' hd1 hd2
      obtain ⟨t, h1, ht⟩ := bind_some hd1
      obtain ⟨tx, h2, htx⟩ := bind_some hd2
      obtain ⟨y, h', ev, rfl⟩ := ovalh_ok e
      cases hx
      exact key h1 h2 ht .nil (fun v hv => by cases hv) (Src.ofSlice w htx _ 0 _ [] (by simp) (fun j u hj => by simp at hj) (fun u hu => by cases hu)) ev
    · rename_i el el' b o n c hd1 hd2
      obtain ⟨t, h1, ht⟩ := bind_some hd1
      obtain ⟨tx, h2, htx⟩ := bind_some hd2
      obtain ⟨l, e1, e2⟩ := bnd_ok e
      obtain ⟨y, h', ev, rfl⟩ := ovalh_ok e2
      cases hx with
      | sl _ _ _ hl =>
      obtain ⟨os, o1, o2, o3, o4⟩ := rowOf_ok r hl e1
      exact key h1 h2 ht o1 o4 (Src.ofSlice w htx _ n _ os o2 (fun j u hj => by rw [Addr.add_mid]; exact o3 j u hj) (one_of o1 o4)) ev
    · rename_i el el' b o n c hd1 hd2
      obtain ⟨t, h1, ht⟩ := bind_some hd1
      obtain ⟨tx, h2, htx⟩ := bind_some hd2
      obtain ⟨l, e1, e2⟩ := bnd_ok e
      obtain ⟨y, h', ev, rfl⟩ := ovalh_ok e2
      cases hx with
      | slu _ _ _ hl hd =>
      obtain ⟨os, o1, o2, o3, o4⟩ := rowOf_ok r hl e1
      exact key h1 h2 ht o1 o4 (Src.ofSlice w htx _ n _ os o2 (fun j u hj => by rw [Addr.add_mid]; exact o3 j u hj) (one_of o1 o4)) ev
    · cases e
  · cases e
end Ex
namespace Ex
open Go
variable [Base] {P : Program} {ρ : Rho} {h : H} {w : World} {η : Env} {a : Act} {nx : Nx}
theorem lacks_ok {want : Array (String × Nat)} {got : Array Method} : (lacks want got = true → lacking want got ≠ []) ∧ (lacks want got = false → lacking want got = []) := by
  unfold lacks lacking
  constructor
  · intro e q
    rw [List.any_eq_true] at e
    obtain ⟨p, hp, hq⟩ := e
    rw [List.map_eq_nil_iff, List.filter_eq_nil_iff] at q
    exact q p hp hq
  · intro e
    rw [List.any_eq_false] at e
    rw [List.map_eq_nil_iff, List.filter_eq_nil_iff]
    exact fun p hp => e p hp
theorem pair_ok {s : Sem Next} (r : HR P ρ h w) {ok b : Bool} {v : V} {x : Value} (hv : DV ρ v x) (e : pairV ok v b h = .ok nx) (hs : s.run P w = .ok (.value (if ok then .tuple #[x, .bool b] else x)) w) : OpOk P ρ h w s nx := by
  rw [← okinj (show O.ok _ = .ok nx from e)]
  cases ok with
  | true => exact OpOk.same r hs (.tup (.cons hv (.cons (.bool b) .nil)))
  | false => exact OpOk.same r hs hv
theorem fails_ok {s : Sem Next} (r : HR P ρ h w) {ok : Bool} {want : Nat} (e : failsV P h want ok = .ok nx) (hs : ok = true → ∀ z, (zeroValue want).run P w = .ok z w → s.run P w = .ok (.value (.tuple #[z, .bool false])) w) : OpOk P ρ h w s nx := by
  unfold failsV at e
  obtain ⟨h1, e⟩ := bifok e
  obtain ⟨z, e1, e2⟩ := bnd_ok e
  obtain ⟨x, hz, hx⟩ := zero_run (ρ := ρ) e1 w
  rw [← okinj e2]
  exact OpOk.same r (hs h1 x hz) (.tup (.cons hx (.cons (.bool false) .nil)))
theorem op_typeAssert (he : ER ρ η a) (hg : Gl ρ) (r : HR P ρ h w) {o : Oper} {x : Operand} {xt want : Nat} {ok : Bool} (ho : o.op = .typeAssert x xt want ok) (e : opTypeassert P η h x want ok = .ok nx) : OpOk P ρ h w (execOp a.eval o) nx := by
  unfold opTypeassert at e
  obtain ⟨v, e1, e2⟩ := bnd_ok e
  have hx := opd_ok he hg e1
  generalize hq : a.eval x = xv at hx
  split at e2
  · rename_i ms t y hu
    cases hx with
    | @iface _ yv _ hy =>
    split at e2
    · rename_i i hi
      cases hl : lacks ms i.methods with
      | true =>
        rw [hl] at e2
        obtain ⟨m, hm⟩ := missingMethod_some (lacks_ok.1 hl)
        refine fails_ok r (show failsV P h want ok = .ok nx from e2) fun hk z hz => ?_
        subst hk
        simp [execOp, ho, hq, Instr.typeAssert, run_u hu, typeInfo, hi, hm, hz]
      | false =>
        rw [hl] at e2
        have hm := missingMethod_none (lacks_ok.2 hl)
        refine pair_ok r (.iface t hy) (show pairV ok (.iface t y) true h = .ok nx from e2) ?_
        cases ok <;> simp [execOp, ho, hq, Instr.typeAssert, run_u hu, typeInfo, hi, hm]
    · cases e2
  · rename_i ms hu
    cases hx
    refine fails_ok r e2 fun hk z hz => ?_
    subst hk
    simp [execOp, ho, hq, Instr.typeAssert, run_u hu, hz]
  · rename_i d hne hu
    cases hx
    refine fails_ok r e2 fun hk z hz => ?_
    subst hk
    cases d <;> simp [execOp, ho, hq, Instr.typeAssert, run_u hu, hz]
  · rename_i d t y hne hu
    cases hx with
    | @iface _ yv _ hy =>
    have hni : ∀ ms, d ≠ .interface ms := fun ms q => hne ms (by rw [q])
    cases hb : Nat.beq t want with
    | true =>
      rw [hb] at e2
      have := beq_eq hb
      refine pair_ok r hy (show pairV ok y true h = .ok nx from e2) ?_
      cases d <;> first | (exact absurd rfl (hni _)) | (cases ok <;> simp [execOp, ho, hq, Instr.typeAssert, run_u hu, this])
    | false =>
      rw [hb] at e2
      have hne2 : ¬ t = want := fun q => by rw [beq_tt q] at hb; cases hb
      refine fails_ok r (show failsV P h want ok = .ok nx from e2) fun hk z hz => ?_
      subst hk
      cases d <;> first | (exact absurd rfl (hni _)) | simp [execOp, ho, hq, Instr.typeAssert, run_u hu, hne2, hz]
  · cases e2
end Ex
