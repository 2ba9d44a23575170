/- Contracts of Nilable, Reference, Ordered, Fits, Equals. -/
import Derived.Test.YtpmpjbnnjdpbnaaDoorTy7
namespace Go.Proofs.YtpmpjbnnjdpbnaaDoor
open Go.RowKit Go.Proofs.YtpmpjbnnjdpbnaaDoor.Lx

def nilB (l : List UInt8) : Bool := tP.isPrefixOf l || tL.isPrefixOf l || tC.isPrefixOf l || tF.isPrefixOf l
def nilF (l : List UInt8) : Bool := nilB l && vd l
theorem ix47_0 (w : World) : (Instr.index 47 (.agg #[.string ⟨#[42]⟩, .string ⟨#[91, 93]⟩, .string ⟨#[99, 104, 97, 110, 32]⟩, .string ⟨#[102, 117, 110, 99, 40]⟩]) (.int .i64 0)).run Tryd.prog w = .ok (.string ⟨#[42]⟩) w := by kernel_rfl
theorem ix47_1 (w : World) : (Instr.index 47 (.agg #[.string ⟨#[42]⟩, .string ⟨#[91, 93]⟩, .string ⟨#[99, 104, 97, 110, 32]⟩, .string ⟨#[102, 117, 110, 99, 40]⟩]) (.int .i64 1)).run Tryd.prog w = .ok (.string ⟨#[91, 93]⟩) w := by kernel_rfl
theorem ix47_2 (w : World) : (Instr.index 47 (.agg #[.string ⟨#[42]⟩, .string ⟨#[91, 93]⟩, .string ⟨#[99, 104, 97, 110, 32]⟩, .string ⟨#[102, 117, 110, 99, 40]⟩]) (.int .i64 2)).run Tryd.prog w = .ok (.string ⟨#[99, 104, 97, 110, 32]⟩) w := by kernel_rfl
theorem ix47_3 (w : World) : (Instr.index 47 (.agg #[.string ⟨#[42]⟩, .string ⟨#[91, 93]⟩, .string ⟨#[99, 104, 97, 110, 32]⟩, .string ⟨#[102, 117, 110, 99, 40]⟩]) (.int .i64 3)).run Tryd.prog w = .ok (.string ⟨#[102, 117, 110, 99, 40]⟩) w := by kernel_rfl
set_option maxRecDepth 100000 in
set_option maxHeartbeats 400000 in
theorem nilable_P (s : ByteArray) (w : World) (hv : Vars w) (hs : s.size ≤ 1000000) (hP : [42].isPrefixOf s.toList = true) :
    Calls Tryd.prog 16 #[.string s] w fun e w' => e = .returned (.bool (vd s.toList)) ∧ Below w.heap.size w w' := by
  have HP := hide (hasP [42] s w true hP)
  have HV := hide (valid_any s w hv hs)
  clear hv hP
  have x0 := ix47_0
  have x1 := ix47_1
  have x2 := ix47_2
  have x3 := ix47_3
  go_enter Tryd.func16, Tryd.ntmps16
  go_wp2_with fail
  refine wp_loop_rounds 1 ?_
  rw [rounds_succ]
  go_wp2_with fail
  refine (unhide HP).mono ?_
  rintro e w1 ⟨rfl, rfl⟩
  go_wp2_with fail
  refine (unhide HV).mono ?_
  rintro e w2 ⟨rfl, hb2⟩
  have HB := hide hb2
  clear hb2
  go_wp2_with fail
  go_ret
  exact ⟨rfl, unhide HB⟩
set_option maxRecDepth 100000 in
set_option maxHeartbeats 400000 in
theorem nilable_L (s : ByteArray) (w : World) (hv : Vars w) (hs : s.size ≤ 1000000) (hP : [42].isPrefixOf s.toList = false) (hL : [91, 93].isPrefixOf s.toList = true) :
    Calls Tryd.prog 16 #[.string s] w fun e w' => e = .returned (.bool (vd s.toList)) ∧ Below w.heap.size w w' := by
  have HP := hide (hasP [42] s w false hP)
  have HL := hide (hasP [91, 93] s w true hL)
  have HV := hide (valid_any s w hv hs)
  clear hv hP hL
  have x0 := ix47_0
  have x1 := ix47_1
  have x2 := ix47_2
  have x3 := ix47_3
  go_enter Tryd.func16, Tryd.ntmps16
  go_wp2_with fail
  refine wp_loop_rounds 2 ?_
  rw [rounds_succ]
  go_wp2_with fail
  refine (unhide HP).mono ?_
  rintro e w1 ⟨rfl, rfl⟩
  go_wp2_with fail
  rw [rounds_succ]
  go_wp2_with fail
  refine (unhide HL).mono ?_
  rintro e w1 ⟨rfl, rfl⟩
  go_wp2_with fail
  refine (unhide HV).mono ?_
  rintro e w2 ⟨rfl, hb2⟩
  have HB := hide hb2
  clear hb2
  go_wp2_with fail
  go_ret
  exact ⟨rfl, unhide HB⟩
set_option maxRecDepth 100000 in
set_option maxHeartbeats 400000 in
theorem nilable_C (s : ByteArray) (w : World) (hv : Vars w) (hs : s.size ≤ 1000000) (hP : [42].isPrefixOf s.toList = false) (hL : [91, 93].isPrefixOf s.toList = false) (hC : [99, 104, 97, 110, 32].isPrefixOf s.toList = true) :
    Calls Tryd.prog 16 #[.string s] w fun e w' => e = .returned (.bool (vd s.toList)) ∧ Below w.heap.size w w' := by
  have HP := hide (hasP [42] s w false hP)
  have HL := hide (hasP [91, 93] s w false hL)
  have HC := hide (hasP [99, 104, 97, 110, 32] s w true hC)
  have HV := hide (valid_any s w hv hs)
  clear hv hP hL hC
  have x0 := ix47_0
  have x1 := ix47_1
  have x2 := ix47_2
  have x3 := ix47_3
  go_enter Tryd.func16, Tryd.ntmps16
  go_wp2_with fail
  refine wp_loop_rounds 3 ?_
  rw [rounds_succ]
  go_wp2_with fail
  refine (unhide HP).mono ?_
  rintro e w1 ⟨rfl, rfl⟩
  go_wp2_with fail
  rw [rounds_succ]
  go_wp2_with fail
  refine (unhide HL).mono ?_
  rintro e w1 ⟨rfl, rfl⟩
  go_wp2_with fail
  rw [rounds_succ]
  go_wp2_with fail
  refine (unhide HC).mono ?_
  rintro e w1 ⟨rfl, rfl⟩
  go_wp2_with fail
  refine (unhide HV).mono ?_
  rintro e w2 ⟨rfl, hb2⟩
  have HB := hide hb2
  clear hb2
  go_wp2_with fail
  go_ret
  exact ⟨rfl, unhide HB⟩
set_option maxRecDepth 100000 in
set_option maxHeartbeats 400000 in
theorem nilable_F (s : ByteArray) (w : World) (hv : Vars w) (hs : s.size ≤ 1000000) (hP : [42].isPrefixOf s.toList = false) (hL : [91, 93].isPrefixOf s.toList = false) (hC : [99, 104, 97, 110, 32].isPrefixOf s.toList = false) (hF : [102, 117, 110, 99, 40].isPrefixOf s.toList = true) :
    Calls Tryd.prog 16 #[.string s] w fun e w' => e = .returned (.bool (vd s.toList)) ∧ Below w.heap.size w w' := by
  have HP := hide (hasP [42] s w false hP)
  have HL := hide (hasP [91, 93] s w false hL)
  have HC := hide (hasP [99, 104, 97, 110, 32] s w false hC)
  have HF := hide (hasP [102, 117, 110, 99, 40] s w true hF)
  have HV := hide (valid_any s w hv hs)
  clear hv hP hL hC hF
  have x0 := ix47_0
  have x1 := ix47_1
  have x2 := ix47_2
  have x3 := ix47_3
  go_enter Tryd.func16, Tryd.ntmps16
  go_wp2_with fail
  refine wp_loop_rounds 4 ?_
  rw [rounds_succ]
  go_wp2_with fail
  refine (unhide HP).mono ?_
  rintro e w1 ⟨rfl, rfl⟩
  go_wp2_with fail
  rw [rounds_succ]
  go_wp2_with fail
  refine (unhide HL).mono ?_
  rintro e w1 ⟨rfl, rfl⟩
  go_wp2_with fail
  rw [rounds_succ]
  go_wp2_with fail
  refine (unhide HC).mono ?_
  rintro e w1 ⟨rfl, rfl⟩
  go_wp2_with fail
  rw [rounds_succ]
  go_wp2_with fail
  refine (unhide HF).mono ?_
  rintro e w1 ⟨rfl, rfl⟩
  go_wp2_with fail
  refine (unhide HV).mono ?_
  rintro e w2 ⟨rfl, hb2⟩
  have HB := hide hb2
  clear hb2
  go_wp2_with fail
  go_ret
  exact ⟨rfl, unhide HB⟩
set_option maxRecDepth 100000 in
set_option maxHeartbeats 400000 in
theorem nilable_N (s : ByteArray) (w : World) (hP : [42].isPrefixOf s.toList = false) (hL : [91, 93].isPrefixOf s.toList = false) (hC : [99, 104, 97, 110, 32].isPrefixOf s.toList = false) (hF : [102, 117, 110, 99, 40].isPrefixOf s.toList = false) :
    Calls Tryd.prog 16 #[.string s] w fun e w' => e = .returned (.bool false) ∧ Below w.heap.size w w' := by
  have HP := hide (hasP [42] s w false hP)
  have HL := hide (hasP [91, 93] s w false hL)
  have HC := hide (hasP [99, 104, 97, 110, 32] s w false hC)
  have HF := hide (hasP [102, 117, 110, 99, 40] s w false hF)
  clear hP hL hC hF
  have x0 := ix47_0
  have x1 := ix47_1
  have x2 := ix47_2
  have x3 := ix47_3
  go_enter Tryd.func16, Tryd.ntmps16
  go_wp2_with fail
  refine wp_loop_rounds 5 ?_
  rw [rounds_succ]
  go_wp2_with fail
  refine (unhide HP).mono ?_
  rintro e w1 ⟨rfl, rfl⟩
  go_wp2_with fail
  rw [rounds_succ]
  go_wp2_with fail
  refine (unhide HL).mono ?_
  rintro e w1 ⟨rfl, rfl⟩
  go_wp2_with fail
  rw [rounds_succ]
  go_wp2_with fail
  refine (unhide HC).mono ?_
  rintro e w1 ⟨rfl, rfl⟩
  go_wp2_with fail
  rw [rounds_succ]
  go_wp2_with fail
  refine (unhide HF).mono ?_
  rintro e w1 ⟨rfl, rfl⟩
  go_wp2_with fail
  rw [rounds_succ]
  go_wp2_with fail
  go_ret
  exact ⟨rfl, Below.refl _ _⟩
theorem nilable_any (s : ByteArray) (w : World) (hv : Vars w) (hs : s.size ≤ 1000000) :
    Calls Tryd.prog 16 #[.string s] w fun e w' => e = .returned (.bool (nilF s.toList)) ∧ Below w.heap.size w w' := by
  have e0 : nilF s.toList = (([42].isPrefixOf s.toList || [91, 93].isPrefixOf s.toList || [99, 104, 97, 110, 32].isPrefixOf s.toList || [102, 117, 110, 99, 40].isPrefixOf s.toList) && vd s.toList) := rfl
  cases hP : ([42] : List UInt8).isPrefixOf s.toList with
  | true =>
    have e : nilF s.toList = vd s.toList := by rw [e0, hP]; simp
    rw [e]; exact nilable_P s w hv hs hP
  | false =>
  cases hL : ([91, 93] : List UInt8).isPrefixOf s.toList with
  | true =>
    have e : nilF s.toList = vd s.toList := by rw [e0, hP, hL]; simp
    rw [e]; exact nilable_L s w hv hs hP hL
  | false =>
  cases hC : ([99, 104, 97, 110, 32] : List UInt8).isPrefixOf s.toList with
  | true =>
    have e : nilF s.toList = vd s.toList := by rw [e0, hP, hL, hC]; simp
    rw [e]; exact nilable_C s w hv hs hP hL hC
  | false =>
  cases hF : ([102, 117, 110, 99, 40] : List UInt8).isPrefixOf s.toList with
  | true =>
    have e : nilF s.toList = vd s.toList := by rw [e0, hP, hL, hC, hF]; simp
    rw [e]; exact nilable_F s w hv hs hP hL hC hF
  | false =>
    have e : nilF s.toList = false := by rw [e0, hP, hL, hC, hF]; simp
    rw [e]; exact nilable_N s w hP hL hC hF
def refF (l : List UInt8) : Bool := (l == tS) || nilF l
theorem reference_any (s : ByteArray) (w : World) (hv : Vars w) (hs : s.size ≤ 1000000) :
    Calls Tryd.prog 18 #[.string s] w fun e w' => e = .returned (.bool (refF s.toList)) ∧ Below w.heap.size w w' := by
  have HN := hide (nilable_any s w hv hs)
  clear hv
  cases hb : (s.toList == [115, 116, 114, 105, 110, 103]) with
  | true =>
    have HE : Hid (refF s.toList = true) := by
      show refF s.toList = true
      unfold refF; rw [show (s.toList == tS) = true from hb]; rfl
    go_enter Tryd.func18, Tryd.ntmps18
    go_wp2_with fail
    go_ret
    exact ⟨ret_bool (unhide HE).symm, Below.refl _ _⟩
  | false =>
    have HE : Hid (refF s.toList = nilF s.toList) := by
      show refF s.toList = nilF s.toList
      unfold refF; rw [show (s.toList == tS) = false from hb]; rfl
    go_enter Tryd.func18, Tryd.ntmps18
    go_wp2_with fail
    refine (unhide HN).mono ?_
    rintro e w2 ⟨rfl, hb2⟩
    have HB := hide hb2
    clear hb2
    go_wp2_with fail
    go_ret
    exact ⟨ret_bool (unhide HE).symm, unhide HB⟩
def ordF (l : List UInt8) : Bool := (l == tI) || (l == tS)
theorem ordered_any (s : ByteArray) (w : World) :
    Calls Tryd.prog 19 #[.string s] w fun e w' => e = .returned (.bool (ordF s.toList)) ∧ w' = w := by
  have HE : Hid (ordF s.toList = ((s.toList == [105, 110, 116]) || (s.toList == [115, 116, 114, 105, 110, 103]))) := rfl
  cases h1 : (s.toList == [105, 110, 116]) with
  | true =>
    rw [h1] at HE
    go_enter Tryd.func19, Tryd.ntmps19
    go_wp2_with fail
    go_ret
    exact ⟨ret_bool (unhide HE).symm, rfl⟩
  | false =>
    rw [h1] at HE
    go_enter Tryd.func19, Tryd.ntmps19
    go_wp2_with fail
    go_ret
    exact ⟨ret_bool (unhide HE).symm, rfl⟩
end Go.Proofs.YtpmpjbnnjdpbnaaDoor
