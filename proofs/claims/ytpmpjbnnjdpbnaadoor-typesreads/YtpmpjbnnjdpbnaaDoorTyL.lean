/- The law TypesLong, plainly. -/
import Derived.Test.YtpmpjbnnjdpbnaaDoorTy9
namespace Go.Proofs.YtpmpjbnnjdpbnaaDoor
open Go.RowKit Go.Proofs.YtpmpjbnnjdpbnaaDoor.Lx

/-- The type with so many prefixes. -/
def pre : Nat → List UInt8
  | 0 => tI
  | k + 1 => (if k % 2 = 0 then tL else tC) ++ pre k
theorem pre_ty (q : List UInt8) : ∀ k, Ty 0 (pre k ++ q) q
  | 0 => .base (hdI q)
  | k + 1 => by
    unfold pre
    rw [List.append_assoc]
    split
    · exact .wrap (hdL _) (pre_ty q k)
    · exact .wrap (hdC _) (pre_ty q k)
theorem pre_ty0 (k : Nat) : Ty 0 (pre k) [] := by have := pre_ty [] k; simpa using this
theorem pre_vd (k : Nat) : vd (pre k) = true := (vd_ty _).2 (pre_ty0 k)
theorem pre_sp (k : Nat) : vd (pre k ++ [32]) = false := by
  cases h : vd (pre k ++ [32]) with
  | false => rfl
  | true =>
    have := ty_det ((vd_ty _).1 h) _ (pre_ty [32] k)
    cases this
theorem pre_len : ∀ k, (pre k).length ≤ 3 + 5 * k
  | 0 => by simp [pre, tI]
  | k + 1 => by
    have := pre_len k
    unfold pre
    rw [List.length_append]
    split <;> simp [tL, tC] <;> omega
theorem pre_el (k : Nat) : elF (pre (k + 1)) = some (pre k) := by
  have e : pre (k + 1) = (if k % 2 = 0 then tL else tC) ++ pre k := rfl
  rw [e]
  by_cases h : k % 2 = 0
  · rw [if_pos h]
    unfold elF
    rw [cut_app]; simp only [pre_vd, if_true]
  · rw [if_neg h]
    unfold elF
    rw [cutx (p := tL) (q := tC) _ (by decide) (by decide) (by decide), cut_app]; simp only [pre_vd, if_true]
theorem pre_nil (k : Nat) : nilF (pre (k + 1)) = true := by
  unfold nilF nilB
  rw [pre_vd, Bool.and_true]
  unfold pre
  split
  · have : tL.isPrefixOf (tL ++ pre k) = true := List.isPrefixOf_iff_prefix.2 (List.prefix_append _ _)
    rw [this]; simp
  · have : tC.isPrefixOf (tC ++ pre k) = true := List.isPrefixOf_iff_prefix.2 (List.prefix_append _ _)
    rw [this]; simp
/-- So many of a text, with commas between, as the loop lays them. -/
def many (t : List UInt8) : Nat → List UInt8
  | 0 => tF
  | k + 1 => many t k ++ (if 0 < k then [44] else []) ++ t
theorem join_rep (t : List UInt8) : ∀ k, joinC (List.replicate (k + 2) t) = joinC (List.replicate (k + 1) t) ++ 44 :: t
  | 0 => rfl
  | k + 1 => by
    show t ++ 44 :: joinC (List.replicate (k + 2) t) = (t ++ 44 :: joinC (List.replicate (k + 1) t)) ++ 44 :: t
    rw [join_rep t k]; simp
theorem many_join (t : List UInt8) : ∀ k, many t k = tF ++ joinC (List.replicate k t)
  | 0 => by simp [many, joinC]
  | 1 => by simp [many, joinC]
  | k + 2 => by
    unfold many
    rw [many_join t (k + 1), if_pos (by omega), join_rep]
    simp
theorem many_len (t : List UInt8) : ∀ k, (many t k).length ≤ 5 + k * (t.length + 1)
  | 0 => by simp [many, tF]
  | k + 1 => by
    have := many_len t k
    unfold many
    rw [List.length_append, List.length_append, Nat.succ_mul]
    split <;> simp <;> omega
theorem long_fn (k m : Nat) : fnF (many (pre k) m ++ [41] ++ pre k) = some (List.replicate m (pre k), pre k) := by
  have e : many (pre k) m ++ [41] ++ pre k = tF ++ (joinC (List.replicate m (pre k)) ++ 41 :: pre k) := by
    rw [many_join]; simp
  have hx : ∀ x ∈ List.replicate m (pre k), Ty 0 x [] := fun x hx => by rw [(List.mem_replicate.1 hx).2]; exact pre_ty0 k
  have hv : vd (tF ++ (joinC (List.replicate m (pre k)) ++ 41 :: pre k)) = true := (vd_ty _).2 (ty_fn _ _ hx (.inr (pre_ty0 k)))
  unfold fnF
  rw [e, cut_app]
  simp only [hv, if_true]
  rw [spl_fn _ _ hx]
end Go.Proofs.YtpmpjbnnjdpbnaaDoor
