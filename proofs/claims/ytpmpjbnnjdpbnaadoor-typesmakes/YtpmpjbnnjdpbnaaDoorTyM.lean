/- The law TypesMakes, plainly. -/
import Derived.Test.YtpmpjbnnjdpbnaaDoorTyLW
namespace Go.Proofs.YtpmpjbnnjdpbnaaDoor
open Go.RowKit Go.Proofs.YtpmpjbnnjdpbnaaDoor.Lx

theorem mk_elL (t : List UInt8) : elF (tL ++ t) = if vd t = true then some t else none := by
  unfold elF; rw [cut_app]
theorem mk_elC (t : List UInt8) : elF (tC ++ t) = if vd t = true then some t else none := by
  unfold elF; rw [cutx (p := tL) (q := tC) _ (by decide) (by decide) (by decide), cut_app]
theorem mk_fn (t u : List UInt8) (ht : vd t = true) (hu : vd u = true) : fnF (tF ++ t ++ [44] ++ u ++ [41] ++ t) = some ([t, u], t) := by
  have e : tF ++ t ++ [44] ++ u ++ [41] ++ t = tF ++ (joinC [t, u] ++ 41 :: t) := by simp [joinC]
  have ht' := (vd_ty _).1 ht
  have hu' := (vd_ty _).1 hu
  have hx : ∀ x ∈ [t, u], Ty 0 x [] := by
    intro x hx
    rcases List.mem_cons.1 hx with rfl | hx
    · exact ht'
    · rw [List.mem_singleton.1 hx]; exact hu'
  have hv : vd (tF ++ (joinC [t, u] ++ 41 :: t)) = true := (vd_ty _).2 (ty_fn _ _ hx (.inr ht'))
  unfold fnF
  rw [e, cut_app]
  simp only [hv, if_true]
  rw [spl_fn _ _ hx]
def okc (c : UInt8) : Bool := (decide (65 ≤ c.toNat) && decide (c.toNat ≤ 90)) || decide (c.toNat = 95)
theorem okc_nam {c : UInt8} (h : okc c = true) : isLet c = true ∧ isNam c = true := by
  have : isLet c = true := by
    simp [okc] at h
    simp [isLet, letZ]
    omega
  exact ⟨this, by simp [isNam, this]⟩
theorem words_low : wordList.all (fun x => match x with | [] => false | c :: _ => decide (97 ≤ c.toNat)) = true := by decide
theorem plain_nm (l : List UInt8) (h1 : 1 ≤ l.length) (h24 : l.length ≤ 24) (ha : l.all okc = true) : isNm l = true := by
  cases l with
  | nil => simp at h1
  | cons c q =>
    have hall := List.all_eq_true.1 ha
    have hc := hall c (List.mem_cons_self ..)
    have hw : isWd (c :: q) = false := by
      cases hw : isWd (c :: q) with
      | false => rfl
      | true =>
        have hm : (c :: q) ∈ wordList := by simpa [isWd] using hw
        have := List.all_eq_true.1 words_low _ hm
        simp only [decide_eq_true_eq] at this
        simp [okc] at hc
        omega
    have hn : (c :: q).all isNam = true := List.all_eq_true.2 (fun x hx => (okc_nam (hall x hx)).2)
    simp only [isNm, (okc_nam hc).1, hn, hw, decide_eq_true h24]
    rfl
theorem plain_vd (l : List UInt8) (h : isNm l = true) : vd (tP ++ l) = true := by
  apply (vd_ty _).2
  have e := twCC notCC l [] (fun c hc => nam_notCC (isNm_all h c hc)) (fun c hc => by cases hc)
  rw [List.append_nil] at e
  have e1 : nm l = l := e.1
  have e2 : nmR l = [] := e.2
  rw [← e2]
  exact .ptr (hdP l) (by rw [e1]; exact h)
theorem plain_nil (l : List UInt8) (h : isNm l = true) : nilF (tP ++ l) = true := by
  unfold nilF nilB
  rw [plain_vd l h]
  have : tP.isPrefixOf (tP ++ l) = true := List.isPrefixOf_iff_prefix.2 (List.prefix_append _ _)
  rw [this]; simp
theorem plain_eq (l : List UInt8) (h : isNm l = true) : eqF (tP ++ l) (tP ++ l) = true := by
  have n1 : ((tP ++ l) == tN) = false := by rw [beq_eq_false_iff_ne]; intro e; simp [tP, tN] at e
  have n2 : tL.isPrefixOf (tP ++ l) = false := cut_npre (cutx (p := tL) (q := tP) l (by decide) (by decide) (by decide))
  have n3 : tF.isPrefixOf (tP ++ l) = false := cut_npre (cutx (p := tF) (q := tP) l (by decide) (by decide) (by decide))
  unfold eqF eqsF
  rw [n1, n2, n3, plain_vd l h]
  simp
theorem take_okc (s : ByteArray) (i : Nat) (h : i < s.size) : (s.toList.take (i + 1)).all okc = ((s.toList.take i).all okc && okc s[i]) := by
  rw [List.take_add_one, toL_get s i h]
  simp
end Go.Proofs.YtpmpjbnnjdpbnaaDoor
