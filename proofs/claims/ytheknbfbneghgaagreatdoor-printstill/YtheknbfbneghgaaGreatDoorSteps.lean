import Derived.Test.YtheknbfbneghgaaGreatDoorText
import Derived.Test.YtheknbfbneghgaaGreatDoorLexP
set_option maxRecDepth 100000
namespace Go.Proofs.YtheknbfbneghgaaGreatDoor
open Go.RowKit Lx
def StepPost (b : Nat) (s : ByteArray) (w : World) (r : Sum Nat (Nat × List Tok)) (ev : Ending) (w' : World) : Prop :=
 match r with
 | .inl p => ev = .returned (.iface 57 (.agg #[.int .i64 (p : Int)])) ∧ Below b w w'
 | .inr q => ev = .returned .nilIface ∧ ∃ sv', St w' b s q.1 sv' q.2 ∧ Below b w w'
theorem step_inl {b p : Nat} {s : ByteArray} {w w' : World} {r : Sum Nat (Nat × List Tok)} (h : r = .inl p) (hb : Below b w w') : StepPost b s w r (.returned (.iface 57 (.agg #[.int .i64 (p : Int)]))) w' := by
 subst h; exact ⟨rfl, hb⟩
theorem step_inr {b k : Nat} {s : ByteArray} {w w' : World} {ts : List Tok} {r : Sum Nat (Nat × List Tok)} (h : r = .inr (k, ts)) (sv' : Value) (hst : St w' b s k sv' ts) (hb : Below b w w') : StepPost b s w r (.returned .nilIface) w' := by
 subst h; exact ⟨rfl, sv', hst, hb⟩
theorem endL_eq (ts : List Tok) (k : Int) : endL ts k = endT ts k := rfl
theorem yf (b : Nat) (w : World) (n : Nat) : Below b w (w.drewN n) := below_drewN (Below.refl b w) n
theorem name_step (b k : Nat) (s : ByteArray) (sv : Value) (ts : List Tok) (w : World) (h : St w b s k sv ts) (hn : ts.length ≤ 100000) (hs : s.size ≤ 8192) (hk : k < s.size) :
 Calls Tryz.prog 47 #[.pointer (some ⟨b, 0, none⟩)] w (StepPost b s w (nameF s.toList k ts)) := by
 by_cases hl : 24 < yL isNam s.toList k - k
 ·refine (name_long b k s w hs om (zv h.blk 0) (zv h.blk 1) hl).mono ?_
  rintro e w' ⟨rfl, rfl⟩
  exact step_inl (if_pos hl) (Below.refl _ _)
 ·refine (name_ok b k s sv ts w h hn hs om om).mono ?_
  rintro e w' ⟨rfl, sv', hst, hb⟩
  exact step_inr (if_neg hl) sv' hst hb
theorem mark_step (b k : Nat) (s : ByteArray) (sv : Value) (ts : List Tok) (w : World) (h : St w b s k sv ts) (hn : ts.length ≤ 100000) (hs : s.size ≤ 8192) (hk : k < s.size) (hg : ∀ i, i < 128 → w.cell? ⟨1, i, none⟩ = some (.int .i8 (mTab i))) :
 Calls Tryz.prog 51 #[.pointer (some ⟨b, 0, none⟩)] w (StepPost b s w (markF s.toList k ts)) := by
 by_cases hm : mLen (s.toList.drop k) = 0
 ·refine (mark_no b k s w hs hk (zv h.blk 0) (zv h.blk 1) hg hm).mono ?_
  rintro e w' ⟨rfl, n, rfl⟩
  exact step_inl (if_pos hm) (yf _ _ _)
 ·refine (mark_ok b k _ s sv ts w h hn hs hk hg rfl om).mono ?_
  rintro e w' ⟨rfl, sv', hst, hb⟩
  exact step_inr (if_neg hm) sv' hst hb
theorem text_step (b k : Nat) (s : ByteArray) (sv : Value) (ts : List Tok) (w : World) (h : St w b s k sv ts) (hn : ts.length ≤ 100000) (hs : s.size ≤ 8192) (hk : k < s.size) :
 Calls Tryz.prog 50 #[.pointer (some ⟨b, 0, none⟩)] w (StepPost b s w (textF s.toList k ts)) := by
 refine (text_any b k s sv ts w h hn hs hk).mono ?_
 intro e w' hp
 have hlt := blk_lt h.blk
 unfold TxtPost at hp
 unfold textF
 rcases hx : txt (s.toList.drop (k + 1)) with ⟨o, n⟩
 rw [hx] at hp
 cases o with
 | none =>
   obtain ⟨rfl, hb⟩ := hp
   exact step_inl rfl (hb.mono (Nat.le_of_lt hlt))
 | some m =>
   change (if _ then _ else _) at hp
   show StepPost b s w (if _ then _ else _) e w'
   by_cases hm : 256 < m.length
   ·rw [if_pos hm] at hp ⊢
    obtain ⟨rfl, hb⟩ := hp
    exact step_inl rfl (hb.mono (Nat.le_of_lt hlt))
   ·rw [if_neg hm] at hp ⊢
    obtain ⟨rfl, sv', hst, hb⟩ := hp
    exact step_inr rfl sv' hst hb
theorem head_ext (s : ByteArray) (a b : Nat) (h0 : 0 < (s.extract a b).size) : (sub s.toList a b).head? = some (s.extract a b)[0] := by
 rw [← ext_toL, List.head?_eq_getElem?]
 exact toL_get _ 0 h0
theorem letAt_lt (s : ByteArray) (E : Nat) (h : E < s.size) : letAt s.toList E = isLet s[E] := by unfold letAt; rw [toL_get s E h]
theorem letAt_ge (s : ByteArray) (E : Nat) (h : s.size ≤ E) : letAt s.toList E = false := by unfold letAt; rw [List.getElem?_eq_none (by rw [yx]; exact h)]
theorem number_step (b k : Nat) (s : ByteArray) (sv : Value) (ts : List Tok) (w : World) (h : St w b s k sv ts) (hn : ts.length ≤ 100000) (hs : s.size ≤ 8192) (hk : k < s.size) (hd : isDig s[k] = true) :
 Calls Tryz.prog 49 #[.pointer (some ⟨b, 0, none⟩)] w (StepPost b s w (numF s.toList k ts)) := by
 have h1 : k < yL isDig s.toList k := by
  have := toL_step isDig s k hk hd
  have h2 := re_ge isDig s.toList (k + 1)
  omega
 have h2 := run_le isDig s k om
 unfold numF
 obtain ⟨E, hE⟩ : ∃ E, yL isDig s.toList k = E := ⟨_, rfl⟩
 rw [hE] at h1 h2 ⊢
 have hlen := sub_len s k E h2
 have h0 : 0 < (s.extract k E).size := by rw [ext_size s k E h2]; omega
 have hh := head_ext s k E h0
 by_cases c1 : 18 < E - k
 ·refine (number_long b k E s w hs (zv h.blk 0) (zv h.blk 1) hE h1 h2 c1).mono ?_
  rintro e w' ⟨rfl, n, rfl⟩
  exact step_inl (if_pos (by simp [numBad, hlen, c1])) (yf _ _ _)
 ·by_cases c2 : 1 < E - k
  ·by_cases c3 : ((s.extract k E)[0].toNat : Int) = 48
   ·refine (number_zero b k E s w hs (zv h.blk 0) (zv h.blk 1) hE c2 h2 om h0 (beq_iff_eq.2 c3)).mono ?_
    rintro e w' ⟨rfl, n, rfl⟩
    exact step_inl (if_pos (by rw [byte_of (n := 48) c3] at hh; simp [numBad, hlen, c2, hh])) (yf _ _ _)
   ·have nb : ¬ numBad (sub s.toList k E) = true := by
     have : ¬ (s.extract k E)[0] = 48 := fun e => c3 (by rw [e]; rfl)
     simp [numBad, hlen, hh, c1, this]
    by_cases hlt : E < s.size
    ·by_cases hl : isLet s[E] = true
     ·refine (number_let_more b k E s w hs (zv h.blk 0) (zv h.blk 1) hE h2 c2 om h0 (beq_eq_false_iff_ne.2 c3) hlt hl).mono ?_
      rintro e w' ⟨rfl, n, rfl⟩
      exact step_inl (by rw [if_neg nb, if_pos (by rw [letAt_lt s E hlt]; exact hl)]) (yf _ _ _)
     ·refine (number_ok_more_in b k E s sv ts w hs h hn hE h2 c2 om h0 (beq_eq_false_iff_ne.2 c3) hlt (by simpa using hl)).mono ?_
      rintro e w' ⟨rfl, sv', hst, hb⟩
      exact step_inr (by rw [if_neg nb, if_neg (by rw [letAt_lt s E hlt]; exact hl)]) sv' hst hb
    ·refine (number_ok_more_end b k E s sv ts w hs h hn hE h2 c2 om h0 (beq_eq_false_iff_ne.2 c3) hlt).mono ?_
     rintro e w' ⟨rfl, sv', hst, hb⟩
     exact step_inr (by rw [if_neg nb, if_neg (by rw [letAt_ge s E om]; simp)]) sv' hst hb
  ·have nb : ¬ numBad (sub s.toList k E) = true := by simp [numBad, hlen, c1, c2]
   by_cases hlt : E < s.size
   ·by_cases hl : isLet s[E] = true
    ·refine (number_let_one b k E s w hs (zv h.blk 0) (zv h.blk 1) hE h2 om hlt hl).mono ?_
     rintro e w' ⟨rfl, n, rfl⟩
     exact step_inl (by rw [if_neg nb, if_pos (by rw [letAt_lt s E hlt]; exact hl)]) (yf _ _ _)
    ·refine (number_ok_one_in b k E s sv ts w hs h hn hE h2 om h1 hlt (by simpa using hl)).mono ?_
     rintro e w' ⟨rfl, sv', hst, hb⟩
     exact step_inr (by rw [if_neg nb, if_neg (by rw [letAt_lt s E hlt]; exact hl)]) sv' hst hb
   ·refine (number_ok_one_end b k E s sv ts w hs h hn hE h2 om h1 hlt).mono ?_
    rintro e w' ⟨rfl, sv', hst, hb⟩
    exact step_inr (by rw [if_neg nb, if_neg (by rw [letAt_ge s E om]; simp)]) sv' hst hb
end Go.Proofs.YtheknbfbneghgaaGreatDoor
