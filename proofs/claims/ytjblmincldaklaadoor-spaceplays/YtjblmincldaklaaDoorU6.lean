/- A step of both, whatever it is. -/
import Derived.Test.YtjblmincldaklaaDoorU5a
import Derived.Test.YtjblmincldaklaaDoorU5b
import Derived.Test.YtjblmincldaklaaDoorU5c
import Derived.Test.YtjblmincldaklaaDoorU5d
import Derived.Test.YtjblmincldaklaaDoorV1
import Derived.Test.YtjblmincldaklaaDoorOo
namespace Go.Proofs.YtjblmincldaklaaDoor
open Go.RowKit Go.Proofs.YtjblmincldaklaaDoor.Hp
theorem step_2 {w0 w : World} {B : HB} {p pt pb base N c : Nat} (h : DuoP w0 w B p pt pb base N c) (hc : c ≤ 100) (o1 o2 o3 o4 o5 o6 : Int) (hz4 : -9223372036854775808 ≤ o4 ∧ o4 < 9223372036854775808) (hz6 : -9223372036854775808 ≤ o6 ∧ o6 < 9223372036854775808) :
    Calls Tryd.prog 10 #[.pointer (some ⟨p, 0, none⟩), .pointer (some ⟨pt, 0, none⟩), .agg #[.int .i64 2, .int .i64 o1, .int .i64 o2, .int .i64 o3, .int .i64 o4, .int .i64 o5, .int .i64 o6]] w fun e w' => e = .returned (.bool true) ∧ DuoP w0 w' B p pt pb base N (c + 1) := by
  obtain ⟨A, wd, hv, held, cnt, L, lv, T, tv, al, av, dv, h1, h2, h3, h4, h5, h6, h7, h8⟩ := h
  by_cases hbl : ∃ (t : Nat) (b : Tb), T[t]? = some b ∧ (b.at_ : Int) = nthI al o4
  · obtain ⟨t, b, ht, hbx⟩ := hbl
    by_cases h50 : o5 < 0
    · exact step_2b h1 h2 h3 h4 h5 h6 h7 h8 hc o1 o2 o3 o4 o5 o6 hz4 hz6 ht hbx h50
    · by_cases h5s : o5 < b.sz
      · exact step_2a h1 h2 h3 h4 h5 h6 h7 h8 hc o1 o2 o3 o4 o5 o6 hz4 hz6 ht hbx (by omega) h5s
      · exact step_2c h1 h2 h3 h4 h5 h6 h7 h8 hc o1 o2 o3 o4 o5 o6 hz4 hz6 ht hbx (by omega) (by omega)
  · exact step_2d h1 h2 h3 h4 h5 h6 h7 h8 hc o1 o2 o3 o4 o5 o6 hz4 hz6 fun b hb e => by
      obtain ⟨t, ht⟩ := List.getElem?_of_mem hb
      exact hbl ⟨t, b, ht, e⟩
def aggO (o : Ox) : Value := .agg #[.int .i64 o.o0, .int .i64 o.o1, .int .i64 o.o2, .int .i64 o.o3, .int .i64 o.o4, .int .i64 o.o5, .int .i64 o.o6]
theorem step_all {w0 w : World} {B : HB} {p pt pb base N c : Nat} (h : DuoP w0 w B p pt pb base N c) (hN1 : 2 ≤ N) (hN : N ≤ 16) (hc : c ≤ 100) (o : Ox) (hR : OxR o) :
    Calls Tryd.prog 10 #[.pointer (some ⟨p, 0, none⟩), .pointer (some ⟨pt, 0, none⟩), aggO o] w fun e w' => e = .returned (.bool true) ∧ DuoP w0 w' B p pt pb base N (c + 1) := by
  obtain ⟨o0, o1, o2, o3, o4, o5, o6⟩ := o
  obtain ⟨r4, r6⟩ := hR
  unfold aggO
  simp only [] at r4 r6 ⊢
  by_cases e1 : o0 = 1
  · subst e1; exact step_1 h hN1 hN hc o1 o2 o3 o4 o5 o6
  by_cases e2 : o0 = 2
  · subst e2; exact step_2 h hc o1 o2 o3 o4 o5 o6 r4 r6
  by_cases e3 : o0 = 3
  · subst e3; exact step_3 h hc o1 o2 o3 o4 o5 o6 r4
  by_cases e4 : o0 = 4
  · subst e4; exact step_4 h hc o1 o2 o3 o4 o5 o6 r4
  by_cases e5 : o0 = 5
  · subst e5; exact step_5 h hN hc o1 o2 o3 o4 o5 o6
  exact step_0 h o0 o1 o2 o3 o4 o5 o6 e1 e2 e3 e4 e5
end Go.Proofs.YtjblmincldaklaaDoor
