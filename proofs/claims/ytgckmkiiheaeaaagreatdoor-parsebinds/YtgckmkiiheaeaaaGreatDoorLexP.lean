import Derived.Test.YtgckmkiiheaeaaaGreatDoorDeepP
namespace Go.Proofs.YtgckmkiiheaeaaaGreatDoor.Lx
def allP (ts : List Tok) (n : Nat) : List Tok := endT ts n ++ [⟨6, [], 0, n⟩]
def lexR (l : List UInt8) : List Tok × Int × Int :=
 if 8192 < l.length then ([], 1, 8192)
 else match scanAll l 0 [] with
  | .inl p => ([], 2, (p : Int))
  | .inr ts =>
    match deepF 0 (allP ts l.length) with
    | some a => ([], 3, a)
    | none => (allP ts l.length, 0, 0)
theorem lexR_big (l : List UInt8) (h : 8192 < l.length) : lexR l = ([], 1, 8192) := if_pos h
theorem lexR_bad (l : List UInt8) (h : l.length ≤ 8192) (p : Nat) (hs : scanAll l 0 [] = .inl p) : lexR l = ([], 2, (p : Int)) := by
 unfold lexR; rw [if_neg (by omega), hs]
theorem lexR_deep (l : List UInt8) (h : l.length ≤ 8192) (ts : List Tok) (hs : scanAll l 0 [] = .inr ts) (a : Int) (hd : deepF 0 (allP ts l.length) = some a) : lexR l = ([], 3, a) := by
 unfold lexR; rw [if_neg (by omega), hs]; simp only [hd]
theorem lexR_ok (l : List UInt8) (h : l.length ≤ 8192) (ts : List Tok) (hs : scanAll l 0 [] = .inr ts) (hd : deepF 0 (allP ts l.length) = none) : lexR l = (allP ts l.length, 0, 0) := by
 unfold lexR; rw [if_neg (by omega), hs]; simp only [hd]
end Go.Proofs.YtgckmkiiheaeaaaGreatDoor.Lx
