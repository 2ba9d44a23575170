/- Contract of split: a function's type taken apart. -/
import Derived.Test.YtpmpjbnnjdpbnaaDoorTy5
import Derived.Maps.AppendAt
namespace Go.Proofs.YtpmpjbnnjdpbnaaDoor
open Go.RowKit Go.Proofs.YtpmpjbnnjdpbnaaDoor.Lx

def strs (ps : List (List UInt8)) : List Value := ps.map fun x => .string ⟨x.toArray⟩
theorem strs_snoc (ps : List (List UInt8)) (s : ByteArray) (a b : Nat) : strs (ps ++ [sub s.toList a b]) = strs ps ++ [.string (s.extract a b)] := by
  unfold strs
  rw [List.map_append, List.map_singleton, ← ext_toL, ba_of]
theorem Tryd.info9 : (Tryd.prog.info? 9).map (fun i => (i.zero, i.size, i.bytes)) = some (some (.string ⟨#[]⟩), 1, 16) := by kernel_rfl
theorem spl_at (s : ByteArray) (i : Nat) (h : i < s.size) (k : Nat) (cur : List UInt8) (acc : List (List UInt8)) : spl (s.toList.drop i) k cur acc =
    (if s[i] = 40 then spl (s.toList.drop (i + 1)) (k + 1) (cur ++ [s[i]]) acc
    else if s[i] = 41 then
      if 0 < k then spl (s.toList.drop (i + 1)) (k - 1) (cur ++ [s[i]]) acc
      else (if (cur.isEmpty && acc.isEmpty) = true then acc else acc ++ [cur], s.toList.drop (i + 1))
    else if s[i] = 44 then
      if k = 0 then spl (s.toList.drop (i + 1)) 0 [] (acc ++ [cur]) else spl (s.toList.drop (i + 1)) k (cur ++ [s[i]]) acc
    else spl (s.toList.drop (i + 1)) k (cur ++ [s[i]]) acc) := by
  rw [drop_cons_of s.toList i s[i] (toL_get s i h), spl]
theorem sub_snoc (s : ByteArray) (a i : Nat) (h : i < s.size) (ha : a ≤ i) : sub s.toList a i ++ [s[i]] = sub s.toList a (i + 1) := by
  unfold sub
  have e : (s.toList.drop a)[i - a]? = some s[i] := by rw [List.getElem?_drop, show a + (i - a) = i by omega]; exact toL_get s i h
  rw [show i + 1 - a = (i - a) + 1 by omega, List.take_add_one, e]
  rfl
theorem sub_self (l : List UInt8) (a : Nat) : sub l a a = [] := by simp [sub]
theorem bdN' {B : Nat} {a w : World} (h : Below B a w) (n : Nat) : Below B a (w.drewN n) := h.trans (bdN B w n)
def SplPost (s : ByteArray) (w : World) (e : Ending) (w' : World) : Prop :=
  ∃ v r, e = .returned (.tuple #[v, .string r]) ∧ r.toList = (spl s.toList 0 [] []).2 ∧ w'.ownsRow w.heap.size 9 1 v (spl s.toList 0 [] []).1.length (strs (spl s.toList 0 [] []).1) ∧ Below w.heap.size w w'
structure SplI (s : ByteArray) (w : World) (i k a : Nat) (v : Value) (acc : List (List UInt8)) (wr : World) : Prop where
  hi : i ≤ s.size
  ha : a ≤ i
  hk : k ≤ i
  h0 : acc = [] → a = 0
  h1 : acc ≠ [] → 1 ≤ a
  len : acc.length ≤ i
  own : wr.ownsRow w.heap.size 9 1 v acc.length (strs acc)
  bel : Below w.heap.size w wr
  eq : spl (s.toList.drop i) k (sub s.toList a i) acc = spl s.toList 0 [] []
theorem SplI.empty {s : ByteArray} {w : World} {i k a : Nat} {v : Value} {acc : List (List UInt8)} {wr : World} (h : SplI s w i k a v acc wr) (hs : i < s.size) : ((sub s.toList a i).isEmpty && acc.isEmpty) = decide (i = 0) := by
  rw [Bool.eq_iff_iff]
  simp only [Bool.and_eq_true, List.isEmpty_iff, decide_eq_true_eq]
  constructor
  · rintro ⟨h1, h2⟩
    have := h.h0 h2
    subst this
    have := congrArg List.length h1
    unfold sub at this
    rw [List.length_take, List.length_drop, toL_len, List.length_nil] at this
    omega
  · rintro rfl
    have : a = 0 := by have := h.ha; omega
    subst this
    refine ⟨sub_self _ _, ?_⟩
    cases hacc : acc with
    | nil => rfl
    | cons x xs => have := h.h1 (by rw [hacc]; simp); omega
/-- A byte that changes nothing but what is open. -/
theorem SplI.next {s : ByteArray} {w : World} {i k a : Nat} {v : Value} {acc : List (List UInt8)} {wr : World} (h : SplI s w i k a v acc wr) (hs : i < s.size) (k' : Nat) (hk : k' ≤ i + 1) (he : spl (s.toList.drop i) k (sub s.toList a i) acc = spl (s.toList.drop (i + 1)) k' (sub s.toList a i ++ [s[i]]) acc) : SplI s w (i + 1) k' a v acc wr := by
  refine ⟨hs, Nat.le_succ_of_le h.ha, hk, h.h0, h.h1, Nat.le_succ_of_le h.len, h.own, h.bel, ?_⟩
  rw [← sub_snoc s a i hs h.ha, ← he]
  exact h.eq
set_option maxRecDepth 100000 in
set_option maxHeartbeats 1000000 in
theorem split_any (s : ByteArray) (w : World) (hs : s.size ≤ 1000000) :
    Calls Tryd.prog 30 #[.string s] w (SplPost s w) := by
  obtain ⟨i0, hi0, hz0, hz1, hz2⟩ := info_parts Tryd.info9
  go_enter Tryd.func30, Tryd.ntmps30
  go_wp2_with fail
  go_loopg [2, 4, 5, 6, 9] s.size (fun g v2 v4 v5 _ v9 wr => ∃ (i k a : Nat) (acc : List (List UInt8)), g = s.size - i ∧ v9 = .int .i64 i ∧ v4 = .int .i64 k ∧ v5 = .int .i64 a ∧ SplI s w i k a v2 acc wr)
  case atStart => exact ⟨0, 0, 0, [], by omega, rfl, rfl, rfl, ⟨by omega, by omega, by omega, fun _ => rfl, fun h => absurd rfl h, Nat.le_refl _, World.ownsRow_nil _ _ _ _, Below.refl _ _, by rw [sub_self]; rfl⟩⟩
  case round =>
    obtain ⟨i, k, a, acc, rfl, rfl, rfl, rfl, hI⟩ := hrel
    have hi := hI.hi
    have ha := hI.ha
    have hk := hI.hk
    have hlen := hI.len
    have HI := hide hI
    by_cases hlt : i < s.size
    · have hltz : (i : Int) < s.size := by omega
      have HS := hide (spl_at s i hlt k (sub s.toList a i) acc)
      have HEM := hide (hI.empty hlt)
      clear hI
      by_cases c40 : s[i] = 40
      · have b40 : ((s[i].toNat : Int) == 40) = true := beqT c40
        rw [if_pos c40] at HS
        have HN := hide ((unhide HI).next hlt (k + 1) (by omega) (unhide HS))
        clear c40
        go_wp2_with fail
        go_roundg (s.size - (i + 1))
        case measure => omega
        case rel => exact ⟨i + 1, k + 1, a, acc, rfl, by go_num, by go_num, rfl, unhide HN⟩
      · have b40 : ((s[i].toNat : Int) == 40) = false := beqF c40
        rw [if_neg c40] at HS
        clear c40
        by_cases c41 : s[i] = 41
        · have b41 : ((s[i].toNat : Int) == 41) = true := beqT c41
          rw [if_pos c41] at HS
          clear c41
          by_cases k0 : 0 < k
          · have kz : (0 : Int) < k := by omega
            rw [if_pos k0] at HS
            have HN := hide ((unhide HI).next hlt (k - 1) (by omega) (unhide HS))
            go_wp2_with fail
            go_roundg (s.size - (i + 1))
            case measure => omega
            case rel => exact ⟨i + 1, k - 1, a, acc, rfl, by go_num, by rw [show ((k - 1 : Nat) : Int) = (k : Int) - 1 by omega], rfl, unhide HN⟩
          · have kz : ¬ (0 : Int) < k := by omega
            rw [if_neg k0, unhide HEM] at HS
            by_cases iz : i = 0
            · subst iz
              rw [if_pos (by simp)] at HS
              go_wp2_with fail
              go_quiet (fail)
              go_wp2_with fail
              go_ret2
              refine ⟨u2, s.extract 1 s.size, rfl, ?_, ?_, bdN' (unhide HI).bel _⟩
              · rw [← (unhide HI).eq, unhide HS, ext_drop]
              · rw [← (unhide HI).eq, unhide HS]; exact own_heap rfl (unhide HI).own
            · have izz : (0 : Int) < i := by omega
              rw [if_neg (by simp [iz])] at HS
              go_wp2_with (first | (at_builtin; refine wpList_append_own _ rfl _ _ 25 rfl w.heap.size 9 i0 (.string ⟨#[]⟩) 1 16 Tryd.underlying25 hi0 hz0 hz1 hz2 rfl (by decide) _ _ _ rfl ((unhide HI).own.alloc _) ⟨wr.heap.size, 0, none⟩ 1 1 [.string (s.extract a i)] rfl rfl (cell_one_new _ _ _) ?c2 ?c3 ?c4 ?c5 ?_))
              case c2 => rfl
              case c3 => unfold maxLen; omega
              case c4 => omega
              case c5 => have := (unhide HI).bel.size; simp; omega
              · intro v' w1 hown' hgrow _
                have HO := hide hown'
                have HG := hide hgrow
                clear hown' hgrow
                go_wp2_with fail
                go_quiet (fail)
                go_wp2_with fail
                go_ret2
                refine ⟨v', s.extract (i + 1) s.size, rfl, ?_, ?_, ?_⟩
                · rw [← (unhide HI).eq, unhide HS, ext_drop]
                · rw [← (unhide HI).eq, unhide HS, strs_snoc, List.length_append]; exact own_heap rfl (unhide HO)
                · exact bdN' (((unhide HI).bel.alloc (unhide HI).bel.size _).grown (unhide HG) (by have := (unhide HI).bel.size; simp; omega) (fun j hj => by have := ((unhide HI).own.lt j hj).1; omega)) _
        · have b41 : ((s[i].toNat : Int) == 41) = false := beqF c41
          rw [if_neg c41] at HS
          clear c41
          by_cases c44 : s[i] = 44
          · have b44 : ((s[i].toNat : Int) == 44) = true := beqT c44
            rw [if_pos c44] at HS
            clear c44
            by_cases k0 : k = 0
            · subst k0
              rw [if_pos rfl] at HS
              go_wp2_with (first | (at_builtin; refine wpList_append_own _ rfl _ _ 25 rfl w.heap.size 9 i0 (.string ⟨#[]⟩) 1 16 Tryd.underlying25 hi0 hz0 hz1 hz2 rfl (by decide) _ _ _ rfl ((unhide HI).own.alloc _) ⟨wr.heap.size, 0, none⟩ 1 1 [.string (s.extract a i)] rfl rfl (cell_one_new _ _ _) ?c2 ?c3 ?c4 ?c5 ?_))
              case c2 => intro u hu; simp at hu; subst hu; rfl
              case c3 => unfold maxLen; omega
              case c4 => omega
              case c5 => have := (unhide HI).bel.size; simp; omega
              · intro v' w1 hown' hgrow _
                have HO := hide hown'
                have HG := hide hgrow
                clear hown' hgrow
                go_wp2_with fail
                go_roundg (s.size - (i + 1))
                case measure => omega
                case rel =>
                  refine ⟨i + 1, 0, i + 1, acc ++ [sub s.toList a i], rfl, by go_num, rfl, by go_num, ⟨by omega, Nat.le_refl _, Nat.zero_le _, by simp, fun _ => by omega, by simp; omega, ?_, ?_, ?_⟩⟩
                  · rw [strs_snoc, List.length_append]; exact unhide HO
                  · exact ((unhide HI).bel.alloc (unhide HI).bel.size _).grown (unhide HG) (by have := (unhide HI).bel.size; simp; omega) (fun j hj => by have := ((unhide HI).own.lt j hj).1; omega)
                  · rw [sub_self, ← unhide HS]; exact (unhide HI).eq
            · have kz : ((k : Int) == 0) = false := beq_eq_false_iff_ne.2 (by omega)
              rw [if_neg k0] at HS
              have HN := hide ((unhide HI).next hlt k (by omega) (unhide HS))
              go_wp2_with fail
              go_roundg (s.size - (i + 1))
              case measure => omega
              case rel => exact ⟨i + 1, k, a, acc, rfl, by go_num, rfl, rfl, unhide HN⟩
          · have b44 : ((s[i].toNat : Int) == 44) = false := beqF c44
            rw [if_neg c44] at HS
            clear c44
            have HN := hide ((unhide HI).next hlt k (by omega) (unhide HS))
            go_wp2_with fail
            go_roundg (s.size - (i + 1))
            case measure => omega
            case rel => exact ⟨i + 1, k, a, acc, rfl, by go_num, rfl, rfl, unhide HN⟩
    · have hltz : ¬ (i : Int) < s.size := by omega
      have e : i = s.size := by omega
      have HD : Hid (s.toList.drop i = []) := List.drop_eq_nil_of_le (by rw [toL_len]; omega)
      go_wp2_with fail
      go_ret2
      have := (unhide HI).eq
      rw [unhide HD, spl] at this
      exact ⟨u2, ⟨#[]⟩, rfl, by rw [← this]; exact mk_toL _, by rw [← this]; exact (unhide HI).own, (unhide HI).bel⟩
end Go.Proofs.YtpmpjbnnjdpbnaaDoor
