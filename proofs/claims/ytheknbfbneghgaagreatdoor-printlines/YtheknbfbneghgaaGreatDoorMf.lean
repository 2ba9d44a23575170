import Derived.Test.YtheknbfbneghgaaGreatDoorMe
import Derived.Test.YtheknbfbneghgaaGreatDoorMa
import Derived.Deep.LoopGhost
set_option linter.unusedVariables false
set_option linter.unusedSimpArgs false
set_option maxHeartbeats 20000000
set_option maxRecDepth 100000
namespace Go.Proofs.YtheknbfbneghgaaGreatDoor.Px
open Go.Proofs.YtheknbfbneghgaaGreatDoor.Lx
/-- Whether a line end stands behind a blank; the state: whether the last byte was one. -/
def fl : Bool → List UInt8 → Option Bool
  | b, [] => some b
  | b, c :: r => if c == 10 && b then none else fl (wsp c) r
theorem fl_app : ∀ (x y : List UInt8) (b : Bool), fl b (x ++ y) = (fl b x).bind fun b' => fl b' y
  | [], y, b => rfl
  | c :: r, y, b => by
    simp only [List.cons_append, fl]
    split
    · rfl
    · exact fl_app r y _
def Gd (x : List UInt8) : Prop := ∀ b, fl b x = some false
def Fn (x : List UInt8) : Prop := ∀ b, ∃ b', fl b x = some b'
def Ke (x : List UInt8) : Prop := fl false x = some false
theorem Gd.fn {x : List UInt8} (h : Gd x) : Fn x := fun b => ⟨_, h b⟩
theorem Gd.ke {x : List UInt8} (h : Gd x) : Ke x := h false
theorem G1 {x y : List UInt8} (h : Fn x) (k : Gd y) : Gd (x ++ y) := fun b => by
  obtain ⟨b', e⟩ := h b
  rw [fl_app, e]; exact k b'
theorem G2 {x y : List UInt8} (h : Gd x) (k : Ke y) : Gd (x ++ y) := fun b => by rw [fl_app, h b]; exact k
theorem F1 {x y : List UInt8} (h : Fn x) (k : Fn y) : Fn (x ++ y) := fun b => by
  obtain ⟨b', e⟩ := h b
  rw [fl_app, e]; exact k b'
theorem F2 {x : List UInt8} (h : Gd x) : Fn (x ++ [10]) := fun b => by rw [fl_app, h b]; exact ⟨true, rfl⟩
theorem Fn_nil : Fn [] := fun b => ⟨b, rfl⟩
theorem cl_fl {x : List UInt8} (h : cl x = true) : ∀ b, fl b x = some (b && x.isEmpty) := by
  induction x with
  | nil => intro b; simp [fl]
  | cons c r ih =>
    intro b
    have h' : wsp c = false ∧ cl r = true := by simpa [cl] using h
    have h10 : (c == 10) = false := by
      have := h'.1
      simp only [wsp, Bool.or_eq_false_iff] at this
      exact this.2
    simp only [fl, h10, Bool.false_and, Bool.false_eq_true, if_false, h'.1]
    rw [ih h'.2]; simp
theorem cl_fn {x : List UInt8} (h : cl x = true) : Fn x := fun b => ⟨_, cl_fl h b⟩
theorem cl_ke {x : List UInt8} (h : cl x = true) : Ke x := by unfold Ke; rw [cl_fl h]; rfl
theorem cl_gd {x : List UInt8} (h : cl x = true) (hn : x ≠ []) : Gd x := fun b => by
  rw [cl_fl h]
  cases x with
  | nil => exact absurd rfl hn
  | cons c r => simp
theorem tabs_fn (d : Nat) : Fn (tabsT d) := by
  unfold tabsT
  induction d with
  | zero => exact Fn_nil
  | succ d ih =>
    rw [List.replicate_succ]
    intro b
    obtain ⟨b', e⟩ := ih true
    exact ⟨b', e⟩
theorem unl_fn {a : List UInt8} {f : Tree → List UInt8} {s : Tree} (ha : Fn a) (h : Gd (f s)) : Fn (unlT a f s) := by
  unfold unlT
  split
  · exact Fn_nil
  · exact (G1 ha h).fn
theorem unl_ke {a : List UInt8} {f : Tree → List UInt8} {s : Tree} (ha : Fn a) (h : Gd (f s)) : Ke (unlT a f s) := by
  unfold unlT
  split
  · rfl
  · exact (G1 ha h).ke
theorem flat_fn {f : Tree → List UInt8} : ∀ {l : List Tree}, (∀ s ∈ l, Fn (f s)) → Fn (l.flatMap f)
  | [], _ => Fn_nil
  | a :: r, h => by rw [List.flatMap_cons]; exact F1 (h a zK) (flat_fn fun s m => h s (by simp [m]))
theorem sep_fn {f : Tree → List UInt8} {l : List Tree} (h : ∀ s ∈ l, Gd (f s)) : Fn (sepJ (l.map f)) := by
  cases l with
  | nil => exact Fn_nil
  | cons a r =>
    simp only [List.map_cons, sepJ, List.flatMap_map]
    exact F1 (h a zK).fn (flat_fn fun s m => F1 (fun b => ⟨true, by cases b <;> rfl⟩) (h s (by simp [m])).fn)
theorem lines_fn {f : Tree → List UInt8} (d : Nat) {l : List Tree} (h : ∀ s ∈ l, Gd (f s)) : Fn (linesT f d l) :=
  flat_fn fun s m => F2 (G1 (tabs_fn _) (h s m))
theorem quo_gd (x : List UInt8) : Gd (quoT x) := by
  have h : ∀ x : List UInt8, Fn (x.flatMap qB) := by
    intro x
    induction x with
    | nil => exact Fn_nil
    | cons c r ih =>
      rw [List.flatMap_cons]
      refine F1 ?_ ih
      unfold qB
      split
      · exact fun b => ⟨false, by cases b <;> rfl⟩
      · split
        · exact fun b => ⟨false, by cases b <;> rfl⟩
        · split
          · exact fun b => ⟨false, by cases b <;> rfl⟩
          · rename_i h10 _ _
            exact fun b => ⟨wsp c, by simp [fl, h10]⟩
  have : quoT x = ([34] ++ x.flatMap qB) ++ [34] := by simp [quoT]
  rw [this]
  exact G1 (F1 (fun b => ⟨false, by cases b <;> rfl⟩) (h x)) (fun b => by cases b <;> rfl)
/-- The jobs whose text may be empty, or end with a line's end. -/
def cF : PrJ → Bool
  | .clause | .comm | .receiving | .clauseStmts | .file | .params | .pointed => true
  | _ => false
def jQ : PrJ → Prop
  | .both s => cl s = true
  | .jump s => cl s = true ∧ s ≠ []
  | _ => True
def Q (j : PrJ) (x : List UInt8) : Prop := if cF j = true then Fn x else Gd x
theorem TxO_text {t : Tree} (h : TxO t) (hk : t.kind ≠ 37) : cl t.text = true := by cases t; rw [TxO_mk] at h; exact h.1 hk
theorem TxO_ne {t : Tree} (h : TxO t) (hk : t.kind = 38 ∨ t.kind = 40) : t.text ≠ [] := by cases t; rw [TxO_mk] at h; exact h.2.1 hk
theorem TxO_part {t : Tree} (h : TxO t) (i : Nat) : TxO (yM t i) := by
  unfold yM
  rw [List.getD_eq_getElem?_getD]
  cases e : t.kids[i]? with
  | some x => exact TxO_kids h x (List.mem_of_getElem? e)
  | none => simp [zeroT, TxO_mk, TxL, cl]
theorem lF {x : List UInt8} (h : (fl true x).isSome = true ∧ (fl false x).isSome = true) : Fn x := fun b => by
  cases b
  · exact Option.isSome_iff_exists.1 h.2
  · exact Option.isSome_iff_exists.1 h.1
theorem lG {x : List UInt8} (h : fl true x = some false ∧ fl false x = some false) : Gd x := fun b => by
  cases b
  · exact h.2
  · exact h.1
theorem kw {p : Prop} (h : p := by first | omega | assumption | (intro e; omega) | decide) : p := h
theorem Gd_ite {c : Prop} [Decidable c] {a b : List UInt8} (h1 : c → Gd a) (h2 : ¬ c → Gd b) : Gd (if c then a else b) := by
  by_cases h : c
  · rw [if_pos h]; exact h1 h
  · rw [if_neg h]; exact h2 h
theorem Fn_ite {c : Prop} [Decidable c] {a b : List UInt8} (h1 : c → Fn a) (h2 : ¬ c → Fn b) : Fn (if c then a else b) := by
  by_cases h : c
  · rw [if_pos h]; exact h1 h
  · rw [if_neg h]; exact h2 h
theorem Ke_ite {c : Prop} [Decidable c] {a b : List UInt8} (h1 : c → Ke a) (h2 : ¬ c → Ke b) : Ke (if c then a else b) := by
  by_cases h : c
  · rw [if_pos h]; exact h1 h
  · rw [if_neg h]; exact h2 h
def pQ : PrJ → Bool
  | .both _ | .jump _ | .ifStmt | .forStmt | .forParts | .switchStmt | .selectStmt | .receiving | .typed | .function | .builtin => false
  | _ => true
def okQ (j : PrJ) (t : Tree) : Prop := pQ j = true ∨ (t.kind ≠ 0 ∧ t.kind ≠ 37)
theorem aG {p : Prop} (h : p := by first
  | with_reducible assumption
  | exact lG dc
  | exact hpG _ _ kw rfl rfl
  | exact hsG _ (by simp [rnk]) (by first | exact .inl rfl | exact .inr ⟨kw, kw⟩) rfl trivial
  | exact hsG _ (by simp [rnk]) (.inr ⟨kw, kw⟩) rfl (TxO_text ht kw)
  | exact hsG _ (by simp [rnk]) (.inr ⟨kw, kw⟩) rfl (by simp [jQ, cl, wsp])
  | with_reducible exact hdig _ hnum
  | with_reducible exact quo_gd _
  | with_reducible exact cl_gd (TxO_text ht kw) (TxO_ne ht kw)
  | with_reducible exact cl_gd (TxO_text ht kw) zf) : p := h
theorem aF {p : Prop} (h : p := by first
  | exact lF dc
  | with_reducible exact tabs_fn _
  | with_reducible exact cl_fn (TxO_text ht kw)
  | with_reducible exact cl_fn (TxO_text (TxO_part ht _) kw)
  | with_reducible exact cl_fn hj
  | exact hpF _ _ kw rfl rfl
  | exact hsF _ (by simp [rnk]) (by first | exact .inl rfl | exact .inr ⟨kw, kw⟩) rfl
  | with_reducible exact sep_fn fun s m => hkG _ _ _ (by first | exact m | exact List.mem_of_mem_drop m | exact List.mem_of_mem_take m) rfl rfl
  | with_reducible exact lines_fn _ fun s m => hkG _ _ _ m rfl rfl
  | with_reducible exact flat_fn fun s m => hkF _ _ _ (by first | exact m | exact List.mem_of_mem_drop m) rfl rfl
  | with_reducible exact unl_fn (lF dc) (hpG _ _ kw rfl rfl)
  | exact flat_fn fun s m => F2 (hkG _ _ _ m rfl rfl)
  | exact Gd.fn aG) : p := h
theorem aK {p : Prop} (h : p := by first
  | with_reducible exact unl_ke (lF dc) (hpG _ _ kw rfl rfl)
  | with_reducible exact cl_ke (TxO_text ht kw)) : p := h
theorem prS_q (digits : Int → List UInt8) (hdig : ∀ v, I6 v → Gd (digits v)) (rec : PrJ → Nat → Tree → List UInt8) (d : Nat) (t : Tree) (ht : TxO t) (hnum : I6 t.num)
    (hpG : ∀ j i, t.kind ≠ 0 → cF j = false → pQ j = true → Gd (rec j d (yM t i))) (hpF : ∀ j i, t.kind ≠ 0 → cF j = true → pQ j = true → Fn (rec j d (yM t i)))
    (hkG : ∀ j d' s, s ∈ t.kids → cF j = false → pQ j = true → Gd (rec j d' s)) (hkF : ∀ j d' s, s ∈ t.kids → cF j = true → pQ j = true → Fn (rec j d' s))
    (j : PrJ) (hsG : ∀ j', rnk j' < rnk j → okQ j' t → cF j' = false → jQ j' → Gd (rec j' d t)) (hsF : ∀ j', rnk j' < rnk j → okQ j' t → cF j' = true → Fn (rec j' d t))
    (ho : okQ j t) (hj : jQ j) : Q j (ym digits rec j d t) := by
  have hoo : pQ j = false → t.kind ≠ 0 ∧ t.kind ≠ 37 := fun e => ho.resolve_left (by rw [e]; decide)
  cases j
  all_goals
    (try have ho2 := hoo rfl)
    (try simp only [jQ] at hj)
    (try (have hjg := cl_gd hj.1 hj.2))
    unfold Q
    simp only [cF, Bool.false_eq_true, if_false, if_true, ym]
    repeat' (first | refine Gd_ite (fun _ => ?_) (fun _ => ?_) | refine Fn_ite (fun _ => ?_) (fun _ => ?_) | exact aG | exact aF | exact aK | refine G1 ?_ aG | refine G2 ?_ aK | refine G2 ?_ (Ke_ite (fun _ => rfl) (fun _ => Gd.ke (G1 aF aG))) | refine F2 ?_ | refine F1 ?_ ?_)
theorem Q_G {j : PrJ} {x : List UInt8} (h : Q j x) (hc : cF j = false) : Gd x := by unfold Q at h; rw [hc] at h; exact h
theorem Q_F {j : PrJ} {x : List UInt8} (h : Q j x) (hc : cF j = true) : Fn x := by unfold Q at h; rw [hc] at h; exact h
theorem OkT_part {t : Tree} (h : OkT 8192 t) (i : Nat) : OkT 8192 (yM t i) := by
  unfold yM
  rw [List.getD_eq_getElem?_getD]
  cases e : t.kids[i]? with
  | some x => exact OkT_kids h x (List.mem_of_getElem? e)
  | none => simp [zeroT, OkT_mk, OkL, I6_0]
theorem jQ_of {j : PrJ} (h : pQ j = true) : jQ j := by cases j <;> first | trivial | cases h
theorem pr_q (digits : Int → List UInt8) (hdig : ∀ v, I6 v → Gd (digits v)) : ∀ (n : Nat) (j : PrJ) (d : Nat) (t : Tree), TxO t → OkT 8192 t → nee j t < n → okQ j t → jQ j → Q j (pr digits n j d t)
  | 0, _, _, _, _, _, h, _, _ => by omega
  | n + 1, j, d, t, ht, hk, hn, ho, hj => by
    have hI : I6 t.num := by cases t; rw [OkT_mk] at hk; exact hk.2.1
    have hp : ∀ j' i, t.kind ≠ 0 → pQ j' = true → Q j' (pr digits n j' d (yM t i)) := fun j' i h0 hq => pr_q digits hdig n j' d _ (TxO_part ht i) (OkT_part hk i) (by have := need_part h0 i j j'; omega) (.inl hq) (jQ_of hq)
    have hq : ∀ j' d' s, s ∈ t.kids → pQ j' = true → Q j' (pr digits n j' d' s) := fun j' d' s m hq => pr_q digits hdig n j' d' s (TxO_kids ht s m) (OkT_kids hk s m) (by have := need_kid m j j'; omega) (.inl hq) (jQ_of hq)
    have hs : ∀ j', rnk j' < rnk j → okQ j' t → jQ j' → Q j' (pr digits n j' d t) := fun j' hr h1 h2 => pr_q digits hdig n j' d t ht hk (by have := need_same (t := t) hr; omega) h1 h2
    exact prS_q digits hdig (pr digits n) d t ht hI (fun j' i h0 hc h2 => Q_G (hp j' i h0 h2) hc) (fun j' i h0 hc h2 => Q_F (hp j' i h0 h2) hc) (fun j' d' s m hc h2 => Q_G (hq j' d' s m h2) hc) (fun j' d' s m hc h2 => Q_F (hq j' d' s m h2) hc) j (fun j' hr h1 hc h2 => Q_G (hs j' hr h1 h2) hc) (fun j' hr h1 hc => Q_F (hs j' hr h1 (by cases j' <;> first | trivial | cases hc)) hc) ho hj
end Go.Proofs.YtheknbfbneghgaaGreatDoor.Px
set_option maxRecDepth 100000
namespace Go.Proofs.YtheknbfbneghgaaGreatDoor.Px
open Go.Proofs.YtheknbfbneghgaaGreatDoor.Lx
def TCl (t : Tok) : Prop := (t.kind ≠ 3 → cl t.text = true) ∧ (t.kind = 1 → t.text ≠ [])
theorem wsp_let {c : UInt8} (h : isNam c = true) : wsp c = false := by
  have h1 : (c == 32) = false := by
    apply Bool.eq_false_iff.2; intro e; rw [beq_iff_eq] at e; subst e; revert h; decide
  have h2 : (c == 9) = false := by
    apply Bool.eq_false_iff.2; intro e; rw [beq_iff_eq] at e; subst e; revert h; decide
  have h3 : (c == 10) = false := by
    apply Bool.eq_false_iff.2; intro e; rw [beq_iff_eq] at e; subst e; revert h; decide
  simp [wsp, h1, h2, h3]
theorem cl_of {x : List UInt8} (h : ∀ c ∈ x, isNam c = true) : cl x = true := by
  rw [cl, List.all_eq_true]
  intro c m
  rw [wsp_let (h c m)]; rfl
theorem endT_cl {ts : List Tok} {k : Int} (h : ∀ t ∈ ts, TCl t) : ∀ t ∈ endT ts k, TCl t := by
  unfold endT
  split
  · split
    · intro t m
      rcases List.mem_append.1 m with m | m
      · exact h t m
      · simp only [List.mem_singleton] at m; subst m; exact ⟨fun _ => rfl, fun e => by simp at e⟩
    · exact h
  · exact h
theorem snoc_cl {ts : List Tok} {x : Tok} (h : ∀ t ∈ ts, TCl t) (hx : TCl x) : ∀ t ∈ ts ++ [x], TCl t := fun t m => (List.mem_append.1 m).elim (h t) (fun m => by simp only [List.mem_singleton] at m; subst m; exact hx)
theorem mark_cl (l : List UInt8) (k : Nat) (c : UInt8) (hc : l[k]? = some c) (h1 : ¬ (c = 32 ∨ c = 9)) (h2 : ¬ c = 10) (h0 : ¬ mLen (l.drop k) = 0) : cl (sub l k (k + mLen (l.drop k))) = true := by
  have hk : k < l.length := (List.getElem?_eq_some_iff.1 hc).1
  have hd : l.drop k = c :: l.drop (k + 1) := by
    rw [List.drop_eq_getElem_cons hk, (List.getElem?_eq_some_iff.1 hc).2]
  have hw : wsp c = false := by
    simp only [not_or] at h1
    simp [wsp, h1.1, h1.2, h2]
  unfold sub
  rw [Nat.add_sub_cancel_left]
  rw [hd] at h0 ⊢
  generalize l.drop (k + 1) = r at *
  have hm : mLen (c :: r) = if mTab c.toNat = 2 then (if isPr ((c :: r).take 2) then 2 else if c = 124 then 0 else 1) else if mTab c.toNat = 1 then 1 else 0 := rfl
  have h1c : cl ((c :: r).take 1) = true := by simp [cl, hw]
  rw [hm] at h0 ⊢
  by_cases a : mTab c.toNat = 2
  · rw [if_pos a] at h0 ⊢
    by_cases p : isPr ((c :: r).take 2) = true
    · rw [if_pos p]
      exact (has_cl dc p).1
    · rw [if_neg p] at h0 ⊢
      by_cases e : c = 124
      · rw [if_pos e] at h0; exact absurd rfl h0
      · rw [if_neg e]; exact h1c
  · rw [if_neg a] at h0 ⊢
    by_cases b : mTab c.toNat = 1
    · rw [if_pos b]; exact h1c
    · rw [if_neg b] at h0; exact absurd rfl h0
theorem partF_cl (l : List UInt8) (k : Nat) (ts : List Tok) (h : ∀ t ∈ ts, TCl t) (k' : Nat) (ts' : List Tok) (hp : partF l k ts = .inr (k', ts')) : ∀ t ∈ ts', TCl t := by
  unfold partF at hp
  split at hp
  · cases hp
  · rename_i c hc
    split at hp
    · cases hp; exact h
    · rename_i h1
      split at hp
      · cases hp; exact endT_cl h
      · rename_i h2
        split at hp
        · cases hp; exact h
        · split at hp
          · rename_i hl
            unfold nameF at hp
            split at hp
            · cases hp
            · cases hp
              refine snoc_cl h ⟨fun _ => cl_of (run_sub_all isNam l k), fun _ e => ?_⟩
              have hg := re_gt isNam l k c hc (by simp [isNam, hl])
              have hk : k < l.length := (List.getElem?_eq_some_iff.1 hc).1
              have he : (sub l k (yL isNam l k)).length = 0 := by rw [show sub l k (yL isNam l k) = [] from e]; rfl
              rw [sub_run] at he
              unfold yL at hg
              omega
          · split at hp
            · unfold numF at hp
              split at hp
              · cases hp
              · split at hp
                · cases hp
                · cases hp
                  exact snoc_cl h ⟨fun _ => cl_of fun c m => by simp [isNam, run_sub_all isDig l k c m], fun e => by simp at e⟩
            · split at hp
              · unfold textF at hp
                split at hp
                · cases hp
                · split at hp
                  · cases hp
                  · cases hp; exact snoc_cl h ⟨fun e => absurd rfl e, fun e => by simp at e⟩
              · unfold markF at hp
                split at hp
                · cases hp
                · rename_i h0
                  cases hp; exact snoc_cl h ⟨fun _ => mark_cl l k c hc h1 h2 h0, fun e => by simp at e⟩
theorem scanF_cl (l : List UInt8) : ∀ (f k : Nat) (ts : List Tok), (∀ t ∈ ts, TCl t) → ∀ ts', scanF f l k ts = .inr ts' → ∀ t ∈ ts', TCl t
  | 0, k, ts, h, ts', e => by cases e; exact h
  | f + 1, k, ts, h, ts', e => by
    unfold scanF at e
    split at e
    · split at e
      · cases e
      · rename_i q hq
        exact scanF_cl l f q.1 q.2 (partF_cl l k ts h q.1 q.2 hq) ts' e
    · cases e; exact h
theorem lex_cl (l : List UInt8) (h0 : (lexR l).2.1 = 0) : ∀ t ∈ (lexR l).1, TCl t := by
  unfold lexR at h0 ⊢
  split
  · intro t m; cases m
  · split
    · intro t m; cases m
    · rename_i ts hs
      split
      · intro t m; cases m
      · exact snoc_cl (endT_cl (scanF_cl l _ 0 [] (fun t m => by cases m) ts hs)) ⟨fun _ => rfl, fun e => by simp at e⟩
theorem tok_cl {ts : List Tok} (h : ∀ t ∈ ts, TCl t) (k : Nat) : TCl (zp ts k) := by
  unfold zp
  rw [List.getD_eq_getElem?_getD]
  cases e : ts[k]? with
  | some x => exact h x (List.mem_of_getElem? e)
  | none => exact ⟨fun _ => rfl, fun e => by simp at e⟩
theorem parse_tx (l : List UInt8) (h0 : (lexR l).2.1 = 0) (n : Nat) (hb : Bool) (t : Tree) (s : Int) (k' : Nat) (hr : run (lexR l).1 n (.fileMore []) hb 0 = .ok [t] s k') : TxO t := by
  have h := lex_cl l h0
  exact (run_okx (lexR l).1 (fun k => (tok_cl h k).1) (fun k => (tok_cl h k).2) n (.fileMore []) hb 0 (by simp [KJ, TxL]) _ _ _ hr).1 t (List.mem_singleton_self _)
theorem dig_cl (u : Nat) : cl (Lib.decDigits u) = true ∧ Lib.decDigits u ≠ [] := by
  have hd : ∀ v, v < 10 → wsp (UInt8.ofNat (48 + v)) = false := by decide
  induction u using Nat.strongRecOn with
  | _ u ih =>
    rw [Lib.decDigits]
    split
    · rename_i h
      exact ⟨by rw [cl, List.all_cons, hd u h]; rfl, by simp⟩
    · have h1 : ((Lib.decDigits (u / 10)).all fun c => !wsp c) = true := (ih (u / 10) om).1
      have h2 := hd (u % 10) om
      refine ⟨?_, by simp⟩
      rw [cl, List.all_append, h1, List.all_cons, h2]
      rfl
theorem itoa_gd (v : Int) : Gd (Lib.itoa v) := by
  unfold Lib.itoa
  split
  · exact cl_gd (by rw [cl, List.all_cons, ← cl, (dig_cl _).1]; decide) zK
  · exact cl_gd (dig_cl _).1 (dig_cl _).2
theorem fl_spec : ∀ (s : List UInt8) (b b' : Bool), fl b s = some b' → ∀ i c, s[i + 1]? = some 10 → s[i]? = some c → wsp c = false
  | [], _, _, _, i, c, h, _ => by simp at h
  | c0 :: r, b, b', e, i, c, h1, h2 => by
    unfold fl at e
    split at e
    · cases e
    · cases i with
      | succ i => exact fl_spec r _ _ e i c (by simpa using h1) (by simpa using h2)
      | zero =>
        simp only [List.getElem?_cons_zero, Option.some.injEq] at h2
        subst h2
        cases r with
        | nil => simp at h1
        | cons d r =>
          simp at h1
          subst h1
          unfold fl at e
          cases hw : wsp c0 with
          | false => rfl
          | true => rw [hw] at e; simp at e
theorem flat_end {f : Tree → List UInt8} : ∀ l : List Tree, (l.flatMap fun k => f k ++ [10]) = [] ∨ ∃ r, (l.flatMap fun k => f k ++ [10]) = r ++ [10]
  | [] => .inl rfl
  | a :: l => by
    right
    rw [List.flatMap_cons]
    rcases flat_end (f := f) l with h | ⟨r, h⟩
    · rw [h, List.append_nil]; exact ⟨_, rfl⟩
    · rw [h]; exact ⟨_, (List.append_assoc _ _ _).symm⟩
theorem decl_head (digits : Int → List UInt8) (rec : PrJ → Nat → Tree → List UInt8) (d : Nat) (t : Tree) : ∃ c r, ym digits rec .decl d t = c :: r ∧ c ≠ 9 ∧ c ≠ 32 := by
  simp only [ym]
  repeat' split
  all_goals exact ⟨_, _, rfl, by decide, by decide⟩
end Go.Proofs.YtheknbfbneghgaaGreatDoor.Px
namespace Go.Proofs.YtheknbfbneghgaaGreatDoor.Pp
open Go.RowKit Go.Proofs.YtheknbfbneghgaaGreatDoor.Lx Go.Proofs.YtheknbfbneghgaaGreatDoor.Px
/-- What PrintLines asks of a text. -/
def Lines (s : List UInt8) : Prop := (s = [] ∨ ∃ r, s = r ++ [10]) ∧ (∀ i c, s[i + 1]? = some 10 → s[i]? = some c → wsp c = false) ∧ ∀ c r, s = c :: r → c ≠ 9 ∧ c ≠ 32
theorem prt_lines (kids : List Tree) (ht : TxO (.mk 1 [] 0 0 kids)) (hk : OkT 8192 (.mk 1 [] 0 0 kids)) (hz : sz (.mk 1 [] 0 0 kids) ≤ 300000) : Lines (prt (.mk 1 [] 0 0 kids)) := by
  have hp : prt (.mk 1 [] 0 0 kids) = kids.flatMap fun k => pr Lib.itoa 2400009 .decl 0 k ++ [10] := rfl
  have hq := Q_F (pr_q Lib.itoa (fun v _ => itoa_gd v) 2400010 .file 0 _ ht hk (by unfold nee; simp only [rnk]; omega) (.inl rfl) trivial) rfl
  obtain ⟨b', hb⟩ := hq false
  refine ⟨?_, fl_spec _ _ _ hb, ?_⟩
  · rw [hp]; exact flat_end kids
  · intro c r e
    rw [hp] at e
    cases kids with
    | nil => cases e
    | cons k l =>
      rw [List.flatMap_cons] at e
      obtain ⟨c2, r2, e2, h1, h2⟩ := decl_head Lib.itoa (pr Lib.itoa 2400008) 0 k
      have e3 : pr Lib.itoa 2400009 .decl 0 k = c2 :: r2 := e2
      rw [e3] at e
      simp only [List.cons_append, List.cons.injEq] at e
      rw [← e.1]
      exact ⟨h1, h2⟩
end Go.Proofs.YtheknbfbneghgaaGreatDoor.Pp
set_option maxHeartbeats 4000000
set_option maxRecDepth 100000
namespace Go.Proofs.YtheknbfbneghgaaGreatDoor.Pp
open Go.RowKit Go.Proofs.YtheknbfbneghgaaGreatDoor.Lx Go.Proofs.YtheknbfbneghgaaGreatDoor.Px
theorem u8_of {c : UInt8} {k : Nat} (d : UInt8) (hd : d.toNat = k) (h : (c.toNat : Int) = k) : c = d := UInt8.toNat_inj.1 om
theorem LB {l : List UInt8} (h : Lines l) {S : ByteArray} (hS : S = ⟨l.toArray⟩) : (S = ⟨#[]⟩ ∨ (0 < S.size ∧ ¬ S = ⟨#[]⟩ ∧ (∀ hx, ((S[S.size - 1]'hx).toNat : Int) = 10) ∧ ∀ hx, ¬ ((S[0]'hx).toNat : Int) = 9 ∧ ¬ ((S[0]'hx).toNat : Int) = 32)) ∧
    ∀ i (h1 : i + 1 < S.size) (h2 : i < S.size), ((S[i + 1]'h1).toNat : Int) = 10 → ¬ ((S[i]'h2).toNat : Int) = 32 ∧ ¬ ((S[i]'h2).toNat : Int) = 9 ∧ ¬ ((S[i]'h2).toNat : Int) = 10 := by
  have hl : S.toList = l := by rw [hS]; exact ByteArray.toList_mk l
  have hz : S.size = l.length := by rw [← yx, hl]
  have hg : ∀ i (h : i < S.size), l[i]? = some (S[i]'h) := fun i h => by rw [← hl]; exact toL_get S i h
  constructor
  · rcases h.1 with rfl | ⟨r, hr⟩
    · exact .inl hS
    · have hn : l.length = r.length + 1 := by rw [hr]; simp
      refine .inr ⟨om, fun e => (by have h0 : S.size = 0 := (by rw [e]; rfl); omega), fun hx => ?_, fun hx => ?_⟩
      · have e1 := hg _ hx
        have e2 : l[S.size - 1]? = some 10 := by rw [hz, hn, hr]; simp
        rw [e2] at e1
        rw [← Option.some.inj e1]; rfl
      · have e1 := hg 0 hx
        cases l with
        | nil => simp at hn
        | cons c q =>
          simp only [List.getElem?_cons_zero, Option.some.injEq] at e1
          have h2 := h.2.2 c q rfl
          rw [← e1]
          exact ⟨fun e => h2.1 (u8_of 9 rfl e), fun e => h2.2 (u8_of 32 rfl e)⟩
  · intro i h1 h2 e
    have hw := h.2.1 i (S[i]'h2) (by rw [hg _ h1, u8_of 10 rfl e]) (hg i h2)
    simp only [wsp, Bool.or_eq_false_iff, beq_eq_false_iff_ne, ne_eq] at hw
    exact ⟨fun e => hw.1.1 (u8_of 32 rfl e), fun e => hw.1.2 (u8_of 9 rfl e), fun e => hw.2 (u8_of 10 rfl e)⟩
theorem lines_law (s : ByteArray) (w : World) (hv : VT w) : Calls Tryz.prog 4 #[.string s] w fun e w' => e = .returned (.bool true) ∧ Below w.heap.size w w' := by
  have HV := zm hv
  clear hv
  go_enter Tryz.func4, Tryz.ntmps4
  go_wp2_with fail
  refine (anchor_any _ (zk HV)).mono ?_
  rintro e w1 ⟨rfl, B1⟩
  have HV1 := zm ((zk HV).on B1)
  by_cases hs : s.size ≤ 4000
  · have hsz : ¬ (4000 : Int) < (s.size : Int) := om
    have HP := zm (Parse4 s w1 (zk HV1) hs)
    go_wp2_with fail
    refine (zk HP).mono ?_
    rintro e w2 ⟨B2, hp⟩
    have B3 : Below w.heap.size w w2 := B1.trans (B2.mono B1.size)
    rcases hp with ⟨kids, ao, cp, st, k', rfl, hk, ht, h0, hr⟩ | ⟨a, b, rfl, ha, hn⟩
    · have hv2 := (zk HV1).on B2
      have B4 : Below w2.heap.size w2 ((w2.alloc (nO 1 [] 0 0 ao kids.length cp)).alloc (.cells #[.int .i64 0, .int .i64 0] 27)) := ((Below.refl _ _).alloc lr _).alloc zK _
      have HF := zm (File_ok ((w2.alloc (nO 1 [] 0 0 ao kids.length cp)).alloc (.cells #[.int .i64 0, .int .i64 0] 27)) 1 [] 0 0 kids ao cp (hk.grown (grown_of rfl B4)) (hv2.on B4).2 ht.1 ht.2.1)
      have HB := zm (B3.trans (B4.mono B3.size))
      have HL := zm (prt_lines kids (parse_tx s.toList h0 _ _ _ _ _ hr) ht.1 ht.2.1)
      have hlen := prt_len ht.1 ht.2.1
      obtain ⟨l, hl⟩ : ∃ l, l = prt (.mk 1 [] 0 0 kids) := ⟨_, rfl⟩
      rw [← hl] at HF HL hlen
      clear HP hk ht h0 hr hl hv2 B4
      go_wp2_with fail
      refine (zk HF).mono ?_
      rintro e w3 ⟨rfl, g3⟩
      have HB3 := zm ((zk HB).trans ((blw g3).mono (zk HB).size))
      obtain ⟨S, hS⟩ : ∃ S : ByteArray, S = ⟨l.toArray⟩ := ⟨_, rfl⟩
      have hSz : (S.size : Int) ≤ 1099511627776 := by rw [← yx, hS, ByteArray.toList_mk]; omega
      have hLB := LB (zk HL) hS
      rw [← hS]
      clear HF g3 HB hS hlen HL
      rcases hLB with ⟨hA, hB⟩
      have HB4 := zm hB
      rcases hA with rfl | ⟨h0, hne, hlast, hfirst⟩
      · go_wp2
        go_loopg [34] 1 (fun g v34 wr => g = 1 ∧ v34 = .int .i64 0 ∧ Hid (Below w.heap.size w wr))
        case atStart => exact ⟨rfl, rfl, HB3⟩
        case round =>
          obtain ⟨rfl, rfl, HB5⟩ := hrel
          go_wp2
          exact bodyPost_ret (v := .bool true) (by simp [results, Tryz.results4, go_sem]) rfl ⟨rfl, zk HB5⟩
      · have hl1 := hlast om
        have hf1 : (((S[0]'h0).toNat : Int) == 9) = false := beq_eq_false_iff_ne.2 (hfirst h0).1
        have hf2 : (((S[0]'h0).toNat : Int) == 32) = false := beq_eq_false_iff_ne.2 (hfirst h0).2
        have hg1 := (hfirst h0).1
        have hg2 := (hfirst h0).2
        have hx1 : (1 : Int) ≤ S.size := om
        have hx2 : (S.size : Int) - 1 < S.size := om
        have hnl : ¬ S.toList = [] := fun e => by have h := congrArg List.length e; rw [yx, List.length_nil] at h; omega
        clear hB hlast hfirst
        go_wp2
        go_loopg [34] (S.size + 1) (fun g v34 wr => ∃ j : Nat, g = S.size + 1 - j ∧ j ≤ S.size ∧ v34 = .int .i64 j ∧ Hid (Below w.heap.size w wr))
        case atStart => exact ⟨0, om, om, rfl, HB3⟩
        case round =>
          obtain ⟨j, rfl, hj, rfl, HB5⟩ := hrel
          by_cases hlt : j < S.size
          · have hltz : (j : Int) < S.size := om
            by_cases h10 : ((S[j]'hlt).toNat : Int) = 10
            · cases j with
              | zero =>
                go_wp2
                go_roundg (S.size + 1 - (0 + 1))
                case measure => omega
                case rel => exact ⟨0 + 1, rfl, om, by go_num, HB5⟩
              | succ i =>
                have hh := zk HB4 i hlt om h10
                have hh1 : (((S[i]'(by omega)).toNat : Int) == 32) = false := beq_eq_false_iff_ne.2 hh.1
                have hh2 : (((S[i]'(by omega)).toNat : Int) == 9) = false := beq_eq_false_iff_ne.2 hh.2.1
                have hh3 : (((S[i]'(by omega)).toNat : Int) == 10) = false := beq_eq_false_iff_ne.2 hh.2.2
                clear hh
                have hi1 : ((i + 1 : Nat) : Int) - 1 = i := om
                have hi2 : (0 : Int) < ((i + 1 : Nat) : Int) := om
                have hi3 : (i : Int) < S.size := om
                go_wp2
                go_roundg (S.size + 1 - ((i + 1) + 1))
                case measure => omega
                case rel => exact ⟨(i + 1) + 1, rfl, om, by go_num, HB5⟩
            · go_wp2
              go_roundg (S.size + 1 - (j + 1))
              case measure => omega
              case rel => exact ⟨j + 1, rfl, om, by go_num, HB5⟩
          · have hltz : ¬ (j : Int) < S.size := om
            go_wp2
            exact bodyPost_ret (v := .bool true) (by simp [results, Tryz.results4, go_sem, bne, hf1, hf2]) rfl ⟨rfl, zk HB5⟩
    · have hab : ¬ (a = 0 ∧ b = 0) := fun h => ha h.1
      clear HP hn
      go_wp2
      exact bodyPost_ret (v := .bool true) (by simp [results, Tryz.results4, go_sem]) rfl ⟨rfl, (B3.alloc B3.size _).alloc (by have := B3.size; simp; omega) _⟩
  · have hsz : (4000 : Int) < (s.size : Int) := om
    go_wp2
    exact bodyPost_ret (v := .bool true) (by simp [results, Tryz.results4, go_sem]) rfl ⟨rfl, B1⟩
end Go.Proofs.YtheknbfbneghgaaGreatDoor.Pp
