import Derived.Test.YtfkfccpjfagamaaGreatDoorYe
import Derived.KernelRfl
import Derived.Lib.Bytealg
import Derived.Below
set_option linter.all false
namespace Ex
open Go Go.MapKept
variable [Base] {P : Program} {call : Call} {ops : Array Oper} {η0 : Env} {h0 : H} {px : Option (Nat × V × H)} {es : List En} {N : Nat} {ds : V} {ρ0 : Rho} {w0 : World} {bk : Nat → Nat}
theorem OR.grow {ρ : Rho} {l : Loc} {w : World} {o : Ob} {ob : Obj} (h : OR P ρ l w o) (hlt : l.blk < w.heap.size) : OR P ρ l (w.alloc ob) o := h.heap (by
  show (w.heap.push ob)[l.blk]? = _
  rw [Array.getElem?_push, if_neg (by omega)])
theorem HR.grow {ρ : Rho} {h : H} {w : World} (r : HR P ρ h w) (ob : Obj) : HR P ρ h (w.alloc ob) :=
  ⟨fun b o g => let ⟨l, a, q⟩ := r.ob b o g; ⟨l, a, q.grow (r.lt b o l g a)⟩, r.inj, r.fresh, fun b o l g a => by
    have := r.lt b o l g a
    show l.blk < (w.heap.push ob).size
    simp; omega, ⟨by have := r.old.size; show _ ≤ (w.heap.push ob).size; simp; omega, fun k hk => by
    have := r.old.size
    show (w.heap.push ob)[k]? = _
    rw [Array.getElem?_push, if_neg (by omega)]; exact r.old.kept k hk, r.old.wr⟩⟩
theorem St.grow (ρ : Rho) (h : H) (w : World) (ob : Obj) : St ρ h w ρ h (w.alloc ob) :=
  ⟨Rho.le_refl _, rfl, rfl, rfl, by show _ ≤ (w.heap.push ob).size; simp, fun k hk _ => by show (w.heap.push ob)[k]? = _; rw [Array.getElem?_push, if_neg (by omega)], fun _ h => .inl h, Nat.le_refl _, fun b o l g e => .inl ⟨b, o, l, g, e, rfl⟩⟩
theorem put_at {a : Act} {dst : Option Nat} {x : Value} {t : Nat} (hs : N ≤ a.tmps.size) (hd : ∀ d, dst = some d → d < N) : (a.put dst x).tmps[t]? = if dst = some t then some x else a.tmps[t]? := by
  cases dst with
  | none => simp [Act.put]
  | some d =>
    have hlt := Nat.lt_of_lt_of_le (hd d rfl) hs
    show (a.tmps.setIfInBounds d x)[t]? = _
    rw [Array.getElem?_setIfInBounds]
    by_cases e : d = t
    · subst e; simp [hlt]
    · rw [if_neg e, if_neg (fun q => e (by injection q))]
/-- What is read is as it was reckoned. -/
theorem reads (F : Fx P call ops η0 h0 px es) {D : List Nat} {ρ : Rho} {a : Act} {w : World} {pre post : List En} (I : Inv P ops N ds η0 h0 px es ρ0 w0 bk D ρ a w pre post) (hh : HeadOk D post) {p : List En} {k : En} {s : List En} (e : es = p ++ k :: s) (hk : k.r.i ∉ D) (hb : ∀ j, k.r.b.testBit j = true → j ∈ D) : ER ρ (ures (usesR ops.toList k.r) k.e) a := by
  intro t v hv
  rw [ures_get] at hv
  by_cases hu : t ∈ usesR ops.toList k.r
  case neg => rw [if_neg hu] at hv; cases hv
  rw [if_pos hu] at hv
  have hke : k ∈ es := by rw [e]; simp
  obtain ⟨t1, t2, t3, t4⟩ := Tr.at (P := P) (call := call) (all := ops.toList) (px := px) (pre := p) (k := k) (post := s) (η := η0) (h := h0) (by rw [← e]; exact F.tr)
  rw [t1] at hv
  have side : ∀ j ∈ es, j ≠ k → j.r.o.dst = some t → j.r.i ∈ D ∧ k.r.b.testBit j.r.i = true ∨ j.r.i ∉ D ∧ j ∉ p := by
    intro j hj hjk hjt
    have hne : j.r.i ≠ k.r.i := fun q => hjk (F.uniq hj hke q)
    rcases (pair_dst (F.pair j hj k hke) hne hjt).2 hu with h1 | h1
    · refine .inr ⟨fun hjd => hk ?_, fun hjp => ?_⟩
      · refine I.dn j.r.i hjd k.r.i ?_
        rw [← (F.wr j hj).b]; exact h1
      · obtain ⟨s1, s2, rfl⟩ := List.append_of_mem hjp
        have hkb := F.before (p := s1) (k := j) (s := s2 ++ k :: s) (by rw [e]; simp) hke h1
        exact (F.topo (s1 ++ j :: s2) k s e).2 k (List.mem_append_left _ hkb) rfl
    · exact .inl ⟨hb _ h1, h1⟩
  rcases eEnd_get p η0 t with ⟨j, hjp, hjt, hjv⟩ | ⟨hn, hjv⟩
  · rw [hjv] at hv
    injection hv with hv
    subst hv
    have hje : j ∈ es := by rw [e]; exact List.mem_append_left _ hjp
    have hjk : j ≠ k := fun q => (F.topo p k s e).2 j hjp (by rw [q])
    rcases side j hje hjk hjt with ⟨hjd, hkb⟩ | ⟨_, hq⟩
    · refine I.ea j hje hjd (fun hjv => ?_) t hjt
      -- it isn't pending
      apply Classical.byContradiction
      intro hjn
      have hjpost : j ∈ post := by
        have := hje
        rw [I.split] at this
        exact (List.mem_append.1 this).resolve_left hjn
      have hfa := (I.pn j hjpost hjv hjd).1
      rcases hh with rfl | ⟨x, q, rfl, hx1, hx2⟩
      · cases hjpost
      · have hxj : x ≠ j := fun q => hx2 (by rw [q]; exact hjd)
        have hjq : j ∈ q := by
          cases hjpost with
          | head => exact (hxj rfl).elim
          | tail _ h => exact h
        obtain ⟨q1, q2, rfl⟩ := List.append_of_mem hjq
        obtain ⟨p1, p2, rfl⟩ := List.append_of_mem hjp
        -- x stands ahead of j
        have hxp : x ∈ p1 := by
          have e1 : es = (pre ++ x :: q1) ++ j :: q2 := by rw [I.split]; simp
          have e2 : es = p1 ++ j :: (p2 ++ k :: s) := by rw [e]; simp
          have hnodup : pre ++ x :: q1 = p1 := by
            have h3 := e1.symm.trans e2
            rcases List.append_eq_append_iff.1 h3 with ⟨c, c1, c2⟩ | ⟨c, c1, c2⟩
            · cases c with
              | nil => simpa using c1.symm
              | cons z c =>
                injection c2 with c3 c4
                subst c3
                exact ((F.topo p1 j (p2 ++ k :: s) e2).2 j (by rw [c1]; simp) rfl).elim
            · cases c with
              | nil => simpa using c1
              | cons z c =>
                injection c2 with c3 c4
                subst c3
                exact ((F.topo (pre ++ x :: q1) j q2 e1).2 j (by rw [c1]; simp) rfl).elim
          rw [← hnodup]; simp
        exact hx2 (hb _ ((F.chain (p1 ++ j :: p2) k s e).2 j p1 p2 hfa rfl hkb x hxp hx1))
    · exact (hq hjp).elim
  · rw [hjv] at hv
    refine I.eb t v (fun j hje hjd hjt => ?_) hv
    have hjk : j ≠ k := fun q => hk (by rw [← q]; exact hjd)
    rcases side j hje hjk hjt with ⟨_, hkb⟩ | ⟨hq, _⟩
    · exact hn j (F.before e hje hkb) hjt
    · exact hq hjd
/-- One of them is done. -/
theorem Inv.upd (F : Fx P call ops η0 h0 px es) (hN : ∀ k ∈ es, ∀ d, k.r.o.dst = some d → d < N) {D : List Nat} {ρ σ : Rho} {a : Act} {w w' : World} {pre post pre' post' : List En} (I : Inv P ops N ds η0 h0 px es ρ0 w0 bk D ρ a w pre post) {k : En} (hke : k ∈ es) (hk : k.r.i ∉ D) (hrd : Ready ops D k.r.i) (hnx : ∀ x v h', px = some (x, v, h') → x ≠ k.r.i)
    (hs : (k.r.hv = false ∧ pre' = pre ∧ post' = post) ∨ (post = k :: post' ∧ pre' = pre ++ [k]))
    (hr : HR P σ (hEnd pre' h0) w') (st : St ρ (hEnd pre h0) w σ (hEnd pre' h0) w') {x : Value} (hx : DV σ k.v x) {a' : Act} (ha : a' = a.put k.r.o.dst x) : Inv P ops N ds η0 h0 px es ρ0 w0 bk (k.r.i :: D) σ a' w' pre' post' := by
  subst ha
  have hsplit : es = pre' ++ post' := by
    rcases hs with ⟨_, rfl, rfl⟩ | ⟨h1, rfl⟩
    · exact I.split
    · rw [I.split, h1]; simp
  have hsub : ∀ g, g ∈ pre' → g ∈ pre ∨ g = k := by
    intro g hg
    rcases hs with ⟨_, rfl, rfl⟩ | ⟨_, rfl⟩
    · exact .inl hg
    · rcases List.mem_append.1 hg with m | m
      · exact .inl m
      · exact .inr (List.mem_singleton.1 m)
  have hpo : ∀ f ∈ post', f ∈ post := by
    intro f hf
    rcases hs with ⟨_, rfl, rfl⟩ | ⟨h1, _⟩
    · exact hf
    · rw [h1]; exact List.mem_cons_of_mem _ hf
  refine ⟨hsplit, I.dn.cons hrd, hr, I.st.trans st, by rw [put_defers]; exact I.df.mono st.le, by rw [put_size]; exact I.sz, fun g hg hgv => ?_, fun g hg hgd hgv t ht => ?_, fun t v h1 h2 => ?_, fun f hf hfv hfd => ?_, fun f hf g hg hfv hgv hfd hgd hfg => ?_, fun y v h' hp hy => ?_, I.bs⟩
  · rcases hsub g hg with m | rfl
    · exact List.mem_cons_of_mem _ (I.done g m hgv)
    · exact List.mem_cons_self
  · rw [put_at I.sz (hN k hke)]
    by_cases hgk : g = k
    · subst hgk; rw [if_pos ht]; exact ⟨x, rfl, hx⟩
    · have hne : g.r.i ≠ k.r.i := fun q => hgk (F.uniq hg hke q)
      have hgd' : g.r.i ∈ D := (List.mem_cons.1 hgd).resolve_left hne
      rw [if_neg ((pair_dst (F.pair g hg k hke) hne ht).1)]
      obtain ⟨z, z1, z2⟩ := I.ea g hg hgd' (fun q => (hsub g (hgv q)).resolve_right hgk) t ht
      exact ⟨z, z1, z2.mono st.le⟩
  · rw [put_at I.sz (hN k hke), if_neg (h1 k hke List.mem_cons_self)]
    obtain ⟨z, z1, z2⟩ := I.eb t v (fun g hg hgd => h1 g hg (List.mem_cons_of_mem _ hgd)) h2
    exact ⟨z, z1, z2.mono st.le⟩
  · have hfe : f ∈ es := by rw [hsplit]; exact List.mem_append_right _ hf
    have hfk : f ≠ k := by
      rintro rfl
      rcases hs with ⟨h1, rfl, rfl⟩ | ⟨h1, _⟩
      · rw [h1] at hfv; cases hfv
      · exact (F.notafter (p := pre) (k := f) (s := post') (by rw [I.split, h1]) hf).1 rfl
    have hne : f.r.i ≠ k.r.i := fun q => hfk (F.uniq hfe hke q)
    have hfd' : f.r.i ∈ D := (List.mem_cons.1 hfd).resolve_left hne
    obtain ⟨hfa, y, ob, mk, e1, e2, hor, hno, hb1, hb2, hd, hmk⟩ := I.pn f (hpo f hf) hfv hfd'
    refine ⟨hfa, y, ob, mk, e1, e2, (hor.heap ?_).mono st.le, fun b o m hgo hm q => ?_, hb1, Nat.lt_of_lt_of_le hb2 st.size, fun t ht => ?_, hmk⟩
    · refine st.kept _ hb2 (fun hw => ?_)
      obtain ⟨b, o, m, hgo, _, h3, h4⟩ := hw
      exact hno b o m hgo h3 h4
    · rcases st.loc b o m hgo hm with ⟨c, o', m', hgo', h3, h4⟩ | h3
      · exact hno c o' m' hgo' h3 (by rw [h4]; exact q)
      · omega
    · rw [put_at I.sz (hN k hke), if_neg ((pair_dst (F.pair f hfe k hke) hne ht).1)]
      exact hd t ht
  · have nk : ∀ z ∈ post', z.r.hv = true → z.r.i ≠ k.r.i := fun z hz hzv q => by
      have hze : z ∈ es := by rw [hsplit]; exact List.mem_append_right _ hz
      have hzk : z = k := F.uniq hze hke q
      rcases hs with ⟨h1, rfl, rfl⟩ | ⟨h1, _⟩
      · rw [hzk, h1] at hzv; cases hzv
      · exact (F.notafter (p := pre) (k := k) (s := post') (by rw [I.split, h1]) hz).1 hzk
    exact I.pd f (hpo f hf) g (hpo g hg) hfv hgv ((List.mem_cons.1 hfd).resolve_left (nk f hf hfv)) ((List.mem_cons.1 hgd).resolve_left (nk g hg hgv)) hfg
  · cases hy with
    | head => exact hnx _ v h' hp rfl
    | tail _ hy => exact I.px' y v h' hp hy
/-- A place that is made ahead of its turn. -/
theorem Inv.wait (F : Fx P call ops η0 h0 px es) (hN : ∀ k ∈ es, ∀ d, k.r.o.dst = some d → d < N) {D : List Nat} {ρ : Rho} {a : Act} {w : World} {pre post : List En} (I : Inv P ops N ds η0 h0 px es ρ0 w0 bk D ρ a w pre post) {k : En} (hke : k ∈ es) (hkp : k ∈ post) (hkv : k.r.hv = true) (hk : k.r.i ∉ D) (hrd : Ready ops D k.r.i) (hnx : ∀ x v h', px = some (x, v, h') → x ≠ k.r.i) (hfa : isFa (faOf ops) k.r = true)
    {ob : Ob} {obj : Obj} {mk : K → V} (e1 : k.v = mk k.hb.next) (e2 : k.ha = k.hb.new ob) {x : Value} (hor : OR P ρ ⟨w.heap.size, 0, 0⟩ (w.alloc obj) ob) (hmk : ∀ (σ : Rho) (b : K), σ b = some ⟨w.heap.size, 0, 0⟩ → DV σ (mk b) x) :
    Inv P ops N ds η0 h0 px es ρ0 w0 (fun i => if i = k.r.i then w.heap.size else bk i) (k.r.i :: D) ρ (a.put k.r.o.dst x) (w.alloc obj) pre post := by
  have hnp : k ∉ pre := by
    intro hkpre
    obtain ⟨s1, s2, rfl⟩ := List.append_of_mem hkp
    exact (F.topo (pre ++ s1) k s2 (by rw [I.split]; simp)).2 k (by simp [hkpre]) rfl
  have hsz : (w.alloc obj).heap.size = w.heap.size + 1 := Array.size_push _
  refine ⟨I.split, I.dn.cons hrd, I.hr.grow _, I.st.trans (St.grow ..), by rw [put_defers]; exact I.df, by rw [put_size]; exact I.sz, fun g hg hgv => List.mem_cons_of_mem _ (I.done g hg hgv), fun g hg hgd hgv t ht => ?_, fun t v h1 h2 => ?_, fun f hf hfv hfd => ?_, fun f hf g hg hfv hgv hfd hgd hfg => ?_, fun y v h' hp hy => ?_, I.bs⟩
  · have hgk : g ≠ k := fun q => hnp (by rw [← q]; exact hgv (by rw [q]; exact hkv))
    have hne : g.r.i ≠ k.r.i := fun q => hgk (F.uniq hg hke q)
    have hgd' : g.r.i ∈ D := (List.mem_cons.1 hgd).resolve_left hne
    rw [put_at I.sz (hN k hke), if_neg ((pair_dst (F.pair g hg k hke) hne ht).1)]
    exact I.ea g hg hgd' hgv t ht
  · rw [put_at I.sz (hN k hke), if_neg (h1 k hke List.mem_cons_self)]
    exact I.eb t v (fun g hg hgd => h1 g hg (List.mem_cons_of_mem _ hgd)) h2
  · have hfe : f ∈ es := by rw [I.split]; exact List.mem_append_right _ hf
    by_cases hfk : f = k
    · subst hfk
      have e0 : (fun i => if i = f.r.i then w.heap.size else bk i) f.r.i = w.heap.size := if_pos rfl
      unfold PendE
      rw [e0]
      refine ⟨hfa, x, ob, mk, e1, e2, hor, fun b o m hgo hm q => ?_, I.st.size, by omega, fun t ht => by rw [put_at I.sz (hN f hke), if_pos ht], hmk⟩
      have := I.hr.lt b o m hgo hm
      omega
    · have hne : f.r.i ≠ k.r.i := fun q => hfk (F.uniq hfe hke q)
      have hfd' : f.r.i ∈ D := (List.mem_cons.1 hfd).resolve_left hne
      obtain ⟨gfa, z, ob', mk', g1, g2, g3, g4, g5, g6, g7, g8⟩ := I.pn f hf hfv hfd'
      have e0 : (fun i => if i = k.r.i then w.heap.size else bk i) f.r.i = bk f.r.i := if_neg hne
      unfold PendE
      rw [e0]
      exact ⟨gfa, z, ob', mk', g1, g2, g3.grow g6, g4, g5, by omega, fun t ht => by rw [put_at I.sz (hN k hke), if_neg ((pair_dst (F.pair f hfe k hke) hne ht).1)]; exact g7 t ht, g8⟩
  · show (if f.r.i = k.r.i then w.heap.size else bk f.r.i) ≠ (if g.r.i = k.r.i then w.heap.size else bk g.r.i)
    have lt : ∀ z ∈ post, z.r.hv = true → z.r.i ∈ k.r.i :: D → z.r.i ≠ k.r.i → z.r.i ∈ D ∧ bk z.r.i < w.heap.size := fun z hz hzv hzd hzk => by
      have hzd' := (List.mem_cons.1 hzd).resolve_left hzk
      obtain ⟨_, _, _, _, _, _, _, _, _, h6, _⟩ := I.pn z hz hzv hzd'
      exact ⟨hzd', h6⟩
    by_cases q1 : f.r.i = k.r.i
    · have q2 : g.r.i ≠ k.r.i := fun q => hfg (q1.trans q.symm)
      rw [if_pos q1, if_neg q2]
      have := (lt g hg hgv hgd q2).2
      omega
    · rw [if_neg q1]
      obtain ⟨hfd', hfl⟩ := lt f hf hfv hfd q1
      by_cases q2 : g.r.i = k.r.i
      · rw [if_pos q2]; omega
      · rw [if_neg q2]
        exact I.pd f hf g hg hfv hgv hfd' (lt g hg hgv hgd q2).1 hfg
  · cases hy with
    | head => exact hnx _ v h' hp rfl
    | tail _ hy => exact I.px' y v h' hp hy
end Ex
namespace Ex
open Go Go.MapKept
variable [Base] {P : Program} {call : Call} {ops : Array Oper} {η0 : Env} {h0 : H} {px : Option (Nat × V × H)} {es : List En} {N : Nat} {ds : V} {ρ0 : Rho} {w0 : World}
theorem al_val {o : Oper} (ho : isAl o.op = true) {η : Env} {h : H} {nx : Nx} (e : evOp P o η h = .ok nx) : ∃ v h', nx = .val v h' := by
  rcases mm_inv ho with ⟨t, ho⟩ | ⟨t, len, parts, ho⟩ | ⟨t, lx, cx, ho⟩ | ⟨t, ho⟩
  · have e' : opAlloc P η h t = .ok nx := by unfold evOp at e; rw [ho] at e; exact e
    unfold opAlloc at e'
    obtain ⟨z, e1, e2⟩ := bnd_ok e'
    obtain ⟨p, h2, e3, e4⟩ := ovalh_ok e2
    exact ⟨p, h2, e4⟩
  · have e' : opBuildslice P η h t len parts = .ok nx := by unfold evOp at e; rw [ho] at e; exact e
    unfold opBuildslice at e'
    obtain ⟨vs, e1, e2⟩ := bnd_ok e'
    split at e2
    · obtain ⟨z, e3, e4⟩ := bnd_ok e2
      obtain ⟨hp, e4⟩ := bifok e4
      obtain ⟨hb1, e4⟩ := bifok e4
      obtain ⟨hb2, e4⟩ := bifok e4
      obtain ⟨hb3, e4⟩ := bifok e4
      obtain ⟨l, e5, e6⟩ := bnd_ok e4
      exact ⟨_, _, (okinj e6).symm⟩
    · cases e2
  · have e' : opMakeslice P η h t lx cx = .ok nx := by unfold evOp at e; rw [ho] at e; exact e
    unfold opMakeslice at e'
    obtain ⟨lv, e1, e2⟩ := bnd_ok e'
    obtain ⟨cv, e3, e4⟩ := bnd_ok e2
    split at e4
    · obtain ⟨_, e4⟩ := bifok e4
      obtain ⟨_, e4⟩ := bifok e4
      obtain ⟨_, e4⟩ := bifok e4
      obtain ⟨_, e4⟩ := bifok e4
      obtain ⟨z, e5, e6⟩ := bnd_ok e4
      exact ⟨_, _, (okinj e6).symm⟩
    · cases e4
  · have e' : opMakemap0 P η h = .ok nx := by unfold evOp at e; rw [ho] at e; exact e
    unfold opMakemap0 at e'
    exact ⟨_, _, (okinj e').symm⟩
theorem isAlG_op {o : Oper} (h : isAlG o = true) : isAl o.op = true ∧ o.guard = none := by
  unfold isAlG at h
  split at h
  · rename_i hg; exact ⟨h, hg⟩
  · cases h
theorem delAll_get {t : Nat} {v : V} : ∀ {l : List Oper} {η : Env}, (delAll l η).get (key t) = some v → η.get (key t) = some v ∧ ∀ o ∈ l, o.dst ≠ some t
  | [], η, h => ⟨h, fun o ho => by cases ho⟩
  | o :: l, η, h => by
    obtain ⟨a, b⟩ := delAll_get (l := l) (η := delT η o.dst) h
    cases hd : o.dst with
    | none =>
      rw [hd] at a
      exact ⟨a, fun o' ho' => by
        cases ho' with
        | head => rw [hd]; exact fun q => by cases q
        | tail _ ho' => exact b o' ho'⟩
    | some d =>
      rw [hd] at a
      have a' : (η.del (key d)).get (key t) = some v := a
      rw [T.get_del] at a'
      by_cases e : key t = key d
      · rw [if_pos e] at a'; cases a'
      · rw [if_neg e] at a'
        exact ⟨a', fun o' ho' => by
          cases ho' with
          | head => rw [hd]; exact fun q => e (by injection q with q; rw [q])
          | tail _ ho' => exact b o' ho'⟩
theorem strict_head (F : Fx P call ops η0 h0 px es) {bk : Nat → Nat} {D : List Nat} {ρ : Rho} {a : Act} {w : World} {pre post : List En} (I : Inv P ops N ds η0 h0 px es ρ0 w0 bk D ρ a w pre post) (hh : HeadOk D post) {k : En} (hke : k ∈ es) (hkv : k.r.hv = true) (hk : k.r.i ∉ D) (hb : ∀ j, k.r.b.testBit j = true → j ∈ D) (hnf : isFa (faOf ops) k.r = false) : ∃ q, post = k :: q := by
  have hkp : k ∈ post := by
    have := hke
    rw [I.split] at this
    exact (List.mem_append.1 this).resolve_left fun m => hk (I.done k m hkv)
  rcases hh with rfl | ⟨x, q, rfl, hx1, hx2⟩
  · cases hkp
  · cases hkp with
    | head => exact ⟨q, rfl⟩
    | tail _ hkq =>
      obtain ⟨q1, q2, rfl⟩ := List.append_of_mem hkq
      exact (hx2 (hb _ ((F.chain (pre ++ x :: q1) k q2 (by rw [I.split]; simp)).1 hkv hnf x (by simp) hx1))).elim
/-- A region, in whatever order. -/
theorem sim (ng : NG P) (ex : ExtOk P) (hc : CallB P call) (F : Fx P call ops η0 h0 px es) (hN : ∀ k ∈ es, ∀ d, k.r.o.dst = some d → d < N) (hg0 : Gl ρ0) {kd : KD} (hkd : ∀ k ∈ es, Fr kd k.r.o) {CS : Bool → List Frame} {q : Bool} {r : R × Bool}
    (hr0 : px = none → r = (.nor (eEnd es η0) ds (hEnd es h0), q)) (hr1 : ∀ x v h', px = some (x, v, h') → r = (.pan v (delAll ops.toList η0) ds h', q))
    (hpx : ∀ x v h', px = some (x, v, h') → ∃ k ∈ es, k.r.i = x ∧ k.r.hv = true ∧ PnD P call k v h' ∧ wantedB ops.toList k.e k.r.o.guard = .ok true) :
    ∀ (L D : List Nat) (bk : Nat → Nat) (ρ : Rho) (a : Act) (w : World) (pre post : List En), Good ops D L → Inv P ops N ds η0 h0 px es ρ0 w0 bk D ρ a w pre post → HeadOk D post → GO P kd ops (RQ P N ρ0 h0 w0 CS r) L a (CS q) w
  | [], D, bk, ρ, a, w, pre, post, hgood, I, hh => by
    have hlt : ∀ k ∈ es, k.r.i < ops.size := fun k hk => by
      have := (F.wr k hk).op
      rcases Nat.lt_or_ge k.r.i ops.size with y | y
      · exact y
      · rw [Array.getElem?_eq_none y] at this; cases this
    have hp : post = [] := by
      rcases hh with y | ⟨x, q', rfl, _, hx2⟩
      · exact y
      · exact (hx2 (hgood _ (hlt x (by rw [I.split]; simp)))).elim
    subst hp
    have hpre : es = pre := by rw [I.split]; simp
    have hn : px = none := by
      cases hq : px with
      | none => rfl
      | some t =>
        obtain ⟨x, v, h'⟩ := t
        obtain ⟨k, hk, rfl, _⟩ := hpx x v h' hq
        exact (I.px' _ v h' hq (hgood _ (hlt k hk))).elim
    rw [hr0 hn]
    have hi := I.hr
    have hs := I.st
    rw [← hpre] at hi hs
    refine GO.nil ⟨ρ, ⟨fun t v hv => ?_, hi, I.df, I.sz⟩, hs, rfl, rfl⟩
    have hv' : (eEnd es η0).get (key t) = some v := hv
    rcases eEnd_get es η0 t with ⟨k, k1, k2, k3⟩ | ⟨k1, k2⟩
    · rw [k3] at hv'
      injection hv' with hv'
      subst hv'
      exact I.ea k k1 (hgood _ (hlt k k1)) (fun _ => by rw [← hpre]; exact k1) t k2
    · rw [k2] at hv'
      exact I.eb t v (fun k hk _ => k1 k hk) hv'
  | i :: L, D, bk, ρ, a, w, pre, post, hgood, I, hh => by
    obtain ⟨hrd, hgood'⟩ := hgood
    have hg : Gl ρ := hg0.mono I.st.le
    have hin : i < ops.size := by
      obtain ⟨_, o, ho, _⟩ := hrd
      rcases Nat.lt_or_ge i ops.size with y | y
      · exact y
      · rw [Array.getElem?_eq_none y] at ho; cases ho
    obtain ⟨k, hke, rfl⟩ := F.all i hin
    have hni : k.r.i ∉ D := hrd.1
    have W := F.wr k hke
    have hop := W.op
    have hfr : Fr kd k.r.o := hkd k hke
    obtain ⟨p, s, hps⟩ := List.append_of_mem hke
    have hb : ∀ j, k.r.b.testBit j = true → j ∈ D := fun j hj => dn_ready I.dn hrd j (by rw [← W.b]; exact hj)
    have her := reads F I hh hps hni hb
    obtain ⟨t1, t2, t3, t4⟩ := Tr.at (P := P) (call := call) (all := ops.toList) (px := px) (pre := p) (k := k) (post := s) (η := η0) (h := h0) (by rw [← hps]; exact F.tr)
    have hwant : ∀ {y : Bool}, wantedB ops.toList k.e k.r.o.guard = .ok y → Region.wanted k.r.o (yielded ops a.tmps) = y := fun hy => wanted_ok her (by rw [ures_want]; exact hy)
    have headEq : ∀ {q'}, post = k :: q' → k.hb = hEnd pre h0 ∧ hEnd (pre ++ [k]) h0 = k.ha := fun hq' => by
      have := Tr.at (P := P) (call := call) (all := ops.toList) (px := px) (pre := pre) (k := k) (post := _) (η := η0) (h := h0) (by rw [← hq', ← I.split]; exact F.tr)
      exact ⟨this.2.1, by rw [hEnd_app]; rfl⟩
    have fin : ∀ {σ : Rho} {a' : Act} {w' : World} {pre' post' : List En}, Inv P ops N ds η0 h0 px es ρ0 w0 bk (k.r.i :: D) σ a' w' pre' post' → GO P kd ops (RQ P N ρ0 h0 w0 CS r) L a' (CS q) w' := fun I' => by
      obtain ⟨ρ', pre2, post2, k1, k2, _⟩ := advance F _ _ _ I'
      exact sim ng ex hc F hN hg0 hkd hr0 hr1 hpx L _ _ ρ' _ _ pre2 post2 hgood' k1 k2
    by_cases hpk : ∃ v h', px = some (k.r.i, v, h')
    · -- it doesn't come back
      obtain ⟨v, h', hpe⟩ := hpk
      obtain ⟨k', hk', hki, hkv, hpd, hwt⟩ := hpx _ v h' hpe
      have := F.uniq hk' hke hki
      subst this
      obtain ⟨nx, n1, n2⟩ := hpd
      have hnf : isFa (faOf ops) k'.r = false := by
        cases hf : isFa (faOf ops) k'.r with
        | false => rfl
        | true =>
          obtain ⟨v1, h1, rfl⟩ := al_val (isAlG_op (F.fa k' hke hf)).1 n1
          exact n2.elim
      obtain ⟨q', hq'⟩ := strict_head F I hh hke hkv hni hb hnf
      obtain ⟨e1, _⟩ := headEq hq'
      rw [e1, ← ures_op (all := ops.toList)] at n1
      have ok := evOp_ok ng ex her hg I.hr n1
      have erd : ∀ {σ : Rho}, Rho.le ρ σ → ER σ (delAll ops.toList η0) a := fun hle t u hu => by
        obtain ⟨u1, u2⟩ := delAll_get hu
        obtain ⟨z, z1, z2⟩ := I.eb t u (fun g hgm _ => u2 g.r.o (by have := (F.wr g hgm).op; exact Array.mem_toList_iff.2 (Array.mem_of_getElem? this))) u1
        exact ⟨z, z1, z2.mono hle⟩
      rw [hr1 _ v h' hpe]
      cases nx with
      | pan v1 h1 =>
        obtain ⟨rfl, rfl⟩ := n2
        obtain ⟨rfl, x, k1, k2⟩ := ok
        exact GO.panic hfr hop (hwant hwt) k1 ⟨ρ, ⟨erd (Rho.le_refl _), I.hr, I.df, I.sz⟩, I.st, rfl, _, rfl, x, [], rfl, k2, fun e he => by cases he⟩
      | enter f args h1 =>
        obtain ⟨rc, hcall⟩ := n2
        obtain ⟨rfl, xs, k1, k2⟩ := ok
        have cl := hc.1 f args _ _ hcall ρ xs w hg I.hr k2
        refine GO.enter hfr hop (hwant hwt) k1 cl (fun x w2 hR => ?_) (fun ch w2 hR => ?_) (fun w2 hR => ?_)
        · obtain ⟨σ, _, _, y, y3, _⟩ := hR; cases y3
        · obtain ⟨σ, y1, y2, y, y3, y4⟩ := hR
          injection y3 with y3; subst y3
          exact ⟨σ, ⟨erd y2.le, y1, I.df.mono y2.le, I.sz⟩, I.st.trans y2, rfl, _, rfl, y4⟩
        · obtain ⟨σ, _, _, y, y3, _⟩ := hR; cases y3
      | round b args h1 =>
        obtain ⟨rc, hcall⟩ := n2
        obtain ⟨rfl, l, xs, hl, k2, k1⟩ := ok
        obtain ⟨_, _, _, _, _, hs⟩ := hc.2 b args _ _ hcall ρ l xs w hg I.hr hl k2
        obtain ⟨_, _, ⟨σ, _, _, y, y3, _⟩, _⟩ := hs default []
        cases y3
      | val => exact n2.elim
      | skip => exact n2.elim
      | defer => exact n2.elim
      | recover => exact n2.elim
    have hnx : ∀ x v h', px = some (x, v, h') → x ≠ k.r.i := fun x v h' hp hx => hpk ⟨v, h', by rw [← hx]; exact hp⟩
    rcases t4 with ⟨x, v, h', hp, hxb, _⟩ | ⟨v, h', hp, _⟩ | nm
    · exact (I.px' x v h' hp (hb x hxb)).elim
    · exact (hpk ⟨v, h', hp⟩).elim
    cases hy : k.y with
    | false =>
      obtain ⟨n1, n2⟩ := nm.no hy
      have hw := hwant (y := false) (by rw [← hy]; exact nm.want)
      refine GO.pass hop hw ?_
      have hux : DV ρ k.v undef := by rw [n1]; exact undef_dv ρ
      cases hkv : k.r.hv with
      | false => exact fin (I.upd F hN hke hni hrd hnx (.inl ⟨hkv, rfl, rfl⟩) I.hr (St.refl _ _ _) hux rfl)
      | true =>
        have hnf : isFa (faOf ops) k.r = false := by
          cases hf : isFa (faOf ops) k.r with
          | false => rfl
          | true =>
            have := (isAlG_op (F.fa k hke hf)).2
            have hh' := nm.want
            rw [this, hy] at hh'
            cases hh'
        obtain ⟨q', hq'⟩ := strict_head F I hh hke hkv hni hb hnf
        obtain ⟨e1, e2⟩ := headEq hq'
        have e3 : hEnd (pre ++ [k]) h0 = hEnd pre h0 := by rw [e2, n2, e1]
        exact fin (I.upd F hN hke hni hrd hnx (.inr ⟨hq', rfl⟩) (by rw [e3]; exact I.hr) (by rw [e3]; exact St.refl _ _ _) hux rfl)
    | true =>
    have hw := hwant (y := true) (by rw [← hy]; exact nm.want)
    cases hkv : k.r.hv with
    | false =>
      have hlb : lightB k.r.o.op = true := by
        have := W.hv
        rw [hkv] at this
        cases q2 : lightB k.r.o.op with
        | true => rfl
        | false => rw [q2] at this; cases this
      have hev := lvls_ok (P := P) (hf := hEnd es h0) (k := k) es h0 false (fun pre1 x post1 e => by
          have ta := Tr.at (P := P) (call := call) (all := ops.toList) (px := px) (pre := pre1) (k := x) (post := post1) (η := η0) (h := h0) (by rw [← e]; exact F.tr)
          refine ⟨ta.2.1, ta.2.2.1, fun hxi hxv => ?_⟩
          have hxk : x = k := F.uniq (by rw [e]; simp) hke hxi
          subst hxk
          exact (nm.light hy hkv).1) (fun q' => by cases q') rfl (F.lv k hke hkv hy) pre post I.split (fun g hgm hgv => by
          cases q2 : g.r.b.testBit k.r.i with
          | false => rfl
          | true => exact (hni (I.dn g.r.i (I.done g hgm hgv) k.r.i (by rw [← (F.wr g (by rw [I.split]; exact List.mem_append_left _ hgm)).b]; exact q2))).elim) (by
          rcases hh with y | ⟨x, q', y, hx1, hx2⟩
          · exact .inl y
          · refine .inr ⟨x, q', y, hx1, ?_⟩
            cases q2 : k.r.b.testBit x.r.i with
            | false => rfl
            | true => exact (hx2 (hb _ q2)).elim)
      unfold evL at hev
      obtain ⟨nx, n1, n2⟩ := bnd_ok hev
      cases nx with
      | val v h1 =>
        have hv' := okinj n2
        subst hv'
        have hh1 := light_heap hlb n1
        subst hh1
        rw [← ures_op (all := ops.toList)] at n1
        obtain ⟨σ, x, w', k1, k2, k3, k4⟩ := evOp_ok ng ex her hg I.hr n1
        exact GO.value hfr hop hw k1 (fin (I.upd F hN hke hni hrd hnx (.inl ⟨hkv, rfl, rfl⟩) k3 k4 k2 rfl))
      | _ => cases n2
    | true =>
      obtain ⟨nx, n1, n2⟩ := nm.heavy hy hkv
      have headCase : ∀ {q'}, post = k :: q' → GO P kd ops (RQ P N ρ0 h0 w0 CS r) (k.r.i :: L) a (CS q) w := by
        intro q' hq'
        obtain ⟨e1, e2⟩ := headEq hq'
        rw [e1, ← ures_op (all := ops.toList)] at n1
        have ok := evOp_ok ng ex her hg I.hr n1
        have go : ∀ {σ : Rho} {w' : World} {x : Value}, HR P σ k.ha w' → St ρ (hEnd pre h0) w σ k.ha w' → DV σ k.v x → GO P kd ops (RQ P N ρ0 h0 w0 CS r) L (a.put k.r.o.dst x) (CS q) w' := fun g1 g2 g3 =>
          fin (I.upd F hN hke hni hrd hnx (.inr ⟨hq', rfl⟩) (by rw [e2]; exact g1) (by rw [e2]; exact g2) g3 rfl)
        cases nx with
        | val v h' =>
          obtain ⟨m1, m2⟩ := n2
          obtain ⟨σ, x, w', k1, k2, k3, k4⟩ := ok
          exact GO.value hfr hop hw k1 (go (by rw [m2]; exact k3) (by rw [m2]; exact k4) (by rw [m1]; exact k2))
        | skip h' =>
          obtain ⟨m1, m2⟩ := n2
          obtain ⟨σ, w', k1, k3, k4⟩ := ok
          exact GO.skip hfr hop hw k1 (go (by rw [m2]; exact k3) (by rw [m2]; exact k4) (by rw [m1]; exact undef_dv σ))
        | enter f args h1 =>
          obtain ⟨v, h', rc, hcall, m1, m2⟩ := n2
          obtain ⟨rfl, xs, k1, k2⟩ := ok
          have cl := hc.1 f args _ _ hcall ρ xs w hg I.hr k2
          refine GO.enter hfr hop hw k1 cl (fun x w2 hR => ?_) (fun ch w2 hR => ?_) (fun w2 hR => ?_)
          · obtain ⟨σ, y1, y2, y, y3, y4⟩ := hR
            injection y3 with y3; subst y3
            exact go (by rw [m2]; exact y1) (by rw [m2]; exact y2) (by rw [m1]; exact y4)
          · obtain ⟨σ, _, _, y, y3, _⟩ := hR; cases y3
          · obtain ⟨σ, _, _, y, y3, _⟩ := hR; cases y3
        | round b args h1 =>
          obtain ⟨v, h', rc, hcall, m1, m2⟩ := n2
          obtain ⟨rfl, l, xs, hl, k2, k1⟩ := ok
          have cl := hc.2 b args _ _ hcall ρ l xs w hg I.hr hl k2
          refine GO.round hfr hop hw k1 cl (fun x w2 hR => ?_)
          obtain ⟨σ, y1, y2, y, y3, y4⟩ := hR
          injection y3 with y3; subst y3
          exact go (by rw [m2]; exact y1) (by rw [m2]; exact y2) (by rw [m1]; exact y4)
        | pan => exact n2.elim
        | defer => exact n2.elim
        | recover => exact n2.elim
      cases hf : isFa (faOf ops) k.r with
      | false =>
        obtain ⟨q', hq'⟩ := strict_head F I hh hke hkv hni hb hf
        exact headCase hq'
      | true =>
        have hkp : k ∈ post := by
          have := hke
          rw [I.split] at this
          exact (List.mem_append.1 this).resolve_left fun m => hni (I.done k m hkv)
        by_cases hq : ∃ q', post = k :: q'
        · obtain ⟨q', hq'⟩ := hq; exact headCase hq'
        · obtain ⟨hal, _⟩ := isAlG_op (F.fa k hke hf)
          obtain ⟨v, h', rfl⟩ := al_val hal n1
          obtain ⟨m1, m2⟩ := n2
          rw [← ures_op (all := ops.toList)] at n1
          obtain ⟨ob, mk, c1, c2, c3⟩ := alloc_raw hal n1
          obtain ⟨obj, x, d1, d2, d4⟩ := c3 ρ a w her hg
          have I' := I.wait F hN hke hkp hkv hni hrd hnx hf (by rw [m1, c1]) (by rw [m2, c2]) d2 d4
          have hh' : HeadOk (k.r.i :: D) post := by
            rcases hh with y | ⟨x', q', y, hx1, hx2⟩
            · exact .inl y
            · refine .inr ⟨x', q', y, hx1, fun hm => ?_⟩
              rcases List.mem_cons.1 hm with z | z
              · have : x' = k := F.uniq (by rw [I.split, y]; simp) hke z
                exact hq ⟨q', by rw [y, this]⟩
              · exact hx2 z
          exact GO.value hfr hop hw d1 (sim ng ex hc F hN hg0 hkd hr0 hr1 hpx L _ _ ρ _ _ pre post hgood' I' hh')
end Ex
namespace Ex
open Go Go.MapKept
variable [Base] {P : Program}
theorem wr_ext {ops : Array Oper} {a b : Rw} (ha : WR ops a) (hb : WR ops b) (h : a.i = b.i) : a = b := by
  obtain ⟨i, o, m, hv⟩ := a
  obtain ⟨i', o', m', hv'⟩ := b
  simp only at h
  subst h
  have h1 := ha.op
  have h2 := hb.op
  simp only at h1 h2
  rw [h1] at h2
  injection h2 with h2
  subst h2
  have h3 := ha.b; have h4 := hb.b
  have h5 := ha.hv; have h6 := hb.hv
  simp only at h3 h4 h5 h6
  rw [h3, h4, h5, h6]
theorem map_split {es p : List En} {k : En} {s : List En} (h : es = p ++ k :: s) : es.map (·.r) = p.map (·.r) ++ k.r :: s.map (·.r) := by rw [h]; simp
theorem fx_of {call : Call} {ops : Array Oper} {η0 : Env} {h0 : H} {px : Option (Nat × V × H)} {es : List En} (hm : es.map (·.r) = ordOf ops) (ht : Tr P call ops.toList px η0 h0 es)
    (h1 : topoR ops.size (ordOf ops) 0 = true) (h2 : pairsR ops.toList (ordOf ops) (ordOf ops) = true) (h3 : chainR (faOf ops) (ordOf ops) 0 [] = true) (h4 : lvlA P (hEnd es h0) es es = true) : Fx P call ops η0 h0 px es := by
  obtain ⟨t1, t2⟩ := topo_ok (ordOf ops) 0 [] (fun k => by simp) h1
  have hin : ∀ {k : En}, k ∈ es → k.r ∈ ordOf ops := fun hk => by rw [← hm]; exact List.mem_map_of_mem hk
  have wr : ∀ k ∈ es, WR ops k.r := fun k hk => ord_mem (hin hk)
  have fahv : ∀ k ∈ es, isFa (faOf ops) k.r = true → isAlG k.r.o = true ∧ k.r.hv = true := by
    intro k hk hf
    have a := fa_al (wr k hk) hf
    refine ⟨a, ?_⟩
    rw [(wr k hk).hv]
    rcases mm_inv (isAlG_op a).1 with ⟨t, ho⟩ | ⟨t, len, parts, ho⟩ | ⟨t, lx, cx, ho⟩ | ⟨t, ho⟩ <;> (rw [ho]; rfl)
  have ch := chain_ok (fa := faOf ops) (ordOf ops) 0 [] [] (fun g hg => by cases hg) (fun f p1 p2 _ _ e => by cases p1 <;> cases e) h3
  refine ⟨ht, fun i hi => ?_, fun p k s e => ?_, fun a ha b hb => pairs_ok h2 _ (hin ha) _ (hin hb), fun p k s e => ?_, wr, fun k hk h => (fahv k hk h).1, lvlA_ok h4⟩
  · obtain ⟨r, hr, hi'⟩ := t1 i hi
    rw [List.nil_append, ← hm] at hr
    obtain ⟨k, hk, rfl⟩ := List.mem_map.1 hr
    exact ⟨k, hk, hi'⟩
  · have := t2 _ _ _ (by rw [← hm]; exact map_split e)
    rw [List.nil_append] at this
    refine ⟨fun j hj => ?_, fun y hy => this.2 y.r (List.mem_map_of_mem hy)⟩
    obtain ⟨r', hr', he⟩ := this.1 j hj
    obtain ⟨y, hy, rfl⟩ := List.mem_map.1 hr'
    exact ⟨y, hy, he⟩
  · have := ch _ _ _ (by rw [← hm]; exact map_split e)
    simp only [List.nil_append] at this
    refine ⟨fun hv hf g hg hgv => this.1 hv hf g.r (List.mem_map_of_mem hg) hgv, fun f p1 p2 hf hp hb g hg hgv => ?_⟩
    have hfe : f ∈ es := by rw [e, hp]; simp
    exact this.2 f.r (p1.map (·.r)) (p2.map (·.r)) (fahv f hfe hf).2 hf (map_split hp) hb g.r (List.mem_map_of_mem hg) hgv
theorem draw_ok (ng : NG P) (ex : ExtOk P) {call : Call} (hc : CallB P call) : DrawOk P call := by
  intro N kd CS pn ops η ds h q r hops hreg t ρ a w hg s pk
  unfold regD at hreg
  obtain ⟨hst, hreg⟩ := bifok hreg
  unfold regOkS at hst
  obtain ⟨h1, hst⟩ := bifand hst
  obtain ⟨h2, hst⟩ := bifand hst
  obtain ⟨h3, hst⟩ := bifand hst
  obtain ⟨h4, h5⟩ := bifand hst
  obtain ⟨p, hrun, hreg⟩ := bnd_ok hreg
  obtain ⟨h6, hfin⟩ := bifok hreg
  obtain ⟨hm, htr⟩ := runD_ok (ordOf ops) η h p hrun
  have hgood := sched_good h1 h4 h5 (P.follows .mixedOrders) t
  have hN : ∀ k ∈ p.1, ∀ d, k.r.o.dst = some d → d < N := fun k hk => by
    have W : WR ops k.r := ord_mem (by rw [← hm]; exact List.mem_map_of_mem hk)
    exact (opsOk_all hops k.r.o (Array.mem_toList_iff.2 (Array.mem_of_getElem? W.op))).1
  have hF : ∀ k ∈ p.1, Fr kd k.r.o := fun k hk => by
    have W : WR ops k.r := ord_mem (by rw [← hm]; exact List.mem_map_of_mem hk)
    exact (opsOk_all hops k.r.o (Array.mem_toList_iff.2 (Array.mem_of_getElem? W.op))).2
  have go : ∀ {px : Option (Nat × V × H)}, Tr P call ops.toList px η h p.1 → (px = none → r = (.nor (eEnd p.1 η) ds (hEnd p.1 h), q)) → (∀ x v h', px = some (x, v, h') → r = (.pan v (delAll ops.toList η) ds h', q)) →
      (∀ x v h', px = some (x, v, h') → ∃ k ∈ p.1, k.r.i = x ∧ k.r.hv = true ∧ PnD P call k v h' ∧ wantedB ops.toList k.e k.r.o.guard = .ok true) →
      GO P kd ops (RQ P N ρ h w CS r) (Region.schedule (P.follows .mixedOrders) ops t) a (CS q) w := by
    intro px htr hr0 hr1 hpx
    have F := fx_of hm htr h1 h2 h3 h6
    have I0 : Inv P ops N ds η h px p.1 ρ w (fun _ => 0) [] ρ a w [] p.1 := ⟨rfl, fun i hi => (by cases hi), s.hr, St.refl _ _ _, s.df, s.sz, fun g hg => (by cases hg), fun k _ hk => (by cases hk), fun t v _ hv => s.er t v hv, fun f _ _ hf => (by cases hf), fun f _ g _ _ _ hf => (by cases hf), fun _ _ _ _ hx => (by cases hx), s.hr.old.size⟩
    obtain ⟨ρ', pre, post, k1, k2, _⟩ := advance F _ _ _ I0
    exact sim ng ex hc F hN hg hF hr0 hr1 hpx _ _ _ ρ' a w pre post hgood k1 k2
  rcases htr with ⟨e1, e2⟩ | ⟨v, h', x, e1, e2, e3, e4, e5, e6⟩
  · refine go e2 (fun _ => ?_) (fun _ _ _ k => by cases k) (fun _ _ _ k => by cases k)
    unfold finD at hfin
    rw [e1] at hfin
    exact (okinj hfin).symm
  · refine go e6 (fun k => by cases k) (fun x' v' h2 k => ?_) (fun x' v' h2 k => ?_)
    · injection k with k; injection k with k k2; injection k2 with k2 k3
      subst k2; subst k3
      unfold finD at hfin
      rw [e1] at hfin
      exact (okinj hfin).symm
    · injection k with k; injection k with k k2; injection k2 with k2 k3
      subst k; subst k2; subst k3
      exact ⟨x, e2, rfl, e3, e4, e5⟩
/-- THE EVALUATOR IS SOUND: what it answers of a call is what the call comes to, whatever is drawn. -/
theorem call_sound (ng : NG P) (ex : ExtOk P) (wf : WfP P) (n : Nat) : CallN P (call P n) := (call_ok ng ex wf (fun _ => draw_ok ng ex) n).1.1
end Ex
namespace Ex
open Go Go.MapKept
variable [Base] {P : Program} {ρ : Rho} {h : H} {w : World} {nx : Nx}
theorem nx_typeOf : Extern.allNextRows.lookup "internal/reflectlite.TypeOf" = none := by kernel_rfl
theorem nx_comparable : Extern.allNextRows.lookup "(internal/reflectlite.rtype).Comparable" = none := by kernel_rfl
theorem nx_noEscape : Extern.allNextRows.lookup "internal/abi.NoEscape" = none := by kernel_rfl
theorem g_typeOf : Extern.allGenericRows.lookup "internal/reflectlite.TypeOf" = none := by kernel_rfl
theorem g_comparable : Extern.allGenericRows.lookup "(internal/reflectlite.rtype).Comparable" = none := by kernel_rfl
theorem g_noEscape : Extern.allGenericRows.lookup "internal/abi.NoEscape" = none := by kernel_rfl
theorem t_typeOf : Extern.allTypedRows.lookup "internal/reflectlite.TypeOf" = none := by kernel_rfl
theorem t_comparable : Extern.allTypedRows.lookup "(internal/reflectlite.rtype).Comparable" = none := by kernel_rfl
theorem t_noEscape : Extern.allTypedRows.lookup "internal/abi.NoEscape" = none := by kernel_rfl
theorem r_typeOf : Extern.allRows.lookup "internal/reflectlite.TypeOf" = some Extern.ReflectliteType.typeOf := by kernel_rfl
theorem r_noEscape : Extern.allRows.lookup "internal/abi.NoEscape" = some Extern.AbiNoEscape.same := by kernel_rfl
theorem nx_index : Extern.allNextRows.lookup "internal/bytealg.IndexByteString" = none := by kernel_rfl
theorem g_index : Extern.allGenericRows.lookup "internal/bytealg.IndexByteString" = none := by kernel_rfl
theorem t_index : Extern.allTypedRows.lookup "internal/bytealg.IndexByteString" = none := by kernel_rfl
theorem r_index : Extern.allRows.lookup "internal/bytealg.IndexByteString" = some Extern.BytealgIndexByte.indexByte := by kernel_rfl
theorem u8_eq {a c : Nat} (hc : c < 256) : (UInt8.ofNat a == UInt8.ofNat c) = Nat.beq (Nat.mod a 256) c := by
  have h1 : (UInt8.ofNat a == UInt8.ofNat c) = decide (UInt8.ofNat a = UInt8.ofNat c) := rfl
  rw [h1, nbeq_dec]
  show decide _ = decide (a % 256 = c)
  refine decide_eq_decide.2 ⟨fun h => ?_, fun h => ?_⟩
  · have := congrArg UInt8.toNat h
    simp at this
    omega
  · apply UInt8.toNat_inj.1
    simp
    omega
theorem ixL_eq {c : Nat} (hc : c < 256) : ∀ s : List Nat, ixL c s = Lib.indexByte (s.map UInt8.ofNat) (UInt8.ofNat c)
  | [] => rfl
  | a :: s => by
    show ixS c a (ixL c s) = Lib.indexByte (UInt8.ofNat a :: s.map UInt8.ofNat) (UInt8.ofNat c)
    rw [ixL_eq hc s]
    have hge := Lib.indexByte_ge (s.map UInt8.ofNat) (UInt8.ofNat c)
    have hE : Lib.indexByte (UInt8.ofNat a :: s.map UInt8.ofNat) (UInt8.ofNat c) = if (UInt8.ofNat a == UInt8.ofNat c) = true then 0 else if (Lib.indexByte (s.map UInt8.ofNat) (UInt8.ofNat c) == -1) = true then -1 else Lib.indexByte (s.map UInt8.ofNat) (UInt8.ofNat c) + 1 := rfl
    rw [hE, u8_eq hc]
    generalize Lib.indexByte (s.map UInt8.ofNat) (UInt8.ofNat c) = r at hge
    unfold ixS
    cases Nat.beq (Nat.mod a 256) c with
    | true => rfl
    | false =>
      cases r with
      | ofNat n => rfl
      | negSucc k =>
        have hk : k = 0 := by omega
        subst hk
        rfl
theorem nx_none : Extern.allNextRows.lookup "" = none := by kernel_rfl
theorem next_by {fn : Func} {n : String} (hn : fn.name = n) (ho : fn.origin = "") (h : Extern.allNextRows.lookup n = none) : Extern.findNext fn = none := by
  unfold Extern.findNext
  dsimp only
  rw [hn, ho, h, nx_none]; rfl
theorem find_by {fn : Func} {n : String} {g : Array Value → Sem Value} (hn : fn.name = n) (h1 : Extern.allGenericRows.lookup n = none) (h2 : Extern.allTypedRows.lookup n = none) (h3 : Extern.allRows.lookup n = some g) : Extern.find fn = some g := by
  unfold Extern.find
  dsimp only
  rw [hn, h1, h2, h3]; rfl
def extNames : List String := ["internal/reflectlite.TypeOf", "(internal/reflectlite.rtype).Comparable", "internal/abi.NoEscape", "internal/bytealg.IndexByteString"]
/-- The functions without code that the evaluator answers go by their own names. -/
def extB (P : Program) : Bool := P.funcs.toList.all fun fn => !(fn.body.isNone && extNames.contains fn.name) || fn.origin == ""
def comparableRow (t : TypeId) : Sem Value := do
  Extern.Rtype.noPackHeld "Comparable" t
  pure (.bool (← typeInfo t).comparable)
theorem run_comparable {t : Nat} {i : TypeInfo} (hp : P.packed t = false) (hh : P.holdsPacked P.depth t = false) (hi : P.info? t = some i) :
    (Extern.ReflectliteType.method comparableRow [Value.agg [Value.pointer (some ⟨P.globals.size, 0 + t, none⟩)].toArray].toArray).run P w = .ok (.bool i.comparable) w := by
  have e1 : Extern.ReflectliteType.method comparableRow [Value.agg [Value.pointer (some ⟨P.globals.size, 0 + t, none⟩)].toArray].toArray
    = (Extern.Rtype.ofHandle (.pointer (some ⟨P.globals.size, 0 + t, none⟩)) >>= fun t => Extern.Rtype.noPack "a Type asked or handed on" t >>= fun _ => pure t) >>= comparableRow := rfl
  have hq : handleType P (.pointer (some ⟨P.globals.size, 0 + t, none⟩)) = some t := by
    show (if (P.globals.size == P.globals.size) = true then some (0 + t) else none) = some t
    rw [if_pos (beq_self_eq_true _), Nat.zero_add]
  have h1 : (Extern.Rtype.ofHandle (.pointer (some ⟨P.globals.size, 0 + t, none⟩))).run P w = .ok t w := by
    unfold Extern.Rtype.ofHandle
    simp only [Sem.run_bind, run_program, Result.andThen_ok]
    rw [hq]; rfl
  have h2 : (Extern.Rtype.noPack "a Type asked or handed on" t).run P w = .ok () w := by
    unfold Extern.Rtype.noPack
    simp only [Sem.run_bind, run_program, Result.andThen_ok]
    rw [if_neg (by rw [hp]; exact Bool.false_ne_true)]; rfl
  have h3 : (comparableRow t).run P w = .ok (.bool i.comparable) w := by
    have h4 : (Extern.Rtype.noPackHeld "Comparable" t).run P w = .ok () w := by
      unfold Extern.Rtype.noPackHeld
      simp only [Sem.run_bind, run_program, Result.andThen_ok]
      rw [if_neg (by rw [hh]; exact Bool.false_ne_true)]; rfl
    unfold comparableRow
    simp only [Sem.run_bind, h4, Result.andThen_ok, ti_run hi, Sem.run_pure]
  rw [e1]
  simp only [Sem.run_bind, h1, h2, Result.andThen_ok, Sem.run_pure, h3]
theorem r_comparable : Extern.allRows.lookup "(internal/reflectlite.rtype).Comparable" = some (Extern.ReflectliteType.method comparableRow) := by kernel_rfl
theorem ext_ok (ng : NG P) (hg9 : P.globals.size ≤ GB) (hb : extB P = true) : ExtOk P := by
  intro ρ h w f fn args xs nx hf hn ha hg r e
  have horig : ∀ n, n ∈ extNames → fn.name = n → fn.origin = "" := by
    intro n hn' hnm
    have := List.all_eq_true.1 hb fn (Array.mem_toList_iff.2 (Array.mem_of_getElem? hf))
    rw [hn] at this
    have hc : extNames.contains fn.name = true := by rw [hnm]; exact List.contains_iff_mem.2 hn'
    rw [hc] at this
    simpa using this
  unfold callF at e
  rw [hf] at e
  simp only [hn, cond_true] at e
  cases q1 : (fn.name == "internal/reflectlite.TypeOf") with
  | true =>
    rw [q1] at e
    have hnm : fn.name = "internal/reflectlite.TypeOf" := by simpa using q1
    have ho := horig _ (by simp [extNames]) hnm
    have k1 := next_by hnm ho nx_typeOf
    have k2 := find_by hnm g_typeOf t_typeOf r_typeOf
    simp only [cond_true] at e
    split at e
    · rw [← okinj e]
      obtain ⟨y, rfl, hy⟩ := one_inv ha
      cases hy
      exact OpOk.same r (ext_run ng hf hn k1 k2 rfl) .nili
    · rename_i t v
      split at e
      · rename_i nm q hq
        rw [← okinj e]
        exact (ext_typeOf (args := .cons (.iface t v) .nil) ng hg hg9 hf hn k1 k2 r ha hq).2 t v rfl
      · cases e
    · cases e
  | false =>
    rw [q1] at e
    simp only [cond_false] at e
    cases q2 : (fn.name == "(internal/reflectlite.rtype).Comparable") with
    | true =>
      rw [q2] at e
      have hnm : fn.name = "(internal/reflectlite.rtype).Comparable" := by simpa using q2
      have ho := horig _ (by simp [extNames]) hnm
      have k1 := next_by hnm ho nx_comparable
      have k2 := find_by hnm g_comparable t_comparable r_comparable
      simp only [cond_true] at e
      split at e
      · rename_i b t
        obtain ⟨hb', e⟩ := bifok e
        have hbk := K.beq_eq.1 hb'
        cases hp : P.packed t with
        | true => rw [hp] at e; cases e
        | false =>
        rw [hp] at e
        simp only [cond_false] at e
        cases hh : P.holdsPacked P.depth t with
        | true => rw [hh] at e; cases e
        | false =>
        rw [hh] at e
        simp only [cond_false] at e
        split at e
        · rename_i i hi
          rw [← okinj e]
          obtain ⟨y, rfl, hy⟩ := one_inv ha
          cases hy with
          | @agg _ ys hy ho1 =>
          obtain ⟨z, rfl, hz⟩ := one_inv hy
          obtain ⟨c, hc⟩ := hg _ hg9
          cases hz with
          | @ptr _ l _ hl =>
          rw [hbk, hc] at hl
          injection hl with hl
          subst hl
          refine OpOk.same r (ext_run ng hf hn k1 k2 ?_) (.bool _)
          exact run_comparable hp hh hi
        · cases e
      · cases e
    | false =>
      rw [q2] at e
      simp only [cond_false] at e
      cases q3 : (fn.name == "internal/abi.NoEscape") with
      | true =>
        rw [q3] at e
        have hnm : fn.name = "internal/abi.NoEscape" := by simpa using q3
        have ho := horig _ (by simp [extNames]) hnm
        have k1 := next_by hnm ho nx_noEscape
        have k2 := find_by hnm g_noEscape t_noEscape r_noEscape
        simp only [cond_true] at e
        split at e
        · rw [← okinj e]
          obtain ⟨y, rfl, hy⟩ := one_inv ha
          exact ext_noEscape ng hf hn k1 k2 r hy
        · cases e
      | false =>
        rw [q3] at e
        simp only [cond_false] at e
        cases q4 : (fn.name == "internal/bytealg.IndexByteString") with
        | false => rw [q4] at e; cases e
        | true =>
          rw [q4] at e
          have hnm : fn.name = "internal/bytealg.IndexByteString" := by simpa using q4
          have ho := horig _ (by simp [extNames]) hnm
          have k1 := next_by hnm ho nx_index
          have k2 := find_by hnm g_index t_index r_index
          simp only [cond_true] at e
          unfold ixV at e
          split at e
          · rename_i s c
            obtain ⟨hc, e⟩ := bifok e
            have hc' : c < 256 := ble_le (show Nat.ble (c + 1) 256 = true from hc)
            rw [← okinj e]
            obtain ⟨y, ys, rfl, hy, hys⟩ := ha.cons_inv
            obtain ⟨z, rfl, hz⟩ := one_inv hys
            cases hy; cases hz
            refine OpOk.same r (ext_run ng hf hn k1 k2 (x := .int .i64 (Lib.indexByte (bs s).data.toList (Int.ofNat c).toNat.toUInt8)) (Lib.run_indexByteString (bs s) (.ofNat c) w)) ?_
            have : ixL c s = Lib.indexByte (bs s).data.toList (Int.ofNat c).toNat.toUInt8 := ixL_eq hc' s
            rw [← this]
            exact .int _ _
          · cases e
end Ex
namespace Ex
open Go
variable [Base] {P : Program}
/-- A heap of ours, written out. -/
noncomputable def hOf (objs : List (Nat × Ob)) (nx : Nat) : H := ⟨objs.foldr (fun p (t : T Ob) => T.set t (key p.1) p.2) (T.e : T Ob), key nx⟩
theorem key_of (k : K) : k = key (k.num - 1) := K.num_inj (by rw [key_num]; have := K.num_pos k; omega)
theorem hOf_get (nx : Nat) : ∀ (objs : List (Nat × Ob)) (n : Nat), (hOf objs nx).get (key n) = objs.lookup n
  | [], n => by
    show (T.e : T Ob).get (key n) = none
    cases key n <;> rfl
  | p :: r, n => by
    have ih := hOf_get nx r n
    show (T.set (r.foldr (fun p (t : T Ob) => T.set t (key p.1) p.2) (T.e : T Ob)) (key p.1) p.2).get (key n) = _
    rw [T.get_set, List.lookup_cons]
    by_cases e : n = p.1
    · subst e; simp
    · rw [if_neg (fun q => e (key_inj q))]
      have : (n == p.1) = false := by simpa using e
      rw [this]; exact ih
def rhoOf (loc : Nat → Option Loc) : Rho := fun k => loc (k.num - 1)
theorem rhoOf_key (loc : Nat → Option Loc) (n : Nat) : rhoOf loc (key n) = loc n := by
  unfold rhoOf; rw [key_num]; rfl
theorem hr_of {objs : List (Nat × Ob)} {nx : Nat} {loc : Nat → Option Loc} {W : World} (h1 : ∀ n o, objs.lookup n = some o → ∃ l, loc n = some l ∧ OR P (rhoOf loc) l W o ∧ l.blk < W.heap.size)
    (h2 : ∀ n m o q l l', objs.lookup n = some o → objs.lookup m = some q → loc n = some l → loc m = some l' → l.blk = l'.blk → n = m ∨ Apart o q l l') (h3 : ∀ n, nx ≤ n → loc n = none) (h4 : Old (rhoOf loc) (hOf objs nx) W) : HR P (rhoOf loc) (hOf objs nx) W := by
  have gk : ∀ b, (hOf objs nx).get b = objs.lookup (b.num - 1) := fun b => by
    conv => lhs; rw [key_of b]
    exact hOf_get _ _ _
  refine ⟨fun b o e => ?_, fun b c o q l m e1 e2 a1 a2 eq => ?_, fun b hb => ?_, fun b o l e a => ?_, h4⟩
  · rw [gk] at e
    obtain ⟨l, k1, k2, _⟩ := h1 _ o e
    exact ⟨l, k1, k2⟩
  · rw [gk] at e1 e2
    rcases h2 _ _ o q l m e1 e2 a1 a2 eq with k | k
    · exact .inl (by rw [key_of b, key_of c, k])
    · exact .inr k
  · refine h3 _ ?_
    have : (hOf objs nx).next.num = nx + 1 := key_num nx
    omega
  · rw [gk] at e
    obtain ⟨l', k1, _, k3⟩ := h1 _ o e
    have : l' = l := by
      have a' : loc (b.num - 1) = some l := a
      rw [k1] at a'; injection a'
    rw [← this]; exact k3
/-- WHAT THE EVALUATOR FINDS TRUE IS TRUE, and leaves all that was there. -/
theorem exec_true (ng : NG P) (ex : ExtOk P) (wf : WfP P) {n f : Nat} {args : V} {h h1 : H} {rc : Bool} (e : (call P n).c none f args h = .ok (.ret (.bool true) h1 rc)) {ρ : Rho} {xs : List Value} {w : World} (hg : Gl ρ) (hr : HR P ρ h w) (ha : DV ρ args (LV xs)) (hro : ∀ b o, h.get b = some o → o.rw = false) :
    Calls P f xs.toArray w fun en w' => en = .returned (.bool true) ∧ RowKit.Below w.heap.size w w' :=
  (call_sound ng ex wf n f args h _ e ρ xs w hg hr ha).mono fun en w' k => by
    obtain ⟨σ, _, st, x, rfl, hx⟩ := k
    cases hx
    exact ⟨rfl, st.os, st.tape, st.output, st.size, fun k hk => st.kept k hk fun hw => by
      obtain ⟨b, o, l, hb, ho, _⟩ := hw
      rw [hro b o hb] at ho; cases ho⟩
end Ex
namespace Ex
open Go Go.MapKept
variable [Base] {P : Program}
/-- Blocks of others, that come to be, change nothing. -/
theorem HR.below {ρ : Rho} {h : H} {w w' : World} (r : HR P ρ h w) (b : RowKit.Below w.heap.size w w') : HR P ρ h w' :=
  ⟨fun b' o g => let ⟨l, a, q⟩ := r.ob b' o g; ⟨l, a, q.heap (b.block _ (r.lt b' o l g a))⟩, r.inj, r.fresh, fun b' o l g a => Nat.lt_of_lt_of_le (r.lt b' o l g a) b.size,
   ⟨Nat.le_trans r.old.size b.size, fun k hk => by rw [b.block k (Nat.lt_of_lt_of_le hk r.old.size)]; exact r.old.kept k hk, r.old.wr⟩⟩
theorem St.below {ρ : Rho} {h : H} {w w' : World} (b : RowKit.Below w.heap.size w w') : St ρ h w ρ h w' :=
  ⟨Rho.le_refl _, b.os, b.tape, b.output, b.size, fun k hk _ => b.block k hk, fun _ h => .inl h, Nat.le_refl _, fun b o l g e => .inl ⟨b, o, l, g, e, rfl⟩⟩
def OrcOk (P : Program) (orc : Nat → V → Bool) : Prop := ∀ f args, orc f args = true → ∀ (ρ : Rho) (h : H) (w : World) (xs : List Value), HR P ρ h w → DV ρ args (LV xs) → Calls P f xs.toArray w fun e w' => e = .returned (.bool true) ∧ RowKit.Below w.heap.size w w'
theorem callO_ok (ng : NG P) (ex : ExtOk P) (wf : WfP P) {orc : Nat → V → Bool} (ho : OrcOk P orc) : ∀ n, CallB P (callO P orc n) ∧ CallD P (callO P orc n)
  | 0 => ⟨⟨fun _ _ _ _ e => (by cases (show O.no 136 = .ok _ from e)), fun _ _ _ _ e => (by cases (show O.no 136 = .ok _ from e))⟩, fun _ _ _ _ _ e => (by cases (show O.no 136 = .ok _ from e))⟩
  | n+1 => by
    obtain ⟨I1, I2⟩ := callO_ok ng ex wf ho n
    obtain ⟨⟨J1, J3⟩, J2⟩ := callT_ok ng ex wf I1 I2 (draw_ok ng ex I1)
    refine ⟨⟨fun f args h e he ρ xs w hg hr ha => ?_, J3⟩, J2⟩
    have he' : (bif orc f args then .ok (.ret (.bool true) h false) else callS P (callO P orc n) none f args h) = .ok e := he
    cases q : orc f args with
    | false => rw [q] at he'; exact J1 f args h e he' ρ xs w hg hr ha
    | true =>
      rw [q] at he'
      rw [← okinj (show O.ok (E.ret (.bool true) h false) = .ok e from he')]
      refine (ho f args q ρ h w xs hr ha).mono fun en w' k => ?_
      obtain ⟨rfl, hb⟩ := k
      exact ⟨ρ, hr.below hb, St.below hb, _, rfl, .bool true⟩
theorem isT_ok {x : O E} (h : isT x = true) : ∃ h1 rc, x = .ok (.ret (.bool true) h1 rc) := by
  unfold isT at h
  split at h
  · subst h; exact ⟨_, _, rfl⟩
  · cases h
theorem exec_orc (ng : NG P) (ex : ExtOk P) (wf : WfP P) {orc : Nat → V → Bool} (ho : OrcOk P orc) {n f : Nat} {args : V} {h : H} (e : isT ((callO P orc n).c none f args h) = true) {ρ : Rho} {xs : List Value} {w : World} (hg : Gl ρ) (hr : HR P ρ h w) (ha : DV ρ args (LV xs)) (hro : ∀ b o, h.get b = some o → o.rw = false) :
    Calls P f xs.toArray w fun en w' => en = .returned (.bool true) ∧ RowKit.Below w.heap.size w w' := by
  obtain ⟨h1, rc, e1⟩ := isT_ok e
  refine ((callO_ok ng ex wf ho n).1.1 f args h _ e1 ρ xs w hg hr ha).mono fun en w' k => ?_
  obtain ⟨σ, _, st, x, rfl, hx⟩ := k
  cases hx
  exact ⟨rfl, st.os, st.tape, st.output, st.size, fun k hk => st.kept k hk fun hw => by
    obtain ⟨b, o, l, hb, ho, _⟩ := hw
    rw [hro b o hb] at ho; cases ho⟩
theorem memT_mem {s : List Nat} {b : Bool} : ∀ {t : List (List Nat × Bool)}, memT s b t = true → (s, b) ∈ t
  | [], h => by cases h
  | p :: r, h => by
    have h' : memS s b p (memT s b r) = true := h
    unfold memS at h'
    cases q1 : boolB p.2 b with
    | false => rw [q1] at h'; exact List.mem_cons_of_mem _ (memT_mem h')
    | true =>
      rw [q1] at h'
      cases q2 : eqL p.1 s with
      | false => rw [q2] at h'; exact List.mem_cons_of_mem _ (memT_mem h')
      | true =>
        have h1 := boolB_eq q1
        have h2 := eqL_eq q2
        obtain ⟨a, c⟩ := p
        simp only at h1 h2
        subst h1; subst h2
        exact List.mem_cons_self
/-- What is known of a call without arguments and of calls of a text and a bool. -/
theorem orcT_ok {fa fe : Nat} {tbl : List (List Nat × Bool)} (h1 : ∀ (ρ : Rho) (h : H) (w : World), HR P ρ h w → Calls P fa #[] w fun e w' => e = .returned (.bool true) ∧ RowKit.Below w.heap.size w w')
    (h2 : ∀ p ∈ tbl, ∀ (ρ : Rho) (h : H) (w : World), HR P ρ h w → Calls P fe #[.string (bs p.1), .bool p.2] w fun e w' => e = .returned (.bool true) ∧ RowKit.Below w.heap.size w w') : OrcOk P (orcT fa fe tbl) := by
  intro f args e ρ h w xs hr ha
  unfold orcT at e
  cases q : Nat.beq f fa with
  | true =>
    rw [q] at e
    have := beq_eq q
    subst this
    cases args with
    | nil =>
      rw [ha.nil_inv]
      exact h1 ρ h w hr
    | _ => cases e
  | false =>
    rw [q] at e
    cases q2 : Nat.beq f fe with
    | false => rw [q2] at e; cases e
    | true =>
      rw [q2] at e
      have := beq_eq q2
      subst this
      have e' : orcA tbl args = true := e
      unfold orcA at e'
      split at e'
      · rename_i s b
        obtain ⟨y, ys, rfl, hy, hys⟩ := ha.cons_inv
        obtain ⟨z, rfl, hz⟩ := one_inv hys
        cases hy; cases hz
        exact h2 (s, b) (memT_mem e') ρ h w hr
      · cases e'
end Ex
