import PyProof.Rows.All
import Wide.All
import OpenK.AllK
import Wide.FinOn
import HandS.AnyAll
import HandS.GenList
import HandS.Conv
import PyProof.CollectWalk
import PyProof.TupleOfGen
import HandS.ForSpec
import HandS.Wide
import HandS.IsInst
import HandS.ExcIs
import HandS.Codes
import HandS.Defaults
import HandS.Text
import HandS.StrMore
import HandS.Flow
import HandS.TupLen
import PyProof.NeKinds
import HandS.Gcd
import HandS.TupMul
import HandS.TupAny
import HandS.Style
import PyProof.Rows.IntBool
import PyProof.FString5
import PyProof.Rows.ReprOcc
import PyProof.Rows.RegStrFacts
import HandS.Walk
import HandS.TryOnly
import HandS.WordsExc
import HandS.ExcOwn
import HandS.EndTab
import KE.KNestM
import PySem.Challenge.RW_juststeps_k01_programs_judged
set_option Elab.async false
set_option linter.all false
set_option maxRecDepth 100000
set_option maxHeartbeats 2000000
namespace GA
open PySem PySem.Spec PyProof.Rows L2 GxR

/-- the context of a generator expression's frame: it starts at s4, H4; its iterator's objects at fp -/
abbrev gxOf (X : Cx) (s4 : Shared) (H4 : Hp) (cenv : Env) (A' : Around) (fp : List Addr) : Cx :=
  { X with A := A', s_0 := s4, H_0 := H4, env := cenv, outer := X.stack, stack := cenv :: X.stack, ex := fp, fn := fun _ => false, calm := true, pn := [], xe := fun _ _ => False }

theorem over_comp {A : Around} {elt : Expr} {gs : List Comprehension} {scope : Scope} {pos : Pos} {it acc : Value} {env : Env} : A.over (.compLoop (.GeneratorExp elt gs scope pos) 0 it acc env) [] = A.deeper env := by
  first
    | rfl
    | (obtain ⟨hd, d, fr, gs, u⟩ := A; simp [Around.over, Around.deeper, marksOver, frameCount, unitsOf, envsOf, guardsOf, pushEnvs, pushGuards, Code.envs, Code.env?, Code.isFrame, Code.guards, Code.isGuard, Code.weight, Code.frames, Code.isCreation, Code.isCaller, Code.cUnits])
theorem over_start {A : Around} {elt : Expr} {gs : List Comprehension} {scope : Scope} {pos : Pos} {it acc : Value} {env : Env} : A.over (.compStart (.GeneratorExp elt gs scope pos) 0 it acc env) [] = A.deeper env := by
  first
    | rfl
    | (obtain ⟨hd, d, fr, gs, u⟩ := A; simp [Around.over, Around.deeper, marksOver, frameCount, unitsOf, envsOf, guardsOf, pushEnvs, pushGuards, Code.envs, Code.env?, Code.isFrame, Code.guards, Code.isGuard, Code.weight, Code.frames, Code.isCreation, Code.isCaller, Code.cUnits])

section
variable {X : Cx} {pins : List (Addr × Obj)} {σ : L2.St} {H : Hp} {s : Shared}
theorem inv_gens (I : Inv X pins σ H s) {g' : Array GenState} (hg : AllBare g') : Inv X pins σ H { s with gens := g' } :=
  ⟨I.ok, I.os, hg, I.base, I.loc, I.cell, I.free, I.freeC, I.pin, I.hok, I.len⟩
theorem inv_setGen (I : Inv X pins σ H s) {g : Nat} {x : GenState} (hx : x.bare = true) : Inv X pins σ H (s.setGen g x) :=
  inv_gens I (allBare_setGen I.bare hx)

/-- the frame of the generator expression has been made -/
theorem gx_start {scope : Scope} {own : List (Str × Nat)} {fp : List Addr} {A' : Around} {code : Value} {s5 : Shared} {m0 : Str → Option Value} (I : Inv X pins σ H s) (ok : BlkOk X.N X.env.scope scope own) (hcell : ∀ y ∈ scope.names, y.2 ≠ .cell) (hN : X.N.Nodup) (hfp : ∀ b ∈ fp, FpOk X pins H b ∧ b < s.heap.objs.size)
    (hA : A'.handled = none) (hfr : A'.frames = some (genEnv scope (cloFrom X.env.cells scope.names []) s.heap.objs.size code builtinsNs X.env :: X.stack))
    (os : s5.os = s.os) (hb : AllBare s5.gens) (kp : ∀ b o, s.heap.get? b = some o → s5.heap.get? b = some o) (hn : s5.heap.Ns s.heap.objs.size m0) :
    Inv (gxOf X s H (genEnv scope (cloFrom X.env.cells scope.names []) s.heap.objs.size code builtinsNs X.env) A' fp) [] (wipe σ (own.map (·.2))) H s5 := by
  have hfree : ∀ y ∈ scope.names, y.2 = .free → ∃ c, X.env.cells.lookup y.1 = some c := fun y hy e => by
    rcases ok.free y hy e with k | k
    · exact I.ok.has _ (.inl k)
    · exact I.ok.has _ (.inr k)
  generalize hcenv : genEnv scope (cloFrom X.env.cells scope.names []) s.heap.objs.size code builtinsNs X.env = cenv at hfr ⊢
  have hL : cenv.locals = s.heap.objs.size := by rw [← hcenv]; rfl
  have hcl : cenv.cells = cloFrom X.env.cells scope.names [] := by rw [← hcenv]; rfl
  have hsc : cenv.scope = scope := by rw [← hcenv]; rfl
  have hfrm : cenv.frame = some cenv.locals := by rw [← hcenv]; rfl
  have cm : ∀ {y c}, (y, c) ∈ cloFrom X.env.cells scope.names [] → X.env.cells.lookup y = some c ∧ c < s.heap.objs.size := fun {y c} hm => by
    rcases cloFrom_mem hm with hm | ⟨h1, rfl⟩
    · cases hm
    · obtain ⟨c, hc⟩ := hfree _ h1 rfl
      rw [hc]
      obtain ⟨w, z⟩ := I.cell _ _ hc
      exact ⟨rfl, z.lt⟩
  have mem : ∀ {y c}, cenv.cells.lookup y = some c → (X.env.cells.lookup y = some c ∧ c < s.heap.objs.size) := fun {y c} e => by
    rw [hcl] at e
    exact cm (PySem.mem_of_lookup e)
  have look : ∀ {y}, scope.names.lookup y = some .free → ∃ c, cenv.cells.lookup y = some c ∧ X.env.cells.lookup y = some c := fun {y} hl => by
    have hy : (y, NameKind.free) ∈ scope.names := PySem.mem_of_lookup hl
    obtain ⟨c', e'⟩ := mem_lookup (cloFrom_has (cells := X.env.cells) (acc := []) hy)
    rw [← hcl] at e'
    exact ⟨c', e', (mem e').1⟩
  have noCell : ∀ {y}, scope.names.lookup y ≠ some .cell := fun {y} e => hcell _ (PySem.mem_of_lookup e) rfl
  have okB : (gxOf X s H cenv A' fp).Ok := by
    refine ⟨I.ok.mod, by show cenv.scope.kind = _; rw [hsc]; exact ok.kind, by show cenv.globals = _; rw [← hcenv]; exact I.ok.glob, by show cenv.builtins = _; rw [← hcenv]; rfl, by show s.heap.objs.size ≤ cenv.locals; rw [hL]; exact Nat.le_refl _,
      fun y z c e1 e2 => ?_, fun y hy => ?_, fun y c z e => ?_, fun _ => hA, hfr, .inr ⟨rfl, hfrm⟩, fun b hb => ⟨?_, fun y c e z => ?_⟩, I.bs, Nat.le_trans I.ok.bsz I.sz, fun b o e hb => ?_, fun b hb z => ?_, I.stack, I.stkFree⟩
    · have e1 : cenv.cells.lookup y = some c := e1
      have e2 : cenv.cells.lookup z = some c := e2
      exact I.ok.inj y z c (mem e1).1 (mem e2).1
    · show ∃ c, cenv.cells.lookup y = some c
      have hy : cenv.scope.names.lookup y = some .cell ∨ cenv.scope.names.lookup y = some .free := hy
      rw [hsc] at hy
      rcases hy with hy | hy
      · exact absurd hy noCell
      · obtain ⟨c, h1, _⟩ := look hy
        exact ⟨c, h1⟩
    · cases z
    · show b ≠ cenv.locals
      rw [hL]; exact Nat.ne_of_lt (hfp b hb).2
    · have e : cenv.cells.lookup y = some c := e
      exact (hfp b hb).1.2.2.2.2.1 y c (mem e).1 z
    · rcases (hfp b hb).1.2.2.2.1 with z | z
      · exact I.ok.noex b o e z
      · exact absurd (Nat.lt_of_lt_of_le (Heap.lt_size e) (Nat.le_trans I.ok.bsz z)) (Nat.lt_irrefl _)
    · rcases List.mem_cons.mp (I.stkSub b z) with z | z
      · exact (hfp b hb).1.2.1 z
      · exact (hfp b hb).1.2.2.1 z
  refine ⟨okB, os, hb, Un.kept kp, ⟨m0, ?_, fun i y av e1 e2 e3 => ?_⟩, fun y c e => ?_, ?_, fun y c e => ?_, fun p hp => ?_, I.hok.kept kp, by rw [wipe_length]; exact I.len⟩
  · show Heap.Ns _ cenv.locals _
    rw [hL]; exact hn
  · obtain ⟨e2, hne⟩ := wipe_some e2
    have e3 : cenv.scope.names.lookup y = some .local ∨ cenv.scope.names.lookup y = some .cell ∨ cenv.scope.names.lookup y = some .free := e3
    rw [hsc] at e3
    have no : ¬ (scope.names.lookup y = some .local) := fun e => by
      rcases ok.own _ (PySem.mem_of_lookup e) (.inl rfl) with e' | e'
      · obtain ⟨p, hp, hpy⟩ := List.mem_map.mp e'
        have e3 := ok.ix p hp
        have : p.1 = y := hpy
        rw [this] at e3
        exact hne (List.mem_map.mpr ⟨p, hp, nodup_ix hN e3 e1⟩)
      · exact e' (List.mem_of_getElem? e1)
    have hfr2 : scope.names.lookup y = some .free := by
      rcases e3 with e3 | e3 | e3
      · exact absurd e3 no
      · exact absurd e3 noCell
      · exact e3
    obtain ⟨m, hn, hl⟩ := I.loc
    have hvis : Vis X.env.scope y := (ok.free _ (PySem.mem_of_lookup hfr2) rfl).elim (fun k => .inr (.inl k)) (fun k => .inr (.inr k))
    obtain ⟨w, r, q⟩ := hl i y av e1 e2 hvis
    refine ⟨w, r, .inr ⟨.inr (by show cenv.scope.names.lookup y = _; rw [hsc]; exact hfr2), ?_⟩⟩
    obtain ⟨c, h1, h2⟩ := look hfr2
    rcases q with ⟨k, _⟩ | ⟨_, c', e', z⟩
    · have k : X.env.scope.names.lookup y = some .local := k
      rcases ok.free _ (PySem.mem_of_lookup hfr2) rfl with k' | k' <;> rw [show X.env.scope.names.lookup y = _ from k'] at k <;> cases k
    · rw [h2] at e'; cases e'
      exact ⟨c, h1, z.keeps kp⟩
  · have e : cenv.cells.lookup y = some c := e
    obtain ⟨w, z⟩ := I.cell y c (mem e).1
    exact ⟨w, z.keeps kp⟩
  · show H cenv.locals = none
    rw [hL]; exact I.hok.fresh (Nat.le_refl _)
  · have e : cenv.cells.lookup y = some c := e
    exact I.freeC y c (mem e).1
  · exact absurd (show p ∈ ([] : List (Addr × Obj)) ++ [] from hp) (by simp)
end
end GA
set_option Elab.async false
set_option linter.all false
set_option maxRecDepth 100000
set_option maxHeartbeats 2000000
namespace GA
open PySem PySem.Spec PyProof.Rows L2 GxR

/-- between the turns of a generator expression; cp: what its consumer holds -/
def InvG (G : Cx) (fp : List Addr) (tn : Nat → Heap → Prop) (τ : L2.St) (a : Addr) (go : Obj) (i : Nat) (cp : List (Addr × Obj)) (H : Hp) (s : Shared) : Prop :=
  Inv G ((a, go) :: cp) τ H s ∧ tn i s.heap ∧ (∀ b ∈ fp, H b = none) ∧ a ∉ fp ∧ ∀ p ∈ cp, p.1 ∉ fp
/-- what the consumer holds, by what has come so far -/
abbrev TCp := List V → List (Addr × Obj) → Prop
/-- what the consumer does with an item: those before it, it, the heap, how it goes on -/
abbrev TK := List V → V → Hp → (List V → Hp → Prop) → Prop
def YG (G : Cx) (fp : List Addr) (tn : Nat → Heap → Prop) (τ : L2.St) (a : Addr) (go : Obj) (CP : TCp) (K : TK) : Protocol := fun n s₀ v s kap =>
  ∃ (y : V) (H' : Hp) (cp : List (Addr × Obj)) (acc : List V) (i : Nat) (Nx : List V → Hp → Prop), RelV y v ∧ InvG G fp tn τ a go i cp H' s ∧ CP acc cp ∧ (∀ p ∈ cp, s₀.heap.get? p.1 = some p.2) ∧ K acc y H' Nx ∧
    ∀ cp' acc' H'' s'', InvG G fp tn τ a go i cp' H'' s'' → CP acc' cp' → Nx acc' H'' → kap (.send .none) s''
def PGn (G : Cx) (τ : L2.St) (a : Addr) (go : Obj) (CP : TCp) (stop : List V → Hp → Prop) : Nat → Shared → Shared → Prop := fun n s₀ s =>
  ∃ (H' : Hp) (cp : List (Addr × Obj)) (acc : List V), Inv G ((a, go) :: cp) τ H' s ∧ CP acc cp ∧ (∀ p ∈ cp, s₀.heap.get? p.1 = some p.2) ∧ stop acc H'
/-- the turns -/
def Turns (J : It) (g : TG) (tt : TT) (te : TE) (vs : List Nat) (σ : L2.St) (stop : List V → Hp → Prop) (K : TK) (W : Nat → Nat → List V → Hp → Prop) : Prop :=
  ∀ i m acc H, W i m acc H → (J.stop i H ∧ stop acc H) ∨ (J.go i H ∧ ∃ Nx : List V → Hp → Prop, (∀ acc' H', Nx acc' H' → ∃ m', m' < m ∧ W (i + 1) m' acc' H') ∧ ∀ x H', J.yld i H x H' → g x (wipe σ vs) H' fun σ2 H2 => wipe σ2 vs = wipe σ vs ∧ tt σ2 H2 fun b H3 =>
    if b = true then te σ2 H3 fun y H4 => K acc y H4 Nx else Nx acc H3)

section
variable {X : Cx} {s4 : Shared} {H4 : Hp} {cenv : Env} {A' B : Around} {fp : List Addr}
theorem seg_gx {elt tg iter : Expr} {ifs : List Expr} {scope : Scope} {pos : Pos} {it a : Addr} {go : Obj} {J : It} {tn : Nat → Heap → Prop} {g : TG} {tt : TT} {te : TE} {vs : List Nat} {σ : L2.St} {stop : List V → Hp → Prop} {CP : TCp} {K : TK} {W : Nat → Nat → List V → Hp → Prop}
    (hB : B.deeper cenv = A') (hco : cenv.scope.isCoroutine = false) (T : Turn X.prog X.w X.K tg J fp it tn) (pg : PG (gxOf X s4 H4 cenv A' fp) tg g) (pt : PTs (gxOf X s4 H4 cenv A' fp) ifs tt) (pe : PE (gxOf X s4 H4 cenv A' fp) elt te)
    (turn : Turns J g tt te vs σ stop K W) :
    ∀ (m n i : Nat) (acc : List V) (cp : List (Addr × Obj)) (H : Hp) (s₀ s : Shared), m + 1 ≤ n → InvG (gxOf X s4 H4 cenv A' fp) fp tn (wipe σ vs) a go i cp H s → CP acc cp → (∀ p ∈ cp, s₀.heap.get? p.1 = some p.2) → W i m acc H →
      Seg (model X.prog X.w) B (fun n s₀ r s₁ => r = .ok .next ∧ PGn (gxOf X s4 H4 cenv A' fp) (wipe σ vs) a go CP stop n s₀ s₁) (YG (gxOf X s4 H4 cenv A' fp) fp tn (wipe σ vs) a go CP K) n s₀
        (.compLoop (.GeneratorExp elt [⟨tg, iter, ifs, 0⟩] scope pos) 0 (.ref it) .none cenv)
        ((model X.prog X.w).den (.compLoop (.GeneratorExp elt [⟨tg, iter, ifs, 0⟩] scope pos) 0 (.ref it) .none cenv)) [] s := by
  have hov : B.over (.compLoop (.GeneratorExp elt [⟨tg, iter, ifs, 0⟩] scope pos) 0 (.ref it) .none cenv) [] = (gxOf X s4 H4 cenv A' fp).A := over_comp.trans hB
  intro m
  induction m using Nat.strongRecOn with
  | ind m ih =>
    intro n i acc cp H s₀ s hn hI hcp h0 w
    have hI0 := hI
    obtain ⟨I, st, hz, hafp, hcfp⟩ := hI
    have stat : ∀ {pins' : List (Addr × Obj)} {σ' : L2.St} {H' : Hp} {s' : Shared}, (∀ p ∈ pins', p.1 ∉ fp) → Inv (gxOf X s4 H4 cenv A' fp) pins' σ' H' s' → (∀ b ∈ fp, H' b = none) → ∀ b ∈ fp, FpOk (gxOf X s4 H4 cenv A' fp) pins' H' b := fun {pins' σ' H' s'} hp I' hn b hb =>
      ⟨hn b hb, (I'.ok.exf b hb).1, I'.ok.exfs b hb, .inl hb, fun x c e => (I'.ok.exf b hb).2 x c e, fun p hp2 e => by
        have hp2 : p ∈ ([] : List (Addr × Obj)) ++ pins' := hp2
        exact hp p (by simpa using hp2) (e ▸ hb)⟩
    have hpin : ∀ p ∈ (a, go) :: cp, p.1 ∉ fp := fun p hp => by
      rcases List.mem_cons.mp hp with e | e
      · rw [e]; exact hafp
      · exact hcfp p e
    show Seg _ B _ _ _ s₀ _ ((compTurn (.GeneratorExp elt [⟨tg, iter, ifs, 0⟩] scope pos) 0 (.ref it) .none cenv).onRaise (leaving cenv)) [] s
    rw [compTurn_gen, Sem.onRaise_eq_wrap]
    refine seg_bind_wrap (wpAny_standAt ?_)
    refine seg_bind_wrap ?_
    rw [hov]
    rcases turn i m acc H w with ⟨hstop, qq⟩ | ⟨hgo, Nx, hNx, step⟩
    · have td := T.done (gxOf X s4 H4 cenv A' fp) rfl rfl rfl rfl i _ s _ H (fun _ _ => False) I (stat hpin I hz) st hstop
      refine thnF td fun r s6 ⟨hr, I6⟩ => ?_
      subst hr
      exact seg_end (.ok .next) ⟨rfl, H, cp, acc, I6, hcp, h0, qq⟩
    · have ti := T.item (gxOf X s4 H4 cenv A' fp) rfl rfl rfl rfl i _ s _ H (fun _ _ => False) I (stat hpin I hz) st hgo
      refine thnF ti fun r s6 ⟨u, hr, h6⟩ => ?_
      subst hr
      refine seg_bind_wrap ?_
      rw [hov]
      refine thnF h6 fun _ s7 ⟨x, H7, I7, r7, y7, st7, n7⟩ => ?_
      have I7' := I7.pinned (stat hpin I7 n7) (T.obj _ _ st7)
      refine seg_bind_wrap ?_
      rw [hov]
      refine thnF (pg.run _ s7 _ H7 x u _ I7' r7 (step x H7 y7)) fun _ s8 ⟨σ8, H8, I8, hw8, q8⟩ => ?_
      refine seg_bind_wrap ?_
      rw [hov]
      refine thnF (pt.run _ s8 σ8 H8 _ I8 q8) fun b s9 ⟨H9, I9, q9⟩ => ?_
      have fin : ∀ {s' : Shared} {H' : Hp}, Inv (gxOf X s4 H4 cenv A' fp) (((a, go) :: cp) ++ pinsAt fp s7.heap) σ8 H' s' → InvG (gxOf X s4 H4 cenv A' fp) fp tn (wipe σ vs) a go (i + 1) cp H' s' := fun {s' H'} I' => by
        have pin' : ∀ b ∈ fp, ∀ o, s7.heap.get? b = some o → s'.heap.get? b = some o ∧ H' b = none := fun b hb o e =>
          let z := I'.pin (b, o) (List.mem_append_right _ (List.mem_append_right _ (mem_pinsAt hb e)))
          ⟨z.1, z.2.1⟩
        have hl : (wipe σ vs).length = σ8.length := by rw [← hw8, wipe_length]
        refine ⟨(I'.unpinned (pins := (a, go) :: cp)).weak hl (fun j v e => ?_), T.keep _ _ _ st7 fun b hb o e => (pin' b hb o e).1, fun b hb => ?_, hafp, hcfp⟩
        · rw [← hw8] at e
          exact (wipe_some e).1
        · obtain ⟨o, e, _⟩ := T.obj _ _ st7 b hb
          exact (pin' b hb o e).2
      cases b with
      | false =>
        simp only [Bool.false_eq_true, if_false] at q9 ⊢
        obtain ⟨m', hm, w'⟩ := hNx acc H9 q9
        exact seg_again rfl (ih m' hm n (i + 1) acc cp H9 s₀ s9 (by omega) (fin I9) hcp h0 w')
      | true =>
        simp only [if_true] at q9 ⊢
        have hy : ∀ v, yieldOut cenv v = yieldValue v := fun v => by simp only [yieldOut, hco, Bool.false_eq_true, if_false]
        simp only [hy]
        rw [Sem.bind_eq_wrap', Sem.bind_eq_wrap', Sem.wrap_wrap, Sem.wrap_wrap]
        refine seg_wrap ?_
        rw [hov]
        refine thnF (pe.run _ s9 σ8 H9 _ I9 q9) fun z s10 ⟨yv, H10, I10, r10, hK⟩ => ?_
        obtain ⟨k, rfl⟩ : ∃ k, n = k + 1 := ⟨n - 1, by omega⟩
        refine seg_at (seg_yield rfl rfl rfl ⟨yv, H10, cp, acc, i + 1, Nx, r10, fin I10, hcp, h0, hK, fun cp' acc' H'' s'' hI'' hcp'' hnx => ?_⟩)
        obtain ⟨m', hm, w'⟩ := hNx acc' H'' hnx
        exact seg_again rfl (ih m' hm k (i + 1) acc' cp' H'' s'' s'' (by omega) hI'' hcp'' (fun p hp => (hI''.1.pin p (List.mem_append_right _ (List.mem_cons_of_mem _ hp))).1) w')
end
end GA
set_option Elab.async false
set_option linter.all false
set_option maxRecDepth 100000
set_option maxHeartbeats 2000000
namespace GA
open PySem PySem.Spec PyProof.Rows L2 GxR

section
variable {X : Cx} {s4 : Shared} {H4 : Hp} {cenv : Env} {A' B : Around} {fp : List Addr}
theorem seg_gxStart {elt tg iter : Expr} {ifs : List Expr} {scope : Scope} {pos : Pos} {it a : Addr} {go : Obj} {J : It} {tn : Nat → Heap → Prop} {g : TG} {tt : TT} {te : TE} {vs : List Nat} {σ : L2.St} {stop : List V → Hp → Prop} {CP : TCp} {K : TK} {W : Nat → Nat → List V → Hp → Prop}
    (hB : B.deeper cenv = A') (hco : cenv.scope.isCoroutine = false) (T : Turn X.prog X.w X.K tg J fp it tn) (pg : PG (gxOf X s4 H4 cenv A' fp) tg g) (pt : PTs (gxOf X s4 H4 cenv A' fp) ifs tt) (pe : PE (gxOf X s4 H4 cenv A' fp) elt te)
    (turn : Turns J g tt te vs σ stop K W) {m n : Nat} {cp : List (Addr × Obj)} {H : Hp} {s₀ s : Shared} (hn : m + 1 ≤ n) (hI : InvG (gxOf X s4 H4 cenv A' fp) fp tn (wipe σ vs) a go 0 cp H s) (hcp : CP [] cp) (h0 : ∀ p ∈ cp, s₀.heap.get? p.1 = some p.2) (w : W 0 m [] H) :
      Seg (model X.prog X.w) B (fun n s₀ r s₁ => r = .ok .next ∧ PGn (gxOf X s4 H4 cenv A' fp) (wipe σ vs) a go CP stop n s₀ s₁) (YG (gxOf X s4 H4 cenv A' fp) fp tn (wipe σ vs) a go CP K) n s₀
        (.compStart (.GeneratorExp elt [⟨tg, iter, ifs, 0⟩] scope pos) 0 (.ref it) .none cenv)
        ((model X.prog X.w).den (.compStart (.GeneratorExp elt [⟨tg, iter, ifs, 0⟩] scope pos) 0 (.ref it) .none cenv)) [] s := by
  have loop := seg_gx (iter := iter) (scope := scope) (pos := pos) hB hco T pg pt pe turn m n 0 [] cp H s₀ s hn hI hcp h0 w
  have st := hI.2.1
  show Seg _ B _ _ _ s₀ _ ((compStart (.GeneratorExp elt [⟨tg, iter, ifs, 0⟩] scope pos) 0 (.ref it) .none cenv).onRaise (leaving cenv)) [] s
  unfold compStart
  rw [Sem.onRaise_eq_wrap]
  show Seg _ B _ _ _ s₀ _ ((ask >>= _).wrap _ _ _ _) [] s
  refine seg_bind_wrap (wpAny_askSetting ?_)
  split
  · exact seg_again rfl loop
  · first
      | exact seg_bind_wrap (wpAny_rule (seg_bind_wrap (wpAny_standAt (seg_bind_wrap (T.self _ 0 s _ _ st (seg_again rfl loop))))))
      | (refine seg_bind_wrap (wpAny_rule ?_); show Seg _ B _ _ _ s₀ _ ((standAt iter.pos >>= _).wrap _ _ _ _) [] s; exact seg_bind_wrap (wpAny_standAt (seg_bind_wrap (T.self _ 0 s _ _ st (seg_again rfl loop)))))

/-- back in the def's own context -/
theorem gx_back {pins pins' : List (Addr × Obj)} {σ τ : L2.St} {H' : Hp} {s' : Shared} (I : Inv X pins σ H4 s4) (hfp : ∀ b ∈ fp, FpOk X pins H4 b) (J : Inv (gxOf X s4 H4 cenv A' fp) pins' τ H' s') : Inv X pins σ H' s' :=
  I.call' (ch := fp) J.os J.base J.hok J.bare fun b hb => ⟨(hfp b hb).2.2.2.1, (hfp b hb).2.1, (hfp b hb).2.2.2.2.1, (hfp b hb).2.2.2.2.2⟩
end

/-- the reading of a generator expression under a consumer -/
def tGx (P : Addr) (wi : TI) (g : TG) (tt : TT) (te : TE) (vs : List Nat) (stop : List V → Hp → Prop) (K : TK) : L2.St → Hp → Prop := fun σ H => wi σ H fun J H1 => TabG H1 P ∧ ∀ H2, Tabbed P H1 H2 →
  ∃ W : Nat → Nat → List V → Hp → Prop, (∃ m, W 0 m [] H2) ∧ Turns J g tt te vs σ stop K W

/-- the generator at a has not begun; its frame's context hangs on the around in which it is woken -/
def Ready (X : Cx) (pins : List (Addr × Obj)) (σ : L2.St) (stop : List V → Hp → Prop) (K : TK) (k : Nat) (a : Addr) (s5 : Shared) : Prop :=
  ∃ (s4 : Shared) (H4 : Hp) (cenv : Env) (fp : List Addr) (tn : Nat → Heap → Prop) (τ : L2.St) (go : Obj) (gn : Nat) (c : Code),
    Inv X pins σ H4 s4 ∧ (∀ b ∈ fp, FpOk X pins H4 b) ∧ s4.heap.objs.size ≤ a ∧ (∀ b ∈ fp, b < s4.heap.objs.size) ∧ (∀ i h h', tn i h → (∀ b ∈ fp, ∀ o, h.get? b = some o → h'.get? b = some o) → tn i h') ∧ (∀ h : Heap, h.get? a = some go → h.IsGen a gn) ∧ s5.gens[gn]? = some (.fresh c) ∧
    ∀ (B : Around) (CP : TCp), Room k (B.deeper cenv) → B.frames = some X.stack →
      InvG (gxOf X s4 H4 cenv (B.deeper cenv) fp) fp tn τ a go 0 [] H4 s5 ∧
      ∀ (cp : List (Addr × Obj)) (s'' : Shared), InvG (gxOf X s4 H4 cenv (B.deeper cenv) fp) fp tn τ a go 0 cp H4 s'' → CP [] cp → ∃ n,
        Seg (model X.prog X.w) B (fun n s₀ r s₁ => r = .ok .next ∧ PGn (gxOf X s4 H4 cenv (B.deeper cenv) fp) τ a go CP stop n s₀ s₁) (YG (gxOf X s4 H4 cenv (B.deeper cenv) fp) fp tn τ a go CP K) n s'' c ((model X.prog X.w).den c) [] s''

/-- the scope of a generator expression, beside BlkOk -/
structure GxS (scope : Scope) : Prop where
  co : scope.isCoroutine = false
  cell : ∀ y ∈ scope.names, y.2 ≠ .cell
  dot : scope.names.lookup (".0" : Str) = some NameKind.local

section
variable {X : Cx} {pins : List (Addr × Obj)} {σ : L2.St} {H : Hp} {s : Shared}
theorem gx_make {c P : Addr} {elt tg iter : Expr} {ifs : List Expr} {scope : Scope} {own : List (Str × Nat)} {gpos : Pos} {wi : TI} {g : TG} {tt : TT} {te : TE} {stop : List V → Hp → Prop} {K : TK} {k : Nat} {Q' : Value → Shared → Prop}
    (hdp : X.A.depth < recursionLimit) (hN : X.N.Nodup) (TB : TabB X.base X.mg c P) (hcode : X.env.code = .ref c) (S : GxS scope) (ok : BlkOk X.N X.env.scope scope own) (hi : PI X tg iter wi)
    (hg : ∀ (s4 : Shared) (H4 : Hp) (C : Addr) (code : Value) (A' : Around) (fp : List Addr), Room k A' → PG (gxOf X s4 H4 (genEnv scope (cloFrom X.env.cells scope.names []) C code builtinsNs X.env) A' fp) tg g)
    (ht : ∀ (s4 : Shared) (H4 : Hp) (C : Addr) (code : Value) (A' : Around) (fp : List Addr), Room k A' → PTs (gxOf X s4 H4 (genEnv scope (cloFrom X.env.cells scope.names []) C code builtinsNs X.env) A' fp) ifs tt)
    (he : ∀ (s4 : Shared) (H4 : Hp) (C : Addr) (code : Value) (A' : Around) (fp : List Addr), Room k A' → PE (gxOf X s4 H4 (genEnv scope (cloFrom X.env.cells scope.names []) C code builtinsNs X.env) A' fp) elt te)
    (hs : ∀ v, genFold iter X.env v = pure v) (I : Inv X pins σ H s) (h : tGx P wi g tt te (own.map (·.2)) stop K σ H)
    (hQ : ∀ a s5, Ready X pins σ stop K k a s5 → Q' (.ref a) s5) :
    wpAny (model X.prog X.w) X.A (eval (.GeneratorExp elt [⟨tg, iter, ifs, 0⟩] scope gpos) X.env) Q' X.xe s := by
  have hfree : ∀ y ∈ scope.names, y.2 = .free → ∃ c, X.env.cells.lookup y.1 = some c := fun y hy e => by
    rcases ok.free y hy e with k | k
    · exact I.ok.has _ (.inl k)
    · exact I.ok.has _ (.inr k)
  refine wpAny_GeneratorExp_make S.co (closure_ok hfree) S.cell S.dot ok.kind hdp ?_ hs
  refine thn (hi.run pins s σ H _ I h) fun xv s1 hx => thn hx fun itv s2 h2 => ?_
  obtain ⟨it, fp, tn, J, H2, e, I2, T, st2, f2, ⟨ps, hP, hti⟩, q⟩ := h2
  subst e
  refine ⟨I2.nolimit, ?_⟩
  have hPs : s2.heap.get? P = some { cls := .none, data := .fields ps } := I2.hok P _ hP
  have hPlt : P < s2.heap.objs.size := Heap.lt_size hPs
  have cd : PySem.W.CodeHd s2.heap c P := TB.code.keeps I2.bk
  have fpP : ∀ b ∈ fp, b ≠ P := fun b hb z => by
    have := (f2 b hb).1
    rw [z, hP] at this; cases this
  have fplt : ∀ b ∈ fp, b < s2.heap.objs.size := fun b hb => by
    obtain ⟨o, e, _⟩ := T.obj _ _ st2 b hb
    exact Heap.lt_size e
  have cont : ∀ (code : Value) (h3 : Heap) (tk : Nat) (more : Array Value), Heap.ExtBut P s2.heap h3 → s2.heap.objs.size ≤ h3.objs.size → h3.get? P = some { cls := .none, data := .fields (ps ++ more) } → TriplesOk (ps ++ more).toList →
      wpAny (model X.prog X.w) X.A (builtinsFor X.env.globals X.env.builtins) (fun bi s₄ =>
        ∀ h', h'.Ns s₄.heap.objs.size (fun y => if y = ".0" then some (.ref it) else none) → Heap.SameBut s₄.heap.objs.size (s₄.heap.push { cls := .type "frame", data := .dict #[] }) h' →
          Q' (.ref h'.objs.size) { s₄ with
            gens := s₄.gens.push (.fresh (.compStart (.GeneratorExp elt [⟨tg, iter, ifs, 0⟩] scope gpos) 0 (.ref it) .none (genEnv scope (cloFrom X.env.cells scope.names []) s₄.heap.objs.size code bi X.env))),
            toks := s₄.toks + 1 + 1 + 1,
            heap := h'.push { cls := .type "generator", data := .fields #[.int s₄.gens.size 0, .str "<genexpr>" (s₄.toks + 1), .str (X.env.qual ++ "<genexpr>") (s₄.toks + 1 + 1)] } }) X.xe { s2 with heap := h3, toks := tk } := by
    intro code h3 tk more hx hsz hP3 ht3
    obtain ⟨bm, ob, e1, e2, e3, e4, e5, e6, e7, e8⟩ := TB.bm
    have keep3 : ∀ b u, b ≠ P → s2.heap.get? b = some u → h3.get? b = some u := fun b u hb e => hx b u hb e
    refine wpAny_builtinsFor (m := X.mg) (by rw [I2.ok.glob]; exact (I2.mod.glob.keeps I2.bk).extBut hx TB.gP) e1 e2 (keep3 _ _ e4 (I2.bk _ _ e5)) e6 e7 e8 ?_
    have I4 := inv_tab (more := more) (h' := h3) (g' := s2.gens) (d' := s2.drawn) (t' := tk) I2 hP keep3 hP3 I2.bare
    have hT4 : Tabbed P H2 (upd H2 P (.tbl (ps ++ more))) := ⟨⟨ps ++ more, upd_same, ht3⟩, fun b hb => upd_ne hb⟩
    obtain ⟨W, ⟨m0, w0⟩, turn⟩ := q _ hT4
    generalize hH4 : upd H2 P (.tbl (ps ++ more)) = H4 at I4 w0
    have nfp : ∀ b ∈ fp, H4 b = none := fun b hb => by rw [← hH4, upd_ne (fpP b hb)]; exact (f2 b hb).1
    generalize hs4 : ({ s2 with heap := h3, gens := s2.gens, drawn := s2.drawn, toks := tk } : Shared) = s4 at I4
    have st4 : tn 0 s4.heap := by rw [← hs4]; exact T.keep _ _ _ st2 fun b hb o e => keep3 b o (fpP b hb) e
    have f4 : ∀ b ∈ fp, FpOk X pins H4 b := fun b hb => ⟨nfp b hb, (f2 b hb).2⟩
    have lt4 : ∀ b ∈ fp, b < s4.heap.objs.size := fun b hb => by rw [← hs4]; exact Nat.lt_of_lt_of_le (fplt b hb) hsz
    intro h' hn' hs'
    have hsz' : h'.objs.size = s4.heap.objs.size + 1 := by rw [hs'.1, Heap.size_push]
    have keep' : ∀ b o, s4.heap.get? b = some o → h'.get? b = some o := fun b o e => hs'.extBut b o (Nat.ne_of_lt (Heap.lt_size e)) (Heap.get?_push_of_some _ e)
    generalize hcv : genEnv scope (cloFrom X.env.cells scope.names []) s4.heap.objs.size code builtinsNs X.env = cenv
    generalize hgo : ({ cls := .type "generator", data := .fields #[.int s4.gens.size 0, .str "<genexpr>" (s4.toks + 1), .str (X.env.qual ++ "<genexpr>") (s4.toks + 1 + 1)] } : Obj) = go
    have hgen : ∀ h : Heap, h.get? h'.objs.size = some go → h.IsGen h'.objs.size s4.gens.size := fun h e => ⟨go, _, _, e, by rw [← hgo], by rw [← hgo], by rw [← hgo]⟩
    have keep5 : ∀ b o, s4.heap.get? b = some o → (h'.push go).get? b = some o := fun b o e => Heap.get?_push_of_some _ (keep' b o e)
    have hpushed : (h'.push go).get? h'.objs.size = some go := Heap.get?_push_size _ (by rw [← hgo]; rfl)
    have hge4' : s4.heap.objs.size ≤ h'.objs.size := by rw [hsz']; exact Nat.le_succ _
    refine hQ _ _ ⟨s4, H4, cenv, fp, tn, wipe σ (own.map (·.2)), go, s4.gens.size, _, I4, f4, hge4', lt4, T.keep, hgen, Array.getElem?_push_size .., fun B CP hrB hfB => ?_⟩
    have hA : (B.deeper cenv).handled = none := hrB.hd
    have hfr : (B.deeper cenv).frames = some (cenv :: X.stack) := by
      show B.frames.map _ = _
      rw [hfB]; rfl
    have J5 : Inv (gxOf X s4 H4 cenv (B.deeper cenv) fp) [] (wipe σ (own.map (·.2))) H4 { s4 with
            gens := s4.gens.push (.fresh (.compStart (.GeneratorExp elt [⟨tg, iter, ifs, 0⟩] scope gpos) 0 (.ref it) .none cenv)),
            toks := s4.toks + 1 + 1 + 1, heap := h'.push go } := by
      have := gx_start (A' := B.deeper cenv) (code := code) (m0 := fun y => if y = ".0" then some (.ref it) else none) (s5 := { s4 with
            gens := s4.gens.push (.fresh (.compStart (.GeneratorExp elt [⟨tg, iter, ifs, 0⟩] scope gpos) 0 (.ref it) .none cenv)),
            toks := s4.toks + 1 + 1 + 1, heap := h'.push go }) I4 ok S.cell hN (fun b hb => ⟨f4 b hb, lt4 b hb⟩) hA (by rw [hcv]; exact hfr) rfl (AllBare.push I4.bare rfl) keep5 (hn'.push _)
      rw [hcv] at this
      exact this
    have hge4 : s4.heap.objs.size ≤ h'.objs.size := by rw [hsz']; exact Nat.le_succ _
    have hafp : h'.objs.size ∉ fp := fun hb => absurd (lt4 _ hb) (Nat.not_lt.mpr hge4)
    have cL : cenv.locals = s4.heap.objs.size := by rw [← hcv]; rfl
    refine ⟨⟨J5.pins_of fun p hp => ?_, T.keep _ _ _ st4 fun b _ o e => keep5 b o e, nfp, hafp, fun p hp => by simp at hp⟩, fun cp s'' hI hcp => ⟨m0 + 1, ?_⟩⟩
    · rw [List.mem_singleton.mp hp]
      refine ⟨hpushed, I4.hok.fresh (by rw [hsz']; exact Nat.le_succ _), ?_, ?_, fun v q => by rw [← hgo] at q; cases q⟩
      · show h'.objs.size ≠ cenv.locals
        rw [cL, hsz']; exact Nat.succ_ne_self _
      · intro hb
        rcases List.mem_cons.mp (I4.stkSub _ hb) with z | z
        · exact absurd I4.lt (Nat.not_lt.mpr (by rw [← z]; exact hge4))
        · exact I4.nofs (by rw [hsz']; exact Nat.le_succ _) z
    · have hco : cenv.scope.isCoroutine = false := by rw [← hcv]; exact S.co
      refine seg_gxStart (A' := B.deeper cenv) rfl hco T ?_ ?_ ?_ turn (Nat.le_refl _) hI hcp (fun p hp => (hI.1.pin p (List.mem_append_right _ (List.mem_cons_of_mem _ hp))).1) w0
      · rw [← hcv]; exact hg _ _ _ _ _ _ (by rw [hcv]; exact hrB)
      · rw [← hcv]; exact ht _ _ _ _ _ _ (by rw [hcv]; exact hrB)
      · rw [← hcv]; exact he _ _ _ _ _ _ (by rw [hcv]; exact hrB)
  cases hf : codeAmong gpos ps.toList with
  | none =>
    refine wpAny_genexprCodeX hcode (cd.code hPs hti) (cd.tab hPs) hf fun c' h' tk hx hge hlt hco' _ htab' _ => ?_
    obtain ⟨o1, vs, f1, tf, fl, tg, inF, tx, tt, op, _, _, _, _, _, _, _, _, _, htr, _⟩ := hco'
    exact cont _ h' tk _ hx (Nat.le_trans hge (Nat.le_of_lt hlt)) htab'.2 htr
  | some cv =>
    refine wpAny_genexprCode_hit hcode (cd.code hPs hti) hf ?_
    have e0 : ps ++ (#[] : Array Value) = ps := by simp
    exact cont cv s2.heap s2.toks #[] (Heap.ExtBut.refl _ _) (Nat.le_refl _) (by rw [e0]; exact hPs) (by rw [e0]; exact hti)
end
end GA
set_option Elab.async false
set_option linter.all false
set_option maxRecDepth 100000
set_option maxHeartbeats 2000000
namespace GA
open PySem PySem.Spec PyProof.Rows L2 GxR

/-- the generator sleeps, with n items at most to come -/
def Liv (M : Model) (B : Around) (R : GenEnd) (Y : Protocol) (gn : Nat) (n : Nat) (s : Shared) : Prop :=
  ∃ gs, s.gens[gn]? = some gs ∧ gs.Goes M B R Y n (.send .none) (s.setGen gn .running)
section
variable {G : Cx} {fp : List Addr} {tn : Nat → Heap → Prop} {τ : L2.St} {a : Addr} {go : Obj} {gn : Nat} {CP : TCp} {K : TK} {stop : List V → Hp → Prop}
abbrev RG (G : Cx) (τ : L2.St) (a : Addr) (go : Obj) (CP : TCp) (stop : List V → Hp → Prop) : GenEnd := fun n s₀ r s₁ => r = .ok .next ∧ PGn G τ a go CP stop n s₀ s₁
theorem invG_setGen {i : Nat} {cp : List (Addr × Obj)} {H : Hp} {s : Shared} {x : GenState} (h : InvG G fp tn τ a go i cp H s) (hx : x.bare = true) : InvG G fp tn τ a go i cp H (s.setGen gn x) :=
  ⟨inv_setGen h.1 hx, h.2⟩
theorem pin_gen {cp : List (Addr × Obj)} {H : Hp} {s : Shared} (hgo : ∀ h : Heap, h.get? a = some go → h.IsGen a gn) (h : Inv G ((a, go) :: cp) τ H s) : s.heap.IsGen a gn :=
  hgo _ (h.pin (a, go) (List.mem_append_right _ List.mem_cons_self)).1

theorem next_gx {A : Around} {n : Nat} {Q : Option Value → Shared → Prop} {E : Value → Shared → Prop} {s : Shared} (hh : A.handled = none) (hroom : A.depth < recursionLimit) (hgo : ∀ h : Heap, h.get? a = some go → h.IsGen a gn)
    (hg : s.heap.IsGen a gn) (hl : s.heap.NoLimit) (hv : Liv (model G.prog G.w) A.in1 (RG G τ a go CP stop) (YG G fp tn τ a go CP K) gn n s)
    (item : ∀ (v : Value) (y : V) (H' : Hp) (cp : List (Addr × Obj)) (acc : List V) (i : Nat) (Nx : List V → Hp → Prop) (gs' : GenState) (s' : Shared), RelV y v → InvG G fp tn τ a go i cp H' s' → CP acc cp → (∀ p ∈ cp, s.heap.get? p.1 = some p.2) → K acc y H' Nx → s'.gens[gn]? = some gs' →
      (∀ (cp' : List (Addr × Obj)) (acc' : List V) (H'' : Hp) (s'' : Shared), InvG G fp tn τ a go i cp' H'' s'' → CP acc' cp' → Nx acc' H'' → s''.gens[gn]? = some gs' → ∃ m, n = m + 1 ∧ Liv (model G.prog G.w) A.in1 (RG G τ a go CP stop) (YG G fp tn τ a go CP K) gn m s'') → Q (some v) s')
    (done : ∀ (H' : Hp) (cp : List (Addr × Obj)) (acc : List V) (s' : Shared), Inv G ((a, go) :: cp) τ H' s' → CP acc cp → (∀ p ∈ cp, s.heap.get? p.1 = some p.2) → stop acc H' → Q none s') :
    wpAny (model G.prog G.w) A (pyNext (.ref a)) Q E s := by
  obtain ⟨gs, hgs, hgoes⟩ := hv
  refine GenW.wpAny_gsz (Nat.le_refl _) ?_
  have hlt : gn < s.gens.size := by
    rcases Nat.lt_or_ge gn s.gens.size with h' | h'
    · exact h'
    · rw [Array.getElem?_eq_none h'] at hgs; cases hgs
  refine wpAny_mono (wpAny_pyNext_genexpQ (Q := fun o s' => s.gens.size ≤ s'.gens.size → Q o s') (E := fun _ _ => False) (P := PGn G τ a go CP stop) hh hl hroom hg hgs hgoes (fun v s₁ gs' hb hY => ?_) (fun s₁ hP h' hk => ?_)) (fun _ _ e => e) fun _ _ z => False.elim z
  · intro hsz
    obtain ⟨y, H', cp, acc, i, Nx, rv, hI, hcp, h0, hK, kap⟩ := hY
    have hlt1 : gn < s₁.gens.size := by
      have : s.gens.size ≤ (s₁.setGen gn gs').gens.size := hsz
      rw [GenW.setGen_size] at this
      omega
    refine item v y H' cp acc i Nx gs' _ rv (invG_setGen hI hb) hcp h0 hK (setGen_at hlt1) fun cp' acc' H'' s'' hI'' hcp'' hnx hgs'' => ?_
    have k := kap cp' acc' H'' (s''.setGen gn .running) (invG_setGen hI'' rfl) hcp'' hnx
    cases n with
    | zero => exact False.elim k
    | succ m => exact ⟨m, rfl, gs', hgs'', k⟩
  · intro _
    obtain ⟨H', cp, acc, I', hcp, h0, hst⟩ := hP
    refine done H' cp acc _ ?_ hcp h0 hst
    exact (inv_setGen (g := gn) (x := .finished) I' rfl).kept (t' := (s₁.setGen gn .finished).toks) hk
end

section
variable {G : Cx} {fp : List Addr} {tn : Nat → Heap → Prop} {τ : L2.St} {a : Addr} {go : Obj} {gn : Nat}
/-- the consumer «all» -/
def KAll (Q : VK) : TK := fun acc y H' nx => ∃ b, y = .bl b ∧ (b = false → Q (.bl false) H') ∧ (b = true → nx acc H')
def KAny (Q : VK) : TK := fun acc y H' nx => ∃ b, y = .bl b ∧ (b = true → Q (.bl true) H') ∧ (b = false → nx acc H')
theorem all_loop {A : Around} {Q : VK} {R : Result → Shared → Prop} (hh : A.handled = none) (hroom : A.depth < recursionLimit) (hgo : ∀ h : Heap, h.get? a = some go → h.IsGen a gn)
    (hR : ∀ b cp H' s', Inv G ((a, go) :: cp) τ H' s' → Q (.bl b) H' → R (.ok (.ret (.bool b))) s') :
    ∀ (n : Nat) (s : Shared), s.heap.IsGen a gn → s.heap.NoLimit → Liv (model G.prog G.w) A.in1.in1 (RG G τ a go (fun _ cp => cp = []) fun _ H' => Q (.bl true) H') (YG G fp tn τ a go (fun _ cp => cp = []) (KAll Q)) gn n s →
      codeAny (model G.prog G.w) A (.builtin "all.loop" ⟨[.ref a], []⟩) R s := by
  intro n
  induction n with
  | zero =>
    intro s hg hl hv
    refine codeAny_builtin F.entry_all_loop ?_
    rw [Around.under_plainId F.plain_all_loop _]
    show wpAny _ A.in1 (pyNext (.ref a) >>= _) _ _ s
    refine wpAny_bind (next_gx (A := A.in1) hh hroom hgo hg hl hv (fun v y H' cp acc i Nx gs' s' rv hI hcp h0 hK hgs' kont => ?_) (fun H' cp acc s' I' hcp h0 hst => ?_))
    · refine wpAny_bind (wpAny_holding ?_)
      obtain ⟨b, rfl, h1, h2⟩ := hK
      obtain rfl : v = .bool b := rv
      refine wpAny_truthy_bool (wpAny_bind (wpAny_letGo ?_))
      cases b with
      | true =>
        obtain ⟨m, e, _⟩ := kont cp acc H' s' hI hcp (h2 rfl) hgs'
        omega
      | false =>
        simp only [Bool.false_eq_true, if_false]
        exact wpAny_bind (wpAny_rule (wpAny_pure (hR false cp H' s' hI.1 (h1 rfl))))
    · exact wpAny_bind (wpAny_rule (wpAny_pure (hR true cp H' s' I' hst)))
  | succ n ih =>
    intro s hg hl hv
    refine codeAny_builtin F.entry_all_loop ?_
    rw [Around.under_plainId F.plain_all_loop _]
    show wpAny _ A.in1 (pyNext (.ref a) >>= _) _ _ s
    refine wpAny_bind (next_gx (A := A.in1) hh hroom hgo hg hl hv (fun v y H' cp acc i Nx gs' s' rv hI hcp h0 hK hgs' kont => ?_) (fun H' cp acc s' I' hcp h0 hst => ?_))
    · refine wpAny_bind (wpAny_holding ?_)
      obtain ⟨b, rfl, h1, h2⟩ := hK
      obtain rfl : v = .bool b := rv
      refine wpAny_truthy_bool (wpAny_bind (wpAny_letGo ?_))
      cases b with
      | true =>
        obtain ⟨m, e, lv⟩ := kont cp acc H' s' hI hcp (h2 rfl) hgs'
        obtain rfl : n = m := by omega
        simp only [if_true]
        exact wpAny_pure ⟨plainId_quiet F.plain_all_loop _, ih s' (pin_gen hgo hI.1) hI.1.nolimit lv⟩
      | false =>
        simp only [Bool.false_eq_true, if_false]
        exact wpAny_bind (wpAny_rule (wpAny_pure (hR false cp H' s' hI.1 (h1 rfl))))
    · exact wpAny_bind (wpAny_rule (wpAny_pure (hR true cp H' s' I' hst)))
theorem any_loop {A : Around} {Q : VK} {R : Result → Shared → Prop} (hh : A.handled = none) (hroom : A.depth < recursionLimit) (hgo : ∀ h : Heap, h.get? a = some go → h.IsGen a gn)
    (hR : ∀ b cp H' s', Inv G ((a, go) :: cp) τ H' s' → Q (.bl b) H' → R (.ok (.ret (.bool b))) s') :
    ∀ (n : Nat) (s : Shared), s.heap.IsGen a gn → s.heap.NoLimit → Liv (model G.prog G.w) A.in1.in1 (RG G τ a go (fun _ cp => cp = []) fun _ H' => Q (.bl false) H') (YG G fp tn τ a go (fun _ cp => cp = []) (KAny Q)) gn n s →
      codeAny (model G.prog G.w) A (.builtin "any.loop" ⟨[.ref a], []⟩) R s := by
  intro n
  induction n with
  | zero =>
    intro s hg hl hv
    refine codeAny_builtin F.entry_any_loop ?_
    rw [Around.under_plainId F.plain_any_loop _]
    show wpAny _ A.in1 (pyNext (.ref a) >>= _) _ _ s
    refine wpAny_bind (next_gx (A := A.in1) hh hroom hgo hg hl hv (fun v y H' cp acc i Nx gs' s' rv hI hcp h0 hK hgs' kont => ?_) (fun H' cp acc s' I' hcp h0 hst => ?_))
    · refine wpAny_bind (wpAny_holding ?_)
      obtain ⟨b, rfl, h1, h2⟩ := hK
      obtain rfl : v = .bool b := rv
      refine wpAny_truthy_bool (wpAny_bind (wpAny_letGo ?_))
      cases b with
      | false =>
        obtain ⟨m, e, _⟩ := kont cp acc H' s' hI hcp (h2 rfl) hgs'
        omega
      | true =>
        simp only [if_true]
        exact wpAny_bind (wpAny_rule (wpAny_pure (hR true cp H' s' hI.1 (h1 rfl))))
    · exact wpAny_bind (wpAny_rule (wpAny_pure (hR false cp H' s' I' hst)))
  | succ n ih =>
    intro s hg hl hv
    refine codeAny_builtin F.entry_any_loop ?_
    rw [Around.under_plainId F.plain_any_loop _]
    show wpAny _ A.in1 (pyNext (.ref a) >>= _) _ _ s
    refine wpAny_bind (next_gx (A := A.in1) hh hroom hgo hg hl hv (fun v y H' cp acc i Nx gs' s' rv hI hcp h0 hK hgs' kont => ?_) (fun H' cp acc s' I' hcp h0 hst => ?_))
    · refine wpAny_bind (wpAny_holding ?_)
      obtain ⟨b, rfl, h1, h2⟩ := hK
      obtain rfl : v = .bool b := rv
      refine wpAny_truthy_bool (wpAny_bind (wpAny_letGo ?_))
      cases b with
      | false =>
        obtain ⟨m, e, lv⟩ := kont cp acc H' s' hI hcp (h2 rfl) hgs'
        obtain rfl : n = m := by omega
        simp only [Bool.false_eq_true, if_false]
        exact wpAny_pure ⟨plainId_quiet F.plain_any_loop _, ih s' (pin_gen hgo hI.1) hI.1.nolimit lv⟩
      | true =>
        simp only [if_true]
        exact wpAny_bind (wpAny_rule (wpAny_pure (hR true cp H' s' hI.1 (h1 rfl))))
    · exact wpAny_bind (wpAny_rule (wpAny_pure (hR false cp H' s' I' hst)))
end

section
variable {X : Cx} {pins : List (Addr × Obj)} {σ : L2.St}
theorem call_all_gx {Q : VK} {Q' : Value → Shared → Prop} {E : Value → Shared → Prop} {k : Nat} {a : Addr} {s : Shared} (hr : Room (k + 1) X.A) (hf : X.A.frames = some X.stack) (h : Ready X pins σ (fun _ H' => Q (.bl true) H') (KAll Q) k a s)
    (hQ : ∀ b H' s', Inv X pins σ H' s' → Q (.bl b) H' → Q' (.bool b) s') : wpAny (model X.prog X.w) X.A (call (.builtin "all") [.ref a]) Q' E s := by
  obtain ⟨s4, H4, cenv, fp, tn, τ, go, gn, c, I4, f4, ha, lt4, hkeep, hgo, hgs, wake⟩ := h
  have rd : Room k (X.A.in1.in1.deeper cenv) := ⟨hr.hd, by have := hr.dp; show X.A.depth + 1 + 3 * k + 5 < _; omega, by have := hr.un; show X.A.units + 1 + 1 + 3 + 16 * k + 200 < _; omega⟩
  obtain ⟨hI, go0⟩ := wake X.A.in1.in1 (fun _ cp => cp = []) rd hf
  obtain ⟨n, sg⟩ := go0 [] (s.setGen gn .running) (invG_setGen hI rfl) rfl
  refine call_function_tree F.kind_all F.plain_all F.entry_all (F.args_all1 _) ?_
  unfold Builtin.«all»
  refine wpAny_bind (m := oneArg "all" _) (wpAny_pure ?_)
  refine wpAny_bind (wpAny_pyIter_gen (pin_gen hgo hI.1) ?_)
  refine wpAny_pure ⟨plainId_quiet F.plain_all_loop _, ?_⟩
  have hd : X.A.depth < recursionLimit := by have := hr.dp; omega
  refine all_loop (G := gxOf X s4 H4 cenv (X.A.in1.in1.deeper cenv) fp) (fp := fp) (tn := tn) (τ := τ) (gn := gn) (go := go) (Q := Q) hr.hd hd hgo (fun b cp H' s' I' hq => ?_) n s (pin_gen hgo hI.1) hI.1.nolimit ⟨_, hgs, rfl, sg⟩
  exact hQ b H' s' (gx_back I4 f4 I') hq
theorem call_any_gx {Q : VK} {Q' : Value → Shared → Prop} {E : Value → Shared → Prop} {k : Nat} {a : Addr} {s : Shared} (hr : Room (k + 1) X.A) (hf : X.A.frames = some X.stack) (h : Ready X pins σ (fun _ H' => Q (.bl false) H') (KAny Q) k a s)
    (hQ : ∀ b H' s', Inv X pins σ H' s' → Q (.bl b) H' → Q' (.bool b) s') : wpAny (model X.prog X.w) X.A (call (.builtin "any") [.ref a]) Q' E s := by
  obtain ⟨s4, H4, cenv, fp, tn, τ, go, gn, c, I4, f4, ha, lt4, hkeep, hgo, hgs, wake⟩ := h
  have rd : Room k (X.A.in1.in1.deeper cenv) := ⟨hr.hd, by have := hr.dp; show X.A.depth + 1 + 3 * k + 5 < _; omega, by have := hr.un; show X.A.units + 1 + 1 + 3 + 16 * k + 200 < _; omega⟩
  obtain ⟨hI, go0⟩ := wake X.A.in1.in1 (fun _ cp => cp = []) rd hf
  obtain ⟨n, sg⟩ := go0 [] (s.setGen gn .running) (invG_setGen hI rfl) rfl
  refine call_function_tree F.kind_any F.plain_any F.entry_any (F.args_any1 _) ?_
  unfold Builtin.«any»
  refine wpAny_bind (m := oneArg "any" _) (wpAny_pure ?_)
  refine wpAny_bind (wpAny_pyIter_gen (pin_gen hgo hI.1) ?_)
  refine wpAny_pure ⟨plainId_quiet F.plain_any_loop _, ?_⟩
  have hd : X.A.depth < recursionLimit := by have := hr.dp; omega
  refine any_loop (G := gxOf X s4 H4 cenv (X.A.in1.in1.deeper cenv) fp) (fp := fp) (tn := tn) (τ := τ) (gn := gn) (go := go) (Q := Q) hr.hd hd hgo (fun b cp H' s' I' hq => ?_) n s (pin_gen hgo hI.1) hI.1.nolimit ⟨_, hgs, rfl, sg⟩
  exact hQ b H' s' (gx_back I4 f4 I') hq

/-- all(elt for tg in iter if ..) -/
def tAllG (P : Addr) (wi : TI) (g : TG) (tt : TT) (te : TE) (vs : List Nat) : TE := fun σ H Q => tGx P wi g tt te vs (fun _ H' => Q (.bl true) H') (KAll Q) σ H
def tAnyG (P : Addr) (wi : TI) (g : TG) (tt : TT) (te : TE) (vs : List Nat) : TE := fun σ H Q => tGx P wi g tt te vs (fun _ H' => Q (.bl false) H') (KAny Q) σ H
theorem pe_allG {c P : Addr} {elt tg iter : Expr} {ifs : List Expr} {scope : Scope} {own : List (Str × Nat)} {p pos gpos : Pos} {wi : TI} {g : TG} {tt : TT} {te : TE} {k : Nat}
    (hr : Room (k + 1) X.A) (hc : X.calm = true) (hgl : Gl X "all") (hm : X.mg "all" = none) (hN : X.N.Nodup) (TB : TabB X.base X.mg c P) (hcode : X.env.code = .ref c) (S : GxS scope) (ok : BlkOk X.N X.env.scope scope own) (hi : PI X tg iter wi)
    (hg : ∀ (s4 : Shared) (H4 : Hp) (C : Addr) (code : Value) (A' : Around) (fp : List Addr), Room k A' → PG (gxOf X s4 H4 (genEnv scope (cloFrom X.env.cells scope.names []) C code builtinsNs X.env) A' fp) tg g)
    (ht : ∀ (s4 : Shared) (H4 : Hp) (C : Addr) (code : Value) (A' : Around) (fp : List Addr), Room k A' → PTs (gxOf X s4 H4 (genEnv scope (cloFrom X.env.cells scope.names []) C code builtinsNs X.env) A' fp) ifs tt)
    (hel : ∀ (s4 : Shared) (H4 : Hp) (C : Addr) (code : Value) (A' : Around) (fp : List Addr), Room k A' → PE (gxOf X s4 H4 (genEnv scope (cloFrom X.env.cells scope.names []) C code builtinsNs X.env) A' fp) elt te)
    (hs : ∀ v, genFold iter X.env v = pure v := by intro _; rfl)
    (he : starEach [.GeneratorExp elt [⟨tg, iter, ifs, 0⟩] scope gpos] X.env = (false, eval (.GeneratorExp elt [⟨tg, iter, ifs, 0⟩] scope gpos) X.env) :: starEach [] X.env := by rfl) :
    PE X (.Call (.Name "all" p) [.GeneratorExp elt [⟨tg, iter, ifs, 0⟩] scope gpos] [] pos) (tAllG P wi g tt te (own.map (·.2))) := by
  refine ⟨fun pins s σ H Q I h => ?_⟩
  refine wpAny_Call_Name_kw (ld_blt I hgl hm boot_all ?_)
  refine PyProof.Rows.callWith_builtin1 ?_ he (by rfl)
  rw [he]
  show wpAny _ _ (spliced ((false, eval (.GeneratorExp elt [⟨tg, iter, ifs, 0⟩] scope gpos) X.env) :: backTo pos (starEach [] X.env))) _ _ s
  have hd : X.A.depth < recursionLimit := by have := hr.dp; omega
  refine Calls.spliced_cons (gx_make (k := k) hd hN TB hcode S ok hi hg ht hel hs I h fun a s5 hR => ?_)
  refine Calls.spliced_nil ?_
  exact call_all_gx hr I.ok.frames hR fun b H' s' I' hq => ⟨.bl b, H', I', rfl, hq⟩
theorem pe_anyG {c P : Addr} {elt tg iter : Expr} {ifs : List Expr} {scope : Scope} {own : List (Str × Nat)} {p pos gpos : Pos} {wi : TI} {g : TG} {tt : TT} {te : TE} {k : Nat}
    (hr : Room (k + 1) X.A) (hc : X.calm = true) (hgl : Gl X "any") (hm : X.mg "any" = none) (hN : X.N.Nodup) (TB : TabB X.base X.mg c P) (hcode : X.env.code = .ref c) (S : GxS scope) (ok : BlkOk X.N X.env.scope scope own) (hi : PI X tg iter wi)
    (hg : ∀ (s4 : Shared) (H4 : Hp) (C : Addr) (code : Value) (A' : Around) (fp : List Addr), Room k A' → PG (gxOf X s4 H4 (genEnv scope (cloFrom X.env.cells scope.names []) C code builtinsNs X.env) A' fp) tg g)
    (ht : ∀ (s4 : Shared) (H4 : Hp) (C : Addr) (code : Value) (A' : Around) (fp : List Addr), Room k A' → PTs (gxOf X s4 H4 (genEnv scope (cloFrom X.env.cells scope.names []) C code builtinsNs X.env) A' fp) ifs tt)
    (hel : ∀ (s4 : Shared) (H4 : Hp) (C : Addr) (code : Value) (A' : Around) (fp : List Addr), Room k A' → PE (gxOf X s4 H4 (genEnv scope (cloFrom X.env.cells scope.names []) C code builtinsNs X.env) A' fp) elt te)
    (hs : ∀ v, genFold iter X.env v = pure v := by intro _; rfl)
    (he : starEach [.GeneratorExp elt [⟨tg, iter, ifs, 0⟩] scope gpos] X.env = (false, eval (.GeneratorExp elt [⟨tg, iter, ifs, 0⟩] scope gpos) X.env) :: starEach [] X.env := by rfl) :
    PE X (.Call (.Name "any" p) [.GeneratorExp elt [⟨tg, iter, ifs, 0⟩] scope gpos] [] pos) (tAnyG P wi g tt te (own.map (·.2))) := by
  refine ⟨fun pins s σ H Q I h => ?_⟩
  refine wpAny_Call_Name_kw (ld_blt I hgl hm boot_any ?_)
  refine PyProof.Rows.callWith_builtin1 ?_ he (by rfl)
  rw [he]
  show wpAny _ _ (spliced ((false, eval (.GeneratorExp elt [⟨tg, iter, ifs, 0⟩] scope gpos) X.env) :: backTo pos (starEach [] X.env))) _ _ s
  have hd : X.A.depth < recursionLimit := by have := hr.dp; omega
  refine Calls.spliced_cons (gx_make (k := k) hd hN TB hcode S ok hi hg ht hel hs I h fun a s5 hR => ?_)
  refine Calls.spliced_nil ?_
  exact call_any_gx hr I.ok.frames hR fun b H' s' I' hq => ⟨.bl b, H', I', rfl, hq⟩
end
end GA
set_option Elab.async false
set_option linter.all false
set_option maxRecDepth 100000
set_option maxHeartbeats 2000000
namespace GA
open PySem PySem.Spec PyProof.Rows L2 GxR

section
variable {G : Cx} {fp : List Addr} {tn : Nat → Heap → Prop} {τ : L2.St} {a S : Addr} {go : Obj} {gn : Nat}
/-- the consumer's list at S: apart from all of the generator's -/
structure SOk (G : Cx) (fp : List Addr) (a S : Addr) : Prop where
  loc : S ≠ G.env.locals
  fs : S ∉ G.fs
  young : S ∈ G.ex ∨ G.s_0.heap.objs.size ≤ S
  cell : ∀ x c, G.env.cells.lookup x = some c → c ≠ S
  pn : ∀ p ∈ G.pn, p.1 ≠ S
  gen : a ≠ S
  it : S ∉ fp
/-- the list that the consumer fills -/
def CPl (S : Addr) : TCp := fun acc cp => ∃ (vals : Array Value) (c : Nat), cp = [(S, lstObj vals c)] ∧ Vals acc vals.toList ∧ acc.length ≤ sizeLine
def KTup : TK := fun acc y H' nx => acc.length < sizeLine ∧ nx (acc ++ [y]) H'
/-- the consumer has written at S -/
theorem invG_write {i : Nat} {o o' : Obj} {H : Hp} {s : Shared} {h' : Heap} (sk : SOk G fp a S) (hkeep : ∀ i h h', tn i h → (∀ b ∈ fp, ∀ o, h.get? b = some o → h'.get? b = some o) → tn i h') (hI : InvG G fp tn τ a go i [(S, o)] H s)
    (hk : ∀ b u, b ≠ S → s.heap.get? b = some u → h'.get? b = some u) (hS : h'.get? S = some o') (hd : ∀ v, o'.data ≠ .cell v) : InvG G fp tn τ a go i [(S, o')] H { s with heap := h' } := by
  obtain ⟨I, st, hz, hafp, hcfp⟩ := hI
  have hSn : H S = none := (I.pin (S, o) (List.mem_append_right _ (List.mem_cons_of_mem _ List.mem_cons_self))).2.1
  have I0 : Inv G [(a, go)] τ H s := I.pins_of fun p hp => I.pin p (List.mem_append_right _ (by rw [List.mem_singleton.mp hp]; exact List.mem_cons_self))
  have I1 : Inv G [(a, go)] τ H { s with heap := h', toks := s.toks } := I0.turned (t' := s.toks) hk hSn sk.loc sk.young sk.cell fun p hp => by
    rcases List.mem_append.mp hp with hp | hp
    · exact sk.pn p hp
    · rw [List.mem_singleton.mp hp]; exact sk.gen
  refine ⟨I1.pins_of fun p hp => ?_, hkeep _ _ _ st fun b hb u e => hk b u (fun z => sk.it (z ▸ hb)) e, hz, hafp, fun p hp => by rw [List.mem_singleton.mp hp]; exact sk.it⟩
  rcases List.mem_cons.mp hp with e | hp
  · exact I1.pin p (List.mem_append_right _ (by rw [e]; exact List.mem_cons_self))
  · rw [List.mem_singleton.mp hp]
    exact ⟨hS, hSn, sk.loc, sk.fs, hd⟩

theorem extend_loop {A : Around} {Q : List V → Hp → Prop} {R : Result → Shared → Prop} {res : Value} (hh : A.handled = none) (hroom : A.depth < recursionLimit) (hgo : ∀ h : Heap, h.get? a = some go → h.IsGen a gn) (sk : SOk G fp a S)
    (hkeep : ∀ i h h', tn i h → (∀ b ∈ fp, ∀ o, h.get? b = some o → h'.get? b = some o) → tn i h')
    (hR : ∀ acc vals c H' s', Inv G [(a, go), (S, lstObj vals c)] τ H' s' → Vals acc vals.toList → acc.length ≤ sizeLine → Q acc H' → R (.ok (.ret res)) s') :
    ∀ (n : Nat) (s : Shared), s.heap.IsGen a gn → s.heap.NoLimit → Liv (model G.prog G.w) A.in1.in1 (RG G τ a go (CPl S) Q) (YG G fp tn τ a go (CPl S) KTup) gn n s →
      codeAny (model G.prog G.w) A (.builtin "list.extend.loop" ⟨[.ref S, .ref a, res], []⟩) R s := by
  intro n
  induction n using Nat.strongRecOn with
  | ind n ih =>
    intro s hg hl hv
    refine codeAny_builtin F.entry_extend_loop ?_
    rw [Around.under_plainId F.plain_extend_loop _]
    show wpAny _ A.in1 (pyNext (.ref a) >>= _) _ _ s
    refine wpAny_bind (next_gx (A := A.in1) hh hroom hgo hg hl hv (fun v y H' cp acc i Nx gs' s' rv hI hcp h0 hK hgs' kont => ?_) (fun H' cp acc s' I' hcp h0 hst => ?_))
    · obtain ⟨vals, c, rfl, rvs, hle⟩ := hcp
      obtain ⟨hlt, hnx⟩ := hK
      have hS' : s'.heap.get? S = some (lstObj vals c) := (hI.1.pin (S, lstObj vals c) (List.mem_append_right _ (List.mem_cons_of_mem _ List.mem_cons_self))).1
      have hsz : vals.size = acc.length := by
        have e1 := rvs.length
        have e2 : vals.toList.length = vals.size := by simp
        omega
      show wpAny _ A.in1 (updateSeq S (·.push v) >>= _) _ _ _
      refine wpAny_bind ?_
      refine wpAny_updateSeq hS' rfl ?_ (by rw [hsz]; omega) (by show (vals.push v).size ≤ sizeLine + 1; rw [Array.size_push, hsz]; omega)
      have hS2 := Heap.get?_update_self (Obj.mapSeq (·.push v)) hS' rfl
      have hI2 := invG_write (o' := lstObj (vals.push v) _) sk hkeep hI (h' := s'.heap.update S (Obj.mapSeq (·.push v))) (fun b u hb e => (Heap.get?_update_other _ _ (Ne.symm hb)).trans e) hS2 (fun v q => by cases q)
      obtain ⟨m, e, lv⟩ := kont _ (acc ++ [y]) H' { s' with heap := s'.heap.update S (Obj.mapSeq (·.push v)) } hI2 ⟨vals.push v, _, rfl, by rw [Array.toList_push]; exact rvs.append (.cons rv .nil), by rw [List.length_append, List.length_singleton]; omega⟩ hnx hgs'
      exact wpAny_pure ⟨plainId_quiet F.plain_extend_loop _, ih m (by omega) _ (pin_gen hgo hI2.1) hI2.1.nolimit lv⟩
    · obtain ⟨vals, c, rfl, rvs, hle⟩ := hcp
      exact wpAny_pure (hR acc vals c H' s' I' rvs hle hst)
end

section
variable {X : Cx} {pins : List (Addr × Obj)} {σ : L2.St}
theorem collect_gx {Q : List V → Hp → Prop} {Q' : List Value → Shared → Prop} {E : Value → Shared → Prop} {k : Nat} {a : Addr} {s : Shared} {A : Around} (hh : A.handled = none) (hdp : A.depth + 1 + 3 * k + 5 < recursionLimit) (hun : A.units + 5 + 16 * k + 200 < cLine) (hf : A.frames = some X.stack)
    (h : Ready X pins σ Q KTup k a s)
    (hQ : ∀ acc vals H' s', Inv X pins σ H' s' → Vals acc vals → acc.length ≤ sizeLine → Q acc H' → Q' vals s') : wpAny (model X.prog X.w) A (collect (.ref a)) Q' E s := by
  obtain ⟨s4, H4, cenv, fp, tn, τ, go, gn, c, I4, f4, ha, lt4, hkeep, hgo, hgs, wake⟩ := h
  have rd : Room k (A.in1.in1.deeper cenv) := ⟨hh, by show A.depth + 1 + 3 * k + 5 < _; omega, by show A.units + 1 + 1 + 3 + 16 * k + 200 < _; omega⟩
  obtain ⟨hI, go0⟩ := wake A.in1.in1 (CPl s.heap.objs.size) rd hf
  have hG := pin_gen hgo hI.1
  have halt : a < s.heap.objs.size := let ⟨_, _, _, e, _⟩ := hG; Heap.lt_size e
  have sz4 : s4.heap.objs.size ≤ s.heap.objs.size := Nat.le_of_lt (Nat.lt_of_le_of_lt ha halt)
  have fok := hI.1.fpOk (Nat.le_refl _) (hI.1.hok.fresh (Nat.le_refl _))
  have sk : SOk (gxOf X s4 H4 cenv (A.in1.in1.deeper cenv) fp) fp a s.heap.objs.size := ⟨fok.2.1, fok.2.2.1, fok.2.2.2.1, fok.2.2.2.2.1, fun p hp => (nomatch hp), Nat.ne_of_lt halt, fun hb => absurd (lt4 _ hb) (Nat.not_lt.mpr sz4)⟩
  have hSa : s.heap.objs.size ≠ a := Nat.ne_of_gt halt
  unfold collect
  refine wpAny_bind (wpAny_runValue (codeAny_builtin F.entry_proto_collect ?_))
  rw [Around.under_plainId F.plain_proto_collect _]
  show wpAny _ A.in1 (newList [] >>= fun l => again (.builtin "list.__iadd__" ⟨[l, .ref a], []⟩)) _ _ s
  refine wpAny_bind (wpAny_newObj_type ?_)
  refine wpAny_pure ⟨plainId_quiet F.plain_list_iadd _, codeAny_builtin F.entry_list_iadd ?_⟩
  rw [Around.under_plainId F.plain_list_iadd _]
  have k1 : ∀ b o, s.heap.get? b = some o → (s.heap.push { cls := .type "list", data := .seq ([] : List Value).toArray }).get? b = some o := fun b o e => Heap.get?_push_of_some _ e
  have gty : (Shared.TypeIs { s with heap := s.heap.push { cls := .type "list", data := .seq ([] : List Value).toArray } } (.ref a) "generator") := Heap.IsGen.typeIs (s := { s with heap := _ }) (hG.keeps k1)
  show wpAny _ A.in1 (Builtin.List.listExtendWith (.ref s.heap.objs.size) (.ref a) (.ref s.heap.objs.size)) _ _ _
  unfold Builtin.List.listExtendWith
  refine wpAny_bind (wpAny_typeOf gty ?_)
  have h1 : Builtin.List.listSameRef (.ref s.heap.objs.size) (.ref a) = false := by simp [Builtin.List.listSameRef, hSa]
  have h2 : (Value.type "generator" == Value.type "list") = false := by decide
  have h3 : (Value.type "generator" == Value.type "tuple") = false := by decide
  simp only [h1, h2, h3, Bool.or_false, Bool.false_eq_true, if_false]
  refine wpAny_bind (wpAny_pyIter_gen (s := { s with heap := _ }) (hG.keeps k1) ?_)
  refine wpAny_bind (wpAny_holding ?_)
  unfold Builtin.List.listLengthHint
  refine wpAny_bind (wpAny_specialOf gty F.gen_no_len ?_)
  show wpAny _ A.in1 (specialOf (Value.ref a) (Str.ofString "__length_hint__") >>= _) _ _ _
  refine wpAny_bind (wpAny_specialOf gty F.gen_no_hint ?_)
  refine wpAny_pure ?_
  show wpAny _ A.in1 (rule "list.extend.makes-room" >>= fun _ => Builtin.List.listTouch (.ref s.heap.objs.size) >>= fun _ =>
    again (.builtin "list.extend.loop" ⟨[.ref s.heap.objs.size, .ref a, .ref s.heap.objs.size], []⟩)) _ _ _
  refine wpAny_bind (wpAny_rule ?_)
  have hS₁ : (s.heap.push { cls := .type "list", data := .seq ([] : List Value).toArray }).get? s.heap.objs.size = some { cls := .type "list", data := .seq ([] : List Value).toArray } := Heap.get?_push_size _ rfl
  refine wpAny_bind ?_
  show wpAny _ A.in1 (updateSeq s.heap.objs.size (·.push .none) >>= fun _ => updateSeq s.heap.objs.size (·.pop)) _ _ _
  refine wpAny_bind (wpAny_updateSeq hS₁ rfl ?_)
  have hS₂ := Heap.get?_update_self (Obj.mapSeq (·.push Value.none)) hS₁ rfl
  refine wpAny_updateSeq (hz := by seq_fits) hS₂ rfl ?_
  have hS₃ := Heap.get?_update_self (Obj.mapSeq (·.pop)) hS₂ rfl
  have oth : ∀ b o, s.heap.get? b = some o →
      (((s.heap.push { cls := .type "list", data := .seq ([] : List Value).toArray }).update s.heap.objs.size (Obj.mapSeq (·.push Value.none))).update s.heap.objs.size (Obj.mapSeq (·.pop))).get? b = some o :=
    fun b o e => (Heap.get?_update_other _ _ (Ne.symm (Nat.ne_of_lt (Heap.lt_size e)))).trans ((Heap.get?_update_other _ _ (Ne.symm (Nat.ne_of_lt (Heap.lt_size e)))).trans (k1 b o e))
  generalize hh2 : ((s.heap.push { cls := .type "list", data := .seq ([] : List Value).toArray }).update s.heap.objs.size (Obj.mapSeq (·.push Value.none))).update s.heap.objs.size (Obj.mapSeq (·.pop)) = h2 at hS₃ oth ⊢
  have hS4 : ∃ c, h2.get? s.heap.objs.size = some (lstObj #[] c) := ⟨_, hS₃⟩
  obtain ⟨c2, hS4⟩ := hS4
  -- the generator's context, the list pinned
  have J1 : InvG (gxOf X s4 H4 cenv (A.in1.in1.deeper cenv) fp) fp tn τ a go 0 [(s.heap.objs.size, lstObj #[] c2)] H4 { s with heap := h2 } := by
    obtain ⟨I, st, hz, hafp, _⟩ := hI
    have I1 : Inv (gxOf X s4 H4 cenv (A.in1.in1.deeper cenv) fp) [(a, go)] τ H4 { s with heap := h2, toks := s.toks } := I.kept (t' := s.toks) oth
    refine ⟨I1.pins_of fun p hp => ?_, hkeep _ _ _ st fun b hb u e => oth b u e, hz, hafp, fun p hp => by rw [List.mem_singleton.mp hp]; exact sk.it⟩
    rcases List.mem_cons.mp hp with e | hp
    · exact I1.pin p (List.mem_append_right _ (by rw [e]; exact List.mem_cons_self))
    · rw [List.mem_singleton.mp hp]
      exact ⟨hS4, fok.1, sk.loc, sk.fs, fun v q => by cases q⟩
  obtain ⟨n, sg⟩ := go0 [(s.heap.objs.size, lstObj #[] c2)] (({ s with heap := h2 } : Shared).setGen gn .running) (invG_setGen J1 rfl) ⟨#[], c2, rfl, .nil, Nat.zero_le _⟩
  have hgs2 : ({ s with heap := h2 } : Shared).gens[gn]? = some (.fresh c) := hgs
  refine wpAny_pure ⟨plainId_quiet F.plain_extend_loop _, extend_loop (G := gxOf X s4 H4 cenv (A.in1.in1.deeper cenv) fp) (fp := fp) (tn := tn) (τ := τ) (gn := gn) (go := go) (Q := Q) hh (by omega) hgo sk hkeep (fun acc vals c' H' s' I' rvs hle hq => ?_) n _ (pin_gen hgo J1.1) J1.1.nolimit ⟨_, hgs2, rfl, sg⟩⟩
  have hS' : s'.heap.get? s.heap.objs.size = some (lstObj vals c') := (I'.pin (s.heap.objs.size, lstObj vals c') (List.mem_append_right _ (List.mem_cons_of_mem _ List.mem_cons_self))).1
  show wpAny _ A (load s.heap.objs.size >>= _) _ _ s'
  refine wpAny_bind (wpAny_load hS' ?_)
  exact wpAny_pure (hQ acc vals.toList H' s' (gx_back I4 f4 I') rvs hle hq)
end
end GA
set_option Elab.async false
set_option linter.all false
set_option maxRecDepth 100000
set_option maxHeartbeats 2000000
namespace GA
open PySem PySem.Spec PyProof.Rows L2 GxR
section
variable {X : Cx} {pins : List (Addr × Obj)} {σ : L2.St}
theorem ready_gen {Q : List V → Hp → Prop} {K : TK} {k : Nat} {a : Addr} {s : Shared} (A : Around) (hh : A.handled = none) (hdp : A.depth + 1 + 3 * k + 5 < recursionLimit) (hun : A.units + 3 + 16 * k + 200 < cLine) (hf : A.frames = some X.stack)
    (h : Ready X pins σ Q K k a s) : s.TypeIs (.ref a) "generator" := by
  obtain ⟨s4, H4, cenv, fp, tn, τ, go, gn, c, I4, f4, ha, lt4, hkeep, hgo, hgs, wake⟩ := h
  obtain ⟨hI, _⟩ := wake A (fun _ cp => cp = []) ⟨hh, hdp, hun⟩ hf
  exact Heap.IsGen.typeIs (pin_gen hgo hI.1)
theorem code_tuple_gx {Q : List V → Hp → Prop} {Q₁ : Value → Shared → Prop} {E : Value → Shared → Prop} {k : Nat} {a : Addr} {s : Shared} {A : Around} (hh : A.handled = none) (hdp : A.depth + 1 + 3 * k + 5 < recursionLimit) (hun : A.units + 7 + 16 * k + 200 < cLine) (hf : A.frames = some X.stack)
    (h : Ready X pins σ Q KTup k a s)
    (hQ : ∀ acc vals H' s', Inv X pins σ H' s' → Vals acc vals → acc.length ≤ sizeLine → Q acc H' → Q₁ (.ref s'.heap.objs.size) { s' with heap := s'.heap.push { cls := .type "tuple", data := .seq vals.toArray } }) :
    codeAny (model X.prog X.w) A (.call (.builtin "tuple.__new__") ⟨[.type "tuple", .ref a], []⟩) (wants Q₁ E) s := by
  refine codeAny_of_tree ?_
  show wpAny _ A.in1 (do checkBuiltinCall "tuple.__new__" ⟨[.type "tuple", .ref a], []⟩; again (.builtin "tuple.__new__" ⟨[.type "tuple", .ref a], []⟩)) _ _ s
  refine wpAny_bind (wpAny_of_eq (F.newCall_tuple_1 _) (wpAny_pure ⟨plainId_quiet F.plain_tuple_new _, codeAny_builtin F.entry_tuple_new ?_⟩))
  rw [Around.under_plainId F.plain_tuple_new _]
  have hsub := sub_tuple_self
  have hinit := init_tuple_lookup
  have hmh := madeHere_tuple
  have hTI := ready_gen A hh (by omega) (by omega) hf h
  have key : wpAny (model X.prog X.w) A.in1 (collect (.ref a)) (fun vals s' => ∃ acc H', Inv X pins σ H' s' ∧ Vals acc vals ∧ acc.length ≤ sizeLine ∧ Q acc H') (fun _ _ => False) s :=
    collect_gx (A := A.in1) hh hdp (by show A.units + 1 + 5 + 16 * k + 200 < _; omega) hf h fun acc vals H' s' I' rv hl hq => ⟨acc, H', I', rv, hl, hq⟩
  have step : ∀ {Q2 : List Value → Shared → Prop} {E2 : Value → Shared → Prop}, (∀ vals s' acc H', Inv X pins σ H' s' → Vals acc vals → acc.length ≤ sizeLine → Q acc H' → Q2 vals s') → wpAny (model X.prog X.w) A.in1 (collect (.ref a)) Q2 E2 s := fun hq =>
    wpAny_mono key (fun vals s' ⟨acc, H', I', rv, hl, q⟩ => hq vals s' acc H' I' rv hl q) fun _ _ z => False.elim z
  wp_walk using wpAny_typeOf hTI, step
  intro vals s' acc H' I' rv hl hq
  show wpAny _ _ (Builtin.Tuple.tupleExact vals.toArray >>= fun v => ret v) _ _ _
  unfold Builtin.Tuple.tupleExact
  refine wpAny_bind (wpAny_newObj_type ?_ (by show vals.toArray.size ≤ sizeLine; rw [List.size_toArray, ← rv.length]; exact hl))
  exact wpAny_pure (hQ acc vals H' s' I' rv hl hq)
theorem call_tuple_gx {Q : List V → Hp → Prop} {Q' : Value → Shared → Prop} {E : Value → Shared → Prop} {k : Nat} {a : Addr} {s : Shared} (hr : Room (k + 1) X.A) (hf : X.A.frames = some X.stack) (h : Ready X pins σ Q KTup k a s)
    (hQ : ∀ acc H' s' t, Inv X pins σ (upd H' t (.tup acc)) s' → H' t = none → Q acc H' → Q' (.ref t) s') : wpAny (model X.prog X.w) X.A (call (.type "tuple") [.ref a]) Q' E s := by
  refine callType_codes (Q₁ := fun obj s₁ => s₁.TypeIs obj "tuple" ∧ Q' obj s₁) F.called_tuple (F.typeCall_tuple_1 _) F.entry_object_init
    (code_tuple_gx (A := X.A.in1) (k := k) hr.hd (by have := hr.dp; show X.A.depth + 1 + 3 * k + 5 < _; omega) (by have := hr.un; show X.A.units + 1 + 7 + 16 * k + 200 < _; omega) hf h fun acc vals H' s' I' rv hl hq => ⟨⟨_, Heap.get?_push_size _ rfl, rfl⟩, ?_⟩) fun obj s₁ h₁ => ?_
  · have I2 : Inv X pins σ (upd H' s'.heap.objs.size (.tup acc)) { s' with heap := s'.heap.push { cls := .type "tuple", data := .seq vals.toArray } } :=
      I'.laid (t' := s'.toks) (fun b o e => Heap.get?_push_of_some _ e) (Nat.le_refl _) (show ObjOk X.prog X.w _ _ _ (.tup acc) from ⟨hl, vals, rv, IsTup.new _ _⟩)
    exact hQ acc H' _ _ I2 (I'.hok.fresh (Nat.le_refl _)) hq
  · exact ⟨h₁.1, F.args_object_init_2 obj _, object_init_meets F.called_tuple.init.lookup F.called_tuple.made (by decide) X.prog X.w X.A.in1 _ s₁ ⟨h₁.1, rfl, h₁.2⟩⟩

/-- tuple(elt for tg in iter if ..) -/
def tTupG (P : Addr) (wi : TI) (g : TG) (tt : TT) (te : TE) (vs : List Nat) : TE := fun σ H Q => tGx P wi g tt te vs (fun acc H' => ∀ t, H' t = none → Q (.ref t) (upd H' t (.tup acc))) KTup σ H
theorem pe_tupG {c P : Addr} {elt tg iter : Expr} {ifs : List Expr} {scope : Scope} {own : List (Str × Nat)} {p pos gpos : Pos} {wi : TI} {g : TG} {tt : TT} {te : TE} {k : Nat}
    (hr : Room (k + 1) X.A) (hgl : Gl X "tuple") (hm : X.mg "tuple" = none) (hN : X.N.Nodup) (TB : TabB X.base X.mg c P) (hcode : X.env.code = .ref c) (S : GxS scope) (ok : BlkOk X.N X.env.scope scope own) (hi : PI X tg iter wi)
    (hg : ∀ (s4 : Shared) (H4 : Hp) (C : Addr) (code : Value) (A' : Around) (fp : List Addr), Room k A' → PG (gxOf X s4 H4 (genEnv scope (cloFrom X.env.cells scope.names []) C code builtinsNs X.env) A' fp) tg g)
    (ht : ∀ (s4 : Shared) (H4 : Hp) (C : Addr) (code : Value) (A' : Around) (fp : List Addr), Room k A' → PTs (gxOf X s4 H4 (genEnv scope (cloFrom X.env.cells scope.names []) C code builtinsNs X.env) A' fp) ifs tt)
    (hel : ∀ (s4 : Shared) (H4 : Hp) (C : Addr) (code : Value) (A' : Around) (fp : List Addr), Room k A' → PE (gxOf X s4 H4 (genEnv scope (cloFrom X.env.cells scope.names []) C code builtinsNs X.env) A' fp) elt te)
    (hs : ∀ v, genFold iter X.env v = pure v := by intro _; rfl)
    (he : starEach [.GeneratorExp elt [⟨tg, iter, ifs, 0⟩] scope gpos] X.env = (false, eval (.GeneratorExp elt [⟨tg, iter, ifs, 0⟩] scope gpos) X.env) :: starEach [] X.env := by rfl) :
    PE X (.Call (.Name "tuple" p) [.GeneratorExp elt [⟨tg, iter, ifs, 0⟩] scope gpos] [] pos) (tTupG P wi g tt te (own.map (·.2))) := by
  refine ⟨fun pins s σ H Q I h => ?_⟩
  refine Call_ (ld_blt I hgl hm boot_tuple ?_)
  refine PyProof.Rows.callWith_type1 ?_ he (by rfl)
  rw [he]
  show wpAny _ _ (spliced ((false, eval (.GeneratorExp elt [⟨tg, iter, ifs, 0⟩] scope gpos) X.env) :: backTo pos (starEach [] X.env))) _ _ s
  have hd : X.A.depth < recursionLimit := by have := hr.dp; omega
  refine Calls.spliced_cons (gx_make (k := k) hd hN TB hcode S ok hi hg ht hel hs I h fun a s5 hR => ?_)
  refine Calls.spliced_nil ?_
  exact call_tuple_gx hr I.ok.frames hR fun acc H' s' t I' hn hq => ⟨.ref t, _, I', rfl, hq t hn⟩
end
end GA
set_option Elab.async false
set_option linter.all false
set_option maxRecDepth 100000
set_option maxHeartbeats 2000000
namespace GA
open PySem PySem.Spec PyProof.Rows L2 GxR
def intOf : V → Int
  | .int i => i
  | _ => 0
def accSum (acc : List V) : Int := (acc.map intOf).sum
theorem accSum_push {acc : List V} {b : Int} : accSum (acc ++ [.int b]) = accSum acc + b := by
  unfold accSum
  rw [List.map_append, List.sum_append]
  show _ + (b + 0) = _
  rw [Int.add_zero]
/-- the consumer «sum», from 0 -/
def KSum : TK := fun acc y H' nx => ∃ b, y = .int b ∧ InLong b ∧ InLong (accSum acc + b) ∧ nx (acc ++ [y]) H'
def CPs (S : Addr) : TCp := fun acc cp => ∃ (tk : Tok) (c : Nat), cp = [(S, lstObj #[.int (accSum acc) tk] c)]
section
variable {G : Cx} {fp : List Addr} {tn : Nat → Heap → Prop} {τ : L2.St} {a S : Addr} {go : Obj} {gn : Nat}
theorem invG_tok {i : Nat} {cp : List (Addr × Obj)} {H : Hp} {s : Shared} (h : InvG G fp tn τ a go i cp H s) (k : Nat) : InvG G fp tn τ a go i cp H { s with toks := k } := ⟨h.1.tok k, h.2⟩
theorem sum_loop {A : Around} {Q : VK} {R : Result → Shared → Prop} (hh : A.handled = none) (hroom : A.depth < recursionLimit) (hgo : ∀ h : Heap, h.get? a = some go → h.IsGen a gn) (sk : SOk G fp a S)
    (hkeep : ∀ i h h', tn i h → (∀ b ∈ fp, ∀ o, h.get? b = some o → h'.get? b = some o) → tn i h')
    (hR : ∀ acc cp tk H' s', Inv G ((a, go) :: cp) τ H' s' → Q (.int (accSum acc)) H' → R (.ok (.ret (.int (accSum acc) tk))) s') :
    ∀ (n : Nat) (s : Shared) (tot : Int) (tk : Tok) (c : Nat), s.heap.IsGen a gn → s.heap.NoLimit → s.heap.get? S = some (lstObj #[.int tot tk] c) → Liv (model G.prog G.w) A.in1.in1 (RG G τ a go (CPs S) fun acc H' => Q (.int (accSum acc)) H') (YG G fp tn τ a go (CPs S) KSum) gn n s →
      codeAny (model G.prog G.w) A (.builtin "sum.loop" ⟨[.ref a, .ref S, rawInt 0, rawInt 0], []⟩) R s := by
  intro n
  induction n using Nat.strongRecOn with
  | ind n ih =>
    intro s tot tk c hg hl hS hv
    refine codeAny_builtin F.entry_sum_loop ?_
    rw [Around.under_plainId F.plain_sum_loop _]
    show wpAny _ A.in1 (seqItems? (.ref S) >>= _) _ _ s
    refine wpAny_bind (wpAny_seqItems hS rfl ?_)
    show wpAny _ A.in1 (tryCatch (pyNext (.ref a)) _ >>= _) _ _ s
    refine wpAny_bind (wpAny_tryCatch (next_gx (A := A.in1) hh hroom hgo hg hl hv (fun v y H' cp acc i Nx gs' s' rv hI hcp h0 hK hgs' kont => ?_) (fun H' cp acc s' I' hcp h0 hst => ?_)))
    · obtain ⟨tk2, c2, rfl⟩ := hcp
      have e := h0 _ (List.mem_singleton.mpr rfl)
      rw [show s.heap.get? S = _ from hS] at e
      have e2 : lstObj #[.int tot tk] c = lstObj #[.int (accSum acc) tk2] c2 := Option.some.inj e
      have et : tot = accSum acc := by
        have e3 := congrArg (fun o : Obj => match o.data with | .seq xs _ => xs[0]? | _ => none) e2
        have e4 : some (Value.int tot tk) = some (Value.int (accSum acc) tk2) := e3
        cases e4
        rfl
      obtain ⟨b, rfl, ⟨f1, f2⟩, ⟨f3, f4⟩, hnx⟩ := hK
      obtain ⟨tb, rfl⟩ := (show ∃ t, v = .int b t from rv)
      subst et
      have hS' : s'.heap.get? S = some (lstObj #[.int (accSum acc) tk2] c2) := (hI.1.pin (S, _) (List.mem_append_right _ (List.mem_cons_of_mem _ List.mem_cons_self))).1
      have hc : ((decide (-(2 ^ 63) ≤ b) && decide (b < 2 ^ 63)) && (decide (-(2 ^ 63) ≤ accSum acc + b) && decide (accSum acc + b < 2 ^ 63))) = true := by
        rw [decide_eq_true f1, decide_eq_true f2, decide_eq_true f3, decide_eq_true f4]
        rfl
      show wpAny _ A.in1 (if (_ : Bool) = true then (mkInt (accSum acc + b) >>= _) else _) _ _ _
      split
      · refine wpAny_bind (wpAny_mkInt ?_)
        show wpAny _ A.in1 (updateSeq S (fun _ => #[.int (accSum acc + b) s'.toks]) >>= _) _ _ _
        refine wpAny_bind (wpAny_updateSeq hS' rfl ?_)
        have hS2 := Heap.get?_update_self (Obj.mapSeq (fun _ => #[Value.int (accSum acc + b) s'.toks])) hS' rfl
        obtain ⟨c3, hS3⟩ : ∃ c3, (s'.heap.update S (Obj.mapSeq (fun _ => #[Value.int (accSum acc + b) s'.toks]))).get? S = some (lstObj #[.int (accSum acc + b) s'.toks] c3) := ⟨_, hS2⟩
        have hI2 := invG_write sk hkeep (invG_tok hI (s'.toks + 1)) (h' := s'.heap.update S (Obj.mapSeq (fun _ => #[Value.int (accSum acc + b) s'.toks]))) (fun b u hb e => (Heap.get?_update_other _ _ (Ne.symm hb)).trans e) hS3 (fun v q => by cases q)
        obtain ⟨m, em, lv⟩ := kont _ (acc ++ [.int b]) H' _ hI2 ⟨s'.toks, c3, by rw [accSum_push]⟩ hnx hgs'
        exact wpAny_pure ⟨plainId_quiet F.plain_sum_loop _, ih m (by omega) _ _ _ c3 (pin_gen hgo hI2.1) hI2.1.nolimit hS3 lv⟩
      · rename_i hneg
        exact absurd hc hneg
    · obtain ⟨tk2, c2, rfl⟩ := hcp
      have e := h0 _ (List.mem_singleton.mpr rfl)
      rw [show s.heap.get? S = _ from hS] at e
      have e2 : lstObj #[.int tot tk] c = lstObj #[.int (accSum acc) tk2] c2 := Option.some.inj e
      have et : tot = accSum acc := by
        have e3 := congrArg (fun o : Obj => match o.data with | .seq xs _ => xs[0]? | _ => none) e2
        have e4 : some (Value.int tot tk) = some (Value.int (accSum acc) tk2) := e3
        cases e4
        rfl
      subst et
      exact wpAny_pure (hR acc _ tk H' s' I' hst)
end
section
variable {X : Cx} {pins : List (Addr × Obj)} {σ : L2.St}
theorem call_sum_gx {Q : VK} {Q' : Value → Shared → Prop} {E : Value → Shared → Prop} {k : Nat} {a : Addr} {s : Shared} (hr : Room (k + 1) X.A) (hf : X.A.frames = some X.stack) (h : Ready X pins σ (fun acc H' => Q (.int (accSum acc)) H') KSum k a s)
    (hQ : ∀ n tk H' s', Inv X pins σ H' s' → Q (.int n) H' → Q' (.int n tk) s') : wpAny (model X.prog X.w) X.A (call (.builtin "sum") [.ref a]) Q' E s := by
  obtain ⟨s4, H4, cenv, fp, tn, τ, go, gn, c, I4, f4, ha, lt4, hkeep, hgo, hgs, wake⟩ := h
  have rd : Room k (X.A.in1.in1.deeper cenv) := ⟨hr.hd, by have := hr.dp; show X.A.depth + 1 + 3 * k + 5 < _; omega, by have := hr.un; show X.A.units + 1 + 1 + 3 + 16 * k + 200 < _; omega⟩
  obtain ⟨hI, go0⟩ := wake X.A.in1.in1 (CPs s.heap.objs.size) rd hf
  have hG := pin_gen hgo hI.1
  have halt : a < s.heap.objs.size := let ⟨_, _, _, e, _⟩ := hG; Heap.lt_size e
  have sz4 : s4.heap.objs.size ≤ s.heap.objs.size := Nat.le_of_lt (Nat.lt_of_le_of_lt ha halt)
  have fok := hI.1.fpOk (Nat.le_refl _) (hI.1.hok.fresh (Nat.le_refl _))
  have sk : SOk (gxOf X s4 H4 cenv (X.A.in1.in1.deeper cenv) fp) fp a s.heap.objs.size := ⟨fok.2.1, fok.2.2.1, fok.2.2.2.1, fok.2.2.2.2.1, fun p hp => (nomatch hp), Nat.ne_of_lt halt, fun hb => absurd (lt4 _ hb) (Nat.not_lt.mpr sz4)⟩
  refine call_function_tree F.kind_sum F.plain_sum F.entry_sum (F.args_sum1 _) ?_
  unfold Builtin.«sum»
  simp only [List.length_cons, List.length_nil]
  rw [if_neg (by decide)]
  refine wpAny_bind (wpAny_of_eq (show Builtin.Builtins.bindParams "sum" ["start"] 0 { } = pure [none] from rfl) ?_)
  refine wpAny_bind (wpAny_pyIter_gen hG ?_)
  refine wpAny_bind (wpAny_mkInt ?_)
  refine wpAny_bind (wpAny_pure ?_)
  simp only [List.forIn_cons, List.forIn_nil]
  refine wpAny_bind (wpAny_bind (wpAny_bind (wpAny_isInstance (T := "int") (b := false) (typeIs_int _ _ _) PySem.sub_int_str ?_)))
  simp only [Bool.false_eq_true, if_false]
  refine wpAny_pure (wpAny_bind (wpAny_bind (wpAny_isInstance (T := "int") (b := false) (typeIs_int _ _ _) PySem.sub_int_bytes ?_)))
  simp only [Bool.false_eq_true, if_false]
  refine wpAny_pure (wpAny_bind (wpAny_bind (wpAny_isInstance (T := "int") (b := false) (typeIs_int _ _ _) PySem.sub_int_bytearray ?_)))
  simp only [Bool.false_eq_true, if_false]
  refine wpAny_pure (wpAny_pure ?_)
  refine wpAny_bind (wpAny_newObj_type ?_)
  have kp : ∀ b o, s.heap.get? b = some o → (s.heap.push { cls := .type "list", data := .seq [Value.int 0 s.toks].toArray }).get? b = some o := fun b o e => Heap.get?_push_of_some _ e
  have hS : (s.heap.push { cls := .type "list", data := .seq [Value.int 0 s.toks].toArray }).get? s.heap.objs.size = some (lstObj #[.int 0 s.toks] 0) := Heap.get?_push_size _ rfl
  have J1 : InvG (gxOf X s4 H4 cenv (X.A.in1.in1.deeper cenv) fp) fp tn τ a go 0 [(s.heap.objs.size, lstObj #[.int 0 s.toks] 0)] H4 { s with heap := s.heap.push { cls := .type "list", data := .seq [Value.int 0 s.toks].toArray }, toks := s.toks + 1 } := by
    obtain ⟨I, st, hz, hafp, _⟩ := hI
    have I1 : Inv (gxOf X s4 H4 cenv (X.A.in1.in1.deeper cenv) fp) [(a, go)] τ H4 { s with heap := s.heap.push { cls := .type "list", data := .seq [Value.int 0 s.toks].toArray }, toks := s.toks + 1 } := I.kept (t' := s.toks + 1) kp
    refine ⟨I1.pins_of fun p hp => ?_, hkeep _ _ _ st fun b hb u e => kp b u e, hz, hafp, fun p hp => by rw [List.mem_singleton.mp hp]; exact sk.it⟩
    rcases List.mem_cons.mp hp with e | hp
    · exact I1.pin p (List.mem_append_right _ (by rw [e]; exact List.mem_cons_self))
    · rw [List.mem_singleton.mp hp]
      exact ⟨hS, fok.1, sk.loc, sk.fs, fun v q => by cases q⟩
  obtain ⟨n, sg⟩ := go0 [(s.heap.objs.size, lstObj #[.int 0 s.toks] 0)] (({ s with heap := s.heap.push { cls := .type "list", data := .seq [Value.int 0 s.toks].toArray }, toks := s.toks + 1 } : Shared).setGen gn .running) (invG_setGen J1 rfl) ⟨s.toks, 0, rfl⟩
  have hd : X.A.depth < recursionLimit := by have := hr.dp; omega
  have hgs2 : ({ s with heap := s.heap.push { cls := .type "list", data := .seq [Value.int 0 s.toks].toArray }, toks := s.toks + 1 } : Shared).gens[gn]? = some (.fresh c) := hgs
  refine wpAny_pure ⟨plainId_quiet F.plain_sum_loop _, sum_loop (G := gxOf X s4 H4 cenv (X.A.in1.in1.deeper cenv) fp) (fp := fp) (tn := tn) (τ := τ) (gn := gn) (go := go) (Q := Q) hr.hd hd hgo sk hkeep (fun acc cp tk H' s' I' hq => ?_) n _ 0 s.toks 0 (pin_gen hgo J1.1) J1.1.nolimit hS ⟨_, hgs2, rfl, sg⟩⟩
  exact hQ _ tk H' s' (gx_back I4 f4 I') hq

/-- sum(elt for tg in iter if ..) -/
def tSumG (P : Addr) (wi : TI) (g : TG) (tt : TT) (te : TE) (vs : List Nat) : TE := fun σ H Q => tGx P wi g tt te vs (fun acc H' => Q (.int (accSum acc)) H') KSum σ H
theorem pe_sumG {c P : Addr} {elt tg iter : Expr} {ifs : List Expr} {scope : Scope} {own : List (Str × Nat)} {p pos gpos : Pos} {wi : TI} {g : TG} {tt : TT} {te : TE} {k : Nat}
    (hr : Room (k + 1) X.A) (hgl : Gl X "sum") (hm : X.mg "sum" = none) (hN : X.N.Nodup) (TB : TabB X.base X.mg c P) (hcode : X.env.code = .ref c) (S : GxS scope) (ok : BlkOk X.N X.env.scope scope own) (hi : PI X tg iter wi)
    (hg : ∀ (s4 : Shared) (H4 : Hp) (C : Addr) (code : Value) (A' : Around) (fp : List Addr), Room k A' → PG (gxOf X s4 H4 (genEnv scope (cloFrom X.env.cells scope.names []) C code builtinsNs X.env) A' fp) tg g)
    (ht : ∀ (s4 : Shared) (H4 : Hp) (C : Addr) (code : Value) (A' : Around) (fp : List Addr), Room k A' → PTs (gxOf X s4 H4 (genEnv scope (cloFrom X.env.cells scope.names []) C code builtinsNs X.env) A' fp) ifs tt)
    (hel : ∀ (s4 : Shared) (H4 : Hp) (C : Addr) (code : Value) (A' : Around) (fp : List Addr), Room k A' → PE (gxOf X s4 H4 (genEnv scope (cloFrom X.env.cells scope.names []) C code builtinsNs X.env) A' fp) elt te)
    (hs : ∀ v, genFold iter X.env v = pure v := by intro _; rfl)
    (he : starEach [.GeneratorExp elt [⟨tg, iter, ifs, 0⟩] scope gpos] X.env = (false, eval (.GeneratorExp elt [⟨tg, iter, ifs, 0⟩] scope gpos) X.env) :: starEach [] X.env := by rfl) :
    PE X (.Call (.Name "sum" p) [.GeneratorExp elt [⟨tg, iter, ifs, 0⟩] scope gpos] [] pos) (tSumG P wi g tt te (own.map (·.2))) := by
  refine ⟨fun pins s σ H Q I h => ?_⟩
  refine wpAny_Call_Name_kw (ld_blt I hgl hm boot_sum ?_)
  refine PyProof.Rows.callWith_builtin1 ?_ he (by rfl)
  rw [he]
  show wpAny _ _ (spliced ((false, eval (.GeneratorExp elt [⟨tg, iter, ifs, 0⟩] scope gpos) X.env) :: backTo pos (starEach [] X.env))) _ _ s
  have hd : X.A.depth < recursionLimit := by have := hr.dp; omega
  refine Calls.spliced_cons (gx_make (k := k) hd hN TB hcode S ok hi hg ht hel hs I h fun a s5 hR => ?_)
  refine Calls.spliced_nil ?_
  exact call_sum_gx hr I.ok.frames hR fun n tk H' s' I' hq => ⟨.int n, H', I', ⟨tk, rfl⟩, hq⟩
end
end GA
set_option Elab.async false
set_option linter.all false
set_option maxRecDepth 100000
set_option maxHeartbeats 4000000
namespace J1
open PySem PySem.Spec PyProof.Rows L2 GxR GA
def top (i : Nat) : Stmt := PySem.Challenge.pw_juststeps_k01_programs_judged.main.body.getD i (.Pass ⟨0, 0, 0, 0⟩)
/-! ### what is judged: things of tuples, lists, texts, integers, truths, None -/
inductive Da where
  | non
  | bl (b : Bool)
  | int (i : Int)
  | str (s : Str)
  | tup (l : List Da)
  | lst (l : List Da)
/-- a text of the size and the signs that there may be -/
structure SOk (s : Str) : Prop where
  len : s.length ≤ 10000
  ok : ∀ c ∈ s.cps.toList, c < 1114112
mutual
/-- the thing d is held at x; its lists stand where B says -/
inductive EncB (B : Addr → Prop) (H : Hp) : Da → V → Prop
  | non : EncB B H .non .non
  | bl (b : Bool) : EncB B H (.bl b) (.bl b)
  | int (i : Int) : EncB B H (.int i) (.int i)
  | str (s : Str) (h : SOk s) : EncB B H (.str s) (.str s)
  | tup {a : Addr} {xs : List V} {l : List Da} (h : H a = some (.tup xs)) (e : EncsB B H l xs) : EncB B H (.tup l) (.ref a)
  | lst {a : Addr} {xs : List V} {l : List Da} (h : H a = some (.lst xs)) (e : EncsB B H l xs) (b : B a) : EncB B H (.lst l) (.ref a)
inductive EncsB (B : Addr → Prop) (H : Hp) : List Da → List V → Prop
  | nil : EncsB B H [] []
  | cons {d : Da} {x : V} {l : List Da} {xs : List V} (h : EncB B H d x) (t : EncsB B H l xs) : EncsB B H (d :: l) (x :: xs)
end
abbrev Enc (H : Hp) : Da → V → Prop := EncB (fun _ => True) H
abbrev Encs (H : Hp) : List Da → List V → Prop := EncsB (fun _ => True) H
mutual
theorem EncB.any {B : Addr → Prop} {H : Hp} : ∀ {d : Da} {x : V}, EncB B H d x → Enc H d x
  | _, _, .non => .non
  | _, _, .bl b => .bl b
  | _, _, .int i => .int i
  | _, _, .str s h => .str s h
  | _, _, .tup h e => .tup h (EncsB.any e)
  | _, _, .lst h e _ => .lst h (EncsB.any e) trivial
theorem EncsB.any {B : Addr → Prop} {H : Hp} : ∀ {l : List Da} {xs : List V}, EncsB B H l xs → Encs H l xs
  | _, _, .nil => .nil
  | _, _, .cons h t => .cons (EncB.any h) (EncsB.any t)
end
/-- all that stood stands; tables may have grown -/
def Grow (H H' : Hp) : Prop := ∀ a o, H a = some o → H' a = some o ∨ (∃ ps, o = .tbl ps) ∧ TabG H' a
theorem Grow.refl (H : Hp) : Grow H H := fun _ _ h => .inl h
theorem Grow.trans {H H1 H2 : Hp} (x : Grow H H1) (y : Grow H1 H2) : Grow H H2 := fun a o h => by
  rcases x a o h with h1 | ⟨h1, h2⟩
  · exact y a o h1
  · obtain ⟨ps, q, _⟩ := h2
    rcases y a _ q with z | ⟨_, z⟩
    · exact .inr ⟨h1, ps, z, by assumption⟩
    · exact .inr ⟨h1, z⟩
theorem Grow.new {H : Hp} {a : Addr} {o : HO} (h : H a = none) : Grow H (upd H a o) := fun b u e => .inl (by rw [upd_ne (ne_of_none e h)]; exact e)
theorem Grow.tab {P : Addr} {H H' : Hp} (h : TabG H P) (t : Tabbed P H H') : Grow H H' := fun b u e => by
  by_cases z : b = P
  · subst z
    obtain ⟨ps, q, _⟩ := h
    rw [q] at e
    cases e
    exact .inr ⟨⟨ps, rfl⟩, t.1⟩
  · exact .inl ((t.2 b z).trans e)
theorem Grow.tup {H H' : Hp} (g : Grow H H') {a : Addr} {xs : List V} (h : H a = some (.tup xs)) : H' a = some (.tup xs) := by
  rcases g a _ h with q | ⟨⟨ps, q⟩, _⟩
  · exact q
  · cases q
theorem Grow.lst {H H' : Hp} (g : Grow H H') {a : Addr} {xs : List V} (h : H a = some (.lst xs)) : H' a = some (.lst xs) := by
  rcases g a _ h with q | ⟨⟨ps, q⟩, _⟩
  · exact q
  · cases q
theorem Grow.tabs {H H' : Hp} (g : Grow H H') {P : Addr} (h : TabG H P) : TabG H' P := by
  obtain ⟨ps, q, z⟩ := h
  rcases g P _ q with q | ⟨_, q⟩
  · exact ⟨ps, q, z⟩
  · exact q
/-- .. but for the list at w, which is none of B's -/
def GrowW (w : Addr) (H H' : Hp) : Prop := ∀ a o, a ≠ w → H a = some o → H' a = some o ∨ (∃ ps, o = .tbl ps) ∧ TabG H' a
mutual
theorem EncB.growW {B : Addr → Prop} {w : Addr} {H H' : Hp} (g : GrowW w H H') (hB : ¬ B w) (hw : ∀ xs, H w ≠ some (.tup xs)) : ∀ {d : Da} {x : V}, EncB B H d x → EncB B H' d x
  | _, _, .non => .non
  | _, _, .bl b => .bl b
  | _, _, .int i => .int i
  | _, _, .str s h => .str s h
  | _, _, .tup (a := a) (xs := xs) h e => .tup (by
      rcases g a _ (fun z => hw xs (z ▸ h)) h with q | ⟨⟨ps, q⟩, _⟩
      · exact q
      · cases q) (EncsB.growW g hB hw e)
  | _, _, .lst (a := a) h e b => .lst (by
      rcases g a _ (fun z => hB (z ▸ b)) h with q | ⟨⟨ps, q⟩, _⟩
      · exact q
      · cases q) (EncsB.growW g hB hw e) b
theorem EncsB.growW {B : Addr → Prop} {w : Addr} {H H' : Hp} (g : GrowW w H H') (hB : ¬ B w) (hw : ∀ xs, H w ≠ some (.tup xs)) : ∀ {l : List Da} {xs : List V}, EncsB B H l xs → EncsB B H' l xs
  | _, _, .nil => .nil
  | _, _, .cons h t => .cons (EncB.growW g hB hw h) (EncsB.growW g hB hw t)
end
mutual
theorem EncB.grow {B : Addr → Prop} {H H' : Hp} (g : Grow H H') : ∀ {d : Da} {x : V}, EncB B H d x → EncB B H' d x
  | _, _, .non => .non
  | _, _, .bl b => .bl b
  | _, _, .int i => .int i
  | _, _, .str s h => .str s h
  | _, _, .tup h e => .tup (g.tup h) (EncsB.grow g e)
  | _, _, .lst h e b => .lst (g.lst h) (EncsB.grow g e) b
theorem EncsB.grow {B : Addr → Prop} {H H' : Hp} (g : Grow H H') : ∀ {l : List Da} {xs : List V}, EncsB B H l xs → EncsB B H' l xs
  | _, _, .nil => .nil
  | _, _, .cons h t => .cons (EncB.grow g h) (EncsB.grow g t)
end
theorem EncsB.length {B : Addr → Prop} {H : Hp} : ∀ {l : List Da} {xs : List V}, EncsB B H l xs → l.length = xs.length
  | _, _, .nil => rfl
  | _, _, .cons _ t => by rw [List.length_cons, List.length_cons, EncsB.length t]
theorem EncsB.get {B : Addr → Prop} {H : Hp} : ∀ {l : List Da} {xs : List V} {i : Nat} {x : V}, EncsB B H l xs → xs[i]? = some x → ∃ d, l[i]? = some d ∧ EncB B H d x
  | _, _, _, _, .nil, e => by cases e
  | _, _, 0, _, .cons h _, e => by cases e; exact ⟨_, rfl, h⟩
  | _, _, i + 1, _, .cons _ t, e => by
    obtain ⟨d, q, z⟩ := EncsB.get t (i := i) e
    exact ⟨d, q, z⟩
theorem EncsB.got {B : Addr → Prop} {H : Hp} : ∀ {l : List Da} {xs : List V} {i : Nat} {d : Da}, EncsB B H l xs → l[i]? = some d → ∃ x, xs[i]? = some x ∧ EncB B H d x
  | _, _, _, _, .nil, e => by cases e
  | _, _, 0, _, .cons h _, e => by cases e; exact ⟨_, rfl, h⟩
  | _, _, i + 1, _, .cons _ t, e => by
    obtain ⟨d, q, z⟩ := EncsB.got t (i := i) e
    exact ⟨d, q, z⟩
def tyD : Da → String
  | .non => "NoneType"
  | .bl _ => "bool"
  | .int _ => "int"
  | .str _ => "str"
  | .tup _ => "tuple"
  | .lst _ => "list"
theorem EncB.ty {B : Addr → Prop} {K : PySem.W.Frag} {H : Hp} {d : Da} {x : V} (h : EncB B H d x) : TyX K H x (.type (tyD d)) := by
  cases h with
  | non => exact .base .non
  | bl b => exact .base (.bl b)
  | int i => exact .base (.int i)
  | str s _ => exact .base (.str s)
  | tup h e => exact .base (.tup h)
  | lst h e _ => exact .base (.lst h)
/-- isinstance's answer -/
def isD (d : Da) (t : String) : Bool := match d, t with
  | .bl _, "int" => true
  | d, t => tyD d == t
theorem kb_NoneType_int : kitB "NoneType" "int" = some false := by decide +kernel
theorem kb_NoneType_bool : kitB "NoneType" "bool" = some false := by decide +kernel
theorem kb_NoneType_str : kitB "NoneType" "str" = some false := by decide +kernel
theorem kb_NoneType_tuple : kitB "NoneType" "tuple" = some false := by decide +kernel
theorem kb_bool_int : kitB "bool" "int" = some true := by decide +kernel
theorem kb_bool_bool : kitB "bool" "bool" = some true := by decide +kernel
theorem kb_bool_str : kitB "bool" "str" = some false := by decide +kernel
theorem kb_bool_tuple : kitB "bool" "tuple" = some false := by decide +kernel
theorem kb_int_int : kitB "int" "int" = some true := by decide +kernel
theorem kb_int_bool : kitB "int" "bool" = some false := by decide +kernel
theorem kb_int_str : kitB "int" "str" = some false := by decide +kernel
theorem kb_int_tuple : kitB "int" "tuple" = some false := by decide +kernel
theorem kb_str_int : kitB "str" "int" = some false := by decide +kernel
theorem kb_str_bool : kitB "str" "bool" = some false := by decide +kernel
theorem kb_str_str : kitB "str" "str" = some true := by decide +kernel
theorem kb_str_tuple : kitB "str" "tuple" = some false := by decide +kernel
theorem kb_tuple_int : kitB "tuple" "int" = some false := by decide +kernel
theorem kb_tuple_bool : kitB "tuple" "bool" = some false := by decide +kernel
theorem kb_tuple_str : kitB "tuple" "str" = some false := by decide +kernel
theorem kb_tuple_tuple : kitB "tuple" "tuple" = some true := by decide +kernel
theorem kb_list_int : kitB "list" "int" = some false := by decide +kernel
theorem kb_list_bool : kitB "list" "bool" = some false := by decide +kernel
theorem kb_list_str : kitB "list" "str" = some false := by decide +kernel
theorem kb_list_tuple : kitB "list" "tuple" = some false := by decide +kernel
def bI : Da → Bool
  | .bl _ => true
  | .int _ => true
  | _ => false
def bB : Da → Bool
  | .bl _ => true
  | _ => false
def bS : Da → Bool
  | .str _ => true
  | _ => false
def bT : Da → Bool
  | .tup _ => true
  | _ => false
theorem kitD (d : Da) : kitB (tyD d) "int" = some (bI d) ∧ kitB (tyD d) "bool" = some (bB d) ∧ kitB (tyD d) "str" = some (bS d) ∧ kitB (tyD d) "tuple" = some (bT d) := match d with
  | .non => ⟨kb_NoneType_int, kb_NoneType_bool, kb_NoneType_str, kb_NoneType_tuple⟩
  | .bl _ => ⟨kb_bool_int, kb_bool_bool, kb_bool_str, kb_bool_tuple⟩
  | .int _ => ⟨kb_int_int, kb_int_bool, kb_int_str, kb_int_tuple⟩
  | .str _ => ⟨kb_str_int, kb_str_bool, kb_str_str, kb_str_tuple⟩
  | .tup _ => ⟨kb_tuple_int, kb_tuple_bool, kb_tuple_str, kb_tuple_tuple⟩
  | .lst _ => ⟨kb_list_int, kb_list_bool, kb_list_str, kb_list_tuple⟩
/-- a def as the globals hold it -/
structure Df (K : PySem.W.Frag) (mg : Str → Option Value) (x : Str) (ps : List Str) (f : Addr) (fd : FuncData) : Prop where
  g : mg x = some (.ref f)
  k : PySem.W.keepIn K (.ref f) = true
  b : Binds K fd ps []
theorem ifT {p : Prop} [Decidable p] {A B : Prop} (h : p) (a : A) : if decide p = true then A else B := by
  rw [decide_eq_true h]
  exact iteT a
theorem ifF {p : Prop} [Decidable p] {A B : Prop} (h : ¬ p) (b : B) : if decide p = true then A else B := by
  rw [decide_eq_false h]
  exact iteF b
/-! ### a def that holds generator expressions: its code object at c -/
structure FunC (K : PySem.W.Frag) (x qual : Str) (st : Stmt) (f : Addr) (fd : FuncData) (c : Addr) : Prop where
  ex : ∃ (oc : Value) (od : Option Addr) (kV doc pm : Value) (an : Option Addr) (ct : Value) (osl : Array (Option Value)),
    fd = PySem.W.fnOf x qual (defArgs st) (defBody st) (defScope st) .none kV doc pm an (.ref c) ct ∧ K.lookup f = some ⟨oc, od, .func fd, osl⟩ ∧ PySem.W.codeIn K (.ref c) qual = true
  kp : PySem.W.keepIn K (.ref f) = true
theorem FunC.ok {P : Program} {w : World} {K : PySem.W.Frag} {mg : Str → Option Value} {base : Heap} {x qual : Str} {st : Stmt} {f c : Addr} {fd : FuncData} {N ps : List Str} {k : Nat} {sp : Sp} (F : FunC K x qual st f fd c) (S : FnScope N ps (defScope st)) (len : ∀ vs H Q E, sp vs H Q E → vs.length = ps.length)
    (hbody : ∀ (A : Around) (outer : List Env) (s : Shared) (H : Hp) (vs : List V) (Q : VK) (E : XK), Room k (A.deeper (envOfC qual (defScope st) s.heap.objs.size f (.ref c))) → sp vs H Q E →
      ∃ t, PSs (cxOf CX0 P w K mg base N qual (defScope st) f (.ref c) A outer s H E).nox (defBody st) t ∧ t { nx := fun _ H' => Q .non H', rt := Q } (start N vs) H) : FnOk P w K mg base CX0 (k + 1) f fd ps sp := by
  obtain ⟨oc, od, kV, doc, pm, an, ct, osl, rfl, lk, hcd⟩ := F.ex
  refine fn_of lk hcd S len fun A outer s H vs Q E hr hsp => ?_
  obtain ⟨t, h, q⟩ := hbody A outer s H vs Q E hr hsp
  exact ⟨t, h.nox, q⟩

/-! ### over a tuple that stands still -/
theorem turns_tup {K : PySem.W.Frag} {a : Addr} {xs : List V} {g : TG} {tt : TT} {te : TE} {vs : List Nat} {σ : L2.St} {stop : List V → Hp → Prop} {KK : TK} {H0 : Hp} (Pv : Nat → List V → Hp → Prop) (h0 : Pv 0 [] H0) (hl : ∀ i acc H, i ≤ xs.length → Pv i acc H → H a = some (.tup xs))
    (hs : ∀ i x acc H, xs[i]? = some x → Pv i acc H → g x (wipe σ vs) H fun σ2 H2 => wipe σ2 vs = wipe σ vs ∧ tt σ2 H2 fun b H3 => if b = true then te σ2 H3 fun y H4 => KK acc y H4 (Pv (i + 1)) else Pv (i + 1) acc H3)
    (hd : ∀ acc H, Pv xs.length acc H → stop acc H) : ∃ W : Nat → Nat → List V → Hp → Prop, (∃ m, W 0 m [] H0) ∧ Turns (Itt K a) g tt te vs σ stop KK W := by
  refine ⟨fun i m acc H => m = xs.length - i ∧ i ≤ xs.length ∧ Pv i acc H, ⟨xs.length, by simp, Nat.zero_le _, h0⟩, ?_⟩
  rintro i m acc H ⟨rfl, hi, p⟩
  have q : SqT K H a xs := SqT.of (hl i acc H hi p)
  by_cases hlt : i < xs.length
  · refine .inr ⟨⟨xs, xs[i], q, by simp [hlt]⟩, Pv (i + 1), fun acc' H' p' => ⟨xs.length - (i + 1), by omega, rfl, hlt, p'⟩, fun x H' y => ?_⟩
    obtain ⟨e, y⟩ := y
    subst e
    exact hs i x acc _ (y xs q) p
  · have e : i = xs.length := by omega
    subst e
    exact .inl ⟨⟨xs, q, Nat.le_refl _⟩, hd acc H p⟩
end J1
set_option Elab.async false
set_option linter.all false
set_option maxRecDepth 100000
set_option maxHeartbeats 4000000
namespace J1
open PySem PySem.Spec PyProof.Rows L2 GxR GA
abbrev sInt : Stmt := top 11
abbrev sBet : Stmt := top 12
abbrev sNum : Stmt := top 13
abbrev sFac : Stmt := top 14
abbrev sTup : Stmt := top 15
abbrev sNam : Stmt := top 16
abbrev sLow : Stmt := top 17
abbrev sHig : Stmt := top 18
abbrev sKin : Stmt := top 19
abbrev sFir : Stmt := top 20
theorem c11 : FnScope ["thing"] ["thing"] (defScope sInt) := ⟨rfl, rfl, rfl, by decide +kernel, rfl, by decide +kernel, by decide +kernel⟩
theorem c12 : FnScope ["thing", "least", "most"] ["thing", "least", "most"] (defScope sBet) := ⟨rfl, rfl, rfl, by decide +kernel, rfl, by decide +kernel, by decide +kernel⟩
theorem c13 : FnScope ["thing"] ["thing"] (defScope sNum) := ⟨rfl, rfl, rfl, by decide +kernel, rfl, by decide +kernel, by decide +kernel⟩
theorem c14 : FnScope ["thing"] ["thing"] (defScope sFac) := ⟨rfl, rfl, rfl, by decide +kernel, rfl, by decide +kernel, by decide +kernel⟩
theorem c15 : FnScope ["thing", "least", "most"] ["thing", "least", "most"] (defScope sTup) := ⟨rfl, rfl, rfl, by decide +kernel, rfl, by decide +kernel, by decide +kernel⟩
theorem c16 : FnScope ["thing"] ["thing"] (defScope sNam) := ⟨rfl, rfl, rfl, by decide +kernel, rfl, by decide +kernel, by decide +kernel⟩
theorem c17 : FnScope ["thing"] ["thing"] (defScope sLow) := ⟨rfl, rfl, rfl, by decide +kernel, rfl, by decide +kernel, by decide +kernel⟩
theorem c18 : FnScope ["thing"] ["thing"] (defScope sHig) := ⟨rfl, rfl, rfl, by decide +kernel, rfl, by decide +kernel, by decide +kernel⟩
theorem c19 : FnScope ["thing"] ["thing"] (defScope sKin) := ⟨rfl, rfl, rfl, by decide +kernel, rfl, by decide +kernel, by decide +kernel⟩
theorem c20 : FnScope ["thing"] ["thing"] (defScope sFir) := ⟨rfl, rfl, rfl, by decide +kernel, rfl, by decide +kernel, by decide +kernel⟩
/-! ### what they tell -/
def isInt (d : Da) : Bool := bI d && !bB d
def isBet (lo hi : Int) : Da → Bool
  | .int i => decide (lo ≤ i) && decide (i ≤ hi)
  | _ => false
def isTu (lo hi : Int) : Da → Bool
  | .tup l => decide (lo ≤ (l.length : Int)) && decide ((l.length : Int) ≤ hi)
  | _ => false
def wordsL : List Str := ["def", "else", "give", "if", "kind", "let", "match", "whole"]
def head1 (s : Str) : Str := ⟨#[s.cps.toList.headD 0]⟩
def isNamS (s : Str) : Bool := decide (1 ≤ (s.length : Int)) && (decide ((s.length : Int) ≤ 10) && (Txt.isascii s && (Txt.isalnum s && (Txt.isalpha (head1 s) && !inV (.str s) (wordsL.map V.str)))))
def isNam : Da → Bool
  | .str s => isNamS s
  | _ => false
def isLow : Da → Bool
  | .str s => isNamS s && Txt.islower (head1 s)
  | _ => false
def isHig : Da → Bool
  | .str s => isNamS s && Txt.isupper (head1 s)
  | _ => false
def isKin : Da → Bool
  | .str s => decide (s = "whole") || isHig (.str s)
  | _ => false
def firstW : Da → Str
  | .tup (.str s :: _) => s
  | _ => ""
/-- a judge of one thing that lays nothing -/
def spF (g : Da → Bool) : Sp := fun vs H Q _ => ∃ x d, vs = [x] ∧ Enc H d x ∧ Q (.bl (g d)) H
def spF3 (g : Int → Int → Da → Bool) : Sp := fun vs H Q _ => ∃ x d lo hi, vs = [x, .int lo, .int hi] ∧ Enc H d x ∧ Q (.bl (g lo hi d)) H
def spW : Sp := fun vs H Q _ => ∃ x d, vs = [x] ∧ Enc H d x ∧ Q (.str (firstW d)) H
/-- the globals that they use -/
structure Gn (K : PySem.W.Frag) (mg : Str → Option Value) : Prop where
  nI : mg "isinstance" = none
  ni : mg "int" = none
  nb : mg "bool" = none
  nt : mg "tuple" = none
  ns : mg "str" = none
  nl : mg "len" = none
  na : mg "all" = none
  signs : ∃ t, mg "MOST_SIGNS" = some (.int 10 t)
  numb : ∃ t, mg "MOST_NUMBER" = some (.int 1000000000000 t)
  fact : ∃ t, mg "MOST_FACTOR" = some (.int 1000000 t)
  whole : ∃ t, mg "WHOLE" = some (.str "whole" t)
  words : ∃ W, mg "WORDS" = some (.ref W) ∧ ∀ H, SqT K H W (wordsL.map V.str)
section
variable {P : Program} {w : World} {K : PySem.W.Frag} {mg : Str → Option Value} {base : Heap}
theorem ok_int {f : Addr} {fd : FuncData} (F : Fun K "is_integer" "is_integer" sInt f fd) (N : Gn K mg) : FnOk P w K mg base CX0 1 f fd ["thing"] (spF isInt) := by
  refine F.ok c11 (fun vs H Q E h => ?_) (fun cdv A outer s H vs Q E hr h => ?_)
  · obtain ⟨x, d, rfl, _⟩ := h
    rfl
  · obtain ⟨x, d, rfl, en, k⟩ := h
    obtain ⟨kI, kB, _, _⟩ := kitD d
    refine ⟨_, pss_one (ps_ret (pe_and (pe_callB call_isi (by rfl) N.nI boot_isinstance (pa_cons (pv 0) (pa_cons (pe_bltn (v := .ty "int") rfl N.ni (by decide +kernel) rfl) pa_nil)))
      (pe_one (pe_not (pe_callB call_isi (by rfl) N.nI boot_isinstance (pa_cons (pv 0) (pa_cons (pe_bltn (v := .ty "bool") rfl N.nb (by decide +kernel) rfl) pa_nil))))))), ?_⟩
    refine ⟨_, rfl, _, _, _, _, _, rfl, .ty "int", en.ty, kit_ty kI, _, rfl, ite2 (fun e => ?_) (fun e => ?_)⟩
    · refine ⟨_, rfl, _, _, _, _, _, rfl, .ty "bool", en.ty, kit_ty kB, _, rfl, ?_⟩
      unfold isInt at k
      rw [e, Bool.true_and] at k
      exact k
    · unfold isInt at k
      rw [Bool.eq_false_iff.mpr e, Bool.false_and] at k
      exact k
theorem ok_bet {f fI : Addr} {fd fdI : FuncData} (F : Fun K "is_between" "is_between" sBet f fd) (GI : FnOk P w K mg base CX0 1 fI fdI ["thing"] (spF isInt)) (I : Df K mg "is_integer" ["thing"] fI fdI) : FnOk P w K mg base CX0 2 f fd ["thing", "least", "most"] (spF3 isBet) := by
  refine F.ok c12 (fun vs H Q E h => ?_) (fun cdv A outer s H vs Q E hr h => ?_)
  · obtain ⟨x, d, lo, hi, rfl, _⟩ := h
    rfl
  · obtain ⟨x, d, lo, hi, rfl, en, k⟩ := h
    refine ⟨_, pss_one (ps_ret (pe_and (pe_call GI hr (by rfl) I.g I.k I.b .nil pass0 (pa_cons (pv 0) pa_nil)) (pe_one (pe_chain op_le op_le (pv 1) (pv 0) (pv 2))))), ?_⟩
    refine ⟨_, rfl, _, _, rfl, en, _, rfl, ?_⟩
    cases en with
    | int i =>
      refine iteT ⟨_, rfl, _, rfl, _, _, rfl, rfl, _, rfl, ?_⟩
      by_cases h1 : lo ≤ i
      · refine ifT h1 ⟨_, rfl, _, _, rfl, rfl, ?_⟩
        have e : isBet lo hi (.int i) = decide (i ≤ hi) := by show (decide (lo ≤ i) && decide (i ≤ hi)) = _; rw [decide_eq_true h1, Bool.true_and]
        rw [e] at k
        exact k
      · refine ifF h1 ?_
        have e : isBet lo hi (.int i) = false := by show (decide (lo ≤ i) && decide (i ≤ hi)) = _; rw [decide_eq_false h1, Bool.false_and]
        rw [e] at k
        exact k
    | non => exact iteF k
    | bl b => exact iteF k
    | str s => exact iteF k
    | tup h e => exact iteF k
    | lst h e => exact iteF k
theorem ok_num {f fB : Addr} {fd fdB : FuncData} (F : Fun K "is_number" "is_number" sNum f fd) (N : Gn K mg) (GB : FnOk P w K mg base CX0 2 fB fdB ["thing", "least", "most"] (spF3 isBet)) (B : Df K mg "is_between" ["thing", "least", "most"] fB fdB) :
    FnOk P w K mg base CX0 3 f fd ["thing"] (spF (isBet (-1000000000000) 1000000000000)) := by
  obtain ⟨t, hn⟩ := N.numb
  refine F.ok c13 (fun vs H Q E h => ?_) (fun cdv A outer s H vs Q E hr h => ?_)
  · obtain ⟨x, d, rfl, _⟩ := h
    rfl
  · obtain ⟨x, d, rfl, en, k⟩ := h
    refine ⟨_, pss_one (ps_ret (pe_call GB hr (by rfl) B.g B.k B.b .nil pass0 (pa_cons (pv 0) (pa_cons (pe_un un_neg (pe_glob (v := .int 1000000000000) (by rfl) hn ⟨t, rfl⟩)) (pa_cons (pe_glob (v := .int 1000000000000) (by rfl) hn ⟨t, rfl⟩) pa_nil))))), ?_⟩
    exact ⟨_, rfl, _, rfl, _, d, _, _, rfl, en, k⟩
theorem ok_fac {f fB : Addr} {fd fdB : FuncData} (F : Fun K "is_factor" "is_factor" sFac f fd) (N : Gn K mg) (GB : FnOk P w K mg base CX0 2 fB fdB ["thing", "least", "most"] (spF3 isBet)) (B : Df K mg "is_between" ["thing", "least", "most"] fB fdB) :
    FnOk P w K mg base CX0 3 f fd ["thing"] (spF (isBet (-1000000) 1000000)) := by
  obtain ⟨t, hn⟩ := N.fact
  refine F.ok c14 (fun vs H Q E h => ?_) (fun cdv A outer s H vs Q E hr h => ?_)
  · obtain ⟨x, d, rfl, _⟩ := h
    rfl
  · obtain ⟨x, d, rfl, en, k⟩ := h
    refine ⟨_, pss_one (ps_ret (pe_call GB hr (by rfl) B.g B.k B.b .nil pass0 (pa_cons (pv 0) (pa_cons (pe_un un_neg (pe_glob (v := .int 1000000) (by rfl) hn ⟨t, rfl⟩)) (pa_cons (pe_glob (v := .int 1000000) (by rfl) hn ⟨t, rfl⟩) pa_nil))))), ?_⟩
    exact ⟨_, rfl, _, rfl, _, d, _, _, rfl, en, k⟩
theorem ok_tup {f : Addr} {fd : FuncData} (F : Fun K "is_tuple" "is_tuple" sTup f fd) (N : Gn K mg) : FnOk P w K mg base CX0 1 f fd ["thing", "least", "most"] (spF3 isTu) := by
  refine F.ok c15 (fun vs H Q E h => ?_) (fun cdv A outer s H vs Q E hr h => ?_)
  · obtain ⟨x, d, lo, hi, rfl, _⟩ := h
    rfl
  · obtain ⟨x, d, lo, hi, rfl, en, k⟩ := h
    obtain ⟨_, _, _, kT⟩ := kitD d
    refine ⟨_, pss_one (ps_ret (pe_and (pe_callB call_isi (by rfl) N.nI boot_isinstance (pa_cons (pv 0) (pa_cons (pe_bltn (v := .ty "tuple") rfl N.nt (by decide +kernel) rfl) pa_nil)))
      (pe_one (pe_chain op_le op_le (pv 1) (pe_callB call_len_seq (by rfl) N.nl PySem.boot_len (pa_cons (pv 0) pa_nil)) (pv 2))))), ?_⟩
    refine ⟨_, rfl, _, _, _, _, _, rfl, .ty "tuple", en.ty, kit_ty kT, _, rfl, ?_⟩
    cases en with
    | @tup a xs l h e =>
      have el := e.length
      refine iteT ⟨_, rfl, _, rfl, a, xs, rfl, .inr (SqT.of h), _, _, rfl, rfl, _, rfl, ?_⟩
      by_cases h1 : lo ≤ (xs.length : Int)
      · refine ifT h1 ⟨_, rfl, _, _, rfl, rfl, ?_⟩
        have e : isTu lo hi (.tup l) = decide ((xs.length : Int) ≤ hi) := by show (decide (lo ≤ (l.length : Int)) && decide ((l.length : Int) ≤ hi)) = _; rw [el, decide_eq_true h1, Bool.true_and]
        rw [e] at k
        exact k
      · refine ifF h1 ?_
        have e : isTu lo hi (.tup l) = false := by show (decide (lo ≤ (l.length : Int)) && decide ((l.length : Int) ≤ hi)) = _; rw [el, decide_eq_false h1, Bool.false_and]
        rw [e] at k
        exact k
    | non => exact iteF k
    | bl b => exact iteF k
    | int i => exact iteF k
    | str s => exact iteF k
    | lst h e => exact iteF k
theorem at0 {s : Str} (h : 1 ≤ (s.length : Int)) : atI s.cps.toList 0 = some (s.cps.toList.headD 0) := by
  have hl : 1 ≤ s.cps.toList.length := by
    have e : s.cps.toList.length = s.length := by rw [Array.length_toList]; rfl
    omega
  match e : s.cps.toList, hl with
  | [], hl => exact absurd hl (by decide)
  | c :: r, _ => simp [atI, ixN]
theorem sz {s : Str} (h : SOk s) : s.length ≤ sizeLine := by
  have := h.len
  rw [sizeLine_eq]
  omega
theorem words_flat : (wordsL.map V.str).all flatV = true := rfl
theorem ok_nam {f : Addr} {fd : FuncData} (F : Fun K "is_name" "is_name" sNam f fd) (N : Gn K mg) : FnOk P w K mg base CX0 1 f fd ["thing"] (spF isNam) := by
  obtain ⟨t, hn⟩ := N.signs
  obtain ⟨W, hW, hWs⟩ := N.words
  refine F.ok c16 (fun vs H Q E h => ?_) (fun cdv A outer s H vs Q E hr h => ?_)
  · obtain ⟨x, d, rfl, _⟩ := h
    rfl
  · obtain ⟨x, d, rfl, en, k⟩ := h
    obtain ⟨_, _, kS, _⟩ := kitD d
    refine ⟨_, pss_cons (ps_if (PW.pt (pw_or (pt_not (pt_val (pe_callB call_isi (by rfl) N.nI boot_isinstance (pa_cons (pv 0) (pa_cons (pe_bltn (v := .ty "str") rfl N.ns (by decide +kernel) rfl) pa_nil)))))
        (pw_or1 (pt_not (pt_chain op_le op_le pe_int (pe_callB call_len_str (by rfl) N.nl PySem.boot_len (pa_cons (pv 0) pa_nil)) (pe_glob (v := .int 10) (by rfl) hn ⟨t, rfl⟩)))))) (pss_one (ps_ret pe_bl)) pss_nil)
      (pss_one (ps_ret (pe_and (pe_bm0 PySem.F.plainAttrs_str PySem.F.slot_str_isascii PySem.F.type_str_isascii mt_isascii (pv 0))
        (pe_and (pe_bm0 PySem.F.plainAttrs_str PySem.F.slot_str_isalnum PySem.F.type_str_isalnum mt_isalnum (pv 0))
        (pe_and (pe_bm0 PySem.F.plainAttrs_str PySem.F.slot_str_isalpha PySem.F.type_str_isalpha mt_isalpha (pe_ix ix_str (pv 0) pe_int (fun _ _ => rfl)))
        (pe_one (pe_cmpR op_notIn_seq (pv 0) (pe_glob (v := .ref W) (by rfl) hW rfl) (by rfl)))))))), ?_⟩
    refine ⟨_, rfl, _, _, _, _, _, rfl, .ty "str", en.ty, kit_ty kS, _, rfl, ?_⟩
    cases en with
    | str s hz =>
      refine iteF ⟨_, rfl, s, rfl, sz hz, _, _, rfl, rfl, _, rfl, ?_⟩
      have ek : isNam (.str s) = (decide (1 ≤ (s.length : Int)) && (decide ((s.length : Int) ≤ 10) && (Txt.isascii s && (Txt.isalnum s && (Txt.isalpha (head1 s) && !inV (.str s) (wordsL.map V.str)))))) := rfl
      rw [ek] at k
      by_cases h1 : 1 ≤ (s.length : Int)
      · rw [decide_eq_true h1, Bool.true_and] at k
        refine ifT h1 ⟨_, _, rfl, rfl, _, rfl, ?_⟩
        by_cases h2 : (s.length : Int) ≤ 10
        · rw [decide_eq_true h2, Bool.true_and] at k
          rw [decide_eq_true h2]
          refine iteF ⟨_, rfl, rfl, _, rfl, rfl, trivial, _, rfl, ite2 (fun e => ?_) (fun e => ?_)⟩
          · rw [e, Bool.true_and] at k
            refine ⟨_, rfl, rfl, _, rfl, rfl, trivial, _, rfl, ite2 (fun e => ?_) (fun e => ?_)⟩
            · rw [e, Bool.true_and] at k
              refine ⟨_, rfl, s, _, _, rfl, rfl, sz hz, at0 h1, rfl, _, rfl, rfl, trivial, _, rfl, ite2 (fun e => ?_) (fun e => ?_)⟩
              · have e : Txt.isalpha (head1 s) = true := e
                rw [e, Bool.true_and] at k
                exact ⟨_, rfl, W, _, rfl, .inr (hWs H), rfl, words_flat, k⟩
              · have e : ¬ Txt.isalpha (head1 s) = true := e
                rw [Bool.eq_false_iff.mpr e, Bool.false_and] at k
                exact k
            · rw [Bool.eq_false_iff.mpr e, Bool.false_and] at k
              exact k
          · rw [Bool.eq_false_iff.mpr e, Bool.false_and] at k
            exact k
        · rw [decide_eq_false h2, Bool.false_and] at k
          rw [decide_eq_false h2]
          exact iteT k
      · rw [decide_eq_false h1, Bool.false_and] at k
        exact ifF h1 ⟨_, rfl, iteT k⟩
    | non => exact iteT k
    | bl b => exact iteT k
    | int i => exact iteT k
    | tup h e => exact iteT k
    | lst h e => exact iteT k
theorem nam_len {s : Str} (h : isNamS s = true) : 1 ≤ (s.length : Int) := by
  unfold isNamS at h
  rw [Bool.and_eq_true] at h
  exact of_decide_eq_true h.1
theorem ok_low {f fN : Addr} {fd fdN : FuncData} (F : Fun K "is_low" "is_low" sLow f fd) (GN : FnOk P w K mg base CX0 1 fN fdN ["thing"] (spF isNam)) (D : Df K mg "is_name" ["thing"] fN fdN) : FnOk P w K mg base CX0 2 f fd ["thing"] (spF isLow) := by
  refine F.ok c17 (fun vs H Q E h => ?_) (fun cdv A outer s H vs Q E hr h => ?_)
  · obtain ⟨x, d, rfl, _⟩ := h
    rfl
  · obtain ⟨x, d, rfl, en, k⟩ := h
    refine ⟨_, pss_one (ps_ret (pe_and (pe_call GN hr (by rfl) D.g D.k D.b .nil pass0 (pa_cons (pv 0) pa_nil))
      (pe_one (pe_bm0 PySem.F.plainAttrs_str PySem.F.slot_str_islower PySem.F.type_str_islower mt_islower (pe_ix ix_str (pv 0) pe_int (fun _ _ => rfl)))))), ?_⟩
    refine ⟨_, rfl, _, _, rfl, en, _, rfl, ?_⟩
    cases en with
    | str s hz =>
      refine ite2 (fun e => ?_) (fun e => ?_)
      · have e : isNamS s = true := e
        refine ⟨_, rfl, s, _, _, rfl, rfl, sz hz, at0 (nam_len e), rfl, _, rfl, rfl, trivial, ?_⟩
        have ek : isLow (.str s) = (isNamS s && Txt.islower (head1 s)) := rfl
        rw [ek, e, Bool.true_and] at k
        exact k
      · have e : ¬ isNamS s = true := e
        have ek : isLow (.str s) = (isNamS s && Txt.islower (head1 s)) := rfl
        rw [ek, Bool.eq_false_iff.mpr e, Bool.false_and] at k
        exact k
    | non => exact iteF k
    | bl b => exact iteF k
    | int i => exact iteF k
    | tup h e => exact iteF k
    | lst h e => exact iteF k
theorem ok_hig {f fN : Addr} {fd fdN : FuncData} (F : Fun K "is_high" "is_high" sHig f fd) (GN : FnOk P w K mg base CX0 1 fN fdN ["thing"] (spF isNam)) (D : Df K mg "is_name" ["thing"] fN fdN) : FnOk P w K mg base CX0 2 f fd ["thing"] (spF isHig) := by
  refine F.ok c18 (fun vs H Q E h => ?_) (fun cdv A outer s H vs Q E hr h => ?_)
  · obtain ⟨x, d, rfl, _⟩ := h
    rfl
  · obtain ⟨x, d, rfl, en, k⟩ := h
    refine ⟨_, pss_one (ps_ret (pe_and (pe_call GN hr (by rfl) D.g D.k D.b .nil pass0 (pa_cons (pv 0) pa_nil))
      (pe_one (pe_bm0 PySem.F.plainAttrs_str PySem.F.slot_str_isupper PySem.F.type_str_isupper mt_isupper (pe_ix ix_str (pv 0) pe_int (fun _ _ => rfl)))))), ?_⟩
    refine ⟨_, rfl, _, _, rfl, en, _, rfl, ?_⟩
    cases en with
    | str s hz =>
      refine ite2 (fun e => ?_) (fun e => ?_)
      · have e : isNamS s = true := e
        refine ⟨_, rfl, s, _, _, rfl, rfl, sz hz, at0 (nam_len e), rfl, _, rfl, rfl, trivial, ?_⟩
        have ek : isHig (.str s) = (isNamS s && Txt.isupper (head1 s)) := rfl
        rw [ek, e, Bool.true_and] at k
        exact k
      · have e : ¬ isNamS s = true := e
        have ek : isHig (.str s) = (isNamS s && Txt.isupper (head1 s)) := rfl
        rw [ek, Bool.eq_false_iff.mpr e, Bool.false_and] at k
        exact k
    | non => exact iteF k
    | bl b => exact iteF k
    | int i => exact iteF k
    | tup h e => exact iteF k
    | lst h e => exact iteF k
theorem ok_kin {f fH : Addr} {fd fdH : FuncData} (F : Fun K "is_kind" "is_kind" sKin f fd) (N : Gn K mg) (GH : FnOk P w K mg base CX0 2 fH fdH ["thing"] (spF isHig)) (D : Df K mg "is_high" ["thing"] fH fdH) : FnOk P w K mg base CX0 3 f fd ["thing"] (spF isKin) := by
  obtain ⟨t, hW⟩ := N.whole
  refine F.ok c19 (fun vs H Q E h => ?_) (fun cdv A outer s H vs Q E hr h => ?_)
  · obtain ⟨x, d, rfl, _⟩ := h
    rfl
  · obtain ⟨x, d, rfl, en, k⟩ := h
    obtain ⟨_, _, kS, _⟩ := kitD d
    refine ⟨_, pss_one (ps_ret (pe_and (pe_callB call_isi (by rfl) N.nI boot_isinstance (pa_cons (pv 0) (pa_cons (pe_bltn (v := .ty "str") rfl N.ns (by decide +kernel) rfl) pa_nil)))
      (pe_one (pe_or (pe_cmpR op_eq (pv 0) (pe_glob (v := .str "whole") (by rfl) hW ⟨t, rfl⟩) (nomark _)) (pe_one (pe_call GH hr (by rfl) D.g D.k D.b .nil pass0 (pa_cons (pv 0) pa_nil))))))), ?_⟩
    refine ⟨_, rfl, _, _, _, _, _, rfl, .ty "str", en.ty, kit_ty kS, _, rfl, ?_⟩
    cases en with
    | str s hz =>
      have ek : isKin (.str s) = (decide (s = "whole") || isHig (.str s)) := rfl
      refine iteT ⟨_, rfl, rfl, _, rfl, ?_⟩
      have eq1 : decide (V.str s = V.str "whole") = decide (s = "whole") := decide_eq_decide.mpr ⟨fun z => V.str.inj z, fun z => by rw [z]⟩
      show if decide (V.str s = V.str "whole") = true then _ else _
      rw [eq1]
      by_cases h1 : s = "whole"
      · rw [ek, decide_eq_true h1, Bool.true_or] at k
        exact ifT h1 k
      · rw [ek, decide_eq_false h1, Bool.false_or] at k
        exact ifF h1 ⟨_, rfl, _, _, rfl, .str s hz, k⟩
    | non => exact iteF k
    | bl b => exact iteF k
    | int i => exact iteF k
    | tup h e => exact iteF k
    | lst h e => exact iteF k
theorem ok_fir {f : Addr} {fd : FuncData} (F : Fun K "first_word" "first_word" sFir f fd) (N : Gn K mg) : FnOk P w K mg base CX0 1 f fd ["thing"] spW := by
  refine F.ok c20 (fun vs H Q E h => ?_) (fun cdv A outer s H vs Q E hr h => ?_)
  · obtain ⟨x, d, rfl, _⟩ := h
    rfl
  · obtain ⟨x, d, rfl, en, k⟩ := h
    obtain ⟨_, _, _, kT⟩ := kitD d
    refine ⟨_, pss_cons (ps_if (PW.pt (pw_and (pt_val (pe_callB call_isi (by rfl) N.nI boot_isinstance (pa_cons (pv 0) (pa_cons (pe_bltn (v := .ty "tuple") rfl N.nt (by decide +kernel) rfl) pa_nil))))
        (pw_and (pt_truth (pv 0) (fun _ => rfl)) (pw_and1 (pt_val (pe_callB call_isi (by rfl) N.nI boot_isinstance (pa_cons (pe_ix ix_tup (pv 0) pe_int (fun _ _ => rfl)) (pa_cons (pe_bltn (v := .ty "str") rfl N.ns (by decide +kernel) rfl) pa_nil)))))))) (pss_one (ps_ret (pe_ix ix_tup (pv 0) pe_int (fun _ _ => rfl)))) pss_nil)
      (pss_one (ps_ret pe_str)), ?_⟩
    refine ⟨_, rfl, _, _, _, _, _, rfl, .ty "tuple", en.ty, kit_ty kT, _, rfl, ?_⟩
    cases en with
    | @tup a xs l h e =>
      cases e with
      | nil => exact iteT ⟨_, rfl, _, .inr (.inl ⟨_, SqT.of h, rfl⟩), iteF k⟩
      | @cons d x l xs h1 t =>
        obtain ⟨_, _, kS, _⟩ := kitD d
        have g0 : atI (x :: xs) 0 = some x := at_of (j := 0) rfl rfl
        refine iteT ⟨_, rfl, _, .inr (.inl ⟨_, SqT.of h, rfl⟩), iteT ⟨_, rfl, a, _, _, _, rfl, rfl, SqT.of h, g0, _, _, _, _, _, rfl, .ty "str", h1.ty, kit_ty kS, _, rfl, ?_⟩⟩
        cases h1 with
        | str s hz => exact iteT ⟨_, rfl, a, _, _, _, rfl, rfl, SqT.of h, g0, k⟩
        | non => exact iteF k
        | bl b => exact iteF k
        | int i => exact iteF k
        | tup h e => exact iteF k
        | lst h e => exact iteF k
    | non => exact iteF k
    | bl b => exact iteF k
    | int i => exact iteF k
    | str s _ => exact iteF k
    | lst h e => exact iteF k
end
end J1
set_option Elab.async false
set_option linter.all false
set_option maxRecDepth 100000
set_option maxHeartbeats 4000000
namespace J1
open PySem PySem.Spec PyProof.Rows L2 GxR GA
abbrev sKinds : Stmt := top 25
abbrev sEntry : Stmt := top 26
abbrev sMaker : Stmt := top 27
/-- a judge of one thing; tables may grow; T: the tables that it needs -/
def spG (T : Hp → Prop) (g : Da → Bool) : Sp := fun vs H Q _ => ∃ x d, vs = [x] ∧ Enc H d x ∧ T H ∧ ∀ H', Grow H H' → Q (.bl (g d)) H'
def Stays (T : Hp → Prop) : Prop := ∀ H H', Grow H H' → T H → T H'
theorem wipe_set {σ : L2.St} {j : Nat} {x : V} : wipe ((wipe σ [j]).set j (some x)) [j] = wipe σ [j] := by
  show (((σ.set j none).set j (some x)).set j none) = σ.set j none
  rw [List.set_set, List.set_set]
theorem all_take {l : List Da} {g : Da → Bool} {i : Nat} {d : Da} (h : (l.take i).all g = true) (e : l[i]? = some d) : (l.take (i + 1)).all g = g d := by
  rw [List.take_succ, e, List.all_append, h]
  simp
theorem all_not {l : List Da} {g : Da → Bool} {i : Nat} {d : Da} (e : l[i]? = some d) (h : g d = false) : l.all g = false := by
  rw [Bool.eq_false_iff]
  intro z
  rw [List.all_eq_true] at z
  rw [z d (List.mem_of_getElem? e)] at h
  cases h
/-- all(judge for x in t): behind the walked tuple -/
theorem rd_all {K : PySem.W.Frag} {P a : Addr} {xs : List V} {l : List Da} {j : Nat} {te : TE} {gj : Da → Bool} {T : Hp → Prop} {σ : L2.St} {H1 : Hp} {Q : VK} (ha : H1 a = some (.tup xs)) (el : Encs H1 l xs) (st : Stays T) (hT : T H1) (hP : TabG H1 P)
    (hel : ∀ x d H R, Enc H d x → T H → (∀ H', Grow H H' → R (.bl (gj d)) H') → te ((wipe σ [j]).set j (some x)) H R) (hQ : ∀ H', Grow H1 H' → Q (.bl (l.all gj)) H') :
    TabG H1 P ∧ ∀ H2, Tabbed P H1 H2 → ∃ W : Nat → Nat → List V → Hp → Prop, (∃ m, W 0 m [] H2) ∧ Turns (Itt K a) (gName j) tYes te [j] σ (fun _ H' => Q (.bl true) H') (KAll Q) W := by
  refine ⟨hP, fun H2 t => turns_tup (xs := xs) (fun i _ H => Grow H1 H ∧ (l.take i).all gj = true) ⟨Grow.tab hP t, rfl⟩ (fun i _ H _ p => p.1.tup ha) (fun i x acc H hx p => ?_) (fun acc H p => ?_)⟩
  · obtain ⟨d, hd, en⟩ := (el.grow p.1).get hx
    refine ⟨wipe_set, ?_⟩
    unfold tYes
    refine iteT (hel x d H _ en (st _ _ p.1 hT) fun H' g' => ⟨gj d, rfl, fun e => ?_, fun e => ?_⟩)
    · have q := hQ H' (p.1.trans g')
      rw [all_not hd e] at q
      exact q
    · exact ⟨p.1.trans g', (all_take p.2 hd).trans e⟩
  · have q := hQ H p.1
    have e : l.all gj = true := by
      have z := p.2
      rw [← el.length, List.take_length] at z
      exact z
    rw [e] at q
    exact q
theorem tu2 {d : Da} (h : isTu 2 2 d = true) : ∃ x y, d = .tup [x, y] := by
  cases d with
  | tup l =>
    have h : (decide ((2 : Int) ≤ (l.length : Int)) && decide ((l.length : Int) ≤ 2)) = true := h
    rw [Bool.and_eq_true] at h
    have h1 := of_decide_eq_true h.1
    have h2 := of_decide_eq_true h.2
    match l, h1, h2 with
    | [], h1, _ => exact absurd h1 (by decide)
    | [_], h1, _ => exact absurd h1 (by rw [List.length_singleton]; decide)
    | [x, y], _, _ => exact ⟨x, y, rfl⟩
    | _ :: _ :: _ :: _, _, h2 =>
      rw [List.length_cons, List.length_cons, List.length_cons] at h2
      omega
  | _ => cases h
theorem encs2 {B : Addr → Prop} {H : Hp} {d1 d2 : Da} {xs : List V} (h : EncsB B H [d1, d2] xs) : ∃ x1 x2, xs = [x1, x2] ∧ EncB B H d1 x1 ∧ EncB B H d2 x2 := by
  cases h with
  | cons h1 t => cases t with
    | cons h2 t => cases t with
      | nil => exact ⟨_, _, rfl, h1, h2⟩
theorem enc_tup {B : Addr → Prop} {H : Hp} {l : List Da} {x : V} (h : EncB B H (.tup l) x) : ∃ a xs, x = .ref a ∧ H a = some (.tup xs) ∧ EncsB B H l xs := by
  cases h with
  | tup h e => exact ⟨_, _, rfl, h, e⟩
def partsAll (g : Da → Bool) : Da → Bool
  | .tup l => l.all g
  | _ => false
def isMaker : Da → Bool
  | .tup [n, .tup fs] => isHig n && (decide (fs.length ≤ 5) && fs.all isKin)
  | _ => false
def isEntry : Da → Bool
  | .tup [n, .tup ms] => isHig n && (decide (1 ≤ ms.length) && (decide (ms.length ≤ 8) && ms.all isMaker))
  | _ => false
def areKinds : Da → Bool
  | .tup es => decide (es.length ≤ 8) && es.all isEntry
  | _ => false
theorem len_le {n : Nat} {l : List Da} : isTu 0 (n : Int) (.tup l) = decide (l.length ≤ n) := by
  have e : isTu 0 (n : Int) (.tup l) = (decide ((0 : Int) ≤ (l.length : Int)) && decide ((l.length : Int) ≤ (n : Int))) := rfl
  rw [e, decide_eq_true (by omega : (0 : Int) ≤ (l.length : Int)), Bool.true_and]
  exact decide_eq_decide.mpr (by omega)
theorem maker_eq {d1 d2 : Da} (h : isHig d1 = true) : isMaker (.tup [d1, d2]) = (isTu 0 5 d2 && partsAll isKin d2) := by
  cases d2 with
  | tup fs =>
    have e : isMaker (.tup [d1, .tup fs]) = (isHig d1 && (decide (fs.length ≤ 5) && fs.all isKin)) := rfl
    rw [e, h, Bool.true_and, ← len_le (n := 5)]
    rfl
  | _ => rfl
theorem len_in {n : Nat} {l : List Da} : isTu 1 (n : Int) (.tup l) = (decide (1 ≤ l.length) && decide (l.length ≤ n)) := by
  have e : isTu 1 (n : Int) (.tup l) = (decide ((1 : Int) ≤ (l.length : Int)) && decide ((l.length : Int) ≤ (n : Int))) := rfl
  rw [e]
  congr 1
  · exact decide_eq_decide.mpr (by omega)
  · exact decide_eq_decide.mpr (by omega)
theorem entry_eq {d1 d2 : Da} (h : isHig d1 = true) : isEntry (.tup [d1, d2]) = (isTu 1 8 d2 && partsAll isMaker d2) := by
  cases d2 with
  | tup fs =>
    have e : isEntry (.tup [d1, .tup fs]) = (isHig d1 && (decide (1 ≤ fs.length) && (decide (fs.length ≤ 8) && fs.all isMaker))) := rfl
    rw [e, h, Bool.true_and, ← Bool.and_assoc, ← len_in (n := 8)]
    rfl
  | _ => rfl
theorem kinds_eq {d : Da} : areKinds d = (isTu 0 8 d && partsAll isEntry d) := by
  cases d with
  | tup es =>
    have e : areKinds (.tup es) = (decide (es.length ≤ 8) && es.all isEntry) := rfl
    rw [e, ← len_le (n := 8)]
    rfl
  | _ => rfl
structure Gk (mg : Str → Option Value) : Prop where
  kinds : ∃ t, mg "MOST_KINDS" = some (.int 8 t)
  makers : ∃ t, mg "MOST_MAKERS" = some (.int 8 t)
  fields : ∃ t, mg "MOST_FIELDS" = some (.int 5 t)
/-- the generator expression that stands as the n-th thing of a def's last return -/
theorem c26 : FnScope ["entry", "maker"] ["entry"] (defScope sEntry) := ⟨rfl, rfl, rfl, by decide +kernel, rfl, by decide +kernel, by decide +kernel⟩
theorem c25 : FnScope ["thing", "entry"] ["thing"] (defScope sKinds) := ⟨rfl, rfl, rfl, by decide +kernel, rfl, by decide +kernel, by decide +kernel⟩
theorem c27 : FnScope ["maker", "field"] ["maker"] (defScope sMaker) := ⟨rfl, rfl, rfl, by decide +kernel, rfl, by decide +kernel, by decide +kernel⟩
section
variable {P : Program} {w : World} {K : PySem.W.Frag} {mg : Str → Option Value} {base : Heap}
theorem ok_maker {f fT fH fK c PT : Addr} {fd fdT fdH fdK : FuncData} (F : FunC K "_is_maker" "_is_maker" sMaker f fd c) (N : Gn K mg) (G : Gk mg) (TB : TabB base mg c PT)
    (GT : FnOk P w K mg base CX0 1 fT fdT ["thing", "least", "most"] (spF3 isTu)) (DT : Df K mg "is_tuple" ["thing", "least", "most"] fT fdT) (GH : FnOk P w K mg base CX0 2 fH fdH ["thing"] (spF isHig)) (DH : Df K mg "is_high" ["thing"] fH fdH)
    (GK : FnOk P w K mg base CX0 3 fK fdK ["thing"] (spF isKin)) (DK : Df K mg "is_kind" ["thing"] fK fdK) : FnOk P w K mg base CX0 5 f fd ["maker"] (spG (fun H => TabG H PT) isMaker) := by
  obtain ⟨t, hF⟩ := G.fields
  refine F.ok (k := 4) c27 (fun vs H Q E h => ?_) (fun A outer s H vs Q E hr h => ?_)
  · obtain ⟨x, d, rfl, _⟩ := h
    rfl
  · obtain ⟨x, d, rfl, en, hT, k⟩ := h
    refine ⟨_, pss_cons (ps_if (PW.pt (pw_or (pt_not (pt_val (pe_call (GT.mono (by decide)) hr (by rfl) DT.g DT.k DT.b .nil pass0 (pa_cons (pv 0) (pa_cons pe_int (pa_cons pe_int pa_nil))))))
        (pw_or1 (pt_not (pt_val (pe_call (GH.mono (by decide)) hr (by rfl) DH.g DH.k DH.b .nil pass0 (pa_cons (pe_ix ix_tup (pv 0) pe_int (fun _ _ => rfl)) pa_nil))))))) (pss_one (ps_ret pe_bl)) pss_nil)
      (pss_one (ps_ret (pe_and (pe_call (GT.mono (by decide)) hr (by rfl) DT.g DT.k DT.b .nil pass0 (pa_cons (pe_ix ix_tup (pv 0) pe_int (fun _ _ => rfl)) (pa_cons pe_int (pa_cons (pe_glob (v := .int 5) (by rfl) hF ⟨t, rfl⟩) pa_nil))))
        (pe_one (pe_allG (k := 3) (own := [("field", 1)]) hr rfl (by rfl) N.na c27.nd TB rfl ⟨rfl, by decide +kernel, rfl⟩ (blkOk_by (by show blkC ["maker", "field"] (defScope sMaker) _ [("field", 1)] = true; decide +kernel)) (pi_tup (pe_ix ix_tup (pv 0) pe_int (fun _ _ => rfl)))
          (fun _ _ _ _ _ _ _ => pg_name c27.nd (i := 1) rfl (.inl rfl)) (fun _ _ _ _ _ _ _ => pts_nil)
          (fun _ _ _ _ _ _ hr' => pe_call GK hr' (by rfl) DK.g DK.k DK.b .nil pass0 (pa_cons (pv 1) pa_nil))))))), ?_⟩
    refine ⟨_, rfl, _, d, _, _, rfl, en, _, rfl, ?_⟩
    cases e2 : isTu 2 2 d with
    | false =>
      have em : isMaker d = false := by
        unfold isMaker
        split
        · cases e2
        · rfl
      have q := k H (Grow.refl H)
      rw [em] at q
      exact iteT q
    | true =>
      obtain ⟨d1, d2, rfl⟩ := tu2 e2
      obtain ⟨a, xs, rfl, ha, el⟩ := enc_tup en
      obtain ⟨x1, x2, rfl, h1, h2⟩ := encs2 el
      have g0 : atI [x1, x2] 0 = some x1 := at_of (j := 0) rfl rfl
      have g1 : atI [x1, x2] 1 = some x2 := at_of (j := 1) rfl rfl
      refine iteF ⟨_, rfl, a, _, _, _, rfl, rfl, SqT.of ha, g0, _, d1, rfl, h1, _, rfl, ?_⟩
      cases eh : isHig d1 with
      | false =>
        have em : isMaker (.tup [d1, d2]) = false := by
          unfold isMaker
          split
          · rename_i z
            cases z
            rw [eh, Bool.false_and]
          · rfl
        have q := k H (Grow.refl H)
        rw [em] at q
        exact iteT q
      | true =>
        refine iteF ⟨_, rfl, a, _, _, _, rfl, rfl, SqT.of ha, g1, _, d2, _, _, rfl, h2, _, rfl, ?_⟩
        have em : isMaker (.tup [d1, d2]) = (isTu 0 5 d2 && partsAll isKin d2) := maker_eq eh
        cases e5 : isTu 0 5 d2 with
        | false =>
          have q := k H (Grow.refl H)
          rw [em, e5, Bool.false_and] at q
          exact iteF q
        | true =>
          cases h2 with
          | @tup b fs l hb ef =>
            refine iteT ⟨_, rfl, a, _, _, _, rfl, rfl, SqT.of ha, g1, b, rfl, ⟨fs, SqT.of hb⟩, rd_all (T := fun _ => True) (gj := isKin) hb ef (fun _ _ _ h => h) trivial hT (fun x d H R en _ kk => ⟨_, rfl, _, d, rfl, en, kk H (Grow.refl H)⟩) fun H' g => ?_⟩
            have q := k H' g
            rw [em, e5, Bool.true_and] at q
            exact q
          | _ => cases e5
theorem ok_entry {f fT fH fM c PT : Addr} {fd fdT fdH fdM : FuncData} {T TM : Hp → Prop} (F : FunC K "_is_entry" "_is_entry" sEntry f fd c) (N : Gn K mg) (G : Gk mg) (TB : TabB base mg c PT) (st : Stays T) (hTP : ∀ H, T H → TabG H PT) (hTM : ∀ H, T H → TM H)
    (GT : FnOk P w K mg base CX0 1 fT fdT ["thing", "least", "most"] (spF3 isTu)) (DT : Df K mg "is_tuple" ["thing", "least", "most"] fT fdT) (GH : FnOk P w K mg base CX0 2 fH fdH ["thing"] (spF isHig)) (DH : Df K mg "is_high" ["thing"] fH fdH)
    (GM : FnOk P w K mg base CX0 5 fM fdM ["maker"] (spG TM isMaker)) (DM : Df K mg "_is_maker" ["maker"] fM fdM) : FnOk P w K mg base CX0 7 f fd ["entry"] (spG T isEntry) := by
  obtain ⟨t, hF⟩ := G.makers
  refine F.ok (k := 6) c26 (fun vs H Q E h => ?_) (fun A outer s H vs Q E hr h => ?_)
  · obtain ⟨x, d, rfl, _⟩ := h
    rfl
  · obtain ⟨x, d, rfl, en, hT, k⟩ := h
    refine ⟨_, pss_cons (ps_if (PW.pt (pw_or (pt_not (pt_val (pe_call (GT.mono (by decide)) hr (by rfl) DT.g DT.k DT.b .nil pass0 (pa_cons (pv 0) (pa_cons pe_int (pa_cons pe_int pa_nil))))))
        (pw_or1 (pt_not (pt_val (pe_call (GH.mono (by decide)) hr (by rfl) DH.g DH.k DH.b .nil pass0 (pa_cons (pe_ix ix_tup (pv 0) pe_int (fun _ _ => rfl)) pa_nil))))))) (pss_one (ps_ret pe_bl)) pss_nil)
      (pss_one (ps_ret (pe_and (pe_call (GT.mono (by decide)) hr (by rfl) DT.g DT.k DT.b .nil pass0 (pa_cons (pe_ix ix_tup (pv 0) pe_int (fun _ _ => rfl)) (pa_cons pe_int (pa_cons (pe_glob (v := .int 8) (by rfl) hF ⟨t, rfl⟩) pa_nil))))
        (pe_one (pe_allG (k := 5) (own := [("maker", 1)]) hr rfl (by rfl) N.na c26.nd TB rfl ⟨rfl, by decide +kernel, rfl⟩ (blkOk_by (by show blkC ["entry", "maker"] (defScope sEntry) _ [("maker", 1)] = true; decide +kernel)) (pi_tup (pe_ix ix_tup (pv 0) pe_int (fun _ _ => rfl)))
          (fun _ _ _ _ _ _ _ => pg_name c26.nd (i := 1) rfl (.inl rfl)) (fun _ _ _ _ _ _ _ => pts_nil)
          (fun _ _ _ _ _ _ hr' => pe_call GM hr' (by rfl) DM.g DM.k DM.b .nil pass0 (pa_cons (pv 1) pa_nil))))))), ?_⟩
    refine ⟨_, rfl, _, d, _, _, rfl, en, _, rfl, ?_⟩
    cases e2 : isTu 2 2 d with
    | false =>
      have em : isEntry d = false := by
        unfold isEntry
        split
        · cases e2
        · rfl
      have q := k H (Grow.refl H)
      rw [em] at q
      exact iteT q
    | true =>
      obtain ⟨d1, d2, rfl⟩ := tu2 e2
      obtain ⟨a, xs, rfl, ha, el⟩ := enc_tup en
      obtain ⟨x1, x2, rfl, h1, h2⟩ := encs2 el
      have g0 : atI [x1, x2] 0 = some x1 := at_of (j := 0) rfl rfl
      have g1 : atI [x1, x2] 1 = some x2 := at_of (j := 1) rfl rfl
      refine iteF ⟨_, rfl, a, _, _, _, rfl, rfl, SqT.of ha, g0, _, d1, rfl, h1, _, rfl, ?_⟩
      cases eh : isHig d1 with
      | false =>
        have em : isEntry (.tup [d1, d2]) = false := by
          unfold isEntry
          split
          · rename_i z
            cases z
            rw [eh, Bool.false_and]
          · rfl
        have q := k H (Grow.refl H)
        rw [em] at q
        exact iteT q
      | true =>
        refine iteF ⟨_, rfl, a, _, _, _, rfl, rfl, SqT.of ha, g1, _, d2, _, _, rfl, h2, _, rfl, ?_⟩
        have em := entry_eq (d2 := d2) eh
        cases e5 : isTu 1 8 d2 with
        | false =>
          have q := k H (Grow.refl H)
          rw [em, e5, Bool.false_and] at q
          exact iteF q
        | true =>
          cases h2 with
          | @tup b fs l hb ef =>
            refine iteT ⟨_, rfl, a, _, _, _, rfl, rfl, SqT.of ha, g1, b, rfl, ⟨fs, SqT.of hb⟩, rd_all (T := T) (gj := isMaker) hb ef st hT (hTP H hT) (fun x d H R en hT' kk => ⟨_, rfl, _, d, rfl, en, hTM H hT', kk⟩) fun H' g => ?_⟩
            have q := k H' g
            rw [em, e5, Bool.true_and] at q
            exact q
          | _ => cases e5
theorem ok_kinds {f fT fE c PT : Addr} {fd fdT fdE : FuncData} {T TE' : Hp → Prop} (F : FunC K "are_kinds" "are_kinds" sKinds f fd c) (N : Gn K mg) (G : Gk mg) (TB : TabB base mg c PT) (st : Stays T) (hTP : ∀ H, T H → TabG H PT) (hTE : ∀ H, T H → TE' H)
    (GT : FnOk P w K mg base CX0 1 fT fdT ["thing", "least", "most"] (spF3 isTu)) (DT : Df K mg "is_tuple" ["thing", "least", "most"] fT fdT)
    (GE : FnOk P w K mg base CX0 7 fE fdE ["entry"] (spG TE' isEntry)) (DE : Df K mg "_is_entry" ["entry"] fE fdE) : FnOk P w K mg base CX0 9 f fd ["thing"] (spG T areKinds) := by
  obtain ⟨t, hF⟩ := G.kinds
  refine F.ok (k := 8) c25 (fun vs H Q E h => ?_) (fun A outer s H vs Q E hr h => ?_)
  · obtain ⟨x, d, rfl, _⟩ := h
    rfl
  · obtain ⟨x, d, rfl, en, hT, k⟩ := h
    refine ⟨_, pss_one (ps_ret (pe_and (pe_call (GT.mono (by decide)) hr (by rfl) DT.g DT.k DT.b .nil pass0 (pa_cons (pv 0) (pa_cons pe_int (pa_cons (pe_glob (v := .int 8) (by rfl) hF ⟨t, rfl⟩) pa_nil))))
        (pe_one (pe_allG (k := 7) (own := [("entry", 1)]) hr rfl (by rfl) N.na c25.nd TB rfl ⟨rfl, by decide +kernel, rfl⟩ (blkOk_by (by show blkC ["thing", "entry"] (defScope sKinds) _ [("entry", 1)] = true; decide +kernel)) (pi_tup (pv 0))
          (fun _ _ _ _ _ _ _ => pg_name c25.nd (i := 1) rfl (.inl rfl)) (fun _ _ _ _ _ _ _ => pts_nil)
          (fun _ _ _ _ _ _ hr' => pe_call GE hr' (by rfl) DE.g DE.k DE.b .nil pass0 (pa_cons (pv 1) pa_nil)))))), ?_⟩
    refine ⟨_, rfl, _, d, _, _, rfl, en, _, rfl, ?_⟩
    have em := kinds_eq (d := d)
    cases e5 : isTu 0 8 d with
    | false =>
      have q := k H (Grow.refl H)
      rw [em, e5, Bool.false_and] at q
      exact iteF q
    | true =>
      cases en with
      | @tup b fs l hb ef =>
        refine iteT ⟨_, rfl, b, rfl, ⟨fs, SqT.of hb⟩, rd_all (T := T) (gj := isEntry) hb ef st hT (hTP H hT) (fun x d H R en hT' kk => ⟨_, rfl, _, d, rfl, en, hTE H hT', kk⟩) fun H' g => ?_⟩
        have q := k H' g
        rw [em, e5, Bool.true_and] at q
        exact q
      | _ => cases e5
end
end J1
set_option Elab.async false
set_option linter.all false
set_option maxRecDepth 100000
set_option maxHeartbeats 4000000
namespace J1
open PySem PySem.Spec PyProof.Rows L2 GxR GA
abbrev sParam : Stmt := top 40
abbrev sBranch : Stmt := top 43
abbrev sTerm : Stmt := top 44
abbrev sSign : Stmt := top 45
theorem c40 : FnScope ["thing"] ["thing"] (defScope sParam) := ⟨rfl, rfl, rfl, by decide +kernel, rfl, by decide +kernel, by decide +kernel⟩
theorem c43 : FnScope ["thing", "name"] ["thing"] (defScope sBranch) := ⟨rfl, rfl, rfl, by decide +kernel, rfl, by decide +kernel, by decide +kernel⟩
theorem c44 : FnScope ["term", "word", "terms"] ["term"] (defScope sTerm) := ⟨rfl, rfl, rfl, by decide +kernel, rfl, by decide +kernel, by decide +kernel⟩
theorem c45 : FnScope ["thing"] ["thing"] (defScope sSign) := ⟨rfl, rfl, rfl, by decide +kernel, rfl, by decide +kernel, by decide +kernel⟩
def isParam : Da → Bool
  | .tup [n, k] => isLow n && isKin k
  | _ => false
def isBranch : Da → Bool
  | .tup [m, .tup ns, _] => isHig m && (decide (ns.length ≤ 5) && ns.all isLow)
  | _ => false
def isSign : Da → Bool
  | .str s => inV (.str s) [.str "+", .str "-"]
  | _ => false
def isNum : Da → Bool := isBet (-1000000000000) 1000000000000
def isFac : Da → Bool := isBet (-1000000) 1000000
theorem tu3 {d : Da} (h : isTu 3 3 d = true) : ∃ x y z, d = .tup [x, y, z] := by
  cases d with
  | tup l =>
    have h : (decide ((3 : Int) ≤ (l.length : Int)) && decide ((l.length : Int) ≤ 3)) = true := h
    rw [Bool.and_eq_true] at h
    have h1 := of_decide_eq_true h.1
    have h2 := of_decide_eq_true h.2
    have e : l.length = 3 := by omega
    match l, e with
    | [x, y, z], _ => exact ⟨x, y, z, rfl⟩
  | _ => cases h
theorem encs3 {B : Addr → Prop} {H : Hp} {d1 d2 d3 : Da} {xs : List V} (h : EncsB B H [d1, d2, d3] xs) : ∃ x1 x2 x3, xs = [x1, x2, x3] ∧ EncB B H d1 x1 ∧ EncB B H d2 x2 ∧ EncB B H d3 x3 := by
  cases h with
  | cons h1 t =>
    obtain ⟨x2, x3, rfl, h2, h3⟩ := encs2 t
    exact ⟨_, x2, x3, rfl, h1, h2, h3⟩
theorem branch_eq {d1 d2 d3 : Da} (h : isHig d1 = true) : isBranch (.tup [d1, d2, d3]) = (isTu 0 5 d2 && partsAll isLow d2) := by
  cases d2 with
  | tup fs =>
    have e : isBranch (.tup [d1, .tup fs, d3]) = (isHig d1 && (decide (fs.length ≤ 5) && fs.all isLow)) := rfl
    rw [e, h, Bool.true_and, ← len_le (n := 5)]
    rfl
  | _ => rfl
section
variable {P : Program} {w : World} {K : PySem.W.Frag} {mg : Str → Option Value} {base : Heap}
theorem ok_param {f fT fL fK : Addr} {fd fdT fdL fdK : FuncData} (F : Fun K "_is_param" "_is_param" sParam f fd)
    (GT : FnOk P w K mg base CX0 1 fT fdT ["thing", "least", "most"] (spF3 isTu)) (DT : Df K mg "is_tuple" ["thing", "least", "most"] fT fdT) (GL : FnOk P w K mg base CX0 2 fL fdL ["thing"] (spF isLow)) (DL : Df K mg "is_low" ["thing"] fL fdL)
    (GK : FnOk P w K mg base CX0 3 fK fdK ["thing"] (spF isKin)) (DK : Df K mg "is_kind" ["thing"] fK fdK) : FnOk P w K mg base CX0 4 f fd ["thing"] (spF isParam) := by
  refine F.ok (k := 3) c40 (fun vs H Q E h => ?_) (fun cdv A outer s H vs Q E hr h => ?_)
  · obtain ⟨x, d, rfl, _⟩ := h
    rfl
  · obtain ⟨x, d, rfl, en, k⟩ := h
    refine ⟨_, pss_one (ps_ret (pe_and (pe_call (GT.mono (by decide)) hr (by rfl) DT.g DT.k DT.b .nil pass0 (pa_cons (pv 0) (pa_cons pe_int (pa_cons pe_int pa_nil))))
      (pe_and (pe_call (GL.mono (by decide)) hr (by rfl) DL.g DL.k DL.b .nil pass0 (pa_cons (pe_ix ix_tup (pv 0) pe_int (fun _ _ => rfl)) pa_nil))
      (pe_one (pe_call GK hr (by rfl) DK.g DK.k DK.b .nil pass0 (pa_cons (pe_ix ix_tup (pv 0) pe_int (fun _ _ => rfl)) pa_nil)))))), ?_⟩
    refine ⟨_, rfl, _, d, _, _, rfl, en, _, rfl, ?_⟩
    cases e2 : isTu 2 2 d with
    | false =>
      have em : isParam d = false := by
        unfold isParam
        split
        · cases e2
        · rfl
      rw [em] at k
      exact iteF k
    | true =>
      obtain ⟨d1, d2, rfl⟩ := tu2 e2
      obtain ⟨a, xs, rfl, ha, el⟩ := enc_tup en
      obtain ⟨x1, x2, rfl, h1, h2⟩ := encs2 el
      have g0 : atI [x1, x2] 0 = some x1 := at_of (j := 0) rfl rfl
      have g1 : atI [x1, x2] 1 = some x2 := at_of (j := 1) rfl rfl
      have em : isParam (.tup [d1, d2]) = (isLow d1 && isKin d2) := rfl
      rw [em] at k
      refine iteT ⟨_, rfl, a, _, _, _, rfl, rfl, SqT.of ha, g0, _, d1, rfl, h1, _, rfl, ite2 (fun e => ?_) (fun e => ?_)⟩
      · rw [e, Bool.true_and] at k
        exact ⟨_, rfl, a, _, _, _, rfl, rfl, SqT.of ha, g1, _, d2, rfl, h2, k⟩
      · rw [Bool.eq_false_iff.mpr e, Bool.false_and] at k
        exact k
theorem ok_sign {f : Addr} {fd : FuncData} (F : Fun K "_is_sign" "_is_sign" sSign f fd) (N : Gn K mg) : FnOk P w K mg base CX0 1 f fd ["thing"] (spG (fun _ => True) isSign) := by
  refine F.ok c45 (fun vs H Q E h => ?_) (fun cdv A outer s H vs Q E hr h => ?_)
  · obtain ⟨x, d, rfl, _⟩ := h
    rfl
  · obtain ⟨x, d, rfl, en, _, k⟩ := h
    obtain ⟨_, _, kS, _⟩ := kitD d
    refine ⟨_, pss_one (ps_ret (pe_and (pe_callB call_isi (by rfl) N.nI boot_isinstance (pa_cons (pv 0) (pa_cons (pe_bltn (v := .ty "str") rfl N.ns (by decide +kernel) rfl) pa_nil)))
      (pe_one (pe_cmpR op_in_seq (pv 0) (pe_tup (pa_cons pe_str (pa_cons pe_str pa_nil))) (by rfl))))), ?_⟩
    refine ⟨_, rfl, _, _, _, _, _, rfl, .ty "str", en.ty, kit_ty kS, _, rfl, ?_⟩
    cases en with
    | str s hz => exact iteT ⟨_, rfl, (by show 2 ≤ sizeLine; decide), fun p hp => ⟨p, _, rfl, .inr (SqT.of upd_same), rfl, rfl, k _ (Grow.new hp)⟩⟩
    | non => exact iteF (k H (Grow.refl H))
    | bl b => exact iteF (k H (Grow.refl H))
    | int i => exact iteF (k H (Grow.refl H))
    | tup h e => exact iteF (k H (Grow.refl H))
    | lst h e => exact iteF (k H (Grow.refl H))
theorem ok_branch {f fT fH fL c PT : Addr} {fd fdT fdH fdL : FuncData} (F : FunC K "_is_branch" "_is_branch" sBranch f fd c) (N : Gn K mg) (G : Gk mg) (TB : TabB base mg c PT)
    (GT : FnOk P w K mg base CX0 1 fT fdT ["thing", "least", "most"] (spF3 isTu)) (DT : Df K mg "is_tuple" ["thing", "least", "most"] fT fdT) (GH : FnOk P w K mg base CX0 2 fH fdH ["thing"] (spF isHig)) (DH : Df K mg "is_high" ["thing"] fH fdH)
    (GL : FnOk P w K mg base CX0 2 fL fdL ["thing"] (spF isLow)) (DL : Df K mg "is_low" ["thing"] fL fdL) : FnOk P w K mg base CX0 4 f fd ["thing"] (spG (fun H => TabG H PT) isBranch) := by
  obtain ⟨t, hF⟩ := G.fields
  refine F.ok (k := 3) c43 (fun vs H Q E h => ?_) (fun A outer s H vs Q E hr h => ?_)
  · obtain ⟨x, d, rfl, _⟩ := h
    rfl
  · obtain ⟨x, d, rfl, en, hT, k⟩ := h
    refine ⟨_, pss_cons (ps_if (PW.pt (pw_or (pt_not (pt_val (pe_call (GT.mono (by decide)) hr (by rfl) DT.g DT.k DT.b .nil pass0 (pa_cons (pv 0) (pa_cons pe_int (pa_cons pe_int pa_nil))))))
        (pw_or1 (pt_not (pt_val (pe_call (GH.mono (by decide)) hr (by rfl) DH.g DH.k DH.b .nil pass0 (pa_cons (pe_ix ix_tup (pv 0) pe_int (fun _ _ => rfl)) pa_nil))))))) (pss_one (ps_ret pe_bl)) pss_nil)
      (pss_one (ps_ret (pe_and (pe_call (GT.mono (by decide)) hr (by rfl) DT.g DT.k DT.b .nil pass0 (pa_cons (pe_ix ix_tup (pv 0) pe_int (fun _ _ => rfl)) (pa_cons pe_int (pa_cons (pe_glob (v := .int 5) (by rfl) hF ⟨t, rfl⟩) pa_nil))))
        (pe_one (pe_allG (k := 2) (own := [("name", 1)]) hr rfl (by rfl) N.na c43.nd TB rfl ⟨rfl, by decide +kernel, rfl⟩ (blkOk_by (by show blkC ["thing", "name"] (defScope sBranch) _ [("name", 1)] = true; decide +kernel)) (pi_tup (pe_ix ix_tup (pv 0) pe_int (fun _ _ => rfl)))
          (fun _ _ _ _ _ _ _ => pg_name c43.nd (i := 1) rfl (.inl rfl)) (fun _ _ _ _ _ _ _ => pts_nil)
          (fun _ _ _ _ _ _ hr' => pe_call GL hr' (by rfl) DL.g DL.k DL.b .nil pass0 (pa_cons (pv 1) pa_nil))))))), ?_⟩
    refine ⟨_, rfl, _, d, _, _, rfl, en, _, rfl, ?_⟩
    cases e2 : isTu 3 3 d with
    | false =>
      have em : isBranch d = false := by
        unfold isBranch
        split
        · cases e2
        · rfl
      have q := k H (Grow.refl H)
      rw [em] at q
      exact iteT q
    | true =>
      obtain ⟨d1, d2, d3, rfl⟩ := tu3 e2
      obtain ⟨a, xs, rfl, ha, el⟩ := enc_tup en
      obtain ⟨x1, x2, x3, rfl, h1, h2, h3⟩ := encs3 el
      have g0 : atI [x1, x2, x3] 0 = some x1 := at_of (j := 0) rfl rfl
      have g1 : atI [x1, x2, x3] 1 = some x2 := at_of (j := 1) rfl rfl
      refine iteF ⟨_, rfl, a, _, _, _, rfl, rfl, SqT.of ha, g0, _, d1, rfl, h1, _, rfl, ?_⟩
      cases eh : isHig d1 with
      | false =>
        have em : isBranch (.tup [d1, d2, d3]) = false := by
          unfold isBranch
          split
          · rename_i z
            cases z
            rw [eh, Bool.false_and]
          · rfl
        have q := k H (Grow.refl H)
        rw [em] at q
        exact iteT q
      | true =>
        refine iteF ⟨_, rfl, a, _, _, _, rfl, rfl, SqT.of ha, g1, _, d2, _, _, rfl, h2, _, rfl, ?_⟩
        have em := branch_eq (d2 := d2) (d3 := d3) eh
        cases e5 : isTu 0 5 d2 with
        | false =>
          have q := k H (Grow.refl H)
          rw [em, e5, Bool.false_and] at q
          exact iteF q
        | true =>
          cases h2 with
          | @tup b fs l hb ef =>
            refine iteT ⟨_, rfl, a, _, _, _, rfl, rfl, SqT.of ha, g1, b, rfl, ⟨fs, SqT.of hb⟩, rd_all (T := fun _ => True) (gj := isLow) hb ef (fun _ _ _ h => h) trivial hT (fun x d H R en _ kk => ⟨_, rfl, _, d, rfl, en, kk H (Grow.refl H)⟩) fun H' g => ?_⟩
            have q := k H' g
            rw [em, e5, Bool.true_and] at q
            exact q
          | _ => cases e5
end
end J1
set_option Elab.async false
set_option linter.all false
set_option maxRecDepth 100000
set_option maxHeartbeats 4000000
namespace J1
open PySem PySem.Spec PyProof.Rows L2 GxR GA
/-! ### the parts of an expression -/
def parts : Da → List Da
  | .tup l => l
  | _ => []
def g1 (l : List Da) : Da := l.getD 1 .non
def g2 (l : List Da) : Da := l.getD 2 .non
def lenIs (l : List Da) (n : Nat) : Bool := decide (l.length = n)
def k1 (w : Str) (l : List Da) : Bool := decide (w = "num") && (lenIs l 2 && isNum (g1 l))
def k2 (w : Str) (l : List Da) : Bool := decide (w = "name") && (lenIs l 2 && isLow (g1 l))
def k3 (w : Str) (l : List Da) : Bool := decide (w = "op") && (lenIs l 4 && isSign (g1 l))
def k4 (w : Str) (l : List Da) : Bool := decide (w = "times") && (lenIs l 3 && isFac (g1 l))
def k5 (w : Str) (l : List Da) : Bool := decide (w = "make") && (lenIs l 3 && (isHig (g1 l) && isTu 0 5 (g2 l)))
def k6 (w : Str) (l : List Da) : Bool := decide (w = "call") && (lenIs l 3 && (isLow (g1 l) && isTu 0 6 (g2 l)))
def termL (w : Str) (l : List Da) : Option (List Da) :=
  if k1 w l = true then some [] else if k2 w l = true then some [] else if k3 w l = true then some (l.drop 2) else if k4 w l = true then some (l.drop 2) else if k5 w l = true then some (parts (g2 l)) else if k6 w l = true then some (parts (g2 l)) else none
def termP (d : Da) : Option (List Da) := termL (firstW d) (parts d)
theorem wtup {d : Da} {w W : Str} (hw : firstW d = w) (e : decide (w = W) = true) (hW : W ≠ "") : ∃ l, d = .tup l := by
  cases d with
  | tup l => exact ⟨l, rfl⟩
  | _ => exact absurd ((of_decide_eq_true e).symm.trans hw.symm) hW
theorem rd_and {t u : TT} {σ : L2.St} {H : Hp} {R : Bool → Hp → Prop} {c1 c2 : Bool} (h1 : ∀ R' : Bool → Hp → Prop, R' c1 H → t σ H R') (h2 : c1 = true → (∀ H', Grow H H' → R c2 H') → u σ H R) (k : ∀ H', Grow H H' → R (c1 && c2) H') : tAnd t u σ H R := by
  refine h1 _ ?_
  cases c1 with
  | true => exact iteT (h2 rfl k)
  | false => exact iteF (k H (Grow.refl H))
theorem eqS {s W : Str} : decide (V.str s = V.str W) = decide (s = W) := decide_eq_decide.mpr ⟨fun z => V.str.inj z, fun z => by rw [z]⟩
theorem eqL {l : List Da} {xs : List V} {H : Hp} {n : Nat} (e : EncsB B H l xs) : decide (V.int (xs.length : Nat) = V.int (n : Nat)) = lenIs l n := by
  unfold lenIs
  refine decide_eq_decide.mpr ⟨fun z => ?_, fun z => ?_⟩
  · have := V.int.inj z
    rw [e.length]
    omega
  · rw [e.length] at z
    rw [z]
/-- word == W -/
theorem rd_w {σ : L2.St} {H : Hp} {w W : Str} {R' : Bool → Hp → Prop} (hσ : σ[1]? = some (some (.str w))) (h : R' (decide (w = W)) H) : tTest (tOp rEq (tVar 1) fun _ H Q => Q (.str W) H) σ H R' := by
  refine ⟨_, hσ, rfl, _, rfl, ?_⟩
  rw [eqS]
  exact h
theorem get_at {B : Addr → Prop} {H : Hp} {l : List Da} {xs : List V} {j : Nat} (e : EncsB B H l xs) (h : j < l.length) : ∃ y, atI xs (j : Int) = some y ∧ xs[j]? = some y ∧ EncB B H (l.getD j .non) y := by
  obtain ⟨x, hx, en⟩ := e.got (i := j) (d := l[j]) (List.getElem?_eq_getElem h)
  refine ⟨x, at_of rfl hx, hx, ?_⟩
  rw [List.getD_eq_getElem?_getD, List.getElem?_eq_getElem h]
  exact en
theorem encs_drop {B : Addr → Prop} {H : Hp} : ∀ {l : List Da} {xs : List V} (n : Nat), EncsB B H l xs → EncsB B H (l.drop n) (xs.drop n)
  | _, _, 0, e => e
  | _, _, n + 1, .nil => .nil
  | _, _, n + 1, .cons _ t => encs_drop n t
theorem rd_t1 {B : Addr → Prop} {tl tj : TT} {n : Nat} {σ : L2.St} {H : Hp} {d : Da} {x : V} {R : Bool → Hp → Prop} {W : Str} {gj : Da → Bool} (hσ : σ[1]? = some (some (.str (firstW d)))) (en : EncB B H d x) (hW : W ≠ "") (hn : 1 < n)
    (hl : ∀ a xs l, x = .ref a → H a = some (.tup xs) → EncsB B H l xs → ∀ R' : Bool → Hp → Prop, R' (lenIs l n) H → tl σ H R')
    (hj : ∀ a xs l y, x = .ref a → H a = some (.tup xs) → atI xs 1 = some y → EncB B H (g1 l) y → (∀ H', Grow H H' → R (gj (g1 l)) H') → tj σ H R)
    (k : ∀ H', Grow H H' → R (decide (firstW d = W) && (lenIs (parts d) n && gj (g1 (parts d)))) H') : tAnd (tTest (tOp rEq (tVar 1) fun _ H Q => Q (.str W) H)) (tAnd tl tj) σ H R := by
  refine rd_and (fun R' h => rd_w hσ h) (fun e kk => ?_) k
  obtain ⟨l, rfl⟩ := wtup rfl e hW
  obtain ⟨a, xs, rfl, ha, el⟩ := enc_tup en
  refine rd_and (fun R' h => hl a xs l rfl ha el R' h) (fun e kk => ?_) kk
  have ln : l.length = n := of_decide_eq_true e
  obtain ⟨y, gy, _, ey⟩ := get_at (j := 1) el (by omega)
  exact hj a xs l y rfl ha gy ey kk
theorem rd_t2 {B : Addr → Prop} {tl tj tj2 : TT} {n : Nat} {σ : L2.St} {H : Hp} {d : Da} {x : V} {R : Bool → Hp → Prop} {W : Str} {gj gj2 : Da → Bool} (hσ : σ[1]? = some (some (.str (firstW d)))) (en : EncB B H d x) (hW : W ≠ "") (hn : 2 < n)
    (hl : ∀ a xs l, x = .ref a → H a = some (.tup xs) → EncsB B H l xs → ∀ R' : Bool → Hp → Prop, R' (lenIs l n) H → tl σ H R')
    (hj : ∀ a xs l y, x = .ref a → H a = some (.tup xs) → atI xs 1 = some y → EncB B H (g1 l) y → ∀ R' : Bool → Hp → Prop, R' (gj (g1 l)) H → tj σ H R')
    (hj2 : ∀ a xs l y, x = .ref a → H a = some (.tup xs) → atI xs 2 = some y → EncB B H (g2 l) y → R (gj2 (g2 l)) H → tj2 σ H R)
    (k : ∀ H', Grow H H' → R (decide (firstW d = W) && (lenIs (parts d) n && (gj (g1 (parts d)) && gj2 (g2 (parts d))))) H') : tAnd (tTest (tOp rEq (tVar 1) fun _ H Q => Q (.str W) H)) (tAnd tl (tAnd tj tj2)) σ H R := by
  refine rd_and (fun R' h => rd_w hσ h) (fun e kk => ?_) k
  obtain ⟨l, rfl⟩ := wtup rfl e hW
  obtain ⟨a, xs, rfl, ha, el⟩ := enc_tup en
  refine rd_and (fun R' h => hl a xs l rfl ha el R' h) (fun e kk => ?_) kk
  have ln : l.length = n := of_decide_eq_true e
  obtain ⟨y, gy, _, ey⟩ := get_at (j := 1) el (by omega)
  obtain ⟨z, gz, _, ez⟩ := get_at (j := 2) el (by omega)
  refine rd_and (fun R' h => hj a xs l y rfl ha gy ey R' h) (fun _ kk => ?_) kk
  exact hj2 a xs l z rfl ha gz ez (kk H (Grow.refl H))
theorem cut2 {xs : List V} (h : 2 < xs.length) : ¬ (HT.sIx xs.length 0 (some 2) = 0 ∧ HT.sIx xs.length xs.length none = xs.length) ∧ cutV xs (some 2) none = xs.drop 2 := by
  have e : HT.sIx xs.length 0 (some 2) = 2 := (HT.sIx_nat xs.length 0 2).trans (by omega)
  refine ⟨fun z => ?_, ?_⟩
  · rw [e] at z
    exact absurd z.1 (by decide)
  · unfold cutV
    rw [e, HT.sIx_none]
    exact List.take_of_length_le (by rw [List.length_drop]; omega)
def spTerm : Sp := fun vs H Q _ => ∃ B x d, vs = [x] ∧ EncB B H d x ∧ (termP d = none → ∀ H', Grow H H' → Q .non H') ∧ ∀ l, termP d = some l → ∀ H' p q e xs, Grow H H' → H' p = some (.tup [.int 0, .ref q, .ref e]) → H' q = some (.tup xs) → EncsB B H' l xs → H' e = some (.tup []) → Q (.ref p) H'
section
variable {P : Program} {w : World} {K : PySem.W.Frag} {mg : Str → Option Value} {base : Heap}
theorem ok_term {f fF fN fL fS fC fH fT : Addr} {fd fdF fdN fdL fdS fdC fdH fdT : FuncData} (F : Fun K "_term_parts" "_term_parts" sTerm f fd) (N : Gn K mg) (G : Gk mg) (hMP : ∃ t, mg "MOST_PARAMS" = some (.int 6 t))
    (GF : FnOk P w K mg base CX0 1 fF fdF ["thing"] spW) (DF : Df K mg "first_word" ["thing"] fF fdF) (GN : FnOk P w K mg base CX0 3 fN fdN ["thing"] (spF isNum)) (DN : Df K mg "is_number" ["thing"] fN fdN) (GL : FnOk P w K mg base CX0 2 fL fdL ["thing"] (spF isLow)) (DL : Df K mg "is_low" ["thing"] fL fdL)
    (GS : FnOk P w K mg base CX0 1 fS fdS ["thing"] (spG (fun _ => True) isSign)) (DS : Df K mg "_is_sign" ["thing"] fS fdS) (GC : FnOk P w K mg base CX0 3 fC fdC ["thing"] (spF isFac)) (DC : Df K mg "is_factor" ["thing"] fC fdC)
    (GH : FnOk P w K mg base CX0 2 fH fdH ["thing"] (spF isHig)) (DH : Df K mg "is_high" ["thing"] fH fdH) (GT : FnOk P w K mg base CX0 1 fT fdT ["thing", "least", "most"] (spF3 isTu)) (DT : Df K mg "is_tuple" ["thing", "least", "most"] fT fdT) :
    FnOk P w K mg base CX0 4 f fd ["term"] spTerm := by
  obtain ⟨tf, hF⟩ := G.fields
  obtain ⟨tp, hP⟩ := hMP
  refine F.ok (k := 3) c44 (fun vs H Q E h => ?_) (fun cdv A outer s H vs Q E hr h => ?_)
  · obtain ⟨B, x, d, rfl, _⟩ := h
    rfl
  · obtain ⟨B, x, d, rfl, en, k0, ks⟩ := h
    refine ⟨_, (pss_cons (ps_set (i := 1) c44.nd rfl (Or.inl rfl) (pe_call (GF.mono (by decide)) hr (by rfl) DF.g DF.k DF.b .nil pass0 (pa_cons (pv 0) pa_nil))) (pss_cons (ps_set (i := 2) c44.nd rfl (Or.inl rfl) pe_non) (C8.pss_cut (ps_if (PW.pt (pw_and (pt_cmpR op_eq (pv 1) pe_str (nomark _)) (pw_and (pt_cmpR op_eq (pe_callB call_len_seq (by rfl) N.nl PySem.boot_len (pa_cons (pv 0) pa_nil)) pe_int (nomark _)) (pw_and1 (pt_val (pe_call GN hr (by rfl) DN.g DN.k DN.b .nil pass0 (pa_cons (pe_ix ix_tup (pv 0) pe_int (fun _ _ => rfl)) pa_nil))))))) (pss_one (ps_set (i := 2) c44.nd rfl (Or.inl rfl) (pe_tup pa_nil))) (pss_one (ps_if (PW.pt (pw_and (pt_cmpR op_eq (pv 1) pe_str (nomark _)) (pw_and (pt_cmpR op_eq (pe_callB call_len_seq (by rfl) N.nl PySem.boot_len (pa_cons (pv 0) pa_nil)) pe_int (nomark _)) (pw_and1 (pt_val (pe_call (GL.mono (by decide)) hr (by rfl) DL.g DL.k DL.b .nil pass0 (pa_cons (pe_ix ix_tup (pv 0) pe_int (fun _ _ => rfl)) pa_nil))))))) (pss_one (ps_set (i := 2) c44.nd rfl (Or.inl rfl) (pe_tup pa_nil))) (pss_one (ps_if (PW.pt (pw_and (pt_cmpR op_eq (pv 1) pe_str (nomark _)) (pw_and (pt_cmpR op_eq (pe_callB call_len_seq (by rfl) N.nl PySem.boot_len (pa_cons (pv 0) pa_nil)) pe_int (nomark _)) (pw_and1 (pt_val (pe_call (GS.mono (by decide)) hr (by rfl) DS.g DS.k DS.b .nil pass0 (pa_cons (pe_ix ix_tup (pv 0) pe_int (fun _ _ => rfl)) pa_nil))))))) (pss_one (ps_set (i := 2) c44.nd rfl (Or.inl rfl) (pe_slice sl_tup (pv 0) (po_some pe_int) po_none))) (pss_one (ps_if (PW.pt (pw_and (pt_cmpR op_eq (pv 1) pe_str (nomark _)) (pw_and (pt_cmpR op_eq (pe_callB call_len_seq (by rfl) N.nl PySem.boot_len (pa_cons (pv 0) pa_nil)) pe_int (nomark _)) (pw_and1 (pt_val (pe_call GC hr (by rfl) DC.g DC.k DC.b .nil pass0 (pa_cons (pe_ix ix_tup (pv 0) pe_int (fun _ _ => rfl)) pa_nil))))))) (pss_one (ps_set (i := 2) c44.nd rfl (Or.inl rfl) (pe_slice sl_tup (pv 0) (po_some pe_int) po_none))) (pss_one (ps_if (PW.pt (pw_and (pt_cmpR op_eq (pv 1) pe_str (nomark _)) (pw_and (pt_cmpR op_eq (pe_callB call_len_seq (by rfl) N.nl PySem.boot_len (pa_cons (pv 0) pa_nil)) pe_int (nomark _)) (pw_and (pt_val (pe_call (GH.mono (by decide)) hr (by rfl) DH.g DH.k DH.b .nil pass0 (pa_cons (pe_ix ix_tup (pv 0) pe_int (fun _ _ => rfl)) pa_nil))) (pw_and1 (pt_val (pe_call (GT.mono (by decide)) hr (by rfl) DT.g DT.k DT.b .nil pass0 (pa_cons (pe_ix ix_tup (pv 0) pe_int (fun _ _ => rfl)) (pa_cons pe_int (pa_cons (pe_glob (v := .int 5) (by rfl) hF ⟨tf, rfl⟩) pa_nil)))))))))) (pss_one (ps_set (i := 2) c44.nd rfl (Or.inl rfl) (pe_ix ix_tup (pv 0) pe_int (fun _ _ => rfl)))) (pss_one (ps_if (PW.pt (pw_and (pt_cmpR op_eq (pv 1) pe_str (nomark _)) (pw_and (pt_cmpR op_eq (pe_callB call_len_seq (by rfl) N.nl PySem.boot_len (pa_cons (pv 0) pa_nil)) pe_int (nomark _)) (pw_and (pt_val (pe_call (GL.mono (by decide)) hr (by rfl) DL.g DL.k DL.b .nil pass0 (pa_cons (pe_ix ix_tup (pv 0) pe_int (fun _ _ => rfl)) pa_nil))) (pw_and1 (pt_val (pe_call (GT.mono (by decide)) hr (by rfl) DT.g DT.k DT.b .nil pass0 (pa_cons (pe_ix ix_tup (pv 0) pe_int (fun _ _ => rfl)) (pa_cons pe_int (pa_cons (pe_glob (v := .int 6) (by rfl) hP ⟨tp, rfl⟩) pa_nil)))))))))) (pss_one (ps_set (i := 2) c44.nd rfl (Or.inl rfl) (pe_ix ix_tup (pv 0) pe_int (fun _ _ => rfl)))) pss_nil))))))))))) (pss_cons (ps_if (pt_cmpR op_isN (pv 2) pe_non (nomark _)) (pss_one (ps_ret pe_non)) pss_nil) (pss_one (ps_ret (pe_tup (pa_cons pe_int (pa_cons (pv 2) (pa_cons (pe_tup pa_nil) pa_nil)))))))))), ?_⟩
    refine ⟨_, rfl, _, d, rfl, en.any, ?_⟩
    refine ⟨fun σ' H' => ∃ v, σ' = [some x, some (.str (firstW d)), some v] ∧ Grow H H' ∧ ((termP d = none ∧ v = .non) ∨ ∃ l' q xs', termP d = some l' ∧ v = .ref q ∧ H' q = some (.tup xs') ∧ EncsB B H' l' xs'), ?_, ?_⟩
    · refine rd_t1 (gj := isNum) rfl en (by decide) (by decide) (fun a xs l e0 ha el R' h => ⟨_, e0 ▸ rfl, a, xs, rfl, .inr (SqT.of ha), rfl, _, rfl, eqL (n := 2) el ▸ h⟩) (fun a xs l y e0 ha gy ey kk => ⟨_, rfl, a, _, _, _, e0, rfl, SqT.of ha, gy, _, _, rfl, ey.any, _, rfl, kk _ (Grow.refl _)⟩) (fun H1 gr1 => ?_)
      have gg1 := gr1
      have en1 := en.grow gg1
      refine ite2 (fun e1 => ?_) (fun e1 => ?_)
      · have e1 : k1 (firstW d) (parts d) = true := e1
        have et : termP d = some [] := by
          show termL (firstW d) (parts d) = _
          unfold termL
          rw [if_pos e1]
        exact ⟨Nat.zero_le _, fun p hp => ⟨.ref p, rfl, gg1.trans (Grow.new hp), .inr ⟨_, p, [], et, rfl, upd_same, .nil⟩⟩⟩
      · have e1 : ¬ k1 (firstW d) (parts d) = true := e1
        refine rd_t1 (gj := isLow) rfl en1 (by decide) (by decide) (fun a xs l e0 ha el R' h => ⟨_, e0 ▸ rfl, a, xs, rfl, .inr (SqT.of ha), rfl, _, rfl, eqL (n := 2) el ▸ h⟩) (fun a xs l y e0 ha gy ey kk => ⟨_, rfl, a, _, _, _, e0, rfl, SqT.of ha, gy, _, _, rfl, ey.any, _, rfl, kk _ (Grow.refl _)⟩) (fun H2 gr2 => ?_)
        have gg2 := gg1.trans gr2
        have en2 := en.grow gg2
        refine ite2 (fun e2 => ?_) (fun e2 => ?_)
        · have e2 : k2 (firstW d) (parts d) = true := e2
          have et : termP d = some [] := by
            show termL (firstW d) (parts d) = _
            unfold termL
            rw [if_neg e1, if_pos e2]
          exact ⟨Nat.zero_le _, fun p hp => ⟨.ref p, rfl, gg2.trans (Grow.new hp), .inr ⟨_, p, [], et, rfl, upd_same, .nil⟩⟩⟩
        · have e2 : ¬ k2 (firstW d) (parts d) = true := e2
          refine rd_t1 (gj := isSign) rfl en2 (by decide) (by decide) (fun a xs l e0 ha el R' h => ⟨_, e0 ▸ rfl, a, xs, rfl, .inr (SqT.of ha), rfl, _, rfl, eqL (n := 4) el ▸ h⟩) (fun a xs l y e0 ha gy ey kk => ⟨_, rfl, a, _, _, _, e0, rfl, SqT.of ha, gy, _, _, rfl, ey.any, trivial, fun H9 g9 => ⟨_, rfl, kk H9 g9⟩⟩) (fun H3 gr3 => ?_)
          have gg3 := gg2.trans gr3
          have en3 := en.grow gg3
          refine ite2 (fun e3 => ?_) (fun e3 => ?_)
          · have e3 : k3 (firstW d) (parts d) = true := e3
            have et : termP d = some ((parts d).drop 2) := by
              show termL (firstW d) (parts d) = _
              unfold termL
              rw [if_neg e1, if_neg e2, if_pos e3]
            unfold k3 at e3
            rw [Bool.and_eq_true, Bool.and_eq_true] at e3
            obtain ⟨l, rfl⟩ := wtup rfl e3.1 (by decide)
            obtain ⟨a, xs, rfl, ha, el⟩ := enc_tup en3
            have ln : l.length = 4 := of_decide_eq_true e3.2.1
            have hl : 2 < xs.length := by rw [← el.length]; omega
            refine ⟨_, rfl, _, rfl, a, xs, rfl, SqT.of ha, (cut2 hl).1, fun p hp => ⟨.ref p, rfl, gg3.trans (Grow.new hp), .inr ⟨_, p, xs.drop 2, et, rfl, ?_, encs_drop 2 (el.grow (Grow.new hp))⟩⟩⟩
            rw [(cut2 hl).2]
            exact upd_same
          · have e3 : ¬ k3 (firstW d) (parts d) = true := e3
            refine rd_t1 (gj := isFac) rfl en3 (by decide) (by decide) (fun a xs l e0 ha el R' h => ⟨_, e0 ▸ rfl, a, xs, rfl, .inr (SqT.of ha), rfl, _, rfl, eqL (n := 3) el ▸ h⟩) (fun a xs l y e0 ha gy ey kk => ⟨_, rfl, a, _, _, _, e0, rfl, SqT.of ha, gy, _, _, rfl, ey.any, _, rfl, kk _ (Grow.refl _)⟩) (fun H4 gr4 => ?_)
            have gg4 := gg3.trans gr4
            have en4 := en.grow gg4
            refine ite2 (fun e4 => ?_) (fun e4 => ?_)
            · have e4 : k4 (firstW d) (parts d) = true := e4
              have et : termP d = some ((parts d).drop 2) := by
                show termL (firstW d) (parts d) = _
                unfold termL
                rw [if_neg e1, if_neg e2, if_neg e3, if_pos e4]
              unfold k4 at e4
              rw [Bool.and_eq_true, Bool.and_eq_true] at e4
              obtain ⟨l, rfl⟩ := wtup rfl e4.1 (by decide)
              obtain ⟨a, xs, rfl, ha, el⟩ := enc_tup en4
              have ln : l.length = 3 := of_decide_eq_true e4.2.1
              have hl : 2 < xs.length := by rw [← el.length]; omega
              refine ⟨_, rfl, _, rfl, a, xs, rfl, SqT.of ha, (cut2 hl).1, fun p hp => ⟨.ref p, rfl, gg4.trans (Grow.new hp), .inr ⟨_, p, xs.drop 2, et, rfl, ?_, encs_drop 2 (el.grow (Grow.new hp))⟩⟩⟩
              rw [(cut2 hl).2]
              exact upd_same
            · have e4 : ¬ k4 (firstW d) (parts d) = true := e4
              refine rd_t2 (gj := isHig) (gj2 := isTu 0 5) rfl en4 (by decide) (by decide) (fun a xs l e0 ha el R' h => ⟨_, e0 ▸ rfl, a, xs, rfl, .inr (SqT.of ha), rfl, _, rfl, eqL (n := 3) el ▸ h⟩) (fun a xs l y e0 ha gy ey R' h => ⟨_, rfl, a, _, _, _, e0, rfl, SqT.of ha, gy, _, _, rfl, ey.any, _, rfl, h⟩) (fun a xs l y e0 ha gy ey h => ⟨_, rfl, a, _, _, _, e0, rfl, SqT.of ha, gy, _, _, _, _, rfl, ey.any, _, rfl, h⟩) (fun H5 gr5 => ?_)
              have gg5 := gg4.trans gr5
              have en5 := en.grow gg5
              refine ite2 (fun e5 => ?_) (fun e5 => ?_)
              · have e5 : k5 (firstW d) (parts d) = true := e5
                have et : termP d = some (parts (g2 (parts d))) := by
                  show termL (firstW d) (parts d) = _
                  unfold termL
                  rw [if_neg e1, if_neg e2, if_neg e3, if_neg e4, if_pos e5]
                unfold k5 at e5
                rw [Bool.and_eq_true, Bool.and_eq_true] at e5
                obtain ⟨l, rfl⟩ := wtup rfl e5.1 (by decide)
                obtain ⟨a, xs, rfl, ha, el⟩ := enc_tup en5
                have ln : l.length = 3 := of_decide_eq_true e5.2.1
                obtain ⟨z, gz, _, ez⟩ := get_at (j := 2) el (by omega)
                have ez : EncB B H5 (g2 l) z := ez
                refine ⟨_, rfl, a, _, _, _, rfl, rfl, SqT.of ha, gz, ?_⟩
                have e2 := e5.2.2
                rw [Bool.and_eq_true] at e2
                have e2 : isTu 0 5 (g2 l) = true := e2.2
                have et : termP (.tup l) = some (parts (g2 l)) := et
                generalize g2 l = d2 at e2 ez et
                cases ez with
                | @tup q xs2 l2 hq e3 => exact ⟨.ref q, rfl, gg5, .inr ⟨l2, q, xs2, et, rfl, hq, e3⟩⟩
                | _ => cases e2
              · have e5 : ¬ k5 (firstW d) (parts d) = true := e5
                refine rd_t2 (gj := isLow) (gj2 := isTu 0 6) rfl en5 (by decide) (by decide) (fun a xs l e0 ha el R' h => ⟨_, e0 ▸ rfl, a, xs, rfl, .inr (SqT.of ha), rfl, _, rfl, eqL (n := 3) el ▸ h⟩) (fun a xs l y e0 ha gy ey R' h => ⟨_, rfl, a, _, _, _, e0, rfl, SqT.of ha, gy, _, _, rfl, ey.any, _, rfl, h⟩) (fun a xs l y e0 ha gy ey h => ⟨_, rfl, a, _, _, _, e0, rfl, SqT.of ha, gy, _, _, _, _, rfl, ey.any, _, rfl, h⟩) (fun H6 gr6 => ?_)
                have gg6 := gg5.trans gr6
                have en6 := en.grow gg6
                refine ite2 (fun e6 => ?_) (fun e6 => ?_)
                · have e6 : k6 (firstW d) (parts d) = true := e6
                  have et : termP d = some (parts (g2 (parts d))) := by
                    show termL (firstW d) (parts d) = _
                    unfold termL
                    rw [if_neg e1, if_neg e2, if_neg e3, if_neg e4, if_neg e5, if_pos e6]
                  unfold k6 at e6
                  rw [Bool.and_eq_true, Bool.and_eq_true] at e6
                  obtain ⟨l, rfl⟩ := wtup rfl e6.1 (by decide)
                  obtain ⟨a, xs, rfl, ha, el⟩ := enc_tup en6
                  have ln : l.length = 3 := of_decide_eq_true e6.2.1
                  obtain ⟨z, gz, _, ez⟩ := get_at (j := 2) el (by omega)
                  have ez : EncB B H6 (g2 l) z := ez
                  refine ⟨_, rfl, a, _, _, _, rfl, rfl, SqT.of ha, gz, ?_⟩
                  have e2 := e6.2.2
                  rw [Bool.and_eq_true] at e2
                  have e2 : isTu 0 6 (g2 l) = true := e2.2
                  have et : termP (.tup l) = some (parts (g2 l)) := et
                  generalize g2 l = d2 at e2 ez et
                  cases ez with
                  | @tup q xs2 l2 hq e3 => exact ⟨.ref q, rfl, gg6, .inr ⟨l2, q, xs2, et, rfl, hq, e3⟩⟩
                  | _ => cases e2
                · have e6 : ¬ k6 (firstW d) (parts d) = true := e6
                  have et : termP d = none := by
                    show termL (firstW d) (parts d) = _
                    unfold termL
                    rw [if_neg e1, if_neg e2, if_neg e3, if_neg e4, if_neg e5, if_neg e6]
                  exact ⟨.non, rfl, gg6, .inl ⟨et, rfl⟩⟩
    · rintro σ' H' ⟨v, rfl, gr, h⟩
      rcases h with ⟨et, rfl⟩ | ⟨l', q, xs', et, rfl, hq, eq⟩
      · exact ⟨_, rfl, rfl, _, rfl, iteT (k0 et H' gr)⟩
      · refine ⟨_, rfl, rfl, _, rfl, iteF ?_⟩
        refine ⟨_, rfl, Nat.zero_le _, fun e he => ⟨by show 3 ≤ sizeLine; decide, fun p hp => ?_⟩⟩
        have g1' : Grow H' (upd H' e (.tup [])) := Grow.new he
        have g2' : Grow (upd H' e (.tup [])) (upd (upd H' e (.tup [])) p (.tup [.int 0, .ref q, .ref e])) := Grow.new hp
        exact ks l' et _ p q e xs' ((gr.trans g1').trans g2') upd_same ((g1'.trans g2').tup hq) (eq.grow (g1'.trans g2')) (g2'.tup upd_same)
end
end J1
set_option Elab.async false
set_option linter.all false
set_option maxRecDepth 100000
set_option maxHeartbeats 4000000
namespace J1
open PySem PySem.Spec PyProof.Rows L2 GxR GA
abbrev sBody : Stmt := top 42
theorem c42 : FnScope ["body", "word", "branches", "names", "branch"] ["body"] (defScope sBody) := ⟨rfl, rfl, rfl, by decide +kernel, rfl, by decide +kernel, by decide +kernel⟩
def g3 (l : List Da) : Da := l.getD 3 .non
def b1 (w : Str) (l : List Da) : Bool := decide (w = "let") && (lenIs l 4 && isLow (g1 l))
def b2 (w : Str) (l : List Da) : Bool := decide (w = "if") && lenIs l 5
def b3 (w : Str) (l : List Da) : Bool := decide (w = "give") && lenIs l 2
def b4 (w : Str) (l : List Da) : Bool := decide (w = "match") && (lenIs l 3 && isTu 1 8 (g2 l))
def namesOf (b : Da) : List Da := parts (g1 (parts b))
def bodyOf (b : Da) : Da := g2 (parts b)
def sumN (bs : List Da) : Nat := (bs.map fun b => (namesOf b).length).sum
def bodyL (w : Str) (l : List Da) : Option (Nat × List Da × List Da) :=
  if b1 w l = true then some (1, [g2 l], [g3 l]) else if b2 w l = true then some (0, (l.drop 1).take 2, l.drop 3) else if b3 w l = true then some (0, l.drop 1, [])
  else if b4 w l = true then (if (parts (g2 l)).all isBranch = true then some (sumN (parts (g2 l)), [g1 l], (parts (g2 l)).map bodyOf) else none) else none
def bodyP (d : Da) : Option (Nat × List Da × List Da) := bodyL (firstW d) (parts d)
theorem rd_t0 {B : Addr → Prop} {tl : TT} {n : Nat} {σ : L2.St} {H : Hp} {d : Da} {x : V} {R : Bool → Hp → Prop} {W : Str} (hσ : σ[1]? = some (some (.str (firstW d)))) (en : EncB B H d x) (hW : W ≠ "")
    (hl : ∀ a xs l, x = .ref a → H a = some (.tup xs) → EncsB B H l xs → ∀ R' : Bool → Hp → Prop, R' (lenIs l n) H → tl σ H R')
    (k : R (decide (firstW d = W) && lenIs (parts d) n) H) : tAnd (tTest (tOp rEq (tVar 1) fun _ H Q => Q (.str W) H)) tl σ H R := by
  refine rd_w hσ ?_
  by_cases e : decide (firstW d = W) = true
  · obtain ⟨l, rfl⟩ := wtup rfl e hW
    obtain ⟨a, xs, rfl, ha, el⟩ := enc_tup en
    rw [e]
    refine iteT (hl a xs l rfl ha el R ?_)
    rw [e, Bool.true_and] at k
    exact k
  · rw [Bool.eq_false_iff.mpr e]
    rw [Bool.eq_false_iff.mpr e, Bool.false_and] at k
    exact iteF k
theorem rd_t3 {B : Addr → Prop} {tl tj : TT} {n : Nat} {σ : L2.St} {H : Hp} {d : Da} {x : V} {R : Bool → Hp → Prop} {W : Str} {gj : Da → Bool} (hσ : σ[1]? = some (some (.str (firstW d)))) (en : EncB B H d x) (hW : W ≠ "") (hn : 2 < n)
    (hl : ∀ a xs l, x = .ref a → H a = some (.tup xs) → EncsB B H l xs → ∀ R' : Bool → Hp → Prop, R' (lenIs l n) H → tl σ H R')
    (hj : ∀ a xs l y, x = .ref a → H a = some (.tup xs) → atI xs 2 = some y → EncB B H (g2 l) y → R (gj (g2 l)) H → tj σ H R)
    (k : R (decide (firstW d = W) && (lenIs (parts d) n && gj (g2 (parts d)))) H) : tAnd (tTest (tOp rEq (tVar 1) fun _ H Q => Q (.str W) H)) (tAnd tl tj) σ H R := by
  refine rd_w hσ ?_
  by_cases e : decide (firstW d = W) = true
  · obtain ⟨l, rfl⟩ := wtup rfl e hW
    obtain ⟨a, xs, rfl, ha, el⟩ := enc_tup en
    rw [e]
    rw [e, Bool.true_and] at k
    refine iteT (hl a xs l rfl ha el _ ?_)
    by_cases e2 : lenIs l n = true
    · have ln : l.length = n := of_decide_eq_true e2
      obtain ⟨y, gy, _, ey⟩ := get_at (j := 2) el (by omega)
      have k : R (lenIs l n && gj (g2 l)) H := k
      rw [e2, Bool.true_and] at k
      rw [e2]
      exact iteT (hj a xs l y rfl ha gy ey k)
    · have k : R (lenIs l n && gj (g2 l)) H := k
      rw [Bool.eq_false_iff.mpr e2, Bool.false_and] at k
      rw [Bool.eq_false_iff.mpr e2]
      exact iteF k
  · rw [Bool.eq_false_iff.mpr e]
    rw [Bool.eq_false_iff.mpr e, Bool.false_and] at k
    exact iteF k
theorem encs_take {B : Addr → Prop} {H : Hp} : ∀ {l : List Da} {xs : List V} (n : Nat), EncsB B H l xs → EncsB B H (l.take n) (xs.take n)
  | _, _, 0, _ => .nil
  | _, _, n + 1, .nil => .nil
  | _, _, n + 1, .cons h t => .cons h (encs_take n t)
theorem encs_push {B : Addr → Prop} {H : Hp} : ∀ {l : List Da} {xs : List V} {d : Da} {x : V}, EncsB B H l xs → EncB B H d x → EncsB B H (l ++ [d]) (xs ++ [x])
  | _, _, _, _, .nil, h => .cons h .nil
  | _, _, _, _, .cons h t, e => .cons h (encs_push t e)
/-- all(..), what is wanted at the end in any form -/
theorem rd_allS {K : PySem.W.Frag} {P a : Addr} {xs : List V} {l : List Da} {j : Nat} {te : TE} {gj : Da → Bool} {T : Hp → Prop} {σ : L2.St} {H1 : Hp} {Q : VK} {S : List V → Hp → Prop} (ha : H1 a = some (.tup xs)) (el : Encs H1 l xs) (st : Stays T) (hT : T H1) (hP : TabG H1 P)
    (hel : ∀ x d H R, Enc H d x → T H → (∀ H', Grow H H' → R (.bl (gj d)) H') → te ((wipe σ [j]).set j (some x)) H R) (hS : ∀ acc H', Q (.bl true) H' → S acc H') (hQ : ∀ H', Grow H1 H' → Q (.bl (l.all gj)) H') :
    TabG H1 P ∧ ∀ H2, Tabbed P H1 H2 → ∃ W : Nat → Nat → List V → Hp → Prop, (∃ m, W 0 m [] H2) ∧ Turns (Itt K a) (gName j) tYes te [j] σ S (KAll Q) W := by
  obtain ⟨h1, h2⟩ := rd_all (K := K) (Q := Q) ha el st hT hP hel hQ
  refine ⟨h1, fun H2 t => ?_⟩
  obtain ⟨W, w0, turn⟩ := h2 H2 t
  refine ⟨W, w0, fun i m acc H w => ?_⟩
  rcases turn i m acc H w with ⟨z1, z2⟩ | z
  · exact .inl ⟨z1, hS acc H z2⟩
  · exact .inr z
/-- tuple(f(x) for x in t) -/
theorem rd_tupG {B : Addr → Prop} {K : PySem.W.Frag} {P a : Addr} {xs : List V} {l : List Da} {j : Nat} {te : TE} {f : Da → Da} {σ : L2.St} {H1 : Hp} {S : List V → Hp → Prop} (ha : H1 a = some (.tup xs)) (el : EncsB B H1 l xs) (hP : TabG H1 P) (hz : xs.length ≤ 1000)
    (hel : ∀ x d H R, d ∈ l → EncB B H d x → (∀ y, EncB B H (f d) y → R y H) → te ((wipe σ [j]).set j (some x)) H R)
    (hQ : ∀ acc H', Grow H1 H' → EncsB B H' (l.map f) acc → S acc H') :
    TabG H1 P ∧ ∀ H2, Tabbed P H1 H2 → ∃ W : Nat → Nat → List V → Hp → Prop, (∃ m, W 0 m [] H2) ∧ Turns (Itt K a) (gName j) tYes te [j] σ S KTup W := by
  refine ⟨hP, fun H2 t => turns_tup (xs := xs) (fun i acc H => Grow H1 H ∧ EncsB B H ((l.take i).map f) acc ∧ acc.length = i) ⟨Grow.tab hP t, .nil, rfl⟩ (fun i _ H _ p => p.1.tup ha) (fun i x acc H hx p => ?_) (fun acc H p => ?_)⟩
  · obtain ⟨d, hd, en⟩ := (el.grow p.1).get hx
    refine ⟨wipe_set, ?_⟩
    unfold tYes
    have hi : i < xs.length := (List.getElem?_eq_some_iff.mp hx).1
    refine iteT (hel x d H _ (List.mem_of_getElem? hd) en fun y ey => ⟨?_, p.1, ?_, ?_⟩)
    · rw [p.2.2, sizeLine_eq]; omega
    · rw [List.take_succ, hd, List.map_append]
      exact encs_push p.2.1 ey
    · rw [List.length_append, List.length_singleton, p.2.2]
  · have e := p.2.1
    rw [← el.length, List.take_length] at e
    exact hQ acc H p.1 e
/-- sum(f(x) for x in t), small -/
theorem rd_sumG {B : Addr → Prop} {K : PySem.W.Frag} {P a : Addr} {xs : List V} {l : List Da} {j : Nat} {te : TE} {f : Da → Nat} {σ : L2.St} {H1 : Hp} {S : List V → Hp → Prop} (ha : H1 a = some (.tup xs)) (el : EncsB B H1 l xs) (hP : TabG H1 P) (hz : xs.length ≤ 1000) (hf : ∀ d ∈ l, f d ≤ 1000)
    (hel : ∀ x d H R, d ∈ l → EncB B H d x → R (.int (f d)) H → te ((wipe σ [j]).set j (some x)) H R)
    (hQ : ∀ acc H', Grow H1 H' → accSum acc = ((l.map f).sum : Nat) → S acc H') :
    TabG H1 P ∧ ∀ H2, Tabbed P H1 H2 → ∃ W : Nat → Nat → List V → Hp → Prop, (∃ m, W 0 m [] H2) ∧ Turns (Itt K a) (gName j) tYes te [j] σ S KSum W := by
  have bound : ∀ i, ((l.take i).map f).sum ≤ 1000 * (l.take i).length := fun i => by
    have key : ∀ ll : List Da, (∀ d ∈ ll, f d ≤ 1000) → (ll.map f).sum ≤ 1000 * ll.length := fun ll => by
      induction ll with
      | nil => intro _; exact Nat.le_refl _
      | cons d r ih =>
        intro h
        have := ih fun d hd => h d (List.mem_cons_of_mem _ hd)
        have h1 := h d List.mem_cons_self
        rw [List.map_cons, List.sum_cons, List.length_cons]
        omega
    exact key _ fun d hd => hf d (List.mem_of_mem_take hd)
  refine ⟨hP, fun H2 t => turns_tup (xs := xs) (fun i acc H => Grow H1 H ∧ accSum acc = (((l.take i).map f).sum : Nat)) ⟨Grow.tab hP t, rfl⟩ (fun i _ H _ p => p.1.tup ha) (fun i x acc H hx p => ?_) (fun acc H p => ?_)⟩
  · obtain ⟨d, hd, en⟩ := (el.grow p.1).get hx
    refine ⟨wipe_set, ?_⟩
    unfold tYes
    have hi : i < xs.length := (List.getElem?_eq_some_iff.mp hx).1
    have hb := bound i
    have hlt : (l.take i).length ≤ i := by rw [List.length_take]; omega
    have hfd := hf d (List.mem_of_getElem? hd)
    have es : (((l.take (i + 1)).map f).sum : Nat) = ((l.take i).map f).sum + f d := by
      rw [List.take_succ, hd, List.map_append, List.sum_append]
      rfl
    refine iteT (hel x d H _ (List.mem_of_getElem? hd) en ⟨_, rfl, ⟨by omega, by omega⟩, ⟨by rw [p.2]; omega, by rw [p.2]; omega⟩, p.1, ?_⟩)
    rw [accSum_push, p.2, es]
    omega
  · have e := p.2
    rw [← el.length, List.take_length] at e
    exact hQ acc H p.1 e
theorem cutN {xs : List V} {n : Nat} (h0 : 0 < n) (h : n ≤ xs.length) : ¬ (HT.sIx xs.length 0 (some (n : Int)) = 0 ∧ HT.sIx xs.length xs.length none = xs.length) ∧ cutV xs (some (n : Int)) none = xs.drop n := by
  have e : HT.sIx xs.length 0 (some (n : Int)) = n := (HT.sIx_nat xs.length 0 n).trans (by omega)
  refine ⟨fun z => ?_, ?_⟩
  · rw [e] at z
    omega
  · unfold cutV
    rw [e, HT.sIx_none]
    exact List.take_of_length_le (by rw [List.length_drop]; omega)
theorem cut13 {xs : List V} (h : xs.length = 5) : ¬ (HT.sIx xs.length 0 (some ((1 : Nat) : Int)) = 0 ∧ HT.sIx xs.length xs.length (some ((3 : Nat) : Int)) = xs.length) ∧ cutV xs (some ((1 : Nat) : Int)) (some ((3 : Nat) : Int)) = (xs.drop 1).take 2 := by
  have e : HT.sIx xs.length 0 (some ((1 : Nat) : Int)) = 1 := (HT.sIx_nat xs.length 0 1).trans (by omega)
  have e3 : HT.sIx xs.length xs.length (some ((3 : Nat) : Int)) = 3 := (HT.sIx_nat xs.length xs.length 3).trans (by omega)
  refine ⟨fun z => ?_, ?_⟩
  · rw [e] at z
    omega
  · unfold cutV
    rw [e, e3]
theorem encs_eq {B : Addr → Prop} {H : Hp} {l : List Da} {xs ys : List V} (e : ys = xs) (h : EncsB B H l xs) : EncsB B H l ys := by
  rw [e]
  exact h
theorem branch_form {d : Da} (h : isBranch d = true) : ∃ d1 ns d3, d = .tup [d1, .tup ns, d3] ∧ ns.length ≤ 5 := by
  unfold isBranch at h
  split at h
  · rename_i d1 ns d3
    rw [Bool.and_eq_true, Bool.and_eq_true] at h
    exact ⟨d1, ns, d3, rfl, of_decide_eq_true h.2.1⟩
  · cases h
def rLen (K : PySem.W.Frag) : List V → Hp → VK → Prop := fun xs H Q => ∃ p ys, xs = [.ref p] ∧ (SqL K H p ys ∨ SqT K H p ys) ∧ Q (.int ys.length) H
def spBody (T : Hp → Prop) : Sp := fun vs H Q _ => ∃ B x d, vs = [x] ∧ EncB B H d x ∧ T H ∧ (bodyP d = none → ∀ H', Grow H H' → Q .non H') ∧
  ∀ n ts bs, bodyP d = some (n, ts, bs) → ∀ H' p q r xs ys, Grow H H' → H' p = some (.tup [.int (n : Nat), .ref q, .ref r]) → H' q = some (.tup xs) → EncsB B H' ts xs → H' r = some (.tup ys) → EncsB B H' bs ys → Q (.ref p) H'
section
variable {P : Program} {w : World} {K : PySem.W.Frag} {mg : Str → Option Value} {base : Heap}
theorem ok_body {f fF fL fT fB c PT : Addr} {fd fdF fdL fdT fdB : FuncData} {T TB' : Hp → Prop} (F : FunC K "_body_parts" "_body_parts" sBody f fd c) (N : Gn K mg) (G : Gk mg) (hsum : mg "sum" = none) (TB : TabB base mg c PT) (st : Stays T) (hTP : ∀ H, T H → TabG H PT) (hTB : ∀ H, T H → TB' H)
    (GF : FnOk P w K mg base CX0 1 fF fdF ["thing"] spW) (DF : Df K mg "first_word" ["thing"] fF fdF) (GL : FnOk P w K mg base CX0 2 fL fdL ["thing"] (spF isLow)) (DL : Df K mg "is_low" ["thing"] fL fdL)
    (GT : FnOk P w K mg base CX0 1 fT fdT ["thing", "least", "most"] (spF3 isTu)) (DT : Df K mg "is_tuple" ["thing", "least", "most"] fT fdT)
    (GB : FnOk P w K mg base CX0 4 fB fdB ["thing"] (spG TB' isBranch)) (DB : Df K mg "_is_branch" ["thing"] fB fdB) : FnOk P w K mg base CX0 6 f fd ["body"] (spBody T) := by
  obtain ⟨tm, hM⟩ := G.makers
  refine F.ok (k := 5) c42 (fun vs H Q E h => ?_) (fun A outer s H vs Q E hr h => ?_)
  · obtain ⟨B, x, d, rfl, _⟩ := h
    rfl
  · obtain ⟨B, x, d, rfl, en, hT, k0, ks⟩ := h
    refine ⟨_, (pss_cons (ps_set (i := 1) c42.nd rfl (Or.inl rfl) (pe_call (GF.mono (by decide)) hr (by rfl) DF.g DF.k DF.b .nil pass0 (pa_cons (pv 0) pa_nil))) (pss_cons (ps_if (PW.pt (pw_and (pt_cmpR op_eq (pv 1) pe_str (nomark _)) (pw_and (pt_cmpR op_eq (pe_callB call_len_seq (by rfl) N.nl PySem.boot_len (pa_cons (pv 0) pa_nil)) pe_int (nomark _)) (pw_and1 (pt_val (pe_call (GL.mono (by decide)) hr (by rfl) DL.g DL.k DL.b .nil pass0 (pa_cons (pe_ix ix_tup (pv 0) pe_int (fun _ _ => rfl)) pa_nil))))))) (pss_one (ps_ret (pe_tup (pa_cons pe_int (pa_cons (pe_tup (pa_cons (pe_ix ix_tup (pv 0) pe_int (fun _ _ => rfl)) pa_nil)) (pa_cons (pe_tup (pa_cons (pe_ix ix_tup (pv 0) pe_int (fun _ _ => rfl)) pa_nil)) pa_nil)))))) pss_nil) (pss_cons (ps_if (PW.pt (pw_and (pt_cmpR op_eq (pv 1) pe_str (nomark _)) (pw_and1 (pt_cmpR op_eq (pe_callB call_len_seq (by rfl) N.nl PySem.boot_len (pa_cons (pv 0) pa_nil)) pe_int (nomark _))))) (pss_one (ps_ret (pe_tup (pa_cons pe_int (pa_cons (pe_slice sl_tup (pv 0) (po_some pe_int) (po_some pe_int)) (pa_cons (pe_slice sl_tup (pv 0) (po_some pe_int) po_none) pa_nil)))))) pss_nil) (pss_cons (ps_if (PW.pt (pw_and (pt_cmpR op_eq (pv 1) pe_str (nomark _)) (pw_and1 (pt_cmpR op_eq (pe_callB call_len_seq (by rfl) N.nl PySem.boot_len (pa_cons (pv 0) pa_nil)) pe_int (nomark _))))) (pss_one (ps_ret (pe_tup (pa_cons pe_int (pa_cons (pe_slice sl_tup (pv 0) (po_some pe_int) po_none) (pa_cons (pe_tup pa_nil) pa_nil)))))) pss_nil) (pss_cons (ps_if (PW.pt (pw_and (pt_cmpR op_eq (pv 1) pe_str (nomark _)) (pw_and (pt_cmpR op_eq (pe_callB call_len_seq (by rfl) N.nl PySem.boot_len (pa_cons (pv 0) pa_nil)) pe_int (nomark _)) (pw_and1 (pt_val (pe_call (GT.mono (by decide)) hr (by rfl) DT.g DT.k DT.b .nil pass0 (pa_cons (pe_ix ix_tup (pv 0) pe_int (fun _ _ => rfl)) (pa_cons pe_int (pa_cons (pe_glob (v := .int 8) (by rfl) hM ⟨tm, rfl⟩) pa_nil))))))))) (pss_cons (ps_set (i := 2) c42.nd rfl (Or.inl rfl) (pe_ix ix_tup (pv 0) pe_int (fun _ _ => rfl))) (pss_one (ps_if (pt_val (pe_allG (k := 4) (own := [("branch", 4)]) hr rfl (by rfl) N.na c42.nd TB rfl ⟨rfl, by decide +kernel, rfl⟩ (blkOk_by (by show blkC ["body", "word", "branches", "names", "branch"] (defScope sBody) _ [("branch", 4)] = true; decide +kernel)) (pi_tup (pv 2)) (fun _ _ _ _ _ _ _ => pg_name c42.nd (i := 4) rfl (.inl rfl)) (fun _ _ _ _ _ _ _ => pts_nil) (fun _ _ _ _ _ _ hr' => pe_call GB hr' (by rfl) DB.g DB.k DB.b .nil pass0 (pa_cons (pv 4) pa_nil)))) (pss_cons (ps_set (i := 3) c42.nd rfl (Or.inl rfl) (pe_sumG (k := 4) (own := [("branch", 4)]) hr (by rfl) hsum c42.nd TB rfl ⟨rfl, by decide +kernel, rfl⟩ (blkOk_by (by show blkC ["body", "word", "branches", "names", "branch"] (defScope sBody) _ [("branch", 4)] = true; decide +kernel)) (pi_tup (pv 2)) (fun _ _ _ _ _ _ _ => pg_name c42.nd (i := 4) rfl (.inl rfl)) (fun _ _ _ _ _ _ _ => pts_nil) (fun _ _ _ _ _ _ hr' => pe_callB (r := rLen K) call_len_seq (by rfl) N.nl PySem.boot_len (pa_cons (pe_ix (r := rIxT K) ix_tup (pv 4) pe_int (fun _ _ => rfl)) pa_nil)))) (pss_one (ps_ret (pe_tup (pa_cons (pv 3) (pa_cons (pe_tup (pa_cons (pe_ix ix_tup (pv 0) pe_int (fun _ _ => rfl)) pa_nil)) (pa_cons (pe_tupG (k := 4) (own := [("branch", 4)]) hr (by rfl) N.nt c42.nd TB rfl ⟨rfl, by decide +kernel, rfl⟩ (blkOk_by (by show blkC ["body", "word", "branches", "names", "branch"] (defScope sBody) _ [("branch", 4)] = true; decide +kernel)) (pi_tup (pv 2)) (fun _ _ _ _ _ _ _ => pg_name c42.nd (i := 4) rfl (.inl rfl)) (fun _ _ _ _ _ _ _ => pts_nil) (fun _ _ _ _ _ _ hr' => pe_ix (r := rIxT K) ix_tup (pv 4) pe_int (fun _ _ => rfl))) pa_nil))))))) pss_nil))) pss_nil) (pss_one (ps_ret pe_non))))))), ?_⟩
    refine ⟨_, rfl, _, d, rfl, en.any, ?_⟩
    refine rd_t1 (gj := isLow) rfl en (by decide) (by decide) (fun a xs l e0 ha el R' h => ⟨_, e0 ▸ rfl, a, xs, rfl, .inr (SqT.of ha), rfl, _, rfl, eqL (n := 4) el ▸ h⟩) (fun a xs l y e0 ha gy ey kk => ⟨_, rfl, a, _, _, _, e0, rfl, SqT.of ha, gy, _, _, rfl, ey.any, _, rfl, kk _ (Grow.refl _)⟩) (fun H1 gr1 => ?_)
    have en1 := en.grow gr1
    refine ite2 (fun e1 => ?_) (fun e1 => ?_)
    · have e1 : b1 (firstW d) (parts d) = true := e1
      have et : bodyP d = some (1, [g2 (parts d)], [g3 (parts d)]) := by
          show bodyL (firstW d) (parts d) = _
          unfold bodyL
          rw [if_pos e1]
      unfold b1 at e1
      rw [Bool.and_eq_true, Bool.and_eq_true] at e1
      obtain ⟨l, rfl⟩ := wtup rfl e1.1 (by decide)
      obtain ⟨a, xs, rfl, ha, el⟩ := enc_tup en1
      have ln : l.length = 4 := of_decide_eq_true e1.2.1
      obtain ⟨z, gz, _, ez⟩ := get_at (j := 2) el (by omega)
      obtain ⟨y, gy, _, ey⟩ := get_at (j := 3) el (by omega)
      refine ⟨_, rfl, a, _, _, _, rfl, rfl, SqT.of ha, gz, (by show 1 ≤ sizeLine; decide), fun q hq => ?_⟩
      have gq : Grow H1 (upd H1 q (.tup [z])) := Grow.new hq
      refine ⟨_, rfl, a, _, _, _, rfl, rfl, SqT.of (gq.tup ha), gy, (by show 1 ≤ sizeLine; decide), fun r hr2 => ⟨by show 3 ≤ sizeLine; decide, fun p hp => ?_⟩⟩
      have gr2 : Grow (upd H1 q (.tup [z])) (upd (upd H1 q (.tup [z])) r (.tup [y])) := Grow.new hr2
      have gp : Grow (upd (upd H1 q (.tup [z])) r (.tup [y])) (upd (upd (upd H1 q (.tup [z])) r (.tup [y])) p (.tup [.int 1, .ref q, .ref r])) := Grow.new hp
      exact ks 1 _ _ et _ p q r [z] [y] (((gr1.trans gq).trans gr2).trans gp) upd_same ((gr2.trans gp).tup upd_same) (.cons (ez.grow ((gq.trans gr2).trans gp)) .nil) (gp.tup upd_same) (.cons (ey.grow ((gq.trans gr2).trans gp)) .nil)
    · have e1 : ¬ b1 (firstW d) (parts d) = true := e1
      refine rd_t0 (n := 5) rfl en1 (by decide) (fun a xs l e0 ha el R' h => ⟨_, e0 ▸ rfl, a, xs, rfl, .inr (SqT.of ha), rfl, _, rfl, eqL (n := 5) el ▸ h⟩) ?_
      refine ite2 (fun e2 => ?_) (fun e2 => ?_)
      · have e2 : b2 (firstW d) (parts d) = true := e2
        have et : bodyP d = some (0, ((parts d).drop 1).take 2, (parts d).drop 3) := by
            show bodyL (firstW d) (parts d) = _
            unfold bodyL
            rw [if_neg e1, if_pos e2]
        unfold b2 at e2
        rw [Bool.and_eq_true] at e2
        obtain ⟨l, rfl⟩ := wtup rfl e2.1 (by decide)
        obtain ⟨a, xs, rfl, ha, el⟩ := enc_tup en1
        have ln : l.length = 5 := of_decide_eq_true e2.2
        have hl : xs.length = 5 := by rw [← el.length]; exact ln
        refine ⟨_, rfl, _, rfl, _, rfl, a, xs, rfl, SqT.of ha, (cut13 hl).1, fun q hq => ?_⟩
        have gq : Grow H1 (upd H1 q (.tup (cutV xs (some ((1 : Nat) : Int)) (some ((3 : Nat) : Int))))) := Grow.new hq
        refine ⟨_, rfl, _, rfl, a, xs, rfl, SqT.of (gq.tup ha), (cutN (n := 3) (by decide) (by omega)).1, fun r hr2 => ⟨by show 3 ≤ sizeLine; decide, fun p hp => ?_⟩⟩
        have gr2 := Grow.new (o := .tup (cutV xs (some ((3 : Nat) : Int)) none)) hr2
        have gp := Grow.new (o := .tup [.int 0, .ref q, .ref r]) hp
        exact ks 0 _ _ et _ p q r _ _ (((gr1.trans gq).trans gr2).trans gp) upd_same ((gr2.trans gp).tup upd_same) (encs_eq (cut13 hl).2 (encs_take 2 (encs_drop 1 (el.grow ((gq.trans gr2).trans gp))))) (gp.tup upd_same) (encs_eq (cutN (n := 3) (by decide) (by omega)).2 (encs_drop 3 (el.grow ((gq.trans gr2).trans gp))))
      · have e2 : ¬ b2 (firstW d) (parts d) = true := e2
        refine rd_t0 (n := 2) rfl en1 (by decide) (fun a xs l e0 ha el R' h => ⟨_, e0 ▸ rfl, a, xs, rfl, .inr (SqT.of ha), rfl, _, rfl, eqL (n := 2) el ▸ h⟩) ?_
        refine ite2 (fun e3 => ?_) (fun e3 => ?_)
        · have e3 : b3 (firstW d) (parts d) = true := e3
          have et : bodyP d = some (0, (parts d).drop 1, []) := by
              show bodyL (firstW d) (parts d) = _
              unfold bodyL
              rw [if_neg e1, if_neg e2, if_pos e3]
          unfold b3 at e3
          rw [Bool.and_eq_true] at e3
          obtain ⟨l, rfl⟩ := wtup rfl e3.1 (by decide)
          obtain ⟨a, xs, rfl, ha, el⟩ := enc_tup en1
          have ln : l.length = 2 := of_decide_eq_true e3.2
          have hl : xs.length = 2 := by rw [← el.length]; exact ln
          refine ⟨_, rfl, _, rfl, a, xs, rfl, SqT.of ha, (cutN (n := 1) (by decide) (by omega)).1, fun q hq => ?_⟩
          have gq := Grow.new (o := .tup (cutV xs (some ((1 : Nat) : Int)) none)) hq
          refine ⟨Nat.zero_le _, fun r hr2 => ⟨by show 3 ≤ sizeLine; decide, fun p hp => ?_⟩⟩
          have gr2 := Grow.new (o := .tup []) hr2
          have gp := Grow.new (o := .tup [.int 0, .ref q, .ref r]) hp
          exact ks 0 _ _ et _ p q r _ _ (((gr1.trans gq).trans gr2).trans gp) upd_same ((gr2.trans gp).tup upd_same) (encs_eq (cutN (n := 1) (by decide) (by omega)).2 (encs_drop 1 (el.grow ((gq.trans gr2).trans gp)))) (gp.tup upd_same) .nil
        · have e3 : ¬ b3 (firstW d) (parts d) = true := e3
          refine rd_t3 (n := 3) (gj := isTu 1 8) rfl en1 (by decide) (by decide) (fun a xs l e0 ha el R' h => ⟨_, e0 ▸ rfl, a, xs, rfl, .inr (SqT.of ha), rfl, _, rfl, eqL (n := 3) el ▸ h⟩) (fun a xs l y e0 ha gy ey h => ⟨_, rfl, a, _, _, _, e0, rfl, SqT.of ha, gy, _, _, _, _, rfl, ey.any, _, rfl, h⟩) ?_
          refine ite2 (fun e4 => ?_) (fun e4 => ?_)
          · have e4 : b4 (firstW d) (parts d) = true := e4
            have et : bodyP d = if (parts (g2 (parts d))).all isBranch = true then some (sumN (parts (g2 (parts d))), [g1 (parts d)], (parts (g2 (parts d))).map bodyOf) else none := by
              show bodyL (firstW d) (parts d) = _
              unfold bodyL
              rw [if_neg e1, if_neg e2, if_neg e3, if_pos e4]
            unfold b4 at e4
            rw [Bool.and_eq_true, Bool.and_eq_true] at e4
            obtain ⟨l, rfl⟩ := wtup rfl e4.1 (by decide)
            obtain ⟨a, xs, rfl, ha, el⟩ := enc_tup en1
            have ln : l.length = 3 := of_decide_eq_true e4.2.1
            obtain ⟨z1, gz1, _, ez1⟩ := get_at (j := 1) el (by omega)
            obtain ⟨z, gz, _, ez⟩ := get_at (j := 2) el (by omega)
            have ez : EncB B H1 (g2 l) z := ez
            have ez1 : EncB B H1 (g1 l) z1 := ez1
            have e8 : isTu 1 8 (g2 l) = true := e4.2.2
            have et : bodyP (.tup l) = if (parts (g2 l)).all isBranch = true then some (sumN (parts (g2 l)), [g1 l], (parts (g2 l)).map bodyOf) else none := et
            generalize g2 l = d2 at e8 ez et
            cases ez with
            | @tup b xs2 l2 hb e3' =>
              have hT1 := st _ _ gr1 hT
              have hlen : xs2.length ≤ 1000 := by
                have e8 : (decide ((1 : Int) ≤ (l2.length : Int)) && decide ((l2.length : Int) ≤ 8)) = true := e8
                rw [Bool.and_eq_true] at e8
                have := of_decide_eq_true e8.2
                rw [← e3'.length]
                omega
              have et : bodyP (.tup l) = if l2.all isBranch = true then some (sumN l2, [g1 l], l2.map bodyOf) else none := et
              refine ⟨_, rfl, a, _, _, _, rfl, rfl, SqT.of ha, gz, ?_⟩
              refine ⟨_, rfl, b, rfl, ⟨xs2, SqT.of hb⟩, ?_⟩
              show _ ∧ _
              refine rd_allS (T := T) (gj := isBranch) hb e3'.any st hT1 (hTP _ hT1) (fun x d H R en hT' kk => ⟨_, rfl, _, d, rfl, en, hTB H hT', kk⟩) (fun _ _ h => h) (fun H2 gr2 => ?_)
              refine ⟨_, rfl, ?_⟩
              cases eall : l2.all isBranch with
              | false =>
                rw [if_neg (by rw [eall]; decide)] at et
                exact iteF (k0 et H2 (gr1.trans gr2))
              | true =>
                rw [if_pos eall] at et
                have allB := List.all_eq_true.mp eall
                refine iteT ⟨_, rfl, b, rfl, ⟨xs2, SqT.of (gr2.tup hb)⟩, ?_⟩
                show _ ∧ _
                refine rd_sumG (f := fun b => (namesOf b).length) (gr2.tup hb) (e3'.grow gr2) (hTP _ (st _ _ gr2 hT1)) hlen (fun d hd => ?_) (fun x d H R hd en kk => ?_) (fun acc3 H3 gr3 es3 => ?_)
                · obtain ⟨d1, ns, d3, rfl, h5⟩ := branch_form (allB d hd)
                  exact Nat.le_trans h5 (by decide)
                · obtain ⟨d1, ns, d3, rfl, h5⟩ := branch_form (allB d hd)
                  obtain ⟨c1, ys, rfl, hc1, ey⟩ := enc_tup en
                  obtain ⟨x1, x2, x3, rfl, h1, h2, h3⟩ := encs3 ey
                  obtain ⟨c2, ys2, rfl, hc2, ey2⟩ := enc_tup h2
                  refine ⟨_, rfl, c1, _, _, _, rfl, rfl, SqT.of hc1, at_of (j := 1) rfl rfl, c2, ys2, rfl, .inr (SqT.of hc2), ?_⟩
                  have e9 : (namesOf (.tup [d1, .tup ns, d3])).length = ys2.length := ey2.length
                  rw [e9] at kk
                  exact kk
                · refine ⟨_, rfl, ?_⟩
                  have g13 := gr2.trans gr3
                  refine ⟨_, rfl, a, _, _, _, rfl, rfl, SqT.of (g13.tup ha), gz1, (by show 1 ≤ sizeLine; decide), fun q hq => ?_⟩
                  have gq := Grow.new (o := .tup [z1]) hq
                  have g1q := g13.trans gq
                  refine ⟨_, rfl, b, rfl, ⟨xs2, SqT.of (g1q.tup hb)⟩, ?_⟩
                  show _ ∧ _
                  refine rd_tupG (f := bodyOf) (g1q.tup hb) (e3'.grow g1q) (hTP _ (st _ _ g1q hT1)) hlen (fun x d H R hd en kk => ?_) (fun ys H4 gr4 ey4 r hr4 => ⟨by show 3 ≤ sizeLine; decide, fun p hp => ?_⟩)
                  · obtain ⟨d1, ns, d3, rfl, h5⟩ := branch_form (allB d hd)
                    obtain ⟨c1, ys, rfl, hc1, ey⟩ := enc_tup en
                    obtain ⟨x1, x2, x3, rfl, h1, h2, h3⟩ := encs3 ey
                    exact ⟨_, rfl, c1, _, _, _, rfl, rfl, SqT.of hc1, at_of (j := 2) rfl rfl, kk x3 h3⟩
                  · have gn := Grow.new (o := .tup ys) hr4
                    have gp := Grow.new (o := .tup [.int (accSum acc3), .ref q, .ref r]) hp
                    exact ks _ _ _ et _ p q r [z1] ys ((((gr1.trans g1q).trans gr4).trans gn).trans gp) (by rw [← show accSum acc3 = ((sumN l2 : Nat) : Int) from es3]; exact upd_same) (((gr4.trans gn).trans gp).tup upd_same) (.cons (ez1.grow (((g1q.trans gr4).trans gn).trans gp)) .nil) (gp.tup upd_same) (ey4.grow (gn.trans gp))
            | _ => cases e8
          · have e4 : ¬ b4 (firstW d) (parts d) = true := e4
            have et : bodyP d = none := by
                show bodyL (firstW d) (parts d) = _
                unfold bodyL
                rw [if_neg e1, if_neg e2, if_neg e3, if_neg e4]
            exact k0 et H1 gr1
end
end J1
set_option Elab.async false
set_option linter.all false
set_option maxRecDepth 100000
set_option maxHeartbeats 4000000
namespace J1
open PySem PySem.Spec PyProof.Rows L2 GxR GA
abbrev sWhole : Stmt := top 41
theorem c41 : FnScope ["thing", "found", "waiting", "part", "as_body", "depth", "inner", "names", "terms", "bodies", "term", "body"] ["thing"] (defScope sWhole) := ⟨rfl, rfl, rfl, by decide +kernel, rfl, by decide +kernel, by decide +kernel⟩
abbrev It := Da × Bool × Nat
/-- the parts of a thing that is looked at as a body, or as an expression -/
def innerP (d : Da) (b : Bool) : Option (Nat × List Da × List Da) := if b = true then bodyP d else (termP d).map fun l => (0, l, [])
def next (n : Nat) (ts bs : List Da) : List It := ts.map (fun d => (d, false, n + 1)) ++ bs.map (fun d => (d, true, n + 1))
/-- what still waits, from the first on; how many parts were found -/
def runW : Nat → List It → Nat → Bool
  | 0, _, _ => false
  | k + 1, ws, found => match ws.reverse with
    | [] => true
    | (d, b, n) :: rest => match innerP d b with
      | none => false
      | some (nm, ts, bs) => if 100 < found + (1 + nm) ∨ 30 < n then false else runW k (rest.reverse ++ next n ts bs) (found + (1 + nm))
def wholeB (d : Da) : Bool := runW 102 [(d, true, 1)] 0
inductive ItsB (B : Addr → Prop) (H : Hp) : List It → List V → Prop
  | nil : ItsB B H [] []
  | cons {d : Da} {b : Bool} {n : Nat} {t : Addr} {y : V} {ws : List It} {xs : List V} (h : H t = some (.tup [y, .bl b, .int (n : Nat)])) (e : EncB B H d y) (r : ItsB B H ws xs) : ItsB B H ((d, b, n) :: ws) (.ref t :: xs)
theorem ItsB.app {B : Addr → Prop} {H : Hp} : ∀ {ws us : List It} {xs ys : List V}, ItsB B H ws xs → ItsB B H us ys → ItsB B H (ws ++ us) (xs ++ ys)
  | _, _, _, _, .nil, h => h
  | _, _, _, _, .cons h e r, k => .cons h e (ItsB.app r k)
theorem ItsB.length {B : Addr → Prop} {H : Hp} : ∀ {ws : List It} {xs : List V}, ItsB B H ws xs → ws.length = xs.length
  | _, _, .nil => rfl
  | _, _, .cons _ _ r => by rw [List.length_cons, List.length_cons, ItsB.length r]
theorem ItsB.last {B : Addr → Prop} {H : Hp} {i : It} : ∀ {ws : List It} {xs : List V}, ItsB B H (ws ++ [i]) xs → ∃ xs0 t y, xs = xs0 ++ [.ref t] ∧ ItsB B H ws xs0 ∧ H t = some (.tup [y, .bl i.2.1, .int (i.2.2 : Nat)]) ∧ EncB B H i.1 y
  | [], _, h => by
    cases h with
    | cons h e r =>
      cases r
      exact ⟨[], _, _, rfl, .nil, h, e⟩
  | j :: ws, _, h => by
    cases h with
    | cons h e r =>
      obtain ⟨xs0, t, y, rfl, r0, ht, ey⟩ := ItsB.last r
      exact ⟨_ :: xs0, t, y, rfl, .cons h e r0, ht, ey⟩
theorem GrowW.tup {w : Addr} {H H' : Hp} (g : GrowW w H H') (hw : ∀ xs, H w ≠ some (.tup xs)) {a : Addr} {xs : List V} (h : H a = some (.tup xs)) : H' a = some (.tup xs) := by
  rcases g a _ (fun z => hw xs (z ▸ h)) h with q | ⟨⟨ps, q⟩, _⟩
  · exact q
  · cases q
theorem ItsB.growW {B : Addr → Prop} {w : Addr} {H H' : Hp} (g : GrowW w H H') (hB : ¬ B w) (hw : ∀ xs, H w ≠ some (.tup xs)) : ∀ {ws : List It} {xs : List V}, ItsB B H ws xs → ItsB B H' ws xs
  | _, _, .nil => .nil
  | _, _, .cons h e r => .cons (g.tup hw h) (EncB.growW g hB hw e) (ItsB.growW g hB hw r)
theorem Grow.w {w : Addr} {H H' : Hp} (g : Grow H H') : GrowW w H H' := fun a o _ h => g a o h
theorem ItsB.grow {B : Addr → Prop} {H H' : Hp} (g : Grow H H') : ∀ {ws : List It} {xs : List V}, ItsB B H ws xs → ItsB B H' ws xs
  | _, _, .nil => .nil
  | _, _, .cons h e r => .cons (g.tup h) (e.grow g) (ItsB.grow g r)
theorem GrowW.upd {w : Addr} {H : Hp} {o : HO} : GrowW w H (upd H w o) := fun a u n h => .inl (by rw [upd_ne n]; exact h)
mutual
/-- lists stand where there are some -/
theorem EncB.here {H : Hp} : ∀ {d : Da} {x : V}, Enc H d x → EncB (fun a => ∃ xs, H a = some (.lst xs)) H d x
  | _, _, .non => .non
  | _, _, .bl b => .bl b
  | _, _, .int i => .int i
  | _, _, .str s h => .str s h
  | _, _, .tup h e => .tup h (EncsB.here e)
  | _, _, .lst h e _ => .lst h (EncsB.here e) ⟨_, h⟩
theorem EncsB.here {H : Hp} : ∀ {l : List Da} {xs : List V}, Encs H l xs → EncsB (fun a => ∃ xs, H a = some (.lst xs)) H l xs
  | _, _, .nil => .nil
  | _, _, .cons h t => .cons (EncB.here h) (EncsB.here t)
end
/-- what was there at the entry stays -/
theorem Grow.but {w : Addr} {H0 H : Hp} {o : HO} (g : Grow H0 H) (hw : H0 w = none) : Grow H0 (upd H w o) := fun a u h => by
  have n : a ≠ w := fun z => by rw [z, hw] at h; cases h
  rcases g a u h with q | ⟨q1, ps, q2, q3⟩
  · exact .inl (by rw [upd_ne n]; exact q)
  · exact .inr ⟨q1, ps, by rw [upd_ne n]; exact q2, q3⟩
theorem parts_len {d : Da} {n : Int} (h : isTu 0 n d = true) : ((parts d).length : Int) ≤ n := by
  cases d with
  | tup l =>
    have h : (decide ((0 : Int) ≤ (l.length : Int)) && decide ((l.length : Int) ≤ n)) = true := h
    rw [Bool.and_eq_true] at h
    exact of_decide_eq_true h.2
  | _ => cases h
theorem term_len {d : Da} {l : List Da} (h : termP d = some l) : l.length ≤ 6 := by
  have h : termL (firstW d) (parts d) = some l := h
  unfold termL at h
  split at h
  · cases h; exact Nat.zero_le _
  split at h
  · cases h; exact Nat.zero_le _
  split at h
  · rename_i e
    cases h
    unfold k3 lenIs at e
    simp only [Bool.and_eq_true, decide_eq_true_eq] at e
    rw [List.length_drop]; omega
  split at h
  · rename_i e
    cases h
    unfold k4 lenIs at e
    simp only [Bool.and_eq_true, decide_eq_true_eq] at e
    rw [List.length_drop]; omega
  split at h
  · rename_i e
    cases h
    unfold k5 at e
    simp only [Bool.and_eq_true] at e
    have := parts_len e.2.2.2
    omega
  split at h
  · rename_i e
    cases h
    unfold k6 at e
    simp only [Bool.and_eq_true] at e
    have := parts_len e.2.2.2
    omega
  · cases h
theorem body_len {d : Da} {n : Nat} {ts bs : List Da} (h : bodyP d = some (n, ts, bs)) : ts.length ≤ 2 ∧ bs.length ≤ 8 := by
  have h : bodyL (firstW d) (parts d) = some (n, ts, bs) := h
  unfold bodyL at h
  split at h
  · cases h; exact ⟨by simp, by simp⟩
  split at h
  · rename_i e
    cases h
    unfold b2 lenIs at e
    simp only [Bool.and_eq_true, decide_eq_true_eq] at e
    exact ⟨by rw [List.length_take]; omega, by rw [List.length_drop]; omega⟩
  split at h
  · rename_i e
    cases h
    unfold b3 lenIs at e
    simp only [Bool.and_eq_true, decide_eq_true_eq] at e
    exact ⟨by rw [List.length_drop]; omega, by simp⟩
  split at h
  · rename_i e
    unfold b4 at e
    simp only [Bool.and_eq_true] at e
    have e2 := e.2.2
    split at h
    · cases h
      refine ⟨by simp, ?_⟩
      rw [List.length_map]
      generalize g2 (parts d) = d2 at e2
      cases d2 with
      | tup l =>
        have e2 : (decide ((1 : Int) ≤ (l.length : Int)) && decide ((l.length : Int) ≤ 8)) = true := e2
        rw [Bool.and_eq_true] at e2
        have := of_decide_eq_true e2.2
        show l.length ≤ 8
        omega
      | _ => cases e2
    · cases h
  · cases h
theorem inner_len {d : Da} {b : Bool} {n : Nat} {ts bs : List Da} (h : innerP d b = some (n, ts, bs)) : ts.length ≤ 6 ∧ bs.length ≤ 8 := by
  unfold innerP at h
  split at h
  · have := body_len h
    omega
  · cases e : termP d with
    | none => rw [e] at h; cases h
    | some l =>
      rw [e] at h
      cases h
      exact ⟨term_len e, Nat.zero_le _⟩
theorem run_cons {k found n : Nat} {r : List It} {d : Da} {b : Bool} : runW (k + 1) (r ++ [(d, b, n)]) found = match innerP d b with
    | none => false
    | some (nm, ts, bs) => if 100 < found + (1 + nm) ∨ 30 < n then false else runW k (r ++ next n ts bs) (found + (1 + nm)) := by
  have e : (r ++ [(d, b, n)]).reverse = (d, b, n) :: r.reverse := by rw [List.reverse_append]; rfl
  show (match (r ++ [(d, b, n)]).reverse with
    | [] => true
    | (d, b, n) :: rest => match innerP d b with
      | none => false
      | some (nm, ts, bs) => if 100 < found + (1 + nm) ∨ 30 < n then false else runW k (rest.reverse ++ next n ts bs) (found + (1 + nm))) = _
  rw [e]
  show (match innerP d b with
      | none => false
      | some (nm, ts, bs) => if 100 < found + (1 + nm) ∨ 30 < n then false else runW k (r.reverse.reverse ++ next n ts bs) (found + (1 + nm))) = _
  rw [List.reverse_reverse]
theorem its_step {B : Addr → Prop} {Hd : Hp} {D t : Addr} {acc : List V} {ws : List It} {d : Da} {x : V} {b : Bool} {n : Nat} (hacc : Hd D = some (.lst acc)) (its : ItsB B Hd ws acc) (en : EncB B Hd d x) (ht : Hd t = none) (nD : ¬ B D) :
    ItsB B (upd (upd Hd t (.tup [x, .bl b, .int ((n + 1 : Nat) : Int)])) D (.lst (acc ++ [.ref t]))) (ws ++ [(d, b, n + 1)]) (acc ++ [.ref t]) := by
  have g : Grow Hd (upd Hd t (.tup [x, .bl b, .int ((n + 1 : Nat) : Int)])) := Grow.new ht
  have hw : ∀ xs, (upd Hd t (.tup [x, .bl b, .int ((n + 1 : Nat) : Int)])) D ≠ some (.tup xs) := fun xs z => by
    rw [g.lst hacc] at z
    cases z
  exact ((its.grow g).app (.cons upd_same (en.grow g) .nil)).growW GrowW.upd nD hw
theorem take_map {l : List Da} {f : Da → It} {i : Nat} {d : Da} (e : l[i]? = some d) : (l.take (i + 1)).map f = (l.take i).map f ++ [f d] := by
  rw [List.take_succ, e, List.map_append]
  rfl
theorem Grow.none {H H' : Hp} (g : Grow H H') {a : Addr} (h : H' a = none) : H a = none := by
  cases e : H a with
  | none => rfl
  | some o =>
    rcases g a o e with q | ⟨_, ps, q, _⟩
    · rw [h] at q; cases q
    · rw [h] at q; cases q
section
variable {P : Program} {w : World} {K : PySem.W.Frag} {mg : Str → Option Value} {base : Heap}
theorem ok_whole {f fB fT : Addr} {fd fdB fdT : FuncData} {T : Hp → Prop} (F : Fun K "_is_whole_body" "_is_whole_body" sWhole f fd) (hMP : ∃ t, mg "MOST_PARTS" = some (.int 100 t)) (hMC : ∃ t, mg "MOST_CHAIN" = some (.int 30 t)) (st : Stays T)
    (GB : FnOk P w K mg base CX0 6 fB fdB ["body"] (spBody T)) (DB : Df K mg "_body_parts" ["body"] fB fdB) (GT : FnOk P w K mg base CX0 4 fT fdT ["term"] spTerm) (DT : Df K mg "_term_parts" ["term"] fT fdT) :
    FnOk P w K mg base CX0 7 f fd ["thing"] (spG T wholeB) := by
  obtain ⟨tp, hMP⟩ := hMP
  obtain ⟨tc, hMC⟩ := hMC
  refine F.ok (k := 6) c41 (fun vs H Q E h => ?_) (fun cdv A outer s H vs Q E hr h => ?_)
  · obtain ⟨x, d, rfl, _⟩ := h
    rfl
  · obtain ⟨x, d, rfl, en, hT, kq⟩ := h
    refine ⟨_, (pss_cons (ps_set (i := 1) c41.nd rfl (Or.inl rfl) pe_int) (pss_cons (ps_set (i := 2) c41.nd rfl (Or.inl rfl) (pe_lst (pa_cons (pe_tup (pa_cons (pv 0) (pa_cons pe_bl (pa_cons pe_int pa_nil)))) pa_nil))) (pss_cons (ps_while PassesOwn.never (pt_truth (pv 2) (fun _ => rfl)) (pss_cons (ps_asg (pe_bm0 PySem.F.plainAttrs_list PySem.F.slot_list_pop PySem.F.type_list_pop mt_pop (pv 2)) (pg_tup (by rfl) (pgs_cons (pg_name (i := 3) c41.nd rfl (Or.inl rfl)) (pgs_cons (pg_name (i := 4) c41.nd rfl (Or.inl rfl)) (pgs_cons (pg_name (i := 5) c41.nd rfl (Or.inr rfl)) pgs_nil))))) (C8.pss_cut (ps_set (i := 6) c41.nd rfl (Or.inl rfl) (pe_ifExp (pt_val (pv 4)) (pe_call GB hr (by rfl) DB.g DB.k DB.b .nil pass0 (pa_cons (pv 3) pa_nil)) (pe_call (GT.mono (by decide)) hr (by rfl) DT.g DT.k DT.b .nil pass0 (pa_cons (pv 3) pa_nil)))) (pss_cons (ps_if (pt_cmpR op_isN (pv 6) pe_non (nomark _)) (pss_one (ps_ret pe_bl)) pss_nil) (pss_cons (ps_asg (pv 6) (pg_tup (by rfl) (pgs_cons (pg_name (i := 7) c41.nd rfl (Or.inl rfl)) (pgs_cons (pg_name (i := 8) c41.nd rfl (Or.inl rfl)) (pgs_cons (pg_name (i := 9) c41.nd rfl (Or.inl rfl)) pgs_nil))))) (pss_cons (ps_aug (i := 1) c41.nd rfl (.inl rfl) (pe_op op_add pe_int (pv 7)) ip_add) (pss_cons (ps_if (PW.pt (pw_or (pt_cmpR op_gt (pv 1) (pe_glob (v := .int 100) (by rfl) hMP ⟨tp, rfl⟩) (nomark _)) (pw_or1 (pt_cmpR op_gt (pv 5) (pe_glob (v := .int 30) (by rfl) hMC ⟨tc, rfl⟩) (nomark _))))) (pss_one (ps_ret pe_bl)) pss_nil) (pss_cons (ps_expr (pe_bm PySem.F.plainAttrs_list PySem.F.slot_list_extend PySem.F.type_list_extend mt_extend (pv 2) (pa_cons (pe_lc (own := [("term", 10)]) (g := gName 10) (tt := tYes) (by rfl) c41.nd (pi_tup (pv 8)) (blkOk_by (own := [("term", 10)]) (N := ["thing", "found", "waiting", "part", "as_body", "depth", "inner", "names", "terms", "bodies", "term", "body"]) (sc := defScope sWhole) (by decide +kernel)) (fun _ _ _ _ _ => pg_name (i := 10) c41.nd rfl (Or.inl rfl)) (fun _ _ _ _ _ => pts_nil) (fun _ _ _ _ _ => pe_tup (pa_cons (pv 10) (pa_cons pe_bl (pa_cons (pe_op op_add (pv 5) pe_int) pa_nil))))) pa_nil))) (pss_one (ps_expr (pe_bm PySem.F.plainAttrs_list PySem.F.slot_list_extend PySem.F.type_list_extend mt_extend (pv 2) (pa_cons (pe_lc (own := [("body", 11)]) (g := gName 11) (tt := tYes) (by rfl) c41.nd (pi_tup (pv 9)) (blkOk_by (own := [("body", 11)]) (N := ["thing", "found", "waiting", "part", "as_body", "depth", "inner", "names", "terms", "bodies", "term", "body"]) (sc := defScope sWhole) (by decide +kernel)) (fun _ _ _ _ _ => pg_name (i := 11) c41.nd rfl (Or.inl rfl)) (fun _ _ _ _ _ => pts_nil) (fun _ _ _ _ _ => pe_tup (pa_cons (pv 11) (pa_cons pe_bl (pa_cons (pe_op op_add (pv 5) pe_int) pa_nil))))) pa_nil)))))))))))) (pss_one (ps_ret pe_bl))))), ?_⟩
    have en := EncB.here en
    generalize hB : (fun a => ∃ xs, H a = some (.lst xs)) = B at en
    have young : ∀ w, H w = none → ¬ B w := fun w hw z => by
      rw [← hB] at z
      obtain ⟨xs, z⟩ := z
      rw [hw] at z
      cases z
    refine ⟨_, rfl, by show 3 ≤ sizeLine; decide, fun t0 ht0 => ⟨by show 1 ≤ sizeLine; decide, fun wl hwl => ?_⟩⟩
    have gt0 : Grow H (upd H t0 (.tup [x, .bl true, .int 1])) := Grow.new ht0
    have gw0 : Grow (upd H t0 (.tup [x, .bl true, .int 1])) (upd (upd H t0 (.tup [x, .bl true, .int 1])) wl (.lst [.ref t0])) := Grow.new hwl
    have hwl0 : H wl = none := by
      by_cases z : wl = t0
      · rw [z, upd_same] at hwl; cases hwl
      · rw [upd_ne z] at hwl; exact hwl
    have nB := young wl hwl0
    dsimp only [gName]
    unfold tSeq
    refine while_by (fun σ' Hc => ∃ (ws : List It) (xs : List V) (found k : Nat) (v3 v4 v5 v6 v7 v8 v9 v10 v11 : Option V), σ' = [some x, some (.int (found : Nat)), some (.ref wl), v3, v4, v5, v6, v7, v8, v9, v10, v11] ∧ Hc wl = some (.lst xs) ∧ Grow H Hc ∧ ItsB B Hc ws xs ∧
      found ≤ 100 ∧ 102 ≤ k + found ∧ runW k ws found = wholeB d ∧ xs.length ≤ 1 + 14 * found) (fun (σ' : L2.St) _ => match σ'[1]? with | some (some (V.int f)) => (101 - f).toNat | _ => 0) ?_ ?_ ?_
    · refine ⟨[(d, true, 1)], [.ref t0], 0, 102, none, none, none, none, none, none, none, none, none, rfl, upd_same, gt0.trans gw0, .cons (gw0.tup upd_same) (en.grow (gt0.trans gw0)) .nil, Nat.zero_le _, Nat.le_refl _, rfl, by simp⟩
    · rintro σ' Hc ⟨ws, xs, found, k, v3, v4, v5, v6, v7, v8, v9, v10, v11, rfl, hw, gH, its, hf, hk, hrun, hlen⟩
      have hwt : ∀ ys, Hc wl ≠ some (.tup ys) := fun ys z => by rw [hw] at z; cases z
      obtain ⟨k, rfl⟩ : ∃ k', k = k' + 1 := ⟨k - 1, by omega⟩
      refine ⟨_, rfl, _, .inl ⟨xs, SqL.of hw, rfl⟩, ?_⟩
      cases hr0 : ws.reverse with
      | nil =>
        have e0 : ws = [] := List.reverse_eq_nil_iff.mp hr0
        subst e0
        cases its
        have q := kq Hc gH
        have er : wholeB d = true := by
          rw [← hrun]
          rfl
        rw [er] at q
        exact iteF q
      | cons i rest =>
        obtain ⟨d1, b1, n1⟩ := i
        have ews : ws = rest.reverse ++ [(d1, b1, n1)] := by
          rw [← List.reverse_reverse ws, hr0, List.reverse_cons]
        subst ews
        obtain ⟨xs0, t, y, rfl, its0, ht, ey⟩ := ItsB.last its
        have hne : (!(xs0 ++ [V.ref t]).isEmpty) = true := by cases xs0 <;> rfl
        rw [hne]
        refine iteT ⟨_, rfl, .inl ⟨rfl, _, SqL.of hw⟩, wl, _, V.ref t, rfl, rfl, hw, by simp, ?_⟩
        rw [List.dropLast_concat]
        have gu : GrowW wl Hc (upd Hc wl (.lst xs0)) := GrowW.upd
        refine ⟨t, _, rfl, SqT.of (gu.tup hwt ht), rfl, _, _, rfl, _, _, rfl, _, _, rfl, rfl, ?_⟩
        have its1 := its0.growW gu nB hwt
        have ey1 := ey.growW gu nB hwt
        have g1 := gH.but (o := .lst xs0) hwl0
        generalize hH1 : upd Hc wl (.lst xs0) = H1 at its1 ey1 g1
        have hw1 : H1 wl = some (.lst xs0) := by rw [← hH1]; exact upd_same
        have hT1 := st _ _ g1 hT
        refine ⟨fun σ2 H2 => ∃ v, σ2 = [some x, some (.int (found : Nat)), some (.ref wl), some y, some (.bl b1), some (.int (n1 : Nat)), some v, v7, v8, v9, v10, v11] ∧ Grow H1 H2 ∧ ((innerP d1 b1 = none ∧ v = .non) ∨ ∃ nm ts bs p q r us zs, innerP d1 b1 = some (nm, ts, bs) ∧ v = .ref p ∧
          H2 p = some (.tup [.int (nm : Nat), .ref q, .ref r]) ∧ H2 q = some (.tup us) ∧ EncsB B H2 ts us ∧ H2 r = some (.tup zs) ∧ EncsB B H2 bs zs), ?_, ?_⟩
        · refine ⟨_, rfl, _, rfl, ?_⟩
          cases b1 with
          | true =>
            have ei : innerP d1 true = bodyP d1 := if_pos rfl
            exact iteT ⟨_, rfl, B, _, d1, rfl, ey1, hT1, fun e0 H2 g2 => ⟨.non, rfl, g2, .inl ⟨ei.trans e0, rfl⟩⟩, fun nm ts bs es H2 p q r us zs g2 hp hq eq hr er => ⟨.ref p, rfl, g2, .inr ⟨nm, ts, bs, p, q, r, us, zs, ei.trans es, rfl, hp, hq, eq, hr, er⟩⟩⟩
          | false =>
            have ei : innerP d1 false = (termP d1).map fun l => (0, l, []) := if_neg (by decide)
            exact iteF ⟨_, rfl, B, _, d1, rfl, ey1, fun e0 H2 g2 => ⟨.non, rfl, g2, .inl ⟨ei.trans (by rw [e0]; rfl), rfl⟩⟩, fun l es H2 p q e us g2 hp hq eq he => ⟨.ref p, rfl, g2, .inr ⟨0, l, [], p, q, e, us, [], ei.trans (by rw [es]; rfl), rfl, hp, hq, eq, he, .nil⟩⟩⟩
        · rintro σ2 H2 ⟨v, rfl, g2, h⟩
          rcases h with ⟨ei, rfl⟩ | ⟨nm, ts, bs, p, q, r, us, zs, ei, rfl, hp, hq, eq, hr, er⟩
          · have er : wholeB d = false := by
              rw [← hrun, run_cons, ei]
            have q := kq H2 (g1.trans g2)
            rw [er] at q
            exact ⟨_, rfl, rfl, _, rfl, iteT q⟩
          · refine ⟨_, rfl, rfl, _, rfl, iteF ?_⟩
            refine ⟨_, rfl, p, _, rfl, SqT.of hp, rfl, _, _, rfl, _, _, rfl, _, _, rfl, rfl, ?_⟩
            refine ⟨_, rfl, _, rfl, _, _, rfl, rfl, ?_⟩
            refine ⟨_, _, rfl, rfl, ?_⟩
            have q0 := kq H2 (g1.trans g2)
            have hil := inner_len ei
            by_cases c1 : (100 : Int) < (found : Int) + (1 + (nm : Int))
            · have er0 : wholeB d = false := by
                rw [← hrun, run_cons, ei]
                show (if 100 < found + (1 + nm) ∨ 30 < n1 then false else _) = false
                rw [if_pos (by omega)]
              rw [er0] at q0
              exact ⟨_, rfl, _, _, rfl, rfl, _, rfl, ifT c1 (iteT q0)⟩
            · refine ⟨_, rfl, _, _, rfl, rfl, _, rfl, ifF c1 ⟨_, rfl, _, _, rfl, rfl, _, rfl, ?_⟩⟩
              by_cases c2 : (30 : Int) < (n1 : Int)
              · have er0 : wholeB d = false := by
                  rw [← hrun, run_cons, ei]
                  show (if 100 < found + (1 + nm) ∨ 30 < n1 then false else _) = false
                  rw [if_pos (by omega)]
                rw [er0] at q0
                rw [decide_eq_true c2]
                exact iteT q0
              · rw [decide_eq_false c2]
                refine iteF ?_
                have hw2 := g2.lst hw1
                refine ⟨_, rfl, .inl ⟨rfl, _, SqL.of hw2⟩, _, rfl, q, rfl, ⟨us, SqT.of hq⟩, fun D1 hD1 => ?_⟩
                have nD1 := young D1 (Grow.none (g1.trans g2) hD1)
                have neD1 : wl ≠ D1 := fun z => by rw [← z, hw2] at hD1; cases hD1
                refine lc_tup (xs := us) (fun i Hc => ∃ acc, Hc D1 = some (.lst acc) ∧ ItsB B Hc ((ts.take i).map fun d => (d, false, n1 + 1)) acc ∧ acc.length = i ∧ Grow H2 Hc) ⟨[], upd_same, .nil, rfl, Grow.new hD1⟩ (fun i Hc _ hp => SqT.of (hp.choose_spec.2.2.2.tup hq)) (fun i z Hc hz hp => ?_) (fun Hd1 hp => ?_)
                · obtain ⟨acc, hacc, its, hl, gc⟩ := hp
                  obtain ⟨d2, hd2, en2⟩ := (eq.grow gc).get hz
                  refine ⟨wipe_set, ?_⟩
                  unfold tYes
                  refine iteT ⟨_, rfl, _, rfl, _, _, rfl, rfl, (by show 3 ≤ sizeLine; decide), fun t2 ht2 => ⟨acc, (Grow.new ht2).lst hacc, ?_, acc ++ [.ref t2], upd_same, ?_, ?_, ?_⟩⟩
                  · have h1 : i < us.length := (List.getElem?_eq_some_iff.mp hz).1
                    have h2 := eq.length
                    rw [hl, sizeLine_eq]
                    omega
                  · rw [take_map hd2]
                    exact its_step hacc its en2 ht2 nD1
                  · rw [List.length_append, List.length_singleton, hl]
                  · exact (gc.trans (Grow.new ht2)).but hD1
                · obtain ⟨acc1, hacc1, itsD1, hlD1, gD1⟩ := hp
                  have itsD1 : ItsB B Hd1 (ts.map fun d => (d, false, n1 + 1)) acc1 := by
                    have e := itsD1
                    rw [← eq.length, List.take_length] at e
                    exact e
                  have hw2' := gD1.lst hw2
                  have lenD1 : acc1.length ≤ 6 := by rw [hlD1, ← eq.length]; omega
                  refine ⟨wl, D1, xs0, acc1, rfl, rfl, hw2', hacc1, by rw [sizeLine_eq]; simp only [List.length_append] at hlen ⊢; omega, ?_⟩
                  have gu2 : GrowW wl Hd1 (upd Hd1 wl (.lst (xs0 ++ acc1))) := GrowW.upd
                  have hw2t : ∀ ys, Hd1 wl ≠ some (.tup ys) := fun ys z => by rw [hw2'] at z; cases z
                  have hr4 := gu2.tup hw2t (gD1.tup hr)
                  have er4 := (er.grow gD1).growW gu2 nB hw2t
                  have hw3 : (upd Hd1 wl (.lst (xs0 ++ acc1))) wl = some (.lst (xs0 ++ acc1)) := upd_same
                  have hH4 : upd Hd1 wl (.lst (xs0 ++ acc1)) = upd Hd1 wl (.lst (xs0 ++ acc1)) := rfl
                  refine ⟨_, rfl, .inl ⟨rfl, _, SqL.of hw3⟩, _, rfl, r, rfl, ⟨zs, SqT.of hr4⟩, fun D2 hD2 => ?_⟩
                  have nD2 := young D2 (Grow.none (((g1.trans g2).trans gD1).but hwl0) hD2)
                  have neD2 : wl ≠ D2 := fun z => by rw [← z, hw3] at hD2; cases hD2
                  refine lc_tup (xs := zs) (fun i Hc => ∃ acc, Hc D2 = some (.lst acc) ∧ ItsB B Hc ((bs.take i).map fun d => (d, true, n1 + 1)) acc ∧ acc.length = i ∧ Grow (upd Hd1 wl (.lst (xs0 ++ acc1))) Hc) ⟨[], upd_same, .nil, rfl, Grow.new hD2⟩ (fun i Hc _ hp => SqT.of (hp.choose_spec.2.2.2.tup hr4)) (fun i z Hc hz hp => ?_) (fun Hd2 hp => ?_)
                  · obtain ⟨acc, hacc, its, hl, gc⟩ := hp
                    obtain ⟨d2, hd2, en2⟩ := (er4.grow gc).get hz
                    refine ⟨wipe_set, ?_⟩
                    unfold tYes
                    refine iteT ⟨_, rfl, _, rfl, _, _, rfl, rfl, (by show 3 ≤ sizeLine; decide), fun t2 ht2 => ⟨acc, (Grow.new ht2).lst hacc, ?_, acc ++ [.ref t2], upd_same, ?_, ?_, ?_⟩⟩
                    · have h1 : i < zs.length := (List.getElem?_eq_some_iff.mp hz).1
                      have h2 := er4.length
                      rw [hl, sizeLine_eq]
                      omega
                    · rw [take_map hd2]
                      exact its_step hacc its en2 ht2 nD2
                    · rw [List.length_append, List.length_singleton, hl]
                    · exact (gc.trans (Grow.new ht2)).but hD2
                  · obtain ⟨acc2, hacc2, itsD2, hlD2, gD2⟩ := hp
                    have itsD2 : ItsB B Hd2 (bs.map fun d => (d, true, n1 + 1)) acc2 := by
                      have e := itsD2
                      rw [← er4.length, List.take_length] at e
                      exact e
                    have hw3' := gD2.lst hw3
                    have lenD2 : acc2.length ≤ 8 := by rw [hlD2, ← er4.length]; omega
                    refine ⟨wl, D2, (xs0 ++ acc1), acc2, rfl, rfl, hw3', hacc2, by rw [sizeLine_eq]; simp only [List.length_append] at hlen ⊢; omega, ?_⟩
                    have hw5t : ∀ ys, Hd2 wl ≠ some (.tup ys) := fun ys z => by rw [hw3'] at z; cases z
                    have gu3 : GrowW wl Hd2 (upd Hd2 wl (.lst (xs0 ++ acc1 ++ acc2))) := GrowW.upd
                    refine ⟨⟨rest.reverse ++ next n1 ts bs, xs0 ++ acc1 ++ acc2, found + (1 + nm), k, _, _, _, _, _, _, _, _, _, rfl, upd_same, ?_, ?_, by omega, by omega, ?_, ?_⟩, ?_⟩
                    · exact Grow.but (((g1.trans g2).trans gD1).but hwl0 |>.trans gD2) hwl0
                    · have i0 := (((its1.grow g2).grow gD1).growW GrowW.upd nB (fun ys z => by rw [hw2'] at z; cases z)).grow gD2
                      have i1 := (itsD1.growW GrowW.upd nB (fun ys z => by rw [hw2'] at z; cases z)).grow gD2
                      unfold next
                      rw [← List.append_assoc]
                      exact ((i0.app i1).app itsD2).growW gu3 nB hw5t
                    · rw [← hrun, run_cons, ei]
                      show _ = if 100 < found + (1 + nm) ∨ 30 < n1 then false else _
                      rw [if_neg (by omega)]
                    · simp only [List.length_append] at hlen ⊢
                      omega
                    · show (101 - ((found : Int) + (1 + (nm : Int)))).toNat < (101 - (found : Int)).toNat
                      omega
    · rintro σ3 H3 Q1 Q2 hqq ⟨v, e, k, tv, q⟩
      exact ⟨v, e, k, tv, hqq _ _ q⟩

end
end J1
set_option Elab.async false
set_option linter.all false
set_option maxRecDepth 100000
set_option maxHeartbeats 4000000
namespace J1
open PySem PySem.Spec PyProof.Rows L2 GxR GA
abbrev sProg : Stmt := top 37
abbrev sFunc : Stmt := top 39
theorem c37 : FnScope ["thing", "function"] ["thing"] (defScope sProg) := ⟨rfl, rfl, rfl, by decide +kernel, rfl, by decide +kernel, by decide +kernel⟩
theorem c39 : FnScope ["thing", "name", "params", "result", "body", "param"] ["thing"] (defScope sFunc) := ⟨rfl, rfl, rfl, by decide +kernel, rfl, by decide +kernel, by decide +kernel⟩
def isFunc : Da → Bool
  | .tup [n, ps, r, b] => isLow n && (isTu 0 6 ps && (isKin r && (partsAll isParam ps && wholeB b)))
  | _ => false
def isProg : Da → Bool
  | .tup [k, fs] => areKinds k && (isTu 0 12 fs && partsAll isFunc fs)
  | _ => false
theorem tu4 {d : Da} (h : isTu 4 4 d = true) : ∃ x y z u, d = .tup [x, y, z, u] := by
  cases d with
  | tup l =>
    have h : (decide ((4 : Int) ≤ (l.length : Int)) && decide ((l.length : Int) ≤ 4)) = true := h
    rw [Bool.and_eq_true] at h
    have h1 := of_decide_eq_true h.1
    have h2 := of_decide_eq_true h.2
    have e : l.length = 4 := by omega
    match l, e with
    | [x, y, z, u], _ => exact ⟨x, y, z, u, rfl⟩
  | _ => cases h
theorem encs4 {B : Addr → Prop} {H : Hp} {d1 d2 d3 d4 : Da} {xs : List V} (h : EncsB B H [d1, d2, d3, d4] xs) : ∃ x1 x2 x3 x4, xs = [x1, x2, x3, x4] ∧ EncB B H d1 x1 ∧ EncB B H d2 x2 ∧ EncB B H d3 x3 ∧ EncB B H d4 x4 := by
  cases h with
  | cons h1 t =>
    obtain ⟨x2, x3, x4, rfl, h2, h3, h4⟩ := encs3 t
    exact ⟨_, x2, x3, x4, rfl, h1, h2, h3, h4⟩
section
variable {P : Program} {w : World} {K : PySem.W.Frag} {mg : Str → Option Value} {base : Heap}
theorem ok_func {f fT fL fK fP fW c PT : Addr} {fd fdT fdL fdK fdP fdW : FuncData} {T TW : Hp → Prop} (F : FunC K "_is_function" "_is_function" sFunc f fd c) (N : Gn K mg) (hMP : ∃ t, mg "MOST_PARAMS" = some (.int 6 t)) (TB : TabB base mg c PT) (st : Stays T) (hTP : ∀ H, T H → TabG H PT) (hTW : ∀ H, T H → TW H)
    (GT : FnOk P w K mg base CX0 1 fT fdT ["thing", "least", "most"] (spF3 isTu)) (DT : Df K mg "is_tuple" ["thing", "least", "most"] fT fdT) (GL : FnOk P w K mg base CX0 2 fL fdL ["thing"] (spF isLow)) (DL : Df K mg "is_low" ["thing"] fL fdL)
    (GK : FnOk P w K mg base CX0 3 fK fdK ["thing"] (spF isKin)) (DK : Df K mg "is_kind" ["thing"] fK fdK) (GP : FnOk P w K mg base CX0 4 fP fdP ["thing"] (spF isParam)) (DP : Df K mg "_is_param" ["thing"] fP fdP)
    (GW : FnOk P w K mg base CX0 7 fW fdW ["thing"] (spG TW wholeB)) (DW : Df K mg "_is_whole_body" ["thing"] fW fdW) : FnOk P w K mg base CX0 8 f fd ["thing"] (spG T isFunc) := by
  obtain ⟨tp, hMP⟩ := hMP
  refine F.ok (k := 7) c39 (fun vs H Q E h => ?_) (fun A outer s H vs Q E hr h => ?_)
  · obtain ⟨x, d, rfl, _⟩ := h
    rfl
  · obtain ⟨x, d, rfl, en, hT, k⟩ := h
    refine ⟨_, (pss_cons (ps_if (pt_not (pt_val (pe_call (GT.mono (by decide)) hr (by rfl) DT.g DT.k DT.b .nil pass0 (pa_cons (pv 0) (pa_cons pe_int (pa_cons pe_int pa_nil)))))) (pss_one (ps_ret pe_bl)) pss_nil) (pss_cons (ps_asg (pv 0) (pg_tup (by rfl) (pgs_cons (pg_name (i := 1) c39.nd rfl (Or.inl rfl)) (pgs_cons (pg_name (i := 2) c39.nd rfl (Or.inl rfl)) (pgs_cons (pg_name (i := 3) c39.nd rfl (Or.inl rfl)) (pgs_cons (pg_name (i := 4) c39.nd rfl (Or.inl rfl)) pgs_nil)))))) (pss_cons (ps_if (PW.pt (pw_or (pt_not (pt_val (pe_call (GL.mono (by decide)) hr (by rfl) DL.g DL.k DL.b .nil pass0 (pa_cons (pv 1) pa_nil)))) (pw_or (pt_not (pt_val (pe_call (GT.mono (by decide)) hr (by rfl) DT.g DT.k DT.b .nil pass0 (pa_cons (pv 2) (pa_cons pe_int (pa_cons (pe_glob (v := .int 6) (by rfl) hMP ⟨tp, rfl⟩) pa_nil)))))) (pw_or1 (pt_not (pt_val (pe_call (GK.mono (by decide)) hr (by rfl) DK.g DK.k DK.b .nil pass0 (pa_cons (pv 3) pa_nil)))))))) (pss_one (ps_ret pe_bl)) pss_nil) (pss_one (ps_ret (pe_and (pe_allG (k := 6) (own := [("param", 5)]) hr rfl (by rfl) N.na c39.nd TB rfl ⟨rfl, by decide +kernel, rfl⟩ (blkOk_by (by show blkC ["thing", "name", "params", "result", "body", "param"] (defScope sFunc) _ [("param", 5)] = true; decide +kernel)) (pi_tup (pv 2)) (fun _ _ _ _ _ _ _ => pg_name c39.nd (i := 5) rfl (.inl rfl)) (fun _ _ _ _ _ _ _ => pts_nil) (fun _ _ _ _ _ _ hr' => pe_call (GP.mono (by decide)) hr' (by rfl) DP.g DP.k DP.b .nil pass0 (pa_cons (pv 5) pa_nil))) (pe_one (pe_call GW hr (by rfl) DW.g DW.k DW.b .nil pass0 (pa_cons (pv 4) pa_nil))))))))), ?_⟩
    refine ⟨_, rfl, _, d, _, _, rfl, en, _, rfl, ?_⟩
    cases e4 : isTu 4 4 d with
    | false =>
      have em : isFunc d = false := by
        unfold isFunc
        split
        · cases e4
        · rfl
      have q := k H (Grow.refl H)
      rw [em] at q
      exact iteT q
    | true =>
      obtain ⟨d1, d2, d3, d4, rfl⟩ := tu4 e4
      obtain ⟨a, xs, rfl, ha, el⟩ := enc_tup en
      obtain ⟨x1, x2, x3, x4, rfl, h1, h2, h3, h4⟩ := encs4 el
      have em : isFunc (.tup [d1, d2, d3, d4]) = (isLow d1 && (isTu 0 6 d2 && (isKin d3 && (partsAll isParam d2 && wholeB d4)))) := rfl
      refine iteF ⟨_, rfl, a, _, rfl, SqT.of ha, rfl, _, _, rfl, _, _, rfl, _, _, rfl, _, _, rfl, rfl, ?_⟩
      refine ⟨_, rfl, _, d1, rfl, h1, _, rfl, ?_⟩
      cases f1 : isLow d1 with
      | false =>
        have q := k H (Grow.refl H)
        rw [em, f1, Bool.false_and] at q
        exact iteT q
      | true =>
        refine iteF ⟨_, rfl, _, d2, _, _, rfl, h2, _, rfl, ?_⟩
        cases f2 : isTu 0 6 d2 with
        | false =>
          have q := k H (Grow.refl H)
          rw [em, f1, f2, Bool.true_and, Bool.false_and] at q
          exact iteT q
        | true =>
          refine iteF ⟨_, rfl, _, d3, rfl, h3, _, rfl, ?_⟩
          cases f3 : isKin d3 with
          | false =>
            have q := k H (Grow.refl H)
            rw [em, f1, f2, f3, Bool.true_and, Bool.true_and, Bool.false_and] at q
            exact iteT q
          | true =>
            have em2 : isFunc (.tup [d1, d2, d3, d4]) = (partsAll isParam d2 && wholeB d4) := by rw [em, f1, f2, f3, Bool.true_and, Bool.true_and, Bool.true_and]
            rw [em2] at k
            cases h2 with
            | @tup b fs l hb ef =>
              refine iteF ⟨_, rfl, b, rfl, ⟨fs, SqT.of hb⟩, ?_⟩
              show _ ∧ _
              refine rd_allS (T := T) (gj := isParam) hb ef st hT (hTP H hT) (fun x d H R en _ kk => ⟨_, rfl, _, d, rfl, en, kk H (Grow.refl H)⟩) (fun _ _ h => h) (fun H2 g => ?_)
              have k : ∀ H', Grow H H' → Q (.bl (l.all isParam && wholeB d4)) H' := k
              refine ⟨_, rfl, ?_⟩
              cases f5 : l.all isParam with
              | false =>
                have q := k H2 g
                rw [f5, Bool.false_and] at q
                exact iteF q
              | true =>
                refine iteT ⟨_, rfl, _, d4, rfl, h4.grow g, hTW _ (st _ _ g hT), fun H' g' => ?_⟩
                have q := k H' (g.trans g')
                rw [f5, Bool.true_and] at q
                exact q
            | _ => cases f2
theorem ok_prog {f fT fK fF c PT : Addr} {fd fdT fdK fdF : FuncData} {T TK TF : Hp → Prop} (F : FunC K "is_program" "is_program" sProg f fd c) (N : Gn K mg) (hMF : ∃ t, mg "MOST_FUNCTIONS" = some (.int 12 t)) (TB : TabB base mg c PT) (st : Stays T) (hTP : ∀ H, T H → TabG H PT) (hTK : ∀ H, T H → TK H) (hTF : ∀ H, T H → TF H)
    (GT : FnOk P w K mg base CX0 1 fT fdT ["thing", "least", "most"] (spF3 isTu)) (DT : Df K mg "is_tuple" ["thing", "least", "most"] fT fdT)
    (GK : FnOk P w K mg base CX0 9 fK fdK ["thing"] (spG TK areKinds)) (DK : Df K mg "are_kinds" ["thing"] fK fdK) (GF : FnOk P w K mg base CX0 8 fF fdF ["thing"] (spG TF isFunc)) (DF : Df K mg "_is_function" ["thing"] fF fdF) : FnOk P w K mg base CX0 11 f fd ["thing"] (spG T isProg) := by
  obtain ⟨tp, hMF⟩ := hMF
  refine F.ok (k := 10) c37 (fun vs H Q E h => ?_) (fun A outer s H vs Q E hr h => ?_)
  · obtain ⟨x, d, rfl, _⟩ := h
    rfl
  · obtain ⟨x, d, rfl, en, hT, k⟩ := h
    refine ⟨_, (pss_cons (ps_if (PW.pt (pw_or (pt_not (pt_val (pe_call (GT.mono (by decide)) hr (by rfl) DT.g DT.k DT.b .nil pass0 (pa_cons (pv 0) (pa_cons pe_int (pa_cons pe_int pa_nil)))))) (pw_or1 (pt_not (pt_val (pe_call (GK.mono (by decide)) hr (by rfl) DK.g DK.k DK.b .nil pass0 (pa_cons (pe_ix ix_tup (pv 0) pe_int (fun _ _ => rfl)) pa_nil))))))) (pss_one (ps_ret pe_bl)) pss_nil) (pss_one (ps_ret (pe_and (pe_call (GT.mono (by decide)) hr (by rfl) DT.g DT.k DT.b .nil pass0 (pa_cons (pe_ix ix_tup (pv 0) pe_int (fun _ _ => rfl)) (pa_cons pe_int (pa_cons (pe_glob (v := .int 12) (by rfl) hMF ⟨tp, rfl⟩) pa_nil)))) (pe_one (pe_allG (k := 9) (own := [("function", 1)]) hr rfl (by rfl) N.na c37.nd TB rfl ⟨rfl, by decide +kernel, rfl⟩ (blkOk_by (by show blkC ["thing", "function"] (defScope sProg) _ [("function", 1)] = true; decide +kernel)) (pi_tup (pe_ix ix_tup (pv 0) pe_int (fun _ _ => rfl))) (fun _ _ _ _ _ _ _ => pg_name c37.nd (i := 1) rfl (.inl rfl)) (fun _ _ _ _ _ _ _ => pts_nil) (fun _ _ _ _ _ _ hr' => pe_call (GF.mono (by decide)) hr' (by rfl) DF.g DF.k DF.b .nil pass0 (pa_cons (pv 1) pa_nil)))))))), ?_⟩
    refine ⟨_, rfl, _, d, _, _, rfl, en, _, rfl, ?_⟩
    cases e4 : isTu 2 2 d with
    | false =>
      have em : isProg d = false := by
        unfold isProg
        split
        · cases e4
        · rfl
      have q := k H (Grow.refl H)
      rw [em] at q
      exact iteT q
    | true =>
      obtain ⟨d1, d2, rfl⟩ := tu2 e4
      obtain ⟨a, xs, rfl, ha, el⟩ := enc_tup en
      obtain ⟨x1, x2, rfl, h1, h2⟩ := encs2 el
      have g0 : atI [x1, x2] 0 = some x1 := at_of (j := 0) rfl rfl
      have g1 : atI [x1, x2] 1 = some x2 := at_of (j := 1) rfl rfl
      have em : isProg (.tup [d1, d2]) = (areKinds d1 && (isTu 0 12 d2 && partsAll isFunc d2)) := rfl
      refine iteF ⟨_, rfl, a, _, _, _, rfl, rfl, SqT.of ha, g0, _, d1, rfl, h1, hTK _ hT, fun H1 gr1 => ⟨_, rfl, ?_⟩⟩
      cases f1 : areKinds d1 with
      | false =>
        have q := k H1 gr1
        rw [em, f1, Bool.false_and] at q
        exact iteT q
      | true =>
        rw [em, f1, Bool.true_and] at k
        have h2 := h2.grow gr1
        refine iteF ⟨_, rfl, a, _, _, _, rfl, rfl, SqT.of (gr1.tup ha), g1, _, d2, _, _, rfl, h2, _, rfl, ?_⟩
        cases f2 : isTu 0 12 d2 with
        | false =>
          have q := k H1 gr1
          rw [f2, Bool.false_and] at q
          exact iteF q
        | true =>
          rw [f2, Bool.true_and] at k
          have hT1 := st _ _ gr1 hT
          cases h2 with
          | @tup b fs l hb ef =>
            exact iteT ⟨_, rfl, a, _, _, _, rfl, rfl, SqT.of (gr1.tup ha), g1, b, rfl, ⟨fs, SqT.of hb⟩, rd_all (T := T) (gj := isFunc) hb ef st hT1 (hTP _ hT1) (fun x d H R en hT' kk => ⟨_, rfl, _, d, rfl, en, hTF H hT', kk⟩) fun H' g => k H' (gr1.trans g)⟩
          | _ => cases f2
end
end J1
set_option Elab.async false
set_option linter.all false
set_option maxRecDepth 100000
set_option maxHeartbeats 4000000
namespace J1
open PySem PySem.Spec PyProof.Rows L2 GxR GA
/-! ### the law's own judge tells the same: signs -/
def smallL : List Nat := ("abcdefghijklmnopqrstuvwxyz" : Str).cps.toList
def largeL : List Nat := ("ABCDEFGHIJKLMNOPQRSTUVWXYZ" : Str).cps.toList
def signL : List Nat := (("abcdefghijklmnopqrstuvwxyz" : Str) ++ ("ABCDEFGHIJKLMNOPQRSTUVWXYZ" : Str) ++ ("0123456789" : Str)).cps.toList
theorem sign_ascii : ∀ c : Fin 128, (Unicode.isAlnum c.val) = signL.contains c.val := by decide +kernel
theorem low_ascii : ∀ c : Fin 128, (Txt.isalpha ⟨#[c.val]⟩ && Txt.islower ⟨#[c.val]⟩) = smallL.contains c.val := by decide +kernel
theorem hig_ascii : ∀ c : Fin 128, (Txt.isalpha ⟨#[c.val]⟩ && Txt.isupper ⟨#[c.val]⟩) = largeL.contains c.val := by decide +kernel
theorem sign_lt : ∀ c ∈ signL, c < 128 := by decide +kernel
theorem sign_of (c : Nat) : (decide (c < 128) && Unicode.isAlnum c) = signL.contains c := by
  by_cases h : c < 128
  · rw [decide_eq_true h, Bool.true_and]
    exact sign_ascii ⟨c, h⟩
  · rw [decide_eq_false h, Bool.false_and]
    cases e : signL.contains c with
    | false => rfl
    | true => exact absurd (sign_lt c (List.contains_iff_mem.mp e)) h
theorem ascii_alnum {s : Str} (h : 1 ≤ (s.length : Int)) : (Txt.isascii s && Txt.isalnum s) = s.cps.toList.all signL.contains := by
  have hl : decide (s.length > 0) = true := decide_eq_true (by omega)
  unfold Txt.isascii Txt.isalnum
  rw [hl, Bool.true_and, ← Array.all_toList, ← Array.all_toList, Bool.eq_iff_iff, Bool.and_eq_true, List.all_eq_true, List.all_eq_true, List.all_eq_true]
  constructor
  · rintro ⟨h1, h2⟩ c hc
    rw [← sign_of, h2 c hc, Bool.and_true]
    exact h1 c hc
  · intro hh
    refine ⟨fun c hc => ?_, fun c hc => ?_⟩
    · have q := hh c hc
      rw [← sign_of, Bool.and_eq_true] at q
      exact q.1
    · have q := hh c hc
      rw [← sign_of, Bool.and_eq_true] at q
      exact q.2
theorem head_mem {s : Str} (h : 1 ≤ (s.length : Int)) : s.cps.toList.headD 0 ∈ s.cps.toList := by
  have hl : 1 ≤ s.cps.toList.length := by
    have e : s.cps.toList.length = s.length := by rw [Array.length_toList]; rfl
    omega
  match e : s.cps.toList, hl with
  | [], hl => exact absurd hl (by decide)
  | c :: r, _ => exact List.mem_cons_self
/-- a name by the law's own judge -/
def lawNam (cap : Bool) (s : Str) : Bool := decide (1 ≤ (s.length : Int)) && (decide ((s.length : Int) ≤ 10) && (!inV (.str s) (wordsL.map V.str) && ((if cap = true then largeL else smallL).contains (s.cps.toList.headD 0) && s.cps.toList.all signL.contains)))
theorem lawNam_eq (cap : Bool) (s : Str) : lawNam cap s = (isNamS s && (if cap = true then Txt.isupper (head1 s) else Txt.islower (head1 s))) := by
  unfold lawNam isNamS
  by_cases h : 1 ≤ (s.length : Int)
  · rw [decide_eq_true h, Bool.true_and, Bool.true_and, Bool.and_assoc]
    congr 1
    rw [← Bool.and_assoc (Txt.isascii s), ascii_alnum h]
    cases ha : s.cps.toList.all signL.contains with
    | false => simp
    | true =>
      have hc : s.cps.toList.headD 0 < 128 := sign_lt _ (List.contains_iff_mem.mp (List.all_eq_true.mp ha _ (head_mem h)))
      have e1 : (Txt.isalpha (head1 s) && Txt.islower (head1 s)) = smallL.contains (s.cps.toList.headD 0) := low_ascii ⟨_, hc⟩
      have e2 : (Txt.isalpha (head1 s) && Txt.isupper (head1 s)) = largeL.contains (s.cps.toList.headD 0) := hig_ascii ⟨_, hc⟩
      cases cap with
      | true =>
        simp only [if_true, Bool.true_and, Bool.and_true]
        rw [← e2]
        cases Txt.isalpha (head1 s) <;> cases Txt.isupper (head1 s) <;> cases inV (.str s) (wordsL.map V.str) <;> rfl
      | false =>
        simp only [Bool.false_eq_true, if_false, Bool.true_and, Bool.and_true]
        rw [← e1]
        cases Txt.isalpha (head1 s) <;> cases Txt.islower (head1 s) <;> cases inV (.str s) (wordsL.map V.str) <;> rfl
  · rw [decide_eq_false h, Bool.false_and, Bool.false_and, Bool.false_and]
end J1
set_option Elab.async false
set_option linter.all false
set_option maxRecDepth 100000
set_option maxHeartbeats 4000000
namespace J1
open PySem PySem.Spec PyProof.Rows L2 GxR GA
abbrev lInt : Stmt := top 56
abbrev lTup : Stmt := top 57
abbrev lNam : Stmt := top 58
abbrev lKin : Stmt := top 59
theorem c56 : FnScope ["_law_x", "_law_low", "_law_high"] ["_law_x", "_law_low", "_law_high"] (defScope lInt) := ⟨rfl, rfl, rfl, by decide +kernel, rfl, by decide +kernel, by decide +kernel⟩
theorem c57 : FnScope ["_law_x", "_law_low", "_law_high"] ["_law_x", "_law_low", "_law_high"] (defScope lTup) := ⟨rfl, rfl, rfl, by decide +kernel, rfl, by decide +kernel, by decide +kernel⟩
theorem c58 : FnScope ["_law_x", "_law_capital", "_law_small", "_law_large", "_law_sign"] ["_law_x", "_law_capital"] (defScope lNam) := ⟨rfl, rfl, rfl, by decide +kernel, rfl, by decide +kernel, by decide +kernel⟩
theorem c59 : FnScope ["_law_x"] ["_law_x"] (defScope lKin) := ⟨rfl, rfl, rfl, by decide +kernel, rfl, by decide +kernel, by decide +kernel⟩
/-- [e for c in s if ..] over a text -/
theorem lc_text {x : Str} {g : TG} {tt : TT} {te : TE} {vs : List Nat} {σ : L2.St} {H1 : Hp} {D : Addr} {Qd : Hp → Prop} (Pv : Nat → Hp → Prop) (h0 : Pv 0 (upd H1 D (.lst [])))
    (hs : ∀ i c H, x.cps[i]? = some c → Pv i H → g (.str ⟨#[c]⟩) (wipe σ vs) H fun σ2 H2 => wipe σ2 vs = wipe σ vs ∧ tt σ2 H2 fun b H3 => if b = true then te σ2 H3 fun y H4 => ∃ acc, H4 D = some (.lst acc) ∧ acc.length < sizeLine ∧ Pv (i + 1) (upd H4 D (.lst (acc ++ [y]))) else Pv (i + 1) H3) (hd : ∀ H, Pv x.cps.size H → Qd H) :
    ∃ W : Nat → Nat → Hp → Prop, (∃ m, W 0 m (upd H1 D (.lst []))) ∧ ∀ i m H, W i m H → ((Its x).stop i H ∧ Qd H) ∨ ((Its x).go i H ∧ ∃ Nx : Hp → Prop, (∀ H', Nx H' → ∃ m', m' < m ∧ W (i + 1) m' H') ∧ ∀ z H', (Its x).yld i H z H' → g z (wipe σ vs) H' fun σ2 H2 => wipe σ2 vs = wipe σ vs ∧ tt σ2 H2 fun b H3 =>
      if b = true then te σ2 H3 fun y H4 => ∃ acc, H4 D = some (.lst acc) ∧ acc.length < sizeLine ∧ Nx (upd H4 D (.lst (acc ++ [y]))) else Nx H3) := by
  refine ⟨fun i m H => m = x.cps.size - i ∧ i ≤ x.cps.size ∧ Pv i H, ⟨x.cps.size, by simp, Nat.zero_le _, h0⟩, ?_⟩
  rintro i m H ⟨rfl, hi, p⟩
  by_cases hlt : i < x.cps.size
  · refine .inr ⟨hlt, Pv (i + 1), fun H' p' => ⟨x.cps.size - (i + 1), by omega, rfl, hlt, p'⟩, ?_⟩
    rintro z H' ⟨rfl, c, hc, rfl⟩
    exact hs i c _ hc p
  · have e : i = x.cps.size := by omega
    subst e
    exact .inl ⟨Nat.le_refl _, hd H p⟩
theorem con_dec {l : List Nat} {c : Nat} : decide (c ∈ l) = l.contains c := by
  rw [Bool.eq_iff_iff, decide_eq_true_iff, List.contains_iff_mem]
def str1 (c : Nat) : V := .str ⟨#[c]⟩
def badOf (l : List Nat) : List Nat := l.filter fun c => !signL.contains c
theorem dp_strs {K : PySem.W.Frag} {H : Hp} : ∀ l : List Nat, DpAll K H (l.map str1) (l.map fun c => PyData.str ⟨#[c]⟩)
  | [] => .nil
  | c :: r => .cons (.str _) (dp_strs r)
theorem shp_strs {l : List Nat} (h : ∀ c ∈ l, c < 1114112) : SeqAt.shaped (.list (l.map fun c => PyData.str ⟨#[c]⟩)) = true := by
  have e1 : ∀ l : List Nat, (∀ c ∈ l, c < 1114112) → PyData.canLayAll0 (l.map fun c => PyData.str ⟨#[c]⟩) = true := fun l => by
    induction l with
    | nil => intro _; rfl
    | cons c r ih =>
      intro h
      have hc := h c List.mem_cons_self
      have q := ih fun c hc => h c (List.mem_cons_of_mem _ hc)
      have e : PyData.canLay0 (.str ⟨#[c]⟩) = true := by
        show (#[c] : Array Nat).all (fun d => decide (d < 1114112)) = true
        simp [hc]
      show (PyData.canLay0 (.str ⟨#[c]⟩) && PyData.canLayAll0 (r.map fun c => PyData.str ⟨#[c]⟩)) = true
      rw [e, q]
      rfl
  have e2 : ∀ l : List Nat, PyData.depthAll (l.map fun c => PyData.str ⟨#[c]⟩) = 0 := fun l => by
    induction l with
    | nil => rfl
    | cons c r ih =>
      show max 0 (PyData.depthAll (r.map fun c => PyData.str ⟨#[c]⟩)) = 0
      rw [ih]
      rfl
  show (PyData.canLayAll0 (l.map fun c => PyData.str ⟨#[c]⟩) && decide (PyData.depthAll (l.map fun c => PyData.str ⟨#[c]⟩) + 1 ≤ 64)) = true
  rw [e1 l h, e2]
  rfl
theorem eqv_nil : ∀ l : List Nat, PyData.eqv (.list (l.map fun c => PyData.str ⟨#[c]⟩)) (.list []) = l.isEmpty
  | [] => rfl
  | c :: r => rfl
theorem bad_empty (l : List Nat) : (badOf l).isEmpty = l.all signL.contains := by
  unfold badOf
  rw [Bool.eq_iff_iff, List.isEmpty_iff, List.filter_eq_nil_iff, List.all_eq_true]
  constructor
  · intro h c hc
    have := h c hc
    simpa using this
  · intro h c hc
    rw [h c hc]
    simp
theorem bad_take {s : Str} {i c : Nat} (h : s.cps[i]? = some c) : badOf (s.cps.toList.take (i + 1)) = badOf (s.cps.toList.take i) ++ (if signL.contains c = true then [] else [c]) := by
  have e : s.cps.toList[i]? = some c := by rw [Array.getElem?_toList]; exact h
  unfold badOf
  rw [List.take_succ, e, List.filter_append]
  congr 1
  show (match !signL.contains c with | true => [c] | false => []) = _
  cases signL.contains c <;> rfl
/-- the law's judge of a name; T: none -/
def spN : Sp := fun vs H Q _ => ∃ x d cap, vs = [x, .bl cap] ∧ Enc H d x ∧ ∀ H', Grow H H' → Q (.bl (if cap = true then isHig d else isLow d)) H'
section
variable {P : Program} {w : World} {K : PySem.W.Frag} {mg : Str → Option Value} {base : Heap}
theorem ok_lint {f : Addr} {fd : FuncData} (F : Fun K "_law_is_int" "_law_is_int" lInt f fd) (N : Gn K mg) : FnOk P w K mg base CX0 1 f fd ["_law_x", "_law_low", "_law_high"] (spF3 isBet) := by
  refine F.ok c56 (fun vs H Q E h => ?_) (fun cdv A outer s H vs Q E hr h => ?_)
  · obtain ⟨x, d, lo, hi, rfl, _⟩ := h
    rfl
  · obtain ⟨x, d, lo, hi, rfl, en, k⟩ := h
    obtain ⟨kI, kB, _, _⟩ := kitD d
    refine ⟨_, pss_one (ps_ret (pe_and (pe_callB call_isi (by rfl) N.nI boot_isinstance (pa_cons (pv 0) (pa_cons (pe_bltn (v := .ty "int") rfl N.ni (by decide +kernel) rfl) pa_nil)))
      (pe_and (pe_not (pe_callB call_isi (by rfl) N.nI boot_isinstance (pa_cons (pv 0) (pa_cons (pe_bltn (v := .ty "bool") rfl N.nb (by decide +kernel) rfl) pa_nil)))) (pe_one (pe_chain op_le op_le (pv 1) (pv 0) (pv 2)))))), ?_⟩
    refine ⟨_, rfl, _, _, _, _, _, rfl, .ty "int", en.ty, kit_ty kI, _, rfl, ?_⟩
    cases en with
    | int i =>
      refine iteT ⟨_, rfl, _, _, _, _, _, rfl, .ty "bool", .base (.int i), kit_ty kB, _, rfl, _, rfl, iteT ⟨_, rfl, _, rfl, _, _, rfl, rfl, _, rfl, ?_⟩⟩
      by_cases h1 : lo ≤ i
      · refine ifT h1 ⟨_, rfl, _, _, rfl, rfl, ?_⟩
        have e : isBet lo hi (.int i) = decide (i ≤ hi) := by show (decide (lo ≤ i) && decide (i ≤ hi)) = _; rw [decide_eq_true h1, Bool.true_and]
        rw [e] at k
        exact k
      · refine ifF h1 ?_
        have e : isBet lo hi (.int i) = false := by show (decide (lo ≤ i) && decide (i ≤ hi)) = _; rw [decide_eq_false h1, Bool.false_and]
        rw [e] at k
        exact k
    | bl b => exact iteT ⟨_, rfl, _, _, _, _, _, rfl, .ty "bool", .base (.bl b), kit_ty kB, _, rfl, _, rfl, iteF k⟩
    | non => exact iteF k
    | str s => exact iteF k
    | tup h e => exact iteF k
    | lst h e => exact iteF k
theorem ok_ltup {f : Addr} {fd : FuncData} (F : Fun K "_law_is_tuple" "_law_is_tuple" lTup f fd) (N : Gn K mg) : FnOk P w K mg base CX0 1 f fd ["_law_x", "_law_low", "_law_high"] (spF3 isTu) := by
  refine F.ok c57 (fun vs H Q E h => ?_) (fun cdv A outer s H vs Q E hr h => ?_)
  · obtain ⟨x, d, lo, hi, rfl, _⟩ := h
    rfl
  · obtain ⟨x, d, lo, hi, rfl, en, k⟩ := h
    obtain ⟨_, _, _, kT⟩ := kitD d
    refine ⟨_, pss_one (ps_ret (pe_and (pe_callB call_isi (by rfl) N.nI boot_isinstance (pa_cons (pv 0) (pa_cons (pe_bltn (v := .ty "tuple") rfl N.nt (by decide +kernel) rfl) pa_nil)))
      (pe_one (pe_chain op_le op_le (pv 1) (pe_callB call_len_seq (by rfl) N.nl PySem.boot_len (pa_cons (pv 0) pa_nil)) (pv 2))))), ?_⟩
    refine ⟨_, rfl, _, _, _, _, _, rfl, .ty "tuple", en.ty, kit_ty kT, _, rfl, ?_⟩
    cases en with
    | @tup a xs l h e =>
      have el := e.length
      refine iteT ⟨_, rfl, _, rfl, a, xs, rfl, .inr (SqT.of h), _, _, rfl, rfl, _, rfl, ?_⟩
      by_cases h1 : lo ≤ (xs.length : Int)
      · refine ifT h1 ⟨_, rfl, _, _, rfl, rfl, ?_⟩
        have e : isTu lo hi (.tup l) = decide ((xs.length : Int) ≤ hi) := by show (decide (lo ≤ (l.length : Int)) && decide ((l.length : Int) ≤ hi)) = _; rw [el, decide_eq_true h1, Bool.true_and]
        rw [e] at k
        exact k
      · refine ifF h1 ?_
        have e : isTu lo hi (.tup l) = false := by show (decide (lo ≤ (l.length : Int)) && decide ((l.length : Int) ≤ hi)) = _; rw [el, decide_eq_false h1, Bool.false_and]
        rw [e] at k
        exact k
    | non => exact iteF k
    | bl b => exact iteF k
    | int i => exact iteF k
    | str s => exact iteF k
    | lst h e => exact iteF k
theorem ok_lnam {f : Addr} {fd : FuncData} (F : Fun K "_law_is_name" "_law_is_name" lNam f fd) (N : Gn K mg) : FnOk P w K mg base CX0 1 f fd ["_law_x", "_law_capital"] spN := by
  refine F.ok c58 (fun vs H Q E h => ?_) (fun cdv A outer s H vs Q E hr h => ?_)
  · obtain ⟨x, d, cap, rfl, _⟩ := h
    rfl
  · obtain ⟨x, d, cap, rfl, en, k⟩ := h
    obtain ⟨_, _, kS, _⟩ := kitD d
    refine ⟨_, pss_cons (ps_set (i := 2) c58.nd rfl (Or.inr rfl) pe_str)
      (pss_cons (ps_set (i := 3) c58.nd rfl (Or.inr rfl) pe_str)
      (pss_cons (ps_if (PW.pt (pw_or (pt_not (pt_val (pe_callB call_isi (by rfl) N.nI boot_isinstance (pa_cons (pv 0) (pa_cons (pe_bltn (v := .ty "str") rfl N.ns (by decide +kernel) rfl) pa_nil)))))
        (pw_or (pt_cmpR op_lt (pe_callB call_len_str (by rfl) N.nl PySem.boot_len (pa_cons (pv 0) pa_nil)) pe_int (nomark _)) (pw_or1 (pt_cmpR op_gt (pe_callB call_len_str (by rfl) N.nl PySem.boot_len (pa_cons (pv 0) pa_nil)) pe_int (nomark _)))))) (pss_one (ps_ret pe_bl)) pss_nil)
      (pss_cons (ps_if (pt_cmpR op_in_seq (pv 0) (pe_tup (pa_cons pe_str (pa_cons pe_str (pa_cons pe_str (pa_cons pe_str (pa_cons pe_str (pa_cons pe_str (pa_cons pe_str (pa_cons pe_str pa_nil))))))))) (by rfl)) (pss_one (ps_ret pe_bl)) pss_nil)
      (pss_cons (ps_if (pt_cmpR op_notIn_sign (pe_ix ix_str (pv 0) pe_int (fun _ _ => rfl)) (pe_ix ix_list (pe_lst (pa_cons (pv 2) (pa_cons (pv 3) pa_nil))) (pe_callTy call_int1 (by rfl) N.ni (by decide +kernel) (pa_cons (pv 1) pa_nil)) (fun _ _ => rfl)) (by rfl)) (pss_one (ps_ret pe_bl)) pss_nil)
      (pss_one (ps_ret (pe_cmpR (op_eqD hr.units) (pe_lc (own := [("_law_sign", 4)]) (g := gName 4) (by rfl) c58.nd (pi_str (pv 0)) (blkOk_by (own := [("_law_sign", 4)]) (N := ["_law_x", "_law_capital", "_law_small", "_law_large", "_law_sign"]) (sc := defScope lNam) (by decide +kernel)) (fun _ _ _ _ _ => pg_name (i := 4) c58.nd rfl (Or.inl rfl))
        (fun _ _ _ _ _ => pts_one (pt_cmpR op_notIn_sign (pv 4) (pe_op op_add_str (pe_op op_add_str (pv 2) (pv 3)) pe_str) (by rfl))) (fun _ _ _ _ _ => pv 4)) (pe_lst pa_nil) (nomark _)))))))), ?_⟩
    refine ⟨_, rfl, _, _, _, _, _, rfl, .ty "str", en.ty, kit_ty kS, _, rfl, ?_⟩
    have ek : (if cap = true then isHig d else isLow d) = (match d with | .str s => lawNam cap s | _ => false) := by
      cases d with
      | str s =>
        show _ = lawNam cap s
        rw [lawNam_eq]
        cases cap <;> rfl
      | _ => cases cap <;> rfl
    rw [ek] at k
    cases en with
    | str s hz =>
      have k : ∀ H', Grow H H' → Q (.bl (lawNam cap s)) H' := k
      refine iteF ⟨_, rfl, s, rfl, sz hz, _, _, rfl, rfl, _, rfl, ?_⟩
      by_cases h1 : (s.length : Int) < 1
      · have e : lawNam cap s = false := by unfold lawNam; rw [decide_eq_false (by omega), Bool.false_and]
        rw [e] at k
        exact ifT h1 (iteT (k H (Grow.refl H)))
      refine ifF h1 ⟨_, rfl, s, rfl, sz hz, _, _, rfl, rfl, _, rfl, ?_⟩
      by_cases h2 : (10 : Int) < (s.length : Int)
      · have e : lawNam cap s = false := by unfold lawNam; rw [decide_eq_false (by omega : ¬ (s.length : Int) ≤ 10), Bool.false_and, Bool.and_false]
        rw [e] at k
        rw [decide_eq_true h2]
        exact iteT (k H (Grow.refl H))
      rw [decide_eq_false h2]
      have ha : 1 ≤ (s.length : Int) := by omega
      have e0 : lawNam cap s = (!inV (.str s) (wordsL.map V.str) && ((if cap = true then largeL else smallL).contains (s.cps.toList.headD 0) && s.cps.toList.all signL.contains)) := by
        unfold lawNam
        rw [decide_eq_true ha, decide_eq_true (by omega : (s.length : Int) ≤ 10), Bool.true_and, Bool.true_and]
      rw [e0] at k
      refine iteF ⟨_, rfl, (by show 8 ≤ sizeLine; decide), fun p hp => ⟨p, _, rfl, .inr (SqT.of upd_same), rfl, words_flat, _, rfl, ?_⟩⟩
      have gp : Grow H (upd H p (.tup (wordsL.map V.str))) := Grow.new hp
      show if inV (.str s) (wordsL.map V.str) = true then _ else _
      cases ew : inV (.str s) (wordsL.map V.str) with
      | true =>
        have q := k _ gp
        rw [ew] at q
        exact iteT q
      | false =>
        rw [ew] at k
        have k : ∀ H', Grow H H' → Q (.bl ((if cap = true then largeL else smallL).contains (s.cps.toList.headD 0) && s.cps.toList.all signL.contains)) H' := k
        refine iteF ⟨_, rfl, s, _, _, rfl, rfl, sz hz, at0 ha, _, rfl, _, rfl, (by show 2 ≤ sizeLine; decide), fun l hl => ?_⟩
        have gl := Grow.new (o := .lst [V.str "abcdefghijklmnopqrstuvwxyz", V.str "ABCDEFGHIJKLMNOPQRSTUVWXYZ"]) hl
        refine ⟨_, rfl, .inr ⟨cap, rfl, l, _, _, V.str (if cap = true then "ABCDEFGHIJKLMNOPQRSTUVWXYZ" else "abcdefghijklmnopqrstuvwxyz"), rfl, rfl, SqL.of upd_same, ?_, s.cps.toList.headD 0, _, rfl, rfl, _, rfl, ?_⟩⟩
        · cases cap
          · exact at_of (j := 0) rfl rfl
          · exact at_of (j := 1) rfl rfl
        · have ec : decide (s.cps.toList.headD 0 ∈ ((if cap = true then ("ABCDEFGHIJKLMNOPQRSTUVWXYZ" : Str) else "abcdefghijklmnopqrstuvwxyz") : Str).cps.toList) = (if cap = true then largeL else smallL).contains (s.cps.toList.headD 0) := by
            rw [con_dec]
            cases cap <;> rfl
          rw [ec]
          have g2 := gp.trans gl
          cases hc : (if cap = true then largeL else smallL).contains (s.cps.toList.headD 0) with
          | false =>
            have q := k _ g2
            rw [hc, Bool.false_and] at q
            exact iteT q
          | true =>
            rw [hc] at k
            have k : ∀ H', Grow H H' → Q (.bl (s.cps.toList.all signL.contains)) H' := k
            refine iteF ⟨_, rfl, s, rfl, fun D hD => ?_⟩
            refine lc_text (x := s) (fun i Hc => ∃ acc, Hc D = some (.lst acc) ∧ acc = (badOf (s.cps.toList.take i)).map str1 ∧ Grow H Hc) ⟨[], upd_same, rfl, g2.trans (Grow.new hD)⟩ (fun i c Hc hc hp => ?_) (fun Hd hp => ?_)
            · obtain ⟨acc, hacc, ea, gc⟩ := hp
              refine ⟨wipe_set, ?_⟩
              refine ⟨_, rfl, _, rfl, _, rfl, _, _, rfl, rfl, by decide, _, _, rfl, rfl, by decide, c, _, rfl, rfl, _, rfl, ?_⟩
              have hm : decide (c ∈ signL) = signL.contains c := con_dec
              show if (!decide (c ∈ signL)) = true then _ else _
              rw [hm]
              have ht := bad_take hc
              cases e9 : signL.contains c with
              | true =>
                rw [if_pos e9, List.append_nil] at ht
                refine iteF ⟨acc, hacc, by rw [ht]; exact ea, gc⟩
              | false =>
                rw [if_neg (by rw [e9]; decide)] at ht
                refine iteT ⟨_, rfl, acc, hacc, ?_, acc ++ [str1 c], upd_same, ?_, gc.but (g2.none hD)⟩
                · have h1 : acc.length ≤ s.cps.toList.length := by
                    rw [ea, List.length_map]
                    exact Nat.le_trans (List.length_filter_le _ _) (by rw [List.length_take]; omega)
                  have h2 : s.cps.toList.length = s.length := by rw [Array.length_toList]; rfl
                  have h3 := hz.len
                  rw [sizeLine_eq]
                  omega
                · rw [ht, List.map_append, ← ea]
                  rfl
            · obtain ⟨acc, hacc, ea, gc⟩ := hp
              have et : s.cps.toList.take s.cps.size = s.cps.toList := by rw [← Array.length_toList, List.take_length]
              rw [et] at ea
              subst ea
              refine ⟨Nat.zero_le _, fun e he => ?_⟩
              have ge : Grow Hd (upd Hd e (.lst [])) := Grow.new he
              refine ⟨_, _, .lst (SqL.of (ge.lst hacc)) (dp_strs _), .lst (SqL.of upd_same) .nil, shp_strs (fun c hc => hz.ok c (List.mem_filter.mp hc).1), rfl, ?_⟩
              rw [eqv_nil, bad_empty]
              exact k _ (gc.trans ge)
    | non => exact iteT (k H (Grow.refl H))
    | bl b => exact iteT (k H (Grow.refl H))
    | int i => exact iteT (k H (Grow.refl H))
    | tup h e => exact iteT (k H (Grow.refl H))
    | lst h e => exact iteT (k H (Grow.refl H))
end
end J1
set_option Elab.async false
set_option linter.all false
set_option maxRecDepth 100000
set_option maxHeartbeats 4000000
namespace J1
open PySem PySem.Spec PyProof.Rows L2 GxR GA
/-- xs == [], xs != [] -/
def rNil (K : PySem.W.Frag) (neg : Bool) : R2 := fun x y H Q => ∃ a b xs, x = .ref a ∧ y = .ref b ∧ SqL K H a xs ∧ SqL K H b [] ∧ Q (.bl (if neg = true then !xs.isEmpty else xs.isEmpty)) H
section
variable {X : Cx}
theorem op_eqNil (hu : X.A.units < cLine) : OpR X (compareOp .Eq) (rNil X.K false) := by
  intro pins s σ H x y v u Q I rx ry h
  obtain ⟨a, b, xs, rfl, rfl, ha, hb, q⟩ := h
  obtain rfl : v = .ref a := rx
  obtain rfl : u = .ref b := ry
  obtain ⟨ia, ra, pa, _⟩ := I.list ha
  obtain ⟨ib, rb, pb, _⟩ := I.list hb
  cases rb
  cases ra with
  | nil => exact SeqAt.eq_listAt (e := fun _ => true) pa.isList pb.isList rfl hu (fun j h1 _ => absurd h1 (by simp)) ⟨.bl true, H, I, rfl, q⟩
  | cons r t => exact SeqAt.eq_list_lengthsAt pa.isList pb.isList (by simp) hu ⟨.bl false, H, I, rfl, q⟩
theorem op_neNil (hu : X.A.units < cLine) : OpR X (compareOp .NotEq) (rNil X.K true) := by
  intro pins s σ H x y v u Q I rx ry h
  obtain ⟨a, b, xs, rfl, rfl, ha, hb, q⟩ := h
  obtain rfl : v = .ref a := rx
  obtain rfl : u = .ref b := ry
  obtain ⟨ia, ra, pa, _⟩ := I.list ha
  obtain ⟨ib, rb, pb, _⟩ := I.list hb
  cases rb
  cases ra with
  | nil => exact SeqAt.RcNeAt.lists (e := fun _ => true) pa.isList pb.isList rfl hu (fun j h1 _ => absurd h1 (by simp)) X.prog X.w X.xe _ ⟨.bl false, H, I, rfl, q⟩
  | cons r t => exact SeqAt.RcNeAt.lists_lengths pa.isList pb.isList (by simp) hu X.prog X.w X.xe _ ⟨.bl true, H, I, rfl, q⟩
end
section
variable {P : Program} {w : World} {K : PySem.W.Frag} {mg : Str → Option Value} {base : Heap}
theorem ok_lkin {f fN : Addr} {fd fdN : FuncData} (F : Fun K "_law_is_kind" "_law_is_kind" lKin f fd) (N : Gn K mg) (GN : FnOk P w K mg base CX0 1 fN fdN ["_law_x", "_law_capital"] spN) (DN : Df K mg "_law_is_name" ["_law_x", "_law_capital"] fN fdN) :
    FnOk P w K mg base CX0 2 f fd ["_law_x"] (spG (fun _ => True) isKin) := by
  refine F.ok c59 (fun vs H Q E h => ?_) (fun cdv A outer s H vs Q E hr h => ?_)
  · obtain ⟨x, d, rfl, _⟩ := h
    rfl
  · obtain ⟨x, d, rfl, en, _, k⟩ := h
    obtain ⟨_, _, kS, _⟩ := kitD d
    refine ⟨_, pss_one (ps_ret (pe_or (pe_and (pe_callB call_isi (by rfl) N.nI boot_isinstance (pa_cons (pv 0) (pa_cons (pe_bltn (v := .ty "str") rfl N.ns (by decide +kernel) rfl) pa_nil)))
      (pe_one (pe_cmpR op_eq (pv 0) pe_str (nomark _)))) (pe_one (pe_call GN hr (by rfl) DN.g DN.k DN.b .nil pass0 (pa_cons (pv 0) (pa_cons pe_bl pa_nil)))))), ?_⟩
    refine ⟨_, rfl, _, _, _, _, _, rfl, .ty "str", en.ty, kit_ty kS, _, rfl, ?_⟩
    have other : ∀ H1, Grow H H1 → isKin d = isHig d → ∀ H', Grow H1 H' → Q (.bl (if true = true then isHig d else isLow d)) H' := fun H1 g e H' g' => by
      have q := k H' (g.trans g')
      rw [e] at q
      exact q
    cases en with
    | str s hz =>
      have ek : isKin (.str s) = (decide (s = "whole") || isHig (.str s)) := rfl
      refine iteT ⟨_, rfl, rfl, _, rfl, ?_⟩
      show if decide (V.str s = V.str "whole") = true then _ else _
      rw [eqS]
      by_cases h1 : s = "whole"
      · have q := k H (Grow.refl H)
        rw [ek, decide_eq_true h1, Bool.true_or] at q
        exact ifT h1 q
      · refine ifF h1 ⟨_, rfl, _, _, true, rfl, .str s hz, other H (Grow.refl H) ?_⟩
        rw [ek, decide_eq_false h1, Bool.false_or]
    | non => exact iteF ⟨_, rfl, iteF ⟨_, rfl, _, _, true, rfl, .non, other H (Grow.refl H) rfl⟩⟩
    | bl b => exact iteF ⟨_, rfl, iteF ⟨_, rfl, _, _, true, rfl, .bl b, other H (Grow.refl H) rfl⟩⟩
    | int i => exact iteF ⟨_, rfl, iteF ⟨_, rfl, _, _, true, rfl, .int i, other H (Grow.refl H) rfl⟩⟩
    | tup h e => exact iteF ⟨_, rfl, iteF ⟨_, rfl, _, _, true, rfl, .tup h e, other H (Grow.refl H) rfl⟩⟩
    | lst h e b => exact iteF ⟨_, rfl, iteF ⟨_, rfl, _, _, true, rfl, .lst h e b, other H (Grow.refl H) rfl⟩⟩
end
end J1
set_option Elab.async false
set_option linter.all false
set_option maxRecDepth 100000
set_option maxHeartbeats 4000000
namespace J1
open PySem PySem.Spec PyProof.Rows L2 GxR GA
abbrev lKinds : Stmt := top 60
theorem c60 : FnScope ["_law_kinds", "_law_entry", "_law_maker", "_law_field"] ["_law_kinds"] (defScope lKinds) := ⟨rfl, rfl, rfl, by decide +kernel, rfl, by decide +kernel, by decide +kernel⟩
section
variable {P : Program} {w : World} {K : PySem.W.Frag} {mg : Str → Option Value} {base : Heap}
theorem ok_lkinds {f fT fN fK : Addr} {fd fdT fdN fdK : FuncData} (F : Fun K "_law_are_kinds" "_law_are_kinds" lKinds f fd) (GT : FnOk P w K mg base CX0 1 fT fdT ["_law_x", "_law_low", "_law_high"] (spF3 isTu)) (DT : Df K mg "_law_is_tuple" ["_law_x", "_law_low", "_law_high"] fT fdT)
    (GN : FnOk P w K mg base CX0 1 fN fdN ["_law_x", "_law_capital"] spN) (DN : Df K mg "_law_is_name" ["_law_x", "_law_capital"] fN fdN) (GK : FnOk P w K mg base CX0 2 fK fdK ["_law_x"] (spG (fun _ => True) isKin)) (DK : Df K mg "_law_is_kind" ["_law_x"] fK fdK) :
    FnOk P w K mg base CX0 4 f fd ["_law_kinds"] (spG (fun _ => True) areKinds) := by
  refine F.ok (k := 3) c60 (fun vs H Q E h => ?_) (fun cdv A outer s H vs Q E hr h => ?_)
  · obtain ⟨x, d, rfl, _⟩ := h
    rfl
  · obtain ⟨x, d, rfl, en, _, k⟩ := h
    refine ⟨_, (pss_cons (ps_if (pt_not (pt_val (pe_call (GT.mono (by decide)) hr (by rfl) DT.g DT.k DT.b .nil pass0 (pa_cons (pv 0) (pa_cons pe_int (pa_cons pe_int pa_nil)))))) (pss_one (ps_ret pe_bl)) pss_nil) (pss_cons (ps_for PassesOwn.never rfl (pi_tup (pv 0)) (pg_name (i := 1) c60.nd rfl (Or.inl rfl)) (pss_cons (ps_if (PW.pt (pw_or (pt_not (pt_val (pe_call (GT.mono (by decide)) hr (by rfl) DT.g DT.k DT.b .nil pass0 (pa_cons (pv 1) (pa_cons pe_int (pa_cons pe_int pa_nil)))))) (pw_or (pt_not (pt_val (pe_call (GN.mono (by decide)) hr (by rfl) DN.g DN.k DN.b .nil pass0 (pa_cons (pe_ix ix_tup (pv 1) pe_int (fun _ _ => rfl)) (pa_cons pe_bl pa_nil))))) (pw_or1 (pt_not (pt_val (pe_call (GT.mono (by decide)) hr (by rfl) DT.g DT.k DT.b .nil pass0 (pa_cons (pe_ix ix_tup (pv 1) pe_int (fun _ _ => rfl)) (pa_cons pe_int (pa_cons pe_int pa_nil)))))))))) (pss_one (ps_ret pe_bl)) pss_nil) (pss_one (ps_for PassesOwn.never rfl (pi_tup (pe_ix ix_tup (pv 1) pe_int (fun _ _ => rfl))) (pg_name (i := 2) c60.nd rfl (Or.inl rfl)) (pss_cons (ps_if (PW.pt (pw_or (pt_not (pt_val (pe_call (GT.mono (by decide)) hr (by rfl) DT.g DT.k DT.b .nil pass0 (pa_cons (pv 2) (pa_cons pe_int (pa_cons pe_int pa_nil)))))) (pw_or1 (pt_not (pt_val (pe_call (GN.mono (by decide)) hr (by rfl) DN.g DN.k DN.b .nil pass0 (pa_cons (pe_ix ix_tup (pv 2) pe_int (fun _ _ => rfl)) (pa_cons pe_bl pa_nil)))))))) (pss_one (ps_ret pe_bl)) pss_nil) (pss_one (ps_if (PW.pt (pw_or (pt_not (pt_val (pe_call (GT.mono (by decide)) hr (by rfl) DT.g DT.k DT.b .nil pass0 (pa_cons (pe_ix ix_tup (pv 2) pe_int (fun _ _ => rfl)) (pa_cons pe_int (pa_cons pe_int pa_nil)))))) (pw_or1 (pt_cmpR (op_neNil (Nat.lt_of_le_of_lt (Nat.le_add_right _ 64) hr.units)) (pe_lc (own := [("_law_field", 3)]) (g := gName 3) (by rfl) c60.nd (pi_tup (pe_ix ix_tup (pv 2) pe_int (fun _ _ => rfl))) (blkOk_by (own := [("_law_field", 3)]) (N := ["_law_kinds", "_law_entry", "_law_maker", "_law_field"]) (sc := defScope lKinds) (by decide +kernel)) (fun _ _ _ _ _ => pg_name (i := 3) c60.nd rfl (Or.inl rfl)) (fun _ _ _ _ _ => pts_one (pt_not (pt_val (pe_call (GK.mono (by decide)) hr (by rfl) DK.g DK.k DK.b .nil pass0 (pa_cons (pv 3) pa_nil))))) (fun _ _ _ _ _ => pv 3)) (pe_lst pa_nil) (nomark _))))) (pss_one (ps_ret pe_bl)) pss_nil))))))) (pss_one (ps_ret pe_bl)))), ?_⟩
    have em := kinds_eq (d := d)
    refine ⟨_, rfl, _, d, _, _, rfl, en, _, rfl, ?_⟩
    cases e8 : isTu 0 8 d with
    | false =>
      have q := k H (Grow.refl H)
      rw [em, e8, Bool.false_and] at q
      exact iteT q
    | true =>
      rw [em, e8, Bool.true_and] at k
      cases en with
      | @tup a xs l ha el =>
        have k : ∀ H', Grow H H' → Q (.bl (l.all isEntry)) H' := k
        refine iteF ⟨_, rfl, a, rfl, ⟨xs, SqT.of ha⟩, ?_⟩
        refine for_tup (xs := xs) (fun i σ' Hc => ∃ v1 v2 v3, σ' = [some (.ref a), v1, v2, v3] ∧ Grow H Hc ∧ (l.take i).all isEntry = true) ⟨_, _, _, rfl, Grow.refl H, rfl⟩ (fun i σ' Hc _ hp => ?_) (fun i z σ' Hc hz hp => ?_) (fun σ' Hc hp => ?_)
        · obtain ⟨v1, v2, v3, rfl, g, _⟩ := hp
          exact SqT.of (g.tup ha)
        · obtain ⟨v1, v2, v3, rfl, g, hall⟩ := hp
          obtain ⟨d1, hd1, en1⟩ := (el.grow g).get hz
          have bad : ∀ H', Grow H H' → isEntry d1 = false → Q (.bl false) H' := fun H' g' e => by
            have q := k H' g'
            rw [all_not hd1 e] at q
            exact q
          refine ⟨_, rfl, _, d1, _, _, rfl, en1, _, rfl, ?_⟩
          cases e2 : isTu 2 2 d1 with
          | false =>
            refine iteT (bad Hc g ?_)
            unfold isEntry
            split
            · cases e2
            · rfl
          | true =>
            obtain ⟨n1, m1, rfl⟩ := tu2 e2
            obtain ⟨a1, xs1, rfl, ha1, el1⟩ := enc_tup en1
            obtain ⟨x1, x2, rfl, h1, h2⟩ := encs2 el1
            have g0 : atI [x1, x2] 0 = some x1 := at_of (j := 0) rfl rfl
            have g1 : atI [x1, x2] 1 = some x2 := at_of (j := 1) rfl rfl
            refine iteF ⟨_, rfl, a1, _, _, _, rfl, rfl, SqT.of ha1, g0, _, n1, true, rfl, h1, fun H2 gr2 => ⟨_, rfl, ?_⟩⟩
            have gg2 := g.trans gr2
            show if (!isHig n1) = true then _ else _
            cases eh : isHig n1 with
            | false =>
              refine iteT (bad H2 gg2 ?_)
              unfold isEntry
              split
              · rename_i zz
                cases zz
                rw [eh, Bool.false_and]
              · rfl
            | true =>
              have ee := entry_eq (d2 := m1) eh
              have h2 := h2.grow gr2
              refine iteF ⟨_, rfl, a1, _, _, _, rfl, rfl, SqT.of (gr2.tup ha1), g1, _, m1, _, _, rfl, h2, _, rfl, ?_⟩
              cases e18 : isTu 1 8 m1 with
              | false => exact iteT (bad H2 gg2 (by rw [ee, e18, Bool.false_and]))
              | true =>
                rw [e18, Bool.true_and] at ee
                cases h2 with
                | @tup b xs2 l2 hb el2 =>
                  have ee : isEntry (.tup [n1, .tup l2]) = l2.all isMaker := ee
                  refine iteF ⟨_, rfl, a1, _, _, _, rfl, rfl, SqT.of (gr2.tup ha1), g1, b, rfl, ⟨xs2, SqT.of hb⟩, ?_⟩
                  refine for_tup (xs := xs2) (fun j σ' Hc => ∃ v2 v3, σ' = [some (.ref a), some (.ref a1), v2, v3] ∧ Grow H2 Hc ∧ (l2.take j).all isMaker = true) ⟨_, _, rfl, Grow.refl H2, rfl⟩ (fun j σ' Hc _ hp => ?_) (fun j z2 σ' Hc hz2 hp => ?_) (fun σ' Hc hp => ?_)
                  · obtain ⟨v2, v3, rfl, g, _⟩ := hp
                    exact SqT.of (g.tup hb)
                  · obtain ⟨v2, v3, rfl, g3, hall2⟩ := hp
                    obtain ⟨d3, hd3, en3⟩ := (el2.grow g3).get hz2
                    have bad2 : ∀ H', Grow H2 H' → isMaker d3 = false → Q (.bl false) H' := fun H' g' e => bad H' (gg2.trans g') (by rw [ee]; exact all_not hd3 e)
                    have good : ∀ H', Grow H2 H' → isMaker d3 = true → ∃ v2 v3, [some (V.ref a), some (V.ref a1), some z2, v3] = [some (V.ref a), some (V.ref a1), v2, v3] ∧ Grow H2 H' ∧ (l2.take (j + 1)).all isMaker = true := fun H' g' e => ⟨_, v3, rfl, g', (all_take hall2 hd3).trans e⟩
                    refine ⟨_, rfl, _, d3, _, _, rfl, en3, _, rfl, ?_⟩
                    cases e3 : isTu 2 2 d3 with
                    | false =>
                      refine iteT (bad2 Hc g3 ?_)
                      unfold isMaker
                      split
                      · cases e3
                      · rfl
                    | true =>
                      obtain ⟨n4, f4, rfl⟩ := tu2 e3
                      obtain ⟨a4, xs4, rfl, ha4, el4⟩ := enc_tup en3
                      obtain ⟨y1, y2, rfl, k1', k2'⟩ := encs2 el4
                      have t0 : atI [y1, y2] 0 = some y1 := at_of (j := 0) rfl rfl
                      have t1 : atI [y1, y2] 1 = some y2 := at_of (j := 1) rfl rfl
                      refine iteF ⟨_, rfl, a4, _, _, _, rfl, rfl, SqT.of ha4, t0, _, n4, true, rfl, k1', fun H5 gr5 => ⟨_, rfl, ?_⟩⟩
                      have g5 := g3.trans gr5
                      show if (!isHig n4) = true then _ else _
                      cases eh4 : isHig n4 with
                      | false =>
                        refine iteT (bad2 H5 g5 ?_)
                        unfold isMaker
                        split
                        · rename_i zz
                          cases zz
                          rw [eh4, Bool.false_and]
                        · rfl
                      | true =>
                        have e6 := maker_eq (d2 := f4) eh4
                        have k2' := k2'.grow gr5
                        refine iteF ⟨_, rfl, a4, _, _, _, rfl, rfl, SqT.of (gr5.tup ha4), t1, _, f4, _, _, rfl, k2', _, rfl, ?_⟩
                        cases e05 : isTu 0 5 f4 with
                        | false => exact iteT (iteT (bad2 H5 g5 (by rw [e6, e05, Bool.false_and])))
                        | true =>
                          rw [e05, Bool.true_and] at e6
                          cases k2' with
                          | @tup b6 xs6 l6 hb6 el6 =>
                            have e6 : isMaker (.tup [n4, .tup l6]) = l6.all isKin := e6
                            refine iteF ⟨_, rfl, a4, _, _, _, rfl, rfl, SqT.of (gr5.tup ha4), t1, b6, rfl, ⟨xs6, SqT.of hb6⟩, fun D hD => ?_⟩
                            refine lc_tup (xs := xs6) (fun i Hc => ∃ acc, Hc D = some (.lst acc) ∧ acc.isEmpty = (l6.take i).all isKin ∧ acc.length ≤ i ∧ Grow H5 Hc) ⟨[], upd_same, rfl, Nat.le_refl _, Grow.new hD⟩ (fun i Hc _ hp => SqT.of (hp.choose_spec.2.2.2.tup hb6)) (fun i z9 Hc9 hz9 hp => ?_) (fun Hd hp => ?_)
                            · obtain ⟨acc, hacc, hem, hl, gc⟩ := hp
                              obtain ⟨d9, hd9, en9⟩ := (el6.grow gc).get hz9
                              have eall : (l6.take (i + 1)).all isKin = ((l6.take i).all isKin && isKin d9) := by
                                rw [List.take_succ, hd9, List.all_append]
                                simp
                              refine ⟨wipe_set, _, rfl, _, d9, rfl, en9, trivial, fun H7 gr7 => ⟨_, rfl, ?_⟩⟩
                              have hi : i < xs6.length := (List.getElem?_eq_some_iff.mp hz9).1
                              cases ek : isKin d9 with
                              | false =>
                                refine iteT ⟨_, rfl, acc, gr7.lst hacc, ?_, acc ++ [z9], upd_same, ?_, ?_, (gc.trans gr7).but hD⟩
                                · have e5' : (decide ((0 : Int) ≤ (l6.length : Int)) && decide ((l6.length : Int) ≤ 5)) = true := e05
                                  rw [Bool.and_eq_true] at e5'
                                  have := of_decide_eq_true e5'.2
                                  rw [el6.length] at this
                                  rw [sizeLine_eq]
                                  omega
                                · rw [eall, ek, Bool.and_false]
                                  cases acc <;> rfl
                                · rw [List.length_append, List.length_singleton]
                                  omega
                              | true => exact iteF ⟨acc, gr7.lst hacc, by rw [eall, ek, Bool.and_true]; exact hem, by omega, gc.trans gr7⟩
                            · obtain ⟨acc, hacc, hem, _, gD⟩ := hp
                              refine ⟨Nat.zero_le _, fun e he => ?_⟩
                              have ge := Grow.new (o := .lst []) he
                              refine ⟨_, _, acc, rfl, rfl, SqL.of (ge.lst hacc), SqL.of upd_same, _, rfl, ?_⟩
                              have hem : acc.isEmpty = l6.all isKin := by
                                rw [← el6.length, List.take_length] at hem
                                exact hem
                              show if (!acc.isEmpty) = true then _ else _
                              rw [hem, ← e6]
                              cases e7 : isMaker (.tup [n4, .tup l6]) with
                              | false => exact iteT (bad2 _ (g3.trans ((gr5.trans gD).trans ge)) e7)
                              | true =>
                                refine iteF ?_
                                obtain ⟨_, _, _, q1, q2⟩ := good _ ((gr5.trans gD).trans ge |> g3.trans) e7
                                exact ⟨_, _, rfl, q1, q2⟩
                          | _ => cases e05
                  · obtain ⟨v2, v3, rfl, g3, hall2⟩ := hp
                    have hall2 : l2.all isMaker = true := by
                      rw [← el2.length, List.take_length] at hall2
                      exact hall2
                    exact ⟨_, _, _, rfl, gg2.trans g3, (all_take hall hd1).trans (ee.trans hall2)⟩
                | _ => cases e18
        · obtain ⟨v1, v2, v3, rfl, g, hall⟩ := hp
          have hall : l.all isEntry = true := by
            rw [← el.length, List.take_length] at hall
            exact hall
          have q := k Hc g
          rw [hall] at q
          exact q
      | _ => cases e8

end
end J1
set_option Elab.async false
set_option linter.all false
set_option maxRecDepth 100000
set_option maxHeartbeats 4000000
namespace J1
open PySem PySem.Spec PyProof.Rows L2 GxR GA
abbrev lProg : Stmt := top 64
theorem c64 : FnScope ["_law_thing", "_law_function"] ["_law_thing"] (defScope lProg) := ⟨rfl, rfl, rfl, by decide +kernel, rfl, by decide +kernel, by decide +kernel⟩
section
variable {P : Program} {w : World} {K : PySem.W.Frag} {mg : Str → Option Value} {base : Heap}
theorem ok_lprog {f fT fK fF : Addr} {fd fdT fdK fdF : FuncData} (F : Fun K "_law_is_program" "_law_is_program" lProg f fd) (GT : FnOk P w K mg base CX0 1 fT fdT ["_law_x", "_law_low", "_law_high"] (spF3 isTu)) (DT : Df K mg "_law_is_tuple" ["_law_x", "_law_low", "_law_high"] fT fdT)
    (GK : FnOk P w K mg base CX0 4 fK fdK ["_law_kinds"] (spG (fun _ => True) areKinds)) (DK : Df K mg "_law_are_kinds" ["_law_kinds"] fK fdK) (GF : FnOk P w K mg base CX0 5 fF fdF ["_law_thing"] (spG (fun _ => True) isFunc)) (DF : Df K mg "_law_is_function" ["_law_thing"] fF fdF) :
    FnOk P w K mg base CX0 6 f fd ["_law_thing"] (spG (fun _ => True) isProg) := by
  refine F.ok (k := 5) c64 (fun vs H Q E h => ?_) (fun cdv A outer s H vs Q E hr h => ?_)
  · obtain ⟨x, d, rfl, _⟩ := h
    rfl
  · obtain ⟨x, d, rfl, en, _, k⟩ := h
    refine ⟨_, (pss_cons (ps_if (PW.pt (pw_or (pt_not (pt_val (pe_call (GT.mono (by decide)) hr (by rfl) DT.g DT.k DT.b .nil pass0 (pa_cons (pv 0) (pa_cons pe_int (pa_cons pe_int pa_nil)))))) (pw_or (pt_not (pt_val (pe_call (GK.mono (by decide)) hr (by rfl) DK.g DK.k DK.b .nil pass0 (pa_cons (pe_ix ix_tup (pv 0) pe_int (fun _ _ => rfl)) pa_nil)))) (pw_or1 (pt_not (pt_val (pe_call (GT.mono (by decide)) hr (by rfl) DT.g DT.k DT.b .nil pass0 (pa_cons (pe_ix ix_tup (pv 0) pe_int (fun _ _ => rfl)) (pa_cons pe_int (pa_cons pe_int pa_nil)))))))))) (pss_one (ps_ret pe_bl)) pss_nil) (pss_one (ps_ret (pe_cmpR (op_eqNil (Nat.lt_of_le_of_lt (Nat.le_add_right _ 64) hr.units)) (pe_lc (own := [("_law_function", 1)]) (g := gName 1) (by rfl) c64.nd (pi_tup (pe_ix ix_tup (pv 0) pe_int (fun _ _ => rfl))) (blkOk_by (own := [("_law_function", 1)]) (N := ["_law_thing", "_law_function"]) (sc := defScope lProg) (by decide +kernel)) (fun _ _ _ _ _ => pg_name (i := 1) c64.nd rfl (Or.inl rfl)) (fun _ _ _ _ _ => pts_one (pt_not (pt_val (pe_call (GF.mono (by decide)) hr (by rfl) DF.g DF.k DF.b .nil pass0 (pa_cons (pv 1) pa_nil))))) (fun _ _ _ _ _ => pv 1)) (pe_lst pa_nil) (nomark _))))), ?_⟩
    refine ⟨_, rfl, _, d, _, _, rfl, en, _, rfl, ?_⟩
    cases e2 : isTu 2 2 d with
    | false =>
      have em : isProg d = false := by
        unfold isProg
        split
        · cases e2
        · rfl
      have q := k H (Grow.refl H)
      rw [em] at q
      exact iteT q
    | true =>
      obtain ⟨d1, d2, rfl⟩ := tu2 e2
      obtain ⟨a, xs, rfl, ha, el⟩ := enc_tup en
      obtain ⟨x1, x2, rfl, h1, h2⟩ := encs2 el
      have g0 : atI [x1, x2] 0 = some x1 := at_of (j := 0) rfl rfl
      have g1 : atI [x1, x2] 1 = some x2 := at_of (j := 1) rfl rfl
      have em : isProg (.tup [d1, d2]) = (areKinds d1 && (isTu 0 12 d2 && partsAll isFunc d2)) := rfl
      refine iteF ⟨_, rfl, a, _, _, _, rfl, rfl, SqT.of ha, g0, _, d1, rfl, h1, trivial, fun H1 gr1 => ⟨_, rfl, ?_⟩⟩
      cases f1 : areKinds d1 with
      | false =>
        have q := k H1 gr1
        rw [em, f1, Bool.false_and] at q
        exact iteT q
      | true =>
        rw [em, f1, Bool.true_and] at k
        have h2 := h2.grow gr1
        refine iteF ⟨_, rfl, a, _, _, _, rfl, rfl, SqT.of (gr1.tup ha), g1, _, d2, _, _, rfl, h2, _, rfl, ?_⟩
        cases f2 : isTu 0 12 d2 with
        | false =>
          have q := k H1 gr1
          rw [f2, Bool.false_and] at q
          exact iteT q
        | true =>
          rw [f2, Bool.true_and] at k
          cases h2 with
          | @tup b xs6 l6 hb6 el6 =>
            have k : ∀ H', Grow H H' → Q (.bl (l6.all isFunc)) H' := k
            refine iteF ⟨_, rfl, a, _, _, _, rfl, rfl, SqT.of (gr1.tup ha), g1, b, rfl, ⟨xs6, SqT.of hb6⟩, fun D hD => ?_⟩
            refine lc_tup (xs := xs6) (fun i Hc => ∃ acc, Hc D = some (.lst acc) ∧ acc.isEmpty = (l6.take i).all isFunc ∧ acc.length ≤ i ∧ Grow H1 Hc) ⟨[], upd_same, rfl, Nat.le_refl _, Grow.new hD⟩ (fun i Hc _ hp => SqT.of (hp.choose_spec.2.2.2.tup hb6)) (fun i z9 Hc9 hz9 hp => ?_) (fun Hd hp => ?_)
            · obtain ⟨acc, hacc, hem, hl, gc⟩ := hp
              obtain ⟨d9, hd9, en9⟩ := (el6.grow gc).get hz9
              have eall : (l6.take (i + 1)).all isFunc = ((l6.take i).all isFunc && isFunc d9) := by
                rw [List.take_succ, hd9, List.all_append]
                simp
              refine ⟨wipe_set, _, rfl, _, d9, rfl, en9, trivial, fun H7 gr7 => ⟨_, rfl, ?_⟩⟩
              have hi : i < xs6.length := (List.getElem?_eq_some_iff.mp hz9).1
              cases ek : isFunc d9 with
              | false =>
                refine iteT ⟨_, rfl, acc, gr7.lst hacc, ?_, acc ++ [z9], upd_same, ?_, ?_, (gc.trans gr7).but hD⟩
                · have e5' : (decide ((0 : Int) ≤ (l6.length : Int)) && decide ((l6.length : Int) ≤ 12)) = true := f2
                  rw [Bool.and_eq_true] at e5'
                  have := of_decide_eq_true e5'.2
                  rw [el6.length] at this
                  rw [sizeLine_eq]
                  omega
                · rw [eall, ek, Bool.and_false]
                  cases acc <;> rfl
                · rw [List.length_append, List.length_singleton]
                  omega
              | true => exact iteF ⟨acc, gr7.lst hacc, by rw [eall, ek, Bool.and_true]; exact hem, by omega, gc.trans gr7⟩
            · obtain ⟨acc, hacc, hem, _, gD⟩ := hp
              refine ⟨Nat.zero_le _, fun e he => ?_⟩
              have ge := Grow.new (o := .lst []) he
              have hem : acc.isEmpty = l6.all isFunc := by
                rw [← el6.length, List.take_length] at hem
                exact hem
              have q := k _ ((gr1.trans gD).trans ge)
              rw [← hem] at q
              exact ⟨_, _, acc, rfl, rfl, SqL.of (ge.lst hacc), SqL.of upd_same, q⟩
          | _ => cases f2
end
end J1
set_option Elab.async false
set_option linter.all false
set_option maxRecDepth 100000
set_option maxHeartbeats 4000000
namespace J1
open PySem PySem.Spec PyProof.Rows L2 GxR GA
abbrev lDraw : Stmt := top 48
theorem c48 : FnScope ["_law_well_here", "_law_many", "_law_cell", "_law_got"] ["_law_well_here", "_law_many"] (defScope lDraw) := ⟨rfl, rfl, rfl, by decide +kernel, rfl, by decide +kernel, by decide +kernel⟩
/-- the well at p: what is left of a cell, how many cells were taken, the cells at l; n: how many draws there were at most -/
structure Wl (H : Hp) (p l : Addr) (ns : List Int) (n : Nat) : Prop where
  ex : ∃ c a : Int, H p = some (.lst [.int c, .int a, .ref l]) ∧ 0 ≤ c ∧ 0 ≤ a ∧ a ≤ n
  cells : H l = some (.lst (ns.map V.int))
/-- what a draw promises: only the well changes -/
def spDr : Sp := fun vs H Q _ => ∃ (p l : Addr) (ns : List Int) (n : Nat) (m : Int), vs = [.ref p, .int m] ∧ 0 < m ∧ CDivW 0 m ∧ Wl H p l ns n ∧ n ≤ 1000000000000000000000000000000000000000000000000000000000000 ∧
  ∀ (r : Int) (H' : Hp), 0 ≤ r → r < m → Wl H' p l ns (n + 1) → GrowW p H H' → Q (.int r) H'
structure Gd (mg : Str → Option Value) : Prop where
  len : mg "len" = none
  abs : mg "abs" = none
  int : mg "int" = none
theorem pget_l {X : Cx} : PGet X (fun x y H Q => ∃ (p : Addr) (xs : List V) (j : Nat) (v : V), x = .ref p ∧ y = .int (j : Int) ∧ SqL X.K H p xs ∧ xs[j]? = some v ∧ Q v H) := by
  intro pins s σ H o i ov iv Q I ro ri h
  obtain ⟨p, xs, j, z, rfl, rfl, hq, hz, q⟩ := h
  cases ro
  obtain ⟨t, rfl⟩ := ri
  obtain ⟨its, r, pl, hl⟩ := I.list hq
  obtain ⟨y, ey, ry⟩ := r.get hz
  have hj : j < xs.length := (List.getElem?_eq_some_iff.mp hz).1
  have hn := line63
  exact wpAny_getItem_list pl.isList (Int.natCast_nonneg j) (by omega) (by simpa using ey) ⟨z, H, I, ry, q⟩
theorem GrowW.trans' {w : Addr} {H H1 H2 : Hp} (x : GrowW w H H1) (y : GrowW w H1 H2) : GrowW w H H2 := fun a o n h => by
  rcases x a o n h with h1 | ⟨h1, ps, q, z⟩
  · exact y a o n h1
  · rcases y a _ n q with q2 | ⟨_, q2⟩
    · exact .inr ⟨h1, ps, q2, z⟩
    · exact .inr ⟨h1, q2⟩
theorem GrowW.refl' (w : Addr) (H : Hp) : GrowW w H H := fun _ _ _ h => .inl h
section
variable {P : Program} {w : World} {K : PySem.W.Frag} {mg : Str → Option Value} {base : Heap}
theorem ok_draw {f : Addr} {fd : FuncData} (F : Fun K "_law_draw" "_law_draw" lDraw f fd) (B : Gd mg) : FnOk P w K mg base CX0 1 f fd ["_law_well_here", "_law_many"] spDr := by
  refine F.ok c48 (fun vs H Q E h => ?_) (fun cdv A outer s H vs Q E hr h => ?_)
  · obtain ⟨p, l, ns, n, m, rfl, _⟩ := h
    rfl
  · obtain ⟨p, l, ns, n, m, rfl, hm, hm9, ⟨⟨c, a, hp, hc, ha, han⟩, hl⟩, hn, kq⟩ := h
    have npl : p ≠ l := fun e => by
      rw [e, hl] at hp
      have := HO.lst.inj (Option.some.inj hp)
      match ns, this with
      | [], q => cases q
      | [_], q => cases q
      | [_, _], q => cases q
      | _ :: _ :: _ :: _, q => simp at q
    refine ⟨_, C8.pss_cut (ps_if (pt_cmpR op_eq (pe_ix ix_list (pv 0) pe_int (fun _ _ => rfl)) pe_int (nomark _))
        (pss_cons (ps_set (i := 2) c48.nd rfl (Or.inl rfl) pe_int)
        (C8.pss_cut (ps_if (pt_cmpR op_lt (pe_ix ix_list (pv 0) pe_int (fun _ _ => rfl)) (pe_callB call_len_seq (by rfl) B.len PySem.boot_len (pa_cons (pe_ix ix_list (pv 0) pe_int (fun _ _ => rfl)) pa_nil)) (nomark _))
            (pss_one (ps_set (i := 2) c48.nd rfl (Or.inl rfl) (pe_callB call_abs (by rfl) B.abs (by decide +kernel) (pa_cons (pe_ix ix_list (pe_ix ix_list (pv 0) pe_int (fun _ _ => rfl)) (pe_ix ix_list (pv 0) pe_int (fun _ _ => rfl)) (fun _ _ => rfl)) pa_nil)))) pss_nil)
        (C8.pss_cut (ps_if (pt_cmpR op_lt (pv 2) (pe_op op_pow pe_int pe_int) (nomark _))
            (pss_cons (ps_set (i := 2) c48.nd rfl (Or.inl rfl)
                (pe_op op_add (pe_op op_add (pe_op op_mul (pv 2) pe_int) (pe_op op_mul (pe_ix ix_list (pv 0) pe_int (fun _ _ => rfl)) pe_int)) pe_int))
            (pss_one (ps_set (i := 2) c48.nd rfl (Or.inl rfl) (pe_op op_add (pe_op op_mul (pe_op op_fdiv (pe_op op_mulW (pv 2) (pv 2)) pe_int) pe_int) (pv 2))))) pss_nil)
        (pss_cons (ps_asg (pv 2) (pg_sub (pv 0) pe_int set_list))
        (pss_one (ps_augS (pv 0) pe_int pget_l pe_int ip_add set_list)))))) pss_nil)
      (pss_cons (ps_set (i := 3) c48.nd rfl (Or.inl rfl) (pe_op op_mod (pe_callTy call_int1 (by rfl) B.int (by decide +kernel) (pa_cons (pe_ix ix_list (pv 0) pe_int (fun _ _ => rfl)) pa_nil)) (pv 1)))
      (pss_cons (ps_asg (pe_op op_fdivW (pe_ix ix_list (pv 0) pe_int (fun _ _ => rfl)) (pv 1)) (pg_sub (pv 0) pe_int set_list))
      (pss_one (ps_ret (pv 3))))), ?_⟩
    refine ⟨fun σ' H' => ∃ (c' a' : Int) (v2 : Option V), σ' = [some (.ref p), some (.int m), v2, none] ∧ H' p = some (.lst [.int c', .int a', .ref l]) ∧ 0 ≤ c' ∧ 0 ≤ a' ∧ a' ≤ n + 1 ∧ GrowW p H H', ?_, ?_⟩
    · refine ⟨_, rfl, p, _, _, _, rfl, rfl, SqL.of hp, at_of (j := 0) rfl rfl, rfl, _, rfl, ?_⟩
      refine ite2 (fun _ => ?_) (fun _ => ?_)
      · refine ⟨fun σ' H' => ∃ c1 : Int, 0 ≤ c1 ∧ σ' = [some (.ref p), some (.int m), some (.int c1), none] ∧ H' = H, ?_, ?_⟩
        · refine ⟨_, rfl, p, _, _, _, rfl, rfl, SqL.of hp, at_of (j := 1) rfl rfl, _, rfl, p, _, _, _, rfl, rfl, SqL.of hp, at_of (j := 2) rfl rfl, l, _, rfl, .inl (SqL.of hl), _, _, rfl, rfl, _, rfl, ?_⟩
          refine ite2 (fun hlt => ?_) (fun _ => ?_)
          · have hlt := of_decide_eq_true hlt
            rw [List.length_map] at hlt
            have hj : a.toNat < ns.length := by omega
            refine ⟨_, rfl, p, _, _, _, rfl, rfl, SqL.of hp, at_of (j := 2) rfl rfl, _, rfl, p, _, _, _, rfl, rfl, SqL.of hp, at_of (j := 1) rfl rfl, l, _, _, _, rfl, rfl, SqL.of hl, at_of (j := a.toNat) (v := V.int ns[a.toNat]) (by omega) (by rw [List.getElem?_map, List.getElem?_eq_getElem hj]; rfl), _, rfl, ?_⟩
            refine ⟨if ns[a.toNat] < 0 then -ns[a.toNat] else ns[a.toNat], ?_, rfl, rfl⟩
            split <;> omega
          · exact ⟨7, by decide, rfl, rfl⟩
        · intro σ' H1 hh
          obtain ⟨c1, hc1, e1, e2⟩ := hh
          subst e1
          subst e2
          refine ⟨fun σ' H' => ∃ c2 : Int, 0 ≤ c2 ∧ σ' = [some (.ref p), some (.int m), some (.int c2), none] ∧ H' = H1, ?_, ?_⟩
          · refine ⟨_, rfl, _, _, rfl, rfl, ⟨by decide, by decide, by decide⟩, _, _, rfl, rfl, _, rfl, ?_⟩
            refine ite2 (fun hlt => ?_) (fun _ => ?_)
            · have hlt := of_decide_eq_true hlt
              have e18 : (10 : Int) ^ (Int.toNat 18) = 1000000000000000000 := by decide
              rw [e18] at hlt
              have hw : (c1 * 1000003 + a * 7919 + 12347).natAbs < 2 ^ 300 := Nat.lt_of_lt_of_le (show (c1 * 1000003 + a * 7919 + 12347).natAbs < 10000000000000000000000000000000000000000000000000000000000000000000000 by omega) (by decide)
              refine ⟨_, rfl, _, _, rfl, rfl, .inr ⟨by decide, by decide⟩, _, rfl, p, _, _, _, rfl, rfl, SqL.of hp, at_of (j := 1) rfl rfl, _, _, rfl, rfl, .inr ⟨by decide, by decide⟩, _, _, rfl, rfl, _, _, rfl, rfl, ?_⟩
              refine ⟨_, rfl, _, rfl, _, _, rfl, rfl, wide_mul hw hw (by decide) (by decide) (by decide), _, _, rfl, rfl, ⟨by decide, by decide⟩, _, _, rfl, rfl, .inr ⟨by decide, by decide⟩, _, rfl, _, _, rfl, rfl, ?_⟩
              refine ⟨_, ?_, rfl, rfl⟩
              have h0 : 0 ≤ c1 * 1000003 + a * 7919 + 12347 := by omega
              have h1 := Int.ediv_nonneg (Int.mul_nonneg h0 h0) (by decide : (0 : Int) ≤ 97)
              have h2 := Int.mul_nonneg h1 (by decide : (0 : Int) ≤ 48271)
              exact Int.add_nonneg h2 h0
            · exact ⟨c1, hc1, rfl, rfl⟩
          · intro σ2 H2 hh
            obtain ⟨c2, hc2, e1, e2⟩ := hh
            subst e1
            subst e2
            refine ⟨_, rfl, _, rfl, p, _, _, 0, rfl, rfl, hp, rfl, ?_⟩
            refine ⟨_, rfl, p, _, 1, _, rfl, rfl, SqL.of upd_same, rfl, _, _, rfl, rfl, p, _, _, 1, rfl, rfl, upd_same, rfl, ?_⟩
            exact ⟨c2, a + 1, _, rfl, upd_same, hc2, by omega, by omega, GrowW.upd.trans' GrowW.upd⟩
      · exact ⟨c, a, none, rfl, hp, hc, ha, by omega, GrowW.refl' p H⟩
    · rintro σ' H' ⟨c', a', v2, rfl, hp', hc', ha', han', kp⟩
      refine ⟨_, rfl, p, _, _, _, rfl, rfl, SqL.of hp', at_of (j := 0) rfl rfl, .inl ⟨_, rfl, _, rfl, _, _, rfl, rfl, hm, ?_⟩⟩
      refine ⟨_, rfl, p, _, _, _, rfl, rfl, SqL.of hp', at_of (j := 0) rfl rfl, _, rfl, _, _, rfl, rfl, hm9, _, rfl, p, _, _, 0, rfl, rfl, hp', rfl, ?_⟩
      refine ⟨_, rfl, kq _ _ (Int.emod_nonneg _ (by omega)) (Int.emod_lt_of_pos _ hm) ⟨⟨c' / m, a', upd_same, Int.ediv_nonneg hc' (by omega), ha', by omega⟩, ?_⟩ (kp.trans' GrowW.upd)⟩
      rw [upd_ne npl.symm]
      rcases kp l _ npl.symm hl with q | ⟨⟨ps, q⟩, _⟩
      · exact q
      · cases q
end
end J1
set_option Elab.async false
set_option linter.all false
set_option maxRecDepth 100000
set_option maxHeartbeats 4000000
namespace J1
open PySem PySem.Spec PyProof.Rows L2 GxR GA
abbrev lNum : Stmt := top 49
abbrev lFac : Stmt := top 50
theorem c49 : FnScope ["_law_well_here", "_law_shape"] ["_law_well_here"] (defScope lNum) := ⟨rfl, rfl, rfl, by decide +kernel, rfl, by decide +kernel, by decide +kernel⟩
theorem c50 : FnScope ["_law_well_here", "_law_shape"] ["_law_well_here"] (defScope lFac) := ⟨rfl, rfl, rfl, by decide +kernel, rfl, by decide +kernel, by decide +kernel⟩
theorem cdw {m : Int} (h : 0 < m) (h2 : m.natAbs < 2 ^ 1000) : CDivW 0 m := wide_div h h2 (by decide) (by decide)
/-- a number in bounds, by at most two draws -/
def spNm (b : Int) : Sp := fun vs H Q _ => ∃ (p l : Addr) (ns : List Int) (n : Nat), vs = [.ref p] ∧ Wl H p l ns n ∧ n + 2 ≤ 1000000000000000000000000000000000000000000000000000000000000 ∧ ∀ (r : Int) (H' : Hp), -b ≤ r → r ≤ b → Wl H' p l ns (n + 2) → GrowW p H H' → Q (.int r) H'
section
variable {P : Program} {w : World} {K : PySem.W.Frag} {mg : Str → Option Value} {base : Heap}
theorem ok_num2 {f fD : Addr} {fd fdD : FuncData} (F : Fun K "_law_number" "_law_number" lNum f fd) (GD : FnOk P w K mg base CX0 1 fD fdD ["_law_well_here", "_law_many"] spDr) (D : Df K mg "_law_draw" ["_law_well_here", "_law_many"] fD fdD) :
    FnOk P w K mg base CX0 2 f fd ["_law_well_here"] (spNm 1000000000000) := by
  refine F.ok c49 (fun vs H Q E h => ?_) (fun cdv A outer s H vs Q E hr h => ?_)
  · obtain ⟨p, l, ns, n, rfl, _⟩ := h
    rfl
  · obtain ⟨p, l, ns, n, rfl, W, hn, k⟩ := h
    refine ⟨_, pss_cons (ps_set (i := 1) c49.nd rfl (Or.inl rfl) (pe_call GD hr (by rfl) D.g D.k D.b .nil pass0 (pa_cons (pv 0) (pa_cons pe_int pa_nil))))
      (pss_cons (ps_if (pt_cmpR op_eq (pv 1) pe_int (nomark _)) (pss_one (ps_ret (pe_op op_sub (pe_op op_pow pe_int pe_int) (pe_call GD hr (by rfl) D.g D.k D.b .nil pass0 (pa_cons (pv 0) (pa_cons pe_int pa_nil)))))) pss_nil)
      (pss_cons (ps_if (pt_cmpR op_eq (pv 1) pe_int (nomark _)) (pss_one (ps_ret (pe_op op_sub (pe_call GD hr (by rfl) D.g D.k D.b .nil pass0 (pa_cons (pv 0) (pa_cons pe_int pa_nil))) (pe_op op_pow pe_int pe_int)))) pss_nil)
      (pss_cons (ps_if (pt_cmpR op_eq (pv 1) pe_int (nomark _)) (pss_one (ps_ret (pe_op op_sub (pe_call GD hr (by rfl) D.g D.k D.b .nil pass0 (pa_cons (pv 0) (pa_cons pe_int pa_nil))) (pe_op op_pow pe_int pe_int)))) pss_nil)
      (pss_one (ps_ret (pe_op op_sub (pe_call GD hr (by rfl) D.g D.k D.b .nil pass0 (pa_cons (pv 0) (pa_cons pe_int pa_nil))) pe_int)))))), ?_⟩
    have e12 : (10 : Int) ^ (Int.toNat 12) = 1000000000000 := by decide
    refine ⟨_, rfl, p, l, ns, n, 7, rfl, by decide, cdw (by decide) (by decide), W, by omega, fun r0 H1 _ _ W1 g1 => ?_⟩
    refine ⟨_, rfl, rfl, _, rfl, ite2 (fun _ => ?_) (fun _ => ?_)⟩
    · refine ⟨_, _, rfl, rfl, ⟨by decide, by decide, by decide⟩, _, rfl, p, l, ns, n + 1, 3, rfl, by decide, cdw (by decide) (by decide), W1, by omega, fun r H2 a b W2 g2 => ?_⟩
      refine ⟨_, _, rfl, rfl, k _ H2 ?_ ?_ W2 (g1.trans' g2)⟩ <;> rw [e12] <;> omega
    refine ⟨_, rfl, rfl, _, rfl, ite2 (fun _ => ?_) (fun _ => ?_)⟩
    · refine ⟨_, rfl, p, l, ns, n + 1, 3, rfl, by decide, cdw (by decide) (by decide), W1, by omega, fun r H2 a b W2 g2 => ?_⟩
      refine ⟨_, _, rfl, rfl, ⟨by decide, by decide, by decide⟩, _, _, rfl, rfl, k _ H2 ?_ ?_ W2 (g1.trans' g2)⟩ <;> rw [e12] <;> omega
    refine ⟨_, rfl, rfl, _, rfl, ite2 (fun _ => ?_) (fun _ => ?_)⟩
    · refine ⟨_, rfl, p, l, ns, n + 1, 2000000000001, rfl, by decide, cdw (by decide) (by decide), W1, by omega, fun r H2 a b W2 g2 => ?_⟩
      refine ⟨_, _, rfl, rfl, ⟨by decide, by decide, by decide⟩, _, _, rfl, rfl, k _ H2 ?_ ?_ W2 (g1.trans' g2)⟩ <;> rw [e12] <;> omega
    · refine ⟨_, rfl, p, l, ns, n + 1, 19, rfl, by decide, cdw (by decide) (by decide), W1, by omega, fun r H2 a b W2 g2 => ?_⟩
      exact ⟨_, _, rfl, rfl, k _ H2 (by omega) (by omega) W2 (g1.trans' g2)⟩
theorem ok_fac2 {f fD : Addr} {fd fdD : FuncData} (F : Fun K "_law_factor" "_law_factor" lFac f fd) (GD : FnOk P w K mg base CX0 1 fD fdD ["_law_well_here", "_law_many"] spDr) (D : Df K mg "_law_draw" ["_law_well_here", "_law_many"] fD fdD) :
    FnOk P w K mg base CX0 2 f fd ["_law_well_here"] (spNm 1000000) := by
  refine F.ok c50 (fun vs H Q E h => ?_) (fun cdv A outer s H vs Q E hr h => ?_)
  · obtain ⟨p, l, ns, n, rfl, _⟩ := h
    rfl
  · obtain ⟨p, l, ns, n, rfl, W, hn, k⟩ := h
    refine ⟨_, pss_cons (ps_set (i := 1) c50.nd rfl (Or.inl rfl) (pe_call GD hr (by rfl) D.g D.k D.b .nil pass0 (pa_cons (pv 0) (pa_cons pe_int pa_nil))))
      (pss_cons (ps_if (pt_cmpR op_eq (pv 1) pe_int (nomark _)) (pss_one (ps_ret (pe_op op_sub (pe_op op_pow pe_int pe_int) (pe_call GD hr (by rfl) D.g D.k D.b .nil pass0 (pa_cons (pv 0) (pa_cons pe_int pa_nil)))))) pss_nil)
      (pss_cons (ps_if (pt_cmpR op_eq (pv 1) pe_int (nomark _)) (pss_one (ps_ret (pe_op op_sub (pe_call GD hr (by rfl) D.g D.k D.b .nil pass0 (pa_cons (pv 0) (pa_cons pe_int pa_nil))) (pe_op op_pow pe_int pe_int)))) pss_nil)
      (pss_cons (ps_if (pt_cmpR op_eq (pv 1) pe_int (nomark _)) (pss_one (ps_ret (pe_op op_sub (pe_call GD hr (by rfl) D.g D.k D.b .nil pass0 (pa_cons (pv 0) (pa_cons pe_int pa_nil))) (pe_op op_pow pe_int pe_int)))) pss_nil)
      (pss_one (ps_ret (pe_op op_sub (pe_call GD hr (by rfl) D.g D.k D.b .nil pass0 (pa_cons (pv 0) (pa_cons pe_int pa_nil))) pe_int)))))), ?_⟩
    have e6 : (10 : Int) ^ (Int.toNat 6) = 1000000 := by decide
    refine ⟨_, rfl, p, l, ns, n, 6, rfl, by decide, cdw (by decide) (by decide), W, by omega, fun r0 H1 _ _ W1 g1 => ?_⟩
    refine ⟨_, rfl, rfl, _, rfl, ite2 (fun _ => ?_) (fun _ => ?_)⟩
    · refine ⟨_, _, rfl, rfl, ⟨by decide, by decide, by decide⟩, _, rfl, p, l, ns, n + 1, 2, rfl, by decide, cdw (by decide) (by decide), W1, by omega, fun r H2 a b W2 g2 => ?_⟩
      refine ⟨_, _, rfl, rfl, k _ H2 ?_ ?_ W2 (g1.trans' g2)⟩ <;> rw [e6] <;> omega
    refine ⟨_, rfl, rfl, _, rfl, ite2 (fun _ => ?_) (fun _ => ?_)⟩
    · refine ⟨_, rfl, p, l, ns, n + 1, 2, rfl, by decide, cdw (by decide) (by decide), W1, by omega, fun r H2 a b W2 g2 => ?_⟩
      refine ⟨_, _, rfl, rfl, ⟨by decide, by decide, by decide⟩, _, _, rfl, rfl, k _ H2 ?_ ?_ W2 (g1.trans' g2)⟩ <;> rw [e6] <;> omega
    refine ⟨_, rfl, rfl, _, rfl, ite2 (fun _ => ?_) (fun _ => ?_)⟩
    · refine ⟨_, rfl, p, l, ns, n + 1, 2000001, rfl, by decide, cdw (by decide) (by decide), W1, by omega, fun r H2 a b W2 g2 => ?_⟩
      refine ⟨_, _, rfl, rfl, ⟨by decide, by decide, by decide⟩, _, _, rfl, rfl, k _ H2 ?_ ?_ W2 (g1.trans' g2)⟩ <;> rw [e6] <;> omega
    · refine ⟨_, rfl, p, l, ns, n + 1, 7, rfl, by decide, cdw (by decide) (by decide), W1, by omega, fun r H2 a b W2 g2 => ?_⟩
      exact ⟨_, _, rfl, rfl, k _ H2 (by omega) (by omega) W2 (g1.trans' g2)⟩
end
end J1
set_option Elab.async false
set_option linter.all false
set_option maxRecDepth 100000
set_option maxHeartbeats 4000000
namespace J1
open PySem PySem.Spec PyProof.Rows L2 GxR GA
abbrev lStep : Stmt := top 61
abbrev lStepB : Stmt := top 62
abbrev lFun : Stmt := top 63
theorem c61 : FnScope ["_law_thing", "_law_deep", "_law_todo", "_law_word_here", "_law_size", "_law_arg"] ["_law_thing", "_law_deep", "_law_todo"] (defScope lStep) := ⟨rfl, rfl, rfl, by decide +kernel, rfl, by decide +kernel, by decide +kernel⟩
theorem c62 : FnScope ["_law_thing", "_law_deep", "_law_todo", "_law_word_here", "_law_size", "_law_many", "_law_branch", "_law_name"] ["_law_thing", "_law_deep", "_law_todo"] (defScope lStepB) := ⟨rfl, rfl, rfl, by decide +kernel, rfl, by decide +kernel, by decide +kernel⟩
theorem c63 : FnScope ["_law_thing", "_law_param", "_law_todo", "_law_parts", "_law_part", "_law_deep", "_law_whole", "_law_many"] ["_law_thing"] (defScope lFun) := ⟨rfl, rfl, rfl, by decide +kernel, rfl, by decide +kernel, by decide +kernel⟩
/-- what is still to be looked at by the law's own judge -/
inductive ItsL (B : Addr → Prop) (H : Hp) : List It → List V → Prop
  | nil : ItsL B H [] []
  | cons {d : Da} {b : Bool} {n : Nat} {t : Addr} {y : V} {ws : List It} {xs : List V} (h : H t = some (.tup [y, .int (n : Nat), .bl b])) (e : EncB B H d y) (r : ItsL B H ws xs) : ItsL B H ((d, b, n) :: ws) (.ref t :: xs)
theorem ItsL.app {B : Addr → Prop} {H : Hp} : ∀ {ws us : List It} {xs ys : List V}, ItsL B H ws xs → ItsL B H us ys → ItsL B H (ws ++ us) (xs ++ ys)
  | _, _, _, _, .nil, h => h
  | _, _, _, _, .cons h e r, k => .cons h e (ItsL.app r k)
theorem ItsL.length {B : Addr → Prop} {H : Hp} : ∀ {ws : List It} {xs : List V}, ItsL B H ws xs → ws.length = xs.length
  | _, _, .nil => rfl
  | _, _, .cons _ _ r => by rw [List.length_cons, List.length_cons, ItsL.length r]
theorem ItsL.last {B : Addr → Prop} {H : Hp} {i : It} : ∀ {ws : List It} {xs : List V}, ItsL B H (ws ++ [i]) xs → ∃ xs0 t y, xs = xs0 ++ [.ref t] ∧ ItsL B H ws xs0 ∧ H t = some (.tup [y, .int (i.2.2 : Nat), .bl i.2.1]) ∧ EncB B H i.1 y
  | [], _, h => by
    cases h with
    | cons h e r =>
      cases r
      exact ⟨[], _, _, rfl, .nil, h, e⟩
  | j :: ws, _, h => by
    cases h with
    | cons h e r =>
      obtain ⟨xs0, t, y, rfl, r0, ht, ey⟩ := ItsL.last r
      exact ⟨_ :: xs0, t, y, rfl, .cons h e r0, ht, ey⟩
theorem ItsL.growW {B : Addr → Prop} {w : Addr} {H H' : Hp} (g : GrowW w H H') (hB : ¬ B w) (hw : ∀ xs, H w ≠ some (.tup xs)) : ∀ {ws : List It} {xs : List V}, ItsL B H ws xs → ItsL B H' ws xs
  | _, _, .nil => .nil
  | _, _, .cons h e r => .cons (g.tup hw h) (EncB.growW g hB hw e) (ItsL.growW g hB hw r)
theorem ItsL.grow {B : Addr → Prop} {H H' : Hp} (g : Grow H H') : ∀ {ws : List It} {xs : List V}, ItsL B H ws xs → ItsL B H' ws xs
  | _, _, .nil => .nil
  | _, _, .cons h e r => .cons (g.tup h) (e.grow g) (ItsL.grow g r)
theorem tl_num {l : List Da} : termL "num" l = if (lenIs l 2 && isNum (g1 l)) = true then some [] else none := by
  unfold termL k1 k2 k3 k4 k5 k6; simp (decide := true)
theorem tl_name {l : List Da} : termL "name" l = if (lenIs l 2 && isLow (g1 l)) = true then some [] else none := by
  unfold termL k1 k2 k3 k4 k5 k6; simp (decide := true)
theorem tl_op {l : List Da} : termL "op" l = if (lenIs l 4 && isSign (g1 l)) = true then some (l.drop 2) else none := by
  unfold termL k1 k2 k3 k4 k5 k6; simp (decide := true)
theorem tl_times {l : List Da} : termL "times" l = if (lenIs l 3 && isFac (g1 l)) = true then some (l.drop 2) else none := by
  unfold termL k1 k2 k3 k4 k5 k6; simp (decide := true)
theorem tl_make {l : List Da} : termL "make" l = if (lenIs l 3 && (isHig (g1 l) && isTu 0 5 (g2 l))) = true then some (parts (g2 l)) else none := by
  unfold termL k1 k2 k3 k4 k5 k6; simp (decide := true)
theorem tl_call {l : List Da} : termL "call" l = if (lenIs l 3 && (isLow (g1 l) && isTu 0 6 (g2 l))) = true then some (parts (g2 l)) else none := by
  unfold termL k1 k2 k3 k4 k5 k6; simp (decide := true)
theorem tl_else {w : Str} {l : List Da} (h1 : w ≠ "num") (h2 : w ≠ "name") (h3 : w ≠ "op") (h4 : w ≠ "times") (h5 : w ≠ "make") (h6 : w ≠ "call") : termL w l = none := by
  unfold termL k1 k2 k3 k4 k5 k6
  rw [decide_eq_false h1, decide_eq_false h2, decide_eq_false h3, decide_eq_false h4, decide_eq_false h5, decide_eq_false h6]
  rfl
theorem bl_let {l : List Da} : bodyL "let" l = if (lenIs l 4 && isLow (g1 l)) = true then some (1, [g2 l], [g3 l]) else none := by
  unfold bodyL b1 b2 b3 b4; simp (decide := true)
theorem bl_if {l : List Da} : bodyL "if" l = if lenIs l 5 = true then some (0, (l.drop 1).take 2, l.drop 3) else none := by
  unfold bodyL b1 b2 b3 b4; simp (decide := true)
theorem bl_give {l : List Da} : bodyL "give" l = if lenIs l 2 = true then some (0, l.drop 1, []) else none := by
  unfold bodyL b1 b2 b3 b4; simp (decide := true)
theorem bl_match {l : List Da} : bodyL "match" l = if (lenIs l 3 && isTu 1 8 (g2 l)) = true then (if (parts (g2 l)).all isBranch = true then some (sumN (parts (g2 l)), [g1 l], (parts (g2 l)).map bodyOf) else none) else none := by
  unfold bodyL b1 b2 b3 b4; simp (decide := true)
theorem bl_else {w : Str} {l : List Da} (h1 : w ≠ "let") (h2 : w ≠ "if") (h3 : w ≠ "give") (h4 : w ≠ "match") : bodyL w l = none := by
  unfold bodyL b1 b2 b3 b4
  rw [decide_eq_false h1, decide_eq_false h2, decide_eq_false h3, decide_eq_false h4]
  rfl
theorem lenF {l : List Da} {n : Nat} (h : l.length ≠ n) : lenIs l n = false := decide_eq_false h
theorem nonE {l : List Da} : termL "" l = none ∧ bodyL "" l = none := ⟨tl_else (by decide) (by decide) (by decide) (by decide) (by decide) (by decide), bl_else (by decide) (by decide) (by decide) (by decide)⟩
theorem none25 {d : Da} (h : isTu 2 5 d = false) : termP d = none ∧ bodyP d = none := by
  cases d with
  | tup l =>
    have h : (decide ((2 : Int) ≤ (l.length : Int)) && decide ((l.length : Int) ≤ 5)) = false := h
    have hl : l.length < 2 ∨ 5 < l.length := by
      rcases Bool.and_eq_false_iff.mp h with h | h
      · have := of_decide_eq_false h; omega
      · have := of_decide_eq_false h; omega
    have e2 : lenIs l 2 = false := lenF (by omega)
    have e3 : lenIs l 3 = false := lenF (by omega)
    have e4 : lenIs l 4 = false := lenF (by omega)
    have e5 : lenIs l 5 = false := lenF (by omega)
    constructor
    · show termL _ l = none
      unfold termL k1 k2 k3 k4 k5 k6
      simp [e2, e3, e4, e5]
    · show bodyL _ l = none
      unfold bodyL b1 b2 b3 b4
      simp [e2, e3, e4, e5]
  | _ => exact nonE
theorem noneS {d0 : Da} {r : List Da} (h : bS d0 = false) : termP (.tup (d0 :: r)) = none ∧ bodyP (.tup (d0 :: r)) = none := by
  have e : firstW (.tup (d0 :: r)) = "" := by
    cases d0 with
    | str s => cases h
    | _ => rfl
  unfold termP bodyP
  rw [e]
  exact nonE
theorem w_if {w W : Str} {A B : Prop} (h1 : w = W → A) (h2 : w ≠ W → B) : if decide (V.str w = V.str W) = true then A else B := by
  rw [eqS]
  by_cases h : w = W
  · exact ifT h (h1 h)
  · exact ifF h (h2 h)
theorem w_ifn {w W : Str} {A B : Prop} (h1 : w ≠ W → A) (h2 : w = W → B) : if (!decide (V.str w = V.str W)) = true then A else B := by
  rw [eqS]
  by_cases h : w = W
  · rw [decide_eq_true h]; exact h2 h
  · rw [decide_eq_false h]; exact h1 h
theorem sz_if {l : List Da} {xs : List V} {BB : Addr → Prop} {H : Hp} {n : Nat} {A B : Prop} (el : EncsB BB H l xs) (h1 : lenIs l n = true → A) (h2 : lenIs l n = false → B) : if decide (V.int (xs.length : Nat) = V.int (n : Nat)) = true then A else B := by
  rw [eqL el]
  cases e : lenIs l n with
  | true => exact iteT (h1 e)
  | false => exact iteF (h2 e)
theorem sz_ifn {l : List Da} {xs : List V} {BB : Addr → Prop} {H : Hp} {n : Nat} {A B : Prop} (el : EncsB BB H l xs) (h1 : lenIs l n = false → A) (h2 : lenIs l n = true → B) : if (!decide (V.int (xs.length : Nat) = V.int (n : Nat))) = true then A else B := by
  rw [eqL el]
  cases e : lenIs l n with
  | true => exact h2 e
  | false => exact h1 e
theorem b_ifn {b : Bool} {A B : Prop} (h1 : b = false → A) (h2 : b = true → B) : if (!b) = true then A else B := by
  cases b
  · exact h1 rfl
  · exact h2 rfl
theorem b_if {b : Bool} {A B : Prop} (h1 : b = true → A) (h2 : b = false → B) : if b = true then A else B := by
  cases b
  · exact h2 rfl
  · exact h1 rfl
theorem GrowW.refl (w : Addr) (H : Hp) : GrowW w H H := (Grow.refl H).w
def spStep (inner : Da → Option (Nat × List Da × List Da)) : Sp := fun vs H Q _ => ∃ B x d, ∃ n : Nat, ∃ t xs, vs = [x, .int (n : Nat), .ref t] ∧ EncB B H d x ∧ ¬ B t ∧ (∀ w, H w = none → ¬ B w) ∧ H t = some (.lst xs) ∧ xs.length ≤ 5000 ∧
  (inner d = none ∨ 30 < n → ∀ H', GrowW t H H' → Q .non H') ∧
  ∀ nm ts bs, inner d = some (nm, ts, bs) → n ≤ 30 → ∀ H' ys, GrowW t H H' → H' t = some (.lst (xs ++ ys)) → ItsL B H' (next n ts bs) ys → Q (.int ((1 + nm : Nat) : Int)) H'
end J1
set_option Elab.async false
set_option linter.all false
set_option maxRecDepth 100000
set_option maxHeartbeats 4000000
namespace J1
open PySem PySem.Spec PyProof.Rows L2 GxR GA
theorem len2 {l : List Da} (h : lenIs l 2 = true) : ∃ a b, l = [a, b] := by
  have h : l.length = 2 := of_decide_eq_true h
  match l, h with
  | [a, b], _ => exact ⟨a, b, rfl⟩
theorem len3 {l : List Da} (h : lenIs l 3 = true) : ∃ a b c, l = [a, b, c] := by
  have h : l.length = 3 := of_decide_eq_true h
  match l, h with
  | [a, b, c], _ => exact ⟨a, b, c, rfl⟩
theorem len4 {l : List Da} (h : lenIs l 4 = true) : ∃ a b c d, l = [a, b, c, d] := by
  have h : l.length = 4 := of_decide_eq_true h
  match l, h with
  | [a, b, c, d], _ => exact ⟨a, b, c, d, rfl⟩
theorem len5 {l : List Da} (h : lenIs l 5 = true) : ∃ a b c d e, l = [a, b, c, d, e] := by
  have h : l.length = 5 := of_decide_eq_true h
  match l, h with
  | [a, b, c, d, e], _ => exact ⟨a, b, c, d, e, rfl⟩
theorem encs5 {B : Addr → Prop} {H : Hp} {d1 d2 d3 d4 d5 : Da} {xs : List V} (h : EncsB B H [d1, d2, d3, d4, d5] xs) : ∃ x1 x2 x3 x4 x5, xs = [x1, x2, x3, x4, x5] ∧ EncB B H d1 x1 ∧ EncB B H d2 x2 ∧ EncB B H d3 x3 ∧ EncB B H d4 x4 ∧ EncB B H d5 x5 := by
  cases h with
  | cons h1 t =>
    obtain ⟨x2, x3, x4, x5, rfl, h2, h3, h4, h5⟩ := encs4 t
    exact ⟨_, x2, x3, x4, x5, rfl, h1, h2, h3, h4, h5⟩
theorem Grow.putW {w : Addr} {H H2 : Hp} {o : HO} (g : Grow H H2) : GrowW w H (upd H2 w o) := fun a u n h => by
  rcases g a u h with q | ⟨q1, ps, q2, q3⟩
  · exact .inl (by rw [upd_ne n]; exact q)
  · exact .inr ⟨q1, ps, by rw [upd_ne n]; exact q2, q3⟩
theorem putL {B : Addr → Prop} {w : Addr} {H2 : Hp} {zs : List V} {o : HO} {ws : List It} {ys : List V} (h : H2 w = some (.lst zs)) (nB : ¬ B w) (i : ItsL B H2 ws ys) : ItsL B (upd H2 w o) ws ys :=
  i.growW GrowW.upd nB (fun xs z => by rw [h] at z; cases z)
theorem pow12 {d : Da} : isBet (-(10 ^ Int.toNat 12)) (10 ^ Int.toNat 12) d = isNum d := rfl
theorem pow6 {d : Da} : isBet (-(10 ^ Int.toNat 6)) (10 ^ Int.toNat 6) d = isFac d := rfl
def inT (d : Da) : Option (Nat × List Da × List Da) := (termP d).map fun l => (0, l, [])
theorem inT_none {d : Da} (h : termP d = none) : inT d = none := by unfold inT; rw [h]; rfl
theorem inT_some {d : Da} {l : List Da} (h : termP d = some l) : inT d = some (0, l, []) := by unfold inT; rw [h]; rfl
theorem itl_step {B : Addr → Prop} {Hd : Hp} {D t : Addr} {acc : List V} {ws : List It} {d : Da} {x : V} {b : Bool} {n : Nat} (hacc : Hd D = some (.lst acc)) (its : ItsL B Hd ws acc) (en : EncB B Hd d x) (ht : Hd t = none) (nD : ¬ B D) :
    ItsL B (upd (upd Hd t (.tup [x, .int ((n + 1 : Nat) : Int), .bl b])) D (.lst (acc ++ [.ref t]))) (ws ++ [(d, b, n + 1)]) (acc ++ [.ref t]) := by
  have g : Grow Hd (upd Hd t (.tup [x, .int ((n + 1 : Nat) : Int), .bl b])) := Grow.new ht
  have hw : ∀ xs, (upd Hd t (.tup [x, .int ((n + 1 : Nat) : Int), .bl b])) D ≠ some (.tup xs) := fun xs z => by
    rw [g.lst hacc] at z
    cases z
  exact ((its.grow g).app (.cons upd_same (en.grow g) .nil)).growW GrowW.upd nD hw
theorem tl_3 {w : Str} {l : List Da} (h1 : w ≠ "num") (h2 : w ≠ "name") (h3 : w ≠ "op") (h : lenIs l 3 = false) : termL w l = none := by
  unfold termL k1 k2 k3 k4 k5 k6
  rw [decide_eq_false h1, decide_eq_false h2, decide_eq_false h3, h]
  simp
section
variable {P : Program} {w : World} {K : PySem.W.Frag} {mg : Str → Option Value} {base : Heap}
theorem ok_step {f fT fI fN : Addr} {fd fdT fdI fdN : FuncData} (F : Fun K "_law_step" "_law_step" lStep f fd) (N : Gn K mg) (GT : FnOk P w K mg base CX0 1 fT fdT ["_law_x", "_law_low", "_law_high"] (spF3 isTu)) (DT : Df K mg "_law_is_tuple" ["_law_x", "_law_low", "_law_high"] fT fdT)
    (GI : FnOk P w K mg base CX0 1 fI fdI ["_law_x", "_law_low", "_law_high"] (spF3 isBet)) (DI : Df K mg "_law_is_int" ["_law_x", "_law_low", "_law_high"] fI fdI) (GN : FnOk P w K mg base CX0 1 fN fdN ["_law_x", "_law_capital"] spN) (DN : Df K mg "_law_is_name" ["_law_x", "_law_capital"] fN fdN) :
    FnOk P w K mg base CX0 2 f fd ["_law_thing", "_law_deep", "_law_todo"] (spStep inT) := by
  refine F.ok (k := 1) c61 (fun vs H Q E h => ?_) (fun cdv A outer s H vs Q E hr h => ?_)
  · obtain ⟨B, x, d, n, t, xs, rfl, _⟩ := h
    rfl
  · obtain ⟨B, x, d, n, t, xs, rfl, en, nB, young, hw, hlen, k0, ks⟩ := h
    refine ⟨_, (pss_cons (ps_if (PW.pt (pw_or (pt_not (pt_val (pe_call GT hr (by rfl) DT.g DT.k DT.b .nil pass0 (pa_cons (pv 0) (pa_cons pe_int (pa_cons pe_int pa_nil)))))) (pw_or (pt_not (pt_val (pe_callB call_isi (by rfl) N.nI boot_isinstance (pa_cons (pe_ix ix_tup (pv 0) pe_int (fun _ _ => rfl)) (pa_cons (pe_bltn (v := .ty "str") rfl N.ns (by decide +kernel) rfl) pa_nil))))) (pw_or1 (pt_cmpR op_gt (pv 1) pe_int (nomark _)))))) (pss_one (ps_ret pe_non)) pss_nil) (pss_cons (ps_par (i := 3) (j := 4) (by rfl) c61.nd rfl rfl (by decide) rfl rfl (pa_cons (pe_ix ix_tup (pv 0) pe_int (fun _ _ => rfl)) (pa_cons (pe_callB call_len_seq (by rfl) N.nl PySem.boot_len (pa_cons (pv 0) pa_nil)) pa_nil)) (by rfl)) (pss_cons (ps_if (pt_cmpR op_eq (pv 3) pe_str (nomark _)) (pss_one (ps_ret (pe_ifExp (PW.pt (pw_and (pt_cmpR op_eq (pv 4) pe_int (nomark _)) (pw_and1 (pt_val (pe_call GI hr (by rfl) DI.g DI.k DI.b .nil pass0 (pa_cons (pe_ix ix_tup (pv 0) pe_int (fun _ _ => rfl)) (pa_cons (pe_un un_neg (pe_op op_pow pe_int pe_int)) (pa_cons (pe_op op_pow pe_int pe_int) pa_nil)))))))) pe_int pe_non))) pss_nil) (pss_cons (ps_if (pt_cmpR op_eq (pv 3) pe_str (nomark _)) (pss_one (ps_ret (pe_ifExp (PW.pt (pw_and (pt_cmpR op_eq (pv 4) pe_int (nomark _)) (pw_and1 (pt_val (pe_call GN hr (by rfl) DN.g DN.k DN.b .nil pass0 (pa_cons (pe_ix ix_tup (pv 0) pe_int (fun _ _ => rfl)) (pa_cons pe_bl pa_nil))))))) pe_int pe_non))) pss_nil) (pss_cons (ps_if (pt_cmpR op_eq (pv 3) pe_str (nomark _)) (pss_cons (ps_if (PW.pt (pw_or (pt_cmpR op_ne (pv 4) pe_int (nomark _)) (pw_or (pt_not (pt_val (pe_callB call_isi (by rfl) N.nI boot_isinstance (pa_cons (pe_ix ix_tup (pv 0) pe_int (fun _ _ => rfl)) (pa_cons (pe_bltn (v := .ty "str") rfl N.ns (by decide +kernel) rfl) pa_nil))))) (pw_or1 (pt_cmpR op_notIn_seq (pe_ix ix_tup (pv 0) pe_int (fun _ _ => rfl)) (pe_tup (pa_cons pe_str (pa_cons pe_str pa_nil))) (by rfl)))))) (pss_one (ps_ret pe_non)) pss_nil) (pss_cons (ps_expr (pe_bm PySem.F.plainAttrs_list PySem.F.slot_list_extend PySem.F.type_list_extend mt_extend (pv 2) (pa_cons (pe_lst (pa_cons (pe_tup (pa_cons (pe_ix ix_tup (pv 0) pe_int (fun _ _ => rfl)) (pa_cons (pe_op op_add (pv 1) pe_int) (pa_cons pe_bl pa_nil)))) (pa_cons (pe_tup (pa_cons (pe_ix ix_tup (pv 0) pe_int (fun _ _ => rfl)) (pa_cons (pe_op op_add (pv 1) pe_int) (pa_cons pe_bl pa_nil)))) pa_nil))) pa_nil))) (pss_one (ps_ret pe_int)))) pss_nil) (pss_cons (ps_if (pt_cmpR op_ne (pv 4) pe_int (nomark _)) (pss_one (ps_ret pe_non)) pss_nil) (pss_cons (ps_if (pt_cmpR op_eq (pv 3) pe_str (nomark _)) (pss_cons (ps_expr (pe_bm PySem.F.plainAttrs_list PySem.F.slot_list_append PySem.F.type_list_append mt_append (pv 2) (pa_cons (pe_tup (pa_cons (pe_ix ix_tup (pv 0) pe_int (fun _ _ => rfl)) (pa_cons (pe_op op_add (pv 1) pe_int) (pa_cons pe_bl pa_nil)))) pa_nil))) (pss_one (ps_ret (pe_ifExp (pt_val (pe_call GI hr (by rfl) DI.g DI.k DI.b .nil pass0 (pa_cons (pe_ix ix_tup (pv 0) pe_int (fun _ _ => rfl)) (pa_cons (pe_un un_neg (pe_op op_pow pe_int pe_int)) (pa_cons (pe_op op_pow pe_int pe_int) pa_nil))))) pe_int pe_non)))) pss_nil) (pss_cons (ps_if (PW.pt (pw_or (pt_cmpR op_notIn_seq (pv 3) (pe_tup (pa_cons pe_str (pa_cons pe_str pa_nil))) (by rfl)) (pw_or1 (pt_not (pt_val (pe_call GN hr (by rfl) DN.g DN.k DN.b .nil pass0 (pa_cons (pe_ix ix_tup (pv 0) pe_int (fun _ _ => rfl)) (pa_cons (pe_cmpR op_eq (pv 3) pe_str (nomark _)) pa_nil)))))))) (pss_one (ps_ret pe_non)) pss_nil) (pss_cons (ps_if (pt_not (pt_val (pe_call GT hr (by rfl) DT.g DT.k DT.b .nil pass0 (pa_cons (pe_ix ix_tup (pv 0) pe_int (fun _ _ => rfl)) (pa_cons pe_int (pa_cons (pe_op op_add pe_int (pe_callTy call_int1 (by rfl) N.ni (by decide +kernel) (pa_cons (pe_cmpR op_eq (pv 3) pe_str (nomark _)) pa_nil))) pa_nil)))))) (pss_one (ps_ret pe_non)) pss_nil) (pss_cons (ps_expr (pe_bm PySem.F.plainAttrs_list PySem.F.slot_list_extend PySem.F.type_list_extend mt_extend (pv 2) (pa_cons (pe_lc (own := [("_law_arg", 5)]) (g := gName 5) (tt := tYes) (by rfl) c61.nd (pi_tup (pe_ix ix_tup (pv 0) pe_int (fun _ _ => rfl))) (blkOk_by (own := [("_law_arg", 5)]) (N := ["_law_thing", "_law_deep", "_law_todo", "_law_word_here", "_law_size", "_law_arg"]) (sc := defScope lStep) (by decide +kernel)) (fun _ _ _ _ _ => (pg_name (i := 5) c61.nd rfl (Or.inl rfl))) (fun _ _ _ _ _ => pts_nil) (fun _ _ _ _ _ => (pe_tup (pa_cons (pv 5) (pa_cons (pe_op op_add (pv 1) pe_int) (pa_cons pe_bl pa_nil)))))) pa_nil))) (pss_one (ps_ret pe_int)))))))))))), ?_⟩
    have z0 : termP d = none → ∀ H', GrowW t H H' → Q .non H' := fun e H' g => k0 (.inl (inT_none e)) H' g
    refine ⟨_, rfl, _, d, _, _, rfl, en.any, _, rfl, ?_⟩
    cases e25 : isTu 2 5 d with
    | false => exact iteT (z0 (none25 e25).1 H (GrowW.refl _ _))
    | true =>
      cases en with
      | @tup a ys l ha el =>
        obtain ⟨d0, r, rfl⟩ : ∃ d0 r, l = d0 :: r := by
          cases l with
          | nil => cases e25
          | cons d0 r => exact ⟨d0, r, rfl⟩
        cases el with
        | @cons _ x0 _ xr h0 er =>
        obtain ⟨_, _, kS, _⟩ := kitD d0
        have g0 : atI (x0 :: xr) 0 = some x0 := at_of (j := 0) rfl rfl
        refine iteF ⟨_, rfl, a, _, _, _, rfl, rfl, SqT.of ha, g0, _, _, _, _, _, rfl, .ty "str", h0.ty, kit_ty kS, _, rfl, ?_⟩
        cases eS : bS d0 with
        | false => exact iteT (z0 (noneS eS).1 H (GrowW.refl _ _))
        | true =>
        cases h0 with
        | str wd hz =>
          have el : EncsB B H (.str wd :: r) (.str wd :: xr) := .cons (.str wd hz) er
          refine iteF ⟨_, rfl, _, _, rfl, rfl, _, rfl, ?_⟩
          by_cases h30 : (30 : Int) < (n : Int)
          · rw [decide_eq_true h30]
            exact iteT (k0 (.inr (by omega)) H (GrowW.refl _ _))
          rw [decide_eq_false h30]
          have ks := fun l (e : termP (.tup (.str wd :: r)) = some l) => ks 0 l [] (inT_some e) (by omega)
          refine iteF ⟨_, rfl, a, _, _, _, rfl, rfl, SqT.of ha, g0, _, rfl, a, _, rfl, .inr (SqT.of ha), _, _, rfl, ?_⟩
          have eT : termP (.tup (.str wd :: r)) = termL wd (.str wd :: r) := rfl
          rw [eT] at z0 ks
          generalize hl : Da.str wd :: r = l at z0 ks el
          generalize hx : V.str wd :: xr = zs at ha el
          clear hl hx g0 er eT
          -- num
          refine ⟨_, rfl, rfl, _, rfl, w_if (fun h1 => ?_) (fun h1 => ?_)⟩
          · subst h1
            rw [tl_num] at z0
            refine ⟨_, rfl, rfl, _, rfl, sz_if (n := 2) el (fun h2 => ?_) (fun h2 => z0 (by rw [h2]; rfl) H (GrowW.refl _ _))⟩
            obtain ⟨a0, d1, rfl⟩ := len2 h2
            obtain ⟨x0, x1, rfl, e0, e1⟩ := encs2 el
            have g1 : atI [x0, x1] 1 = some x1 := at_of (j := 1) rfl rfl
            refine ⟨_, rfl, a, _, _, _, rfl, rfl, SqT.of ha, g1, _, _, rfl, rfl, ⟨by decide, by decide, by decide⟩, _, rfl, _, _, rfl, rfl, ⟨by decide, by decide, by decide⟩, _, d1, _, _, rfl, e1.any, _, rfl, ?_⟩
            rw [pow12]
            refine b_if (fun h3 => ?_) (fun h3 => z0 (by simp [lenIs, J1.g1, h3]) H (GrowW.refl _ _))
            exact ks [] (by rw [tl_num]; simp [lenIs, J1.g1, h3]) H [] (GrowW.refl _ _) (by rw [List.append_nil]; exact hw) .nil
          -- name
          refine ⟨_, rfl, rfl, _, rfl, w_if (fun h1 => ?_) (fun h2' => ?_)⟩
          · subst h1
            rw [tl_name] at z0
            refine ⟨_, rfl, rfl, _, rfl, sz_if (n := 2) el (fun h2 => ?_) (fun h2 => z0 (by rw [h2]; rfl) H (GrowW.refl _ _))⟩
            obtain ⟨a0, d1, rfl⟩ := len2 h2
            obtain ⟨x0, x1, rfl, e0, e1⟩ := encs2 el
            have g1 : atI [x0, x1] 1 = some x1 := at_of (j := 1) rfl rfl
            refine ⟨_, rfl, a, _, _, _, rfl, rfl, SqT.of ha, g1, _, d1, false, rfl, e1.any, fun H' g' => ⟨_, rfl, ?_⟩⟩
            show if isLow d1 = true then _ else _
            refine b_if (fun h3 => ?_) (fun h3 => z0 (by simp [lenIs, J1.g1, h3]) H' g'.w)
            exact ks [] (by rw [tl_name]; simp [lenIs, J1.g1, h3]) H' [] g'.w (by rw [List.append_nil]; exact g'.lst hw) .nil
          -- op
          refine ⟨_, rfl, rfl, _, rfl, w_if (fun h1 => ?_) (fun h3' => ?_)⟩
          · subst h1
            rw [tl_op] at z0
            refine ⟨_, rfl, rfl, _, rfl, sz_ifn (n := 4) el (fun h2 => z0 (by rw [h2]; rfl) H (GrowW.refl _ _)) (fun h2 => ?_)⟩
            obtain ⟨a0, d1, d2, d3, rfl⟩ := len4 h2
            obtain ⟨x0, x1, x2, x3, rfl, e0, e1, e2, e3⟩ := encs4 el
            have i1 : atI [x0, x1, x2, x3] 1 = some x1 := at_of (j := 1) rfl rfl
            have i2 : atI [x0, x1, x2, x3] 2 = some x2 := at_of (j := 2) rfl rfl
            have i3 : atI [x0, x1, x2, x3] 3 = some x3 := at_of (j := 3) rfl rfl
            obtain ⟨_, _, kS1, _⟩ := kitD d1
            refine ⟨_, rfl, a, _, _, _, rfl, rfl, SqT.of ha, i1, _, _, _, _, _, rfl, .ty "str", e1.ty, kit_ty kS1, _, rfl, ?_⟩
            cases eS1 : bS d1 with
            | false =>
              have q : isSign d1 = false := by
                cases d1 with
                | str s => cases eS1
                | _ => rfl
              exact iteT (z0 (by simp [lenIs, J1.g1, q]) H (GrowW.refl _ _))
            | true =>
            cases e1 with
            | str sg hz1 =>
              refine iteF ⟨_, rfl, a, _, _, _, rfl, rfl, SqT.of ha, i1, (by show 2 ≤ sizeLine; decide), fun p hp => ⟨p, _, rfl, .inr (SqT.of upd_same), rfl, rfl, _, rfl, ?_⟩⟩
              have gp : Grow H (upd H p (.tup [V.str "+", V.str "-"])) := Grow.new hp
              generalize upd H p (.tup [V.str "+", V.str "-"]) = Hq at gp ⊢
              show if (!isSign (.str sg)) = true then _ else _
              refine b_ifn (fun h3 => z0 (by simp [lenIs, J1.g1, h3]) Hq gp.w) (fun h3 => ?_)
              refine ⟨_, rfl, .inl ⟨rfl, _, SqL.of (gp.lst hw)⟩, _, rfl, a, _, _, _, rfl, rfl, SqT.of (gp.tup ha), i2, _, rfl, _, _, rfl, rfl, (by show 3 ≤ sizeLine; decide), fun t1 ht1 => ?_⟩
              have g1 := gp.trans (Grow.new (o := .tup [x2, .int ((n : Int) + 1), .bl false]) ht1)
              have q1 : upd Hq t1 (.tup [x2, .int ((n : Int) + 1), .bl false]) t1 = some (.tup [x2, .int ((n : Int) + 1), .bl false]) := upd_same
              generalize upd Hq t1 (.tup [x2, .int ((n : Int) + 1), .bl false]) = H1 at g1 q1 ⊢
              refine ⟨_, rfl, a, _, _, _, rfl, rfl, SqT.of (g1.tup ha), i3, _, rfl, _, _, rfl, rfl, (by show 3 ≤ sizeLine; decide), fun t2 ht2 => ⟨(by show 2 ≤ sizeLine; decide), fun D hD => ?_⟩⟩
              have g12 := Grow.new (o := .tup [x3, .int ((n : Int) + 1), .bl false]) ht2
              have q2 : upd H1 t2 (.tup [x3, .int ((n : Int) + 1), .bl false]) t2 = some (.tup [x3, .int ((n : Int) + 1), .bl false]) := upd_same
              generalize upd H1 t2 (.tup [x3, .int ((n : Int) + 1), .bl false]) = H2 at g12 q2 hD ⊢
              have gD := Grow.new (o := .lst [V.ref t1, V.ref t2]) hD
              have qD : upd H2 D (.lst [V.ref t1, V.ref t2]) D = some (.lst [V.ref t1, V.ref t2]) := upd_same
              generalize upd H2 D (.lst [V.ref t1, V.ref t2]) = H3 at gD qD ⊢
              have g3 := (g1.trans g12).trans gD
              refine ⟨t, D, xs, _, rfl, rfl, g3.lst hw, qD, by rw [sizeLine_eq]; simp only [List.length_append, List.length_cons, List.length_nil]; omega, ?_⟩
              exact ks [d2, d3] (by rw [tl_op]; simp [lenIs, J1.g1, h3]) _ [.ref t1, .ref t2] (Grow.putW g3) upd_same (putL (g3.lst hw) nB (.cons ((g12.trans gD).tup q1) (e2.grow g3) (.cons (gD.tup q2) (e3.grow g3) .nil)))
            | _ => cases eS1
          -- the others have three parts
          refine ⟨_, rfl, rfl, _, rfl, sz_ifn (n := 3) el (fun h2 => z0 (tl_3 h1 h2' h3' h2) H (GrowW.refl _ _)) (fun h2 => ?_)⟩
          obtain ⟨a0, d1, d2, rfl⟩ := len3 h2
          obtain ⟨x0, x1, x2, rfl, e0, e1, e2⟩ := encs3 el
          have i1 : atI [x0, x1, x2] 1 = some x1 := at_of (j := 1) rfl rfl
          have i2 : atI [x0, x1, x2] 2 = some x2 := at_of (j := 2) rfl rfl
          -- times
          refine ⟨_, rfl, rfl, _, rfl, w_if (fun h4 => ?_) (fun h4 => ?_)⟩
          · subst h4
            rw [tl_times] at z0
            refine ⟨_, rfl, .inl ⟨rfl, _, SqL.of hw⟩, _, rfl, a, _, _, _, rfl, rfl, SqT.of ha, i2, _, rfl, _, _, rfl, rfl, (by show 3 ≤ sizeLine; decide), fun t1 ht1 => ?_⟩
            have g1 := Grow.new (o := .tup [x2, .int ((n : Int) + 1), .bl false]) ht1
            have q1 : upd H t1 (.tup [x2, .int ((n : Int) + 1), .bl false]) t1 = some (.tup [x2, .int ((n : Int) + 1), .bl false]) := upd_same
            generalize upd H t1 (.tup [x2, .int ((n : Int) + 1), .bl false]) = H1 at g1 q1 ⊢
            have hwt : ∀ ys, H1 t ≠ some (.tup ys) := fun ys z => by rw [g1.lst hw] at z; cases z
            have gu : GrowW t H1 (upd H1 t (.lst (xs ++ [.ref t1]))) := GrowW.upd
            refine ⟨t, _, _, rfl, rfl, g1.lst hw, by rw [sizeLine_eq]; omega, ?_⟩
            refine ⟨_, rfl, a, _, _, _, rfl, rfl, SqT.of (gu.tup hwt (g1.tup ha)), i1, _, _, rfl, rfl, ⟨by decide, by decide, by decide⟩, _, rfl, _, _, rfl, rfl, ⟨by decide, by decide, by decide⟩, _, d1, _, _, rfl, ((e1.grow g1).growW gu nB hwt).any, _, rfl, ?_⟩
            rw [pow6]
            refine b_if (fun h3 => ?_) (fun h3 => z0 (by simp [lenIs, J1.g1, h3]) _ (Grow.putW g1))
            exact ks [d2] (by rw [tl_times]; simp [lenIs, J1.g1, h3]) _ [.ref t1] (Grow.putW g1) upd_same (putL (g1.lst hw) nB (.cons q1 (e2.grow g1) .nil))
          -- make, call
          refine ⟨_, rfl, (by show 2 ≤ sizeLine; decide), fun p hp => ⟨p, _, rfl, .inr (SqT.of upd_same), rfl, rfl, _, rfl, ?_⟩⟩
          have gp : Grow H (upd H p (.tup [V.str "make", V.str "call"])) := Grow.new hp
          generalize upd H p (.tup [V.str "make", V.str "call"]) = Hq at gp ⊢
          show if (!inV (.str wd) [.str "make", .str "call"]) = true then _ else _
          by_cases h5 : wd = "make"
          · have qn : inV (.str wd) [.str "make", .str "call"] = true := by rw [h5]; rfl
            rw [qn]
            refine iteF ?_
            subst h5
            rw [tl_make] at z0
            refine ⟨_, rfl, a, _, _, _, rfl, rfl, SqT.of (gp.tup ha), i1, _, rfl, rfl, _, d1, true, rfl, (e1.grow gp).any, fun H1 gr1 => ⟨_, rfl, ?_⟩⟩
            have g1 := gp.trans gr1
            show if (!isHig d1) = true then _ else _
            refine b_ifn (fun h3 => z0 (by simp [lenIs, J1.g1, h3]) H1 g1.w) (fun h3 => ?_)
            refine ⟨_, rfl, a, _, _, _, rfl, rfl, SqT.of (g1.tup ha), i2, _, rfl, rfl, .inr ⟨_, rfl, _, _, rfl, rfl, _, d2, _, _, rfl, (e2.grow g1).any, _, rfl, ?_⟩⟩
            show if (!isTu 0 5 d2) = true then _ else _
            refine b_ifn (fun h8 => z0 (by simp [lenIs, J1.g1, J1.g2, h3, h8]) H1 g1.w) (fun h8 => ?_)
            have et : termL "make" [a0, d1, d2] = some (parts d2) := by
              rw [tl_make]
              simp [lenIs, J1.g1, J1.g2, h3, h8]
            have e2' := e2.grow g1
            cases e2' with
            | @tup b us ts hb eu =>
              have hl8 := parts_len h8
              have hl8 : (ts.length : Int) ≤ 5 := hl8
              have hl9 := eu.length
              refine ⟨_, rfl, .inl ⟨rfl, _, SqL.of (g1.lst hw)⟩, _, rfl, a, _, _, _, rfl, rfl, SqT.of (g1.tup ha), i2, b, rfl, ⟨us, SqT.of hb⟩, fun D hD => ?_⟩
              have nD := young D (Grow.none g1 hD)
              refine lc_tup (xs := us) (fun i Hc => ∃ acc, Hc D = some (.lst acc) ∧ ItsL B Hc ((ts.take i).map fun d => (d, false, n + 1)) acc ∧ acc.length = i ∧ Grow H1 Hc) ⟨[], upd_same, .nil, rfl, Grow.new hD⟩ (fun i Hc _ hp => SqT.of (hp.choose_spec.2.2.2.tup hb)) (fun i z Hc hz hp => ?_) (fun Hd hp => ?_)
              · obtain ⟨acc, hacc, its, hl, gc⟩ := hp
                obtain ⟨d9, hd9, en9⟩ := (eu.grow gc).get hz
                refine ⟨wipe_set, ?_⟩
                unfold tYes
                refine iteT ⟨_, rfl, _, rfl, _, _, rfl, rfl, (by show 3 ≤ sizeLine; decide), fun t2 ht2 => ⟨acc, (Grow.new ht2).lst hacc, ?_, acc ++ [.ref t2], upd_same, ?_, ?_, ?_⟩⟩
                · have h1 : i < us.length := (List.getElem?_eq_some_iff.mp hz).1
                  rw [hl, sizeLine_eq]
                  omega
                · rw [take_map hd9]
                  exact itl_step hacc its en9 ht2 nD
                · rw [List.length_append, List.length_singleton, hl]
                · exact (gc.trans (Grow.new ht2)).but hD
              · obtain ⟨acc, hacc, its, hl, gc⟩ := hp
                have its : ItsL B Hd (ts.map fun d => (d, false, n + 1)) acc := by
                  have e := its
                  rw [← eu.length, List.take_length] at e
                  exact e
                have gH := g1.trans gc
                refine ⟨t, D, xs, acc, rfl, rfl, gH.lst hw, hacc, by rw [sizeLine_eq]; omega, ?_⟩
                exact ks ts et _ acc (Grow.putW gH) upd_same (putL (gH.lst hw) nB (by unfold next; rw [List.map_nil, List.append_nil]; exact its))
            | _ => cases h8
          · by_cases h6 : wd = "call"
            · have qn : inV (.str wd) [.str "make", .str "call"] = true := by rw [h6]; rfl
              rw [qn]
              refine iteF ?_
              subst h6
              rw [tl_call] at z0
              refine ⟨_, rfl, a, _, _, _, rfl, rfl, SqT.of (gp.tup ha), i1, _, rfl, rfl, _, d1, false, rfl, (e1.grow gp).any, fun H1 gr1 => ⟨_, rfl, ?_⟩⟩
              have g1 := gp.trans gr1
              show if (!isLow d1) = true then _ else _
              refine b_ifn (fun h3 => z0 (by simp [lenIs, J1.g1, h3]) H1 g1.w) (fun h3 => ?_)
              refine ⟨_, rfl, a, _, _, _, rfl, rfl, SqT.of (g1.tup ha), i2, _, rfl, rfl, .inr ⟨_, rfl, _, _, rfl, rfl, _, d2, _, _, rfl, (e2.grow g1).any, _, rfl, ?_⟩⟩
              show if (!isTu 0 6 d2) = true then _ else _
              refine b_ifn (fun h8 => z0 (by simp [lenIs, J1.g1, J1.g2, h3, h8]) H1 g1.w) (fun h8 => ?_)
              have et : termL "call" [a0, d1, d2] = some (parts d2) := by
                rw [tl_call]
                simp [lenIs, J1.g1, J1.g2, h3, h8]
              have e2' := e2.grow g1
              cases e2' with
              | @tup b us ts hb eu =>
                have hl8 := parts_len h8
                have hl8 : (ts.length : Int) ≤ 6 := hl8
                have hl9 := eu.length
                refine ⟨_, rfl, .inl ⟨rfl, _, SqL.of (g1.lst hw)⟩, _, rfl, a, _, _, _, rfl, rfl, SqT.of (g1.tup ha), i2, b, rfl, ⟨us, SqT.of hb⟩, fun D hD => ?_⟩
                have nD := young D (Grow.none g1 hD)
                refine lc_tup (xs := us) (fun i Hc => ∃ acc, Hc D = some (.lst acc) ∧ ItsL B Hc ((ts.take i).map fun d => (d, false, n + 1)) acc ∧ acc.length = i ∧ Grow H1 Hc) ⟨[], upd_same, .nil, rfl, Grow.new hD⟩ (fun i Hc _ hp => SqT.of (hp.choose_spec.2.2.2.tup hb)) (fun i z Hc hz hp => ?_) (fun Hd hp => ?_)
                · obtain ⟨acc, hacc, its, hl, gc⟩ := hp
                  obtain ⟨d9, hd9, en9⟩ := (eu.grow gc).get hz
                  refine ⟨wipe_set, ?_⟩
                  unfold tYes
                  refine iteT ⟨_, rfl, _, rfl, _, _, rfl, rfl, (by show 3 ≤ sizeLine; decide), fun t2 ht2 => ⟨acc, (Grow.new ht2).lst hacc, ?_, acc ++ [.ref t2], upd_same, ?_, ?_, ?_⟩⟩
                  · have h1 : i < us.length := (List.getElem?_eq_some_iff.mp hz).1
                    rw [hl, sizeLine_eq]
                    omega
                  · rw [take_map hd9]
                    exact itl_step hacc its en9 ht2 nD
                  · rw [List.length_append, List.length_singleton, hl]
                  · exact (gc.trans (Grow.new ht2)).but hD
                · obtain ⟨acc, hacc, its, hl, gc⟩ := hp
                  have its : ItsL B Hd (ts.map fun d => (d, false, n + 1)) acc := by
                    have e := its
                    rw [← eu.length, List.take_length] at e
                    exact e
                  have gH := g1.trans gc
                  refine ⟨t, D, xs, acc, rfl, rfl, gH.lst hw, hacc, by rw [sizeLine_eq]; omega, ?_⟩
                  exact ks ts et _ acc (Grow.putW gH) upd_same (putL (gH.lst hw) nB (by unfold next; rw [List.map_nil, List.append_nil]; exact its))
              | _ => cases h8
  
            · have q : inV (.str wd) [.str "make", .str "call"] = false := by
                show (("make" : Str) == wd || (("call" : Str) == wd || false)) = false
                rw [beq_eq_false_iff_ne.mpr (fun z => h5 z.symm), beq_eq_false_iff_ne.mpr (fun z => h6 z.symm)]
                rfl
              rw [q]
              exact iteT (z0 (tl_else h1 h2' h3' h4 h5 h6) Hq gp.w)
        | _ => cases eS
      | _ => cases e25
end
end J1
set_option Elab.async false
set_option linter.all false
set_option maxRecDepth 100000
set_option maxHeartbeats 4000000
namespace J1
open PySem PySem.Spec PyProof.Rows L2 GxR GA
theorem rd_and0 {t u : TT} {σ : L2.St} {H : Hp} {R : Bool → Hp → Prop} {c1 c2 : Bool} (h1 : ∀ R' : Bool → Hp → Prop, R' c1 H → t σ H R') (h2 : c1 = true → R c2 H → u σ H R) (k : R (c1 && c2) H) : tAnd t u σ H R := by
  refine h1 _ ?_
  cases c1 with
  | true => exact iteT (h2 rfl k)
  | false => exact iteF k
theorem b1_let {w : Str} {l : List Da} (h : b1 w l = true) : w = "let" ∧ lenIs l 4 = true ∧ isLow (g1 l) = true := by
  unfold b1 at h
  rw [Bool.and_eq_true, Bool.and_eq_true] at h
  exact ⟨of_decide_eq_true h.1, h.2.1, h.2.2⟩
theorem b2_if {w : Str} {l : List Da} (h : b2 w l = true) : w = "if" ∧ lenIs l 5 = true := by
  unfold b2 at h
  rw [Bool.and_eq_true] at h
  exact ⟨of_decide_eq_true h.1, h.2⟩
theorem b3_give {w : Str} {l : List Da} (h : b3 w l = true) : w = "give" ∧ lenIs l 2 = true := by
  unfold b3 at h
  rw [Bool.and_eq_true] at h
  exact ⟨of_decide_eq_true h.1, h.2⟩
theorem bl_rest {w : Str} {l : List Da} (h1 : b1 w l = false) (h2 : b2 w l = false) (h3 : b3 w l = false) : bodyL w l = if b4 w l = true then (if (parts (g2 l)).all isBranch = true then some (sumN (parts (g2 l)), [g1 l], (parts (g2 l)).map bodyOf) else none) else none := by
  unfold bodyL
  rw [h1, h2, h3]
  simp
section
variable {P : Program} {w : World} {K : PySem.W.Frag} {mg : Str → Option Value} {base : Heap}
theorem ok_stepb {f fT fN : Addr} {fd fdT fdN : FuncData} (F : Fun K "_law_step_body" "_law_step_body" lStepB f fd) (N : Gn K mg) (GT : FnOk P w K mg base CX0 1 fT fdT ["_law_x", "_law_low", "_law_high"] (spF3 isTu)) (DT : Df K mg "_law_is_tuple" ["_law_x", "_law_low", "_law_high"] fT fdT)
    (GN : FnOk P w K mg base CX0 1 fN fdN ["_law_x", "_law_capital"] spN) (DN : Df K mg "_law_is_name" ["_law_x", "_law_capital"] fN fdN) :
    FnOk P w K mg base CX0 2 f fd ["_law_thing", "_law_deep", "_law_todo"] (spStep bodyP) := by
  refine F.ok (k := 1) c62 (fun vs H Q E h => ?_) (fun cdv A outer s H vs Q E hr h => ?_)
  · obtain ⟨B, x, d, n, t, xs, rfl, _⟩ := h
    rfl
  · obtain ⟨B, x, d, n, t, xs, rfl, en, nB, young, hw, hlen, k0, ks⟩ := h
    refine ⟨_, (pss_cons (ps_if (PW.pt (pw_or (pt_not (pt_val (pe_call GT hr (by rfl) DT.g DT.k DT.b .nil pass0 (pa_cons (pv 0) (pa_cons pe_int (pa_cons pe_int pa_nil)))))) (pw_or (pt_not (pt_val (pe_callB call_isi (by rfl) N.nI boot_isinstance (pa_cons (pe_ix ix_tup (pv 0) pe_int (fun _ _ => rfl)) (pa_cons (pe_bltn (v := .ty "str") rfl N.ns (by decide +kernel) rfl) pa_nil))))) (pw_or1 (pt_cmpR op_gt (pv 1) pe_int (nomark _)))))) (pss_one (ps_ret pe_non)) pss_nil) (pss_cons (ps_par (i := 3) (j := 4) (by rfl) c62.nd rfl rfl (by decide) rfl rfl (pa_cons (pe_ix ix_tup (pv 0) pe_int (fun _ _ => rfl)) (pa_cons (pe_callB call_len_seq (by rfl) N.nl PySem.boot_len (pa_cons (pv 0) pa_nil)) pa_nil)) (by rfl)) (pss_cons (ps_if (PW.pt (pw_and (pt_cmpR op_eq (pv 3) pe_str (nomark _)) (pw_and1 (pt_cmpR op_eq (pv 4) pe_int (nomark _))))) (pss_cons (ps_expr (pe_bm PySem.F.plainAttrs_list PySem.F.slot_list_append PySem.F.type_list_append mt_append (pv 2) (pa_cons (pe_tup (pa_cons (pe_ix ix_tup (pv 0) pe_int (fun _ _ => rfl)) (pa_cons (pe_op op_add (pv 1) pe_int) (pa_cons pe_bl pa_nil)))) pa_nil))) (pss_one (ps_ret pe_int))) pss_nil) (pss_cons (ps_if (PW.pt (pw_and (pt_cmpR op_eq (pv 3) pe_str (nomark _)) (pw_and (pt_cmpR op_eq (pv 4) pe_int (nomark _)) (pw_and1 (pt_val (pe_call GN hr (by rfl) DN.g DN.k DN.b .nil pass0 (pa_cons (pe_ix ix_tup (pv 0) pe_int (fun _ _ => rfl)) (pa_cons pe_bl pa_nil)))))))) (pss_cons (ps_expr (pe_bm PySem.F.plainAttrs_list PySem.F.slot_list_extend PySem.F.type_list_extend mt_extend (pv 2) (pa_cons (pe_lst (pa_cons (pe_tup (pa_cons (pe_ix ix_tup (pv 0) pe_int (fun _ _ => rfl)) (pa_cons (pe_op op_add (pv 1) pe_int) (pa_cons pe_bl pa_nil)))) (pa_cons (pe_tup (pa_cons (pe_ix ix_tup (pv 0) pe_int (fun _ _ => rfl)) (pa_cons (pe_op op_add (pv 1) pe_int) (pa_cons pe_bl pa_nil)))) pa_nil))) pa_nil))) (pss_one (ps_ret pe_int))) pss_nil) (pss_cons (ps_if (PW.pt (pw_and (pt_cmpR op_eq (pv 3) pe_str (nomark _)) (pw_and1 (pt_cmpR op_eq (pv 4) pe_int (nomark _))))) (pss_cons (ps_expr (pe_bm PySem.F.plainAttrs_list PySem.F.slot_list_extend PySem.F.type_list_extend mt_extend (pv 2) (pa_cons (pe_lst (pa_cons (pe_tup (pa_cons (pe_ix ix_tup (pv 0) pe_int (fun _ _ => rfl)) (pa_cons (pe_op op_add (pv 1) pe_int) (pa_cons pe_bl pa_nil)))) (pa_cons (pe_tup (pa_cons (pe_ix ix_tup (pv 0) pe_int (fun _ _ => rfl)) (pa_cons (pe_op op_add (pv 1) pe_int) (pa_cons pe_bl pa_nil)))) pa_nil))) pa_nil))) (pss_cons (ps_expr (pe_bm PySem.F.plainAttrs_list PySem.F.slot_list_extend PySem.F.type_list_extend mt_extend (pv 2) (pa_cons (pe_lst (pa_cons (pe_tup (pa_cons (pe_ix ix_tup (pv 0) pe_int (fun _ _ => rfl)) (pa_cons (pe_op op_add (pv 1) pe_int) (pa_cons pe_bl pa_nil)))) (pa_cons (pe_tup (pa_cons (pe_ix ix_tup (pv 0) pe_int (fun _ _ => rfl)) (pa_cons (pe_op op_add (pv 1) pe_int) (pa_cons pe_bl pa_nil)))) pa_nil))) pa_nil))) (pss_one (ps_ret pe_int)))) pss_nil) (pss_cons (ps_if (PW.pt (pw_or (pt_cmpR op_ne (pv 3) pe_str (nomark _)) (pw_or (pt_cmpR op_ne (pv 4) pe_int (nomark _)) (pw_or1 (pt_not (pt_val (pe_call GT hr (by rfl) DT.g DT.k DT.b .nil pass0 (pa_cons (pe_ix ix_tup (pv 0) pe_int (fun _ _ => rfl)) (pa_cons pe_int (pa_cons pe_int pa_nil)))))))))) (pss_one (ps_ret pe_non)) pss_nil) (pss_cons (ps_expr (pe_bm PySem.F.plainAttrs_list PySem.F.slot_list_append PySem.F.type_list_append mt_append (pv 2) (pa_cons (pe_tup (pa_cons (pe_ix ix_tup (pv 0) pe_int (fun _ _ => rfl)) (pa_cons (pe_op op_add (pv 1) pe_int) (pa_cons pe_bl pa_nil)))) pa_nil))) (pss_cons (ps_set (i := 5) c62.nd rfl (Or.inl rfl) pe_int) (pss_cons (ps_for PassesOwn.never rfl (pi_tup (pe_ix ix_tup (pv 0) pe_int (fun _ _ => rfl))) (pg_name (i := 6) c62.nd rfl (Or.inl rfl)) (pss_cons (ps_if (PW.pt (pw_or (pt_not (pt_val (pe_call GT hr (by rfl) DT.g DT.k DT.b .nil pass0 (pa_cons (pv 6) (pa_cons pe_int (pa_cons pe_int pa_nil)))))) (pw_or (pt_not (pt_val (pe_call GN hr (by rfl) DN.g DN.k DN.b .nil pass0 (pa_cons (pe_ix ix_tup (pv 6) pe_int (fun _ _ => rfl)) (pa_cons pe_bl pa_nil))))) (pw_or1 (pt_not (pt_val (pe_call GT hr (by rfl) DT.g DT.k DT.b .nil pass0 (pa_cons (pe_ix ix_tup (pv 6) pe_int (fun _ _ => rfl)) (pa_cons pe_int (pa_cons pe_int pa_nil)))))))))) (pss_one (ps_ret pe_non)) pss_nil) (pss_cons (ps_if (pt_cmpR (op_neNil (Nat.lt_of_le_of_lt (Nat.le_add_right _ 64) hr.units)) (pe_lc (own := [("_law_name", 7)]) (g := gName 7) (by rfl) c62.nd (pi_tup (pe_ix ix_tup (pv 6) pe_int (fun _ _ => rfl))) (blkOk_by (own := [("_law_name", 7)]) (N := ["_law_thing", "_law_deep", "_law_todo", "_law_word_here", "_law_size", "_law_many", "_law_branch", "_law_name"]) (sc := defScope lStepB) (by decide +kernel)) (fun _ _ _ _ _ => (pg_name (i := 7) c62.nd rfl (Or.inl rfl))) (fun _ _ _ _ _ => (pts_one (pt_not (pt_val (pe_call GN hr (by rfl) DN.g DN.k DN.b .nil pass0 (pa_cons (pv 7) (pa_cons pe_bl pa_nil))))))) (fun _ _ _ _ _ => (pv 7))) (pe_lst pa_nil) (nomark _)) (pss_one (ps_ret pe_non)) pss_nil) (pss_cons (ps_aug (i := 5) c62.nd rfl (.inl rfl) (pe_callB call_len_seq (by rfl) N.nl PySem.boot_len (pa_cons (pe_ix ix_tup (pv 6) pe_int (fun _ _ => rfl)) pa_nil)) ip_add) (pss_one (ps_expr (pe_bm PySem.F.plainAttrs_list PySem.F.slot_list_append PySem.F.type_list_append mt_append (pv 2) (pa_cons (pe_tup (pa_cons (pe_ix ix_tup (pv 6) pe_int (fun _ _ => rfl)) (pa_cons (pe_op op_add (pv 1) pe_int) (pa_cons pe_bl pa_nil)))) pa_nil)))))))) (pss_one (ps_ret (pv 5)))))))))))), ?_⟩
    have z0 : bodyP d = none → ∀ H', GrowW t H H' → Q .non H' := fun e H' g => k0 (.inl e) H' g
    refine ⟨_, rfl, _, d, _, _, rfl, en.any, _, rfl, ?_⟩
    cases e25 : isTu 2 5 d with
    | false => exact iteT (z0 (none25 e25).2 H (GrowW.refl _ _))
    | true =>
      cases en with
      | @tup a ys l ha el =>
        obtain ⟨d0, r, rfl⟩ : ∃ d0 r, l = d0 :: r := by
          cases l with
          | nil => cases e25
          | cons d0 r => exact ⟨d0, r, rfl⟩
        cases el with
        | @cons _ x0 _ xr h0 er =>
        obtain ⟨_, _, kS, _⟩ := kitD d0
        have g0 : atI (x0 :: xr) 0 = some x0 := at_of (j := 0) rfl rfl
        refine iteF ⟨_, rfl, a, _, _, _, rfl, rfl, SqT.of ha, g0, _, _, _, _, _, rfl, .ty "str", h0.ty, kit_ty kS, _, rfl, ?_⟩
        cases eS : bS d0 with
        | false => exact iteT (z0 (noneS eS).2 H (GrowW.refl _ _))
        | true =>
        cases h0 with
        | str wd hz =>
          have el : EncsB B H (.str wd :: r) (.str wd :: xr) := .cons (.str wd hz) er
          refine iteF ⟨_, rfl, _, _, rfl, rfl, _, rfl, ?_⟩
          by_cases h30 : (30 : Int) < (n : Int)
          · rw [decide_eq_true h30]
            exact iteT (k0 (.inr (by omega)) H (GrowW.refl _ _))
          rw [decide_eq_false h30]
          have ks := fun nm ts bs (e : bodyP (.tup (.str wd :: r)) = some (nm, ts, bs)) => ks nm ts bs e (by omega)
          refine iteF ⟨_, rfl, a, _, _, _, rfl, rfl, SqT.of ha, g0, _, rfl, a, _, rfl, .inr (SqT.of ha), _, _, rfl, ?_⟩
          have eT : bodyP (.tup (.str wd :: r)) = bodyL wd (.str wd :: r) := rfl
          rw [eT] at z0 ks
          generalize hl : Da.str wd :: r = l at z0 ks el
          generalize hx : V.str wd :: xr = zs at ha el
          clear hl hx g0 er eT
          -- give
          try dsimp only [tSeq, tIfS, tNext]
          refine rd_and0 (c1 := decide (wd = "give")) (c2 := lenIs l 2) (fun R' h => ⟨_, rfl, rfl, _, rfl, by rw [eqS]; exact h⟩) (fun e kk => ⟨_, rfl, rfl, _, rfl, by rw [show decide (V.int (zs.length : Nat) = V.int 2) = lenIs l 2 from eqL (n := 2) el]; exact kk⟩) ?_
          show if b3 wd l = true then _ else _
          refine b_if (fun h3 => ?_) (fun h3 => ?_)
          · obtain ⟨rfl, h2⟩ := b3_give h3
            obtain ⟨a0, d1, rfl⟩ := len2 h2
            obtain ⟨x0, x1, rfl, e0, e1⟩ := encs2 el
            have i1 : atI [x0, x1] 1 = some x1 := at_of (j := 1) rfl rfl
            refine ⟨_, rfl, .inl ⟨rfl, _, SqL.of hw⟩, _, rfl, a, _, _, _, rfl, rfl, SqT.of ha, i1, _, rfl, _, _, rfl, rfl, (by show 3 ≤ sizeLine; decide), fun t1 ht1 => ?_⟩
            have g1 := Grow.new (o := .tup [x1, .int ((n : Int) + 1), .bl false]) ht1
            have q1 : upd H t1 (.tup [x1, .int ((n : Int) + 1), .bl false]) t1 = some (.tup [x1, .int ((n : Int) + 1), .bl false]) := upd_same
            generalize upd H t1 (.tup [x1, .int ((n : Int) + 1), .bl false]) = H1 at g1 q1 ⊢
            refine ⟨t, _, _, rfl, rfl, g1.lst hw, by rw [sizeLine_eq]; omega, ?_⟩
            exact ks 0 [d1] [] (by rw [bl_give, h2]; rfl) _ [.ref t1] (Grow.putW g1) upd_same (putL (g1.lst hw) nB (.cons q1 (e1.grow g1) .nil))
          -- let
          try dsimp only [tSeq, tIfS, tNext]
          refine rd_and (c1 := decide (wd = "let")) (c2 := lenIs l 4 && isLow (J1.g1 l)) (fun R' h => ⟨_, rfl, rfl, _, rfl, by rw [eqS]; exact h⟩) (fun e kk => rd_and (c1 := lenIs l 4) (c2 := isLow (J1.g1 l)) (fun R' h => ⟨_, rfl, rfl, _, rfl, by rw [show decide (V.int (zs.length : Nat) = V.int 4) = lenIs l 4 from eqL (n := 4) el]; exact h⟩) (fun e2 kk => ?_) kk) (fun H1 gr1 => ?_)
          · obtain ⟨y, gy, _, ey⟩ := get_at (j := 1) el (by have : l.length = 4 := of_decide_eq_true e2; omega)
            exact ⟨_, rfl, a, _, _, _, rfl, rfl, SqT.of ha, gy, _, _, false, rfl, ey.any, fun H' g' => ⟨_, rfl, kk H' g'⟩⟩
          have ha := gr1.tup ha
          have el := el.grow gr1
          have hw1 := gr1.lst hw
          show if b1 wd l = true then _ else _
          refine b_if (fun h1 => ?_) (fun h1 => ?_)
          · obtain ⟨rfl, h2, hL⟩ := b1_let h1
            obtain ⟨a0, d1, d2, d3, rfl⟩ := len4 h2
            obtain ⟨x0, x1, x2, x3, rfl, e0, e1, e2, e3⟩ := encs4 el
            have i2 : atI [x0, x1, x2, x3] 2 = some x2 := at_of (j := 2) rfl rfl
            have i3 : atI [x0, x1, x2, x3] 3 = some x3 := at_of (j := 3) rfl rfl
            refine ⟨_, rfl, .inl ⟨rfl, _, SqL.of hw1⟩, _, rfl, a, _, _, _, rfl, rfl, SqT.of ha, i2, _, rfl, _, _, rfl, rfl, (by show 3 ≤ sizeLine; decide), fun t1 ht1 => ?_⟩
            have g1 := Grow.new (o := .tup [x2, .int ((n : Int) + 1), .bl false]) ht1
            have q1 : upd H1 t1 (.tup [x2, .int ((n : Int) + 1), .bl false]) t1 = some (.tup [x2, .int ((n : Int) + 1), .bl false]) := upd_same
            generalize upd H1 t1 (.tup [x2, .int ((n : Int) + 1), .bl false]) = H2 at g1 q1 ⊢
            refine ⟨_, rfl, a, _, _, _, rfl, rfl, SqT.of (g1.tup ha), i3, _, rfl, _, _, rfl, rfl, (by show 3 ≤ sizeLine; decide), fun t2 ht2 => ⟨(by show 2 ≤ sizeLine; decide), fun D hD => ?_⟩⟩
            have g12 := Grow.new (o := .tup [x3, .int ((n : Int) + 1), .bl true]) ht2
            have q2 : upd H2 t2 (.tup [x3, .int ((n : Int) + 1), .bl true]) t2 = some (.tup [x3, .int ((n : Int) + 1), .bl true]) := upd_same
            generalize upd H2 t2 (.tup [x3, .int ((n : Int) + 1), .bl true]) = H3 at g12 q2 hD ⊢
            have gD := Grow.new (o := .lst [V.ref t1, V.ref t2]) hD
            have qD : upd H3 D (.lst [V.ref t1, V.ref t2]) D = some (.lst [V.ref t1, V.ref t2]) := upd_same
            generalize upd H3 D (.lst [V.ref t1, V.ref t2]) = H4 at gD qD ⊢
            have g4 := (g1.trans g12).trans gD
            refine ⟨t, D, xs, _, rfl, rfl, g4.lst hw1, qD, by rw [sizeLine_eq]; simp only [List.length_append, List.length_cons, List.length_nil]; omega, ?_⟩
            exact ks 1 [d2] [d3] (by rw [bl_let]; simp [lenIs, hL, J1.g2, J1.g3]) _ [.ref t1, .ref t2] (Grow.putW (gr1.trans g4)) upd_same (putL (g4.lst hw1) nB (.cons ((g12.trans gD).tup q1) (e2.grow g4) (.cons (gD.tup q2) (e3.grow g4) .nil)))
          -- if
          try dsimp only [tSeq, tIfS, tNext]
          refine rd_and0 (c1 := decide (wd = "if")) (c2 := lenIs l 5) (fun R' h => ⟨_, rfl, rfl, _, rfl, by rw [eqS]; exact h⟩) (fun e kk => ⟨_, rfl, rfl, _, rfl, by rw [show decide (V.int (zs.length : Nat) = V.int 5) = lenIs l 5 from eqL (n := 5) el]; exact kk⟩) ?_
          show if b2 wd l = true then _ else _
          refine b_if (fun h2 => ?_) (fun h2 => ?_)
          · obtain ⟨rfl, h5⟩ := b2_if h2
            obtain ⟨a0, d1, d2, d3, d4, rfl⟩ := len5 h5
            obtain ⟨x0, x1, x2, x3, x4, rfl, e0, e1, e2, e3, e4⟩ := encs5 el
            have i1 : atI [x0, x1, x2, x3, x4] 1 = some x1 := at_of (j := 1) rfl rfl
            have i2 : atI [x0, x1, x2, x3, x4] 2 = some x2 := at_of (j := 2) rfl rfl
            have i3 : atI [x0, x1, x2, x3, x4] 3 = some x3 := at_of (j := 3) rfl rfl
            have i4 : atI [x0, x1, x2, x3, x4] 4 = some x4 := at_of (j := 4) rfl rfl
            refine ⟨_, rfl, .inl ⟨rfl, _, SqL.of hw1⟩, _, rfl, a, _, _, _, rfl, rfl, SqT.of ha, i1, _, rfl, _, _, rfl, rfl, (by show 3 ≤ sizeLine; decide), fun t1 ht1 => ?_⟩
            have g1 := Grow.new (o := .tup [x1, .int ((n : Int) + 1), .bl false]) ht1
            have q1 : upd H1 t1 (.tup [x1, .int ((n : Int) + 1), .bl false]) t1 = some (.tup [x1, .int ((n : Int) + 1), .bl false]) := upd_same
            generalize upd H1 t1 (.tup [x1, .int ((n : Int) + 1), .bl false]) = H2 at g1 q1 ⊢
            refine ⟨_, rfl, a, _, _, _, rfl, rfl, SqT.of (g1.tup ha), i2, _, rfl, _, _, rfl, rfl, (by show 3 ≤ sizeLine; decide), fun t2 ht2 => ⟨(by show 2 ≤ sizeLine; decide), fun D hD => ?_⟩⟩
            have g12 := Grow.new (o := .tup [x2, .int ((n : Int) + 1), .bl false]) ht2
            have q2 : upd H2 t2 (.tup [x2, .int ((n : Int) + 1), .bl false]) t2 = some (.tup [x2, .int ((n : Int) + 1), .bl false]) := upd_same
            generalize upd H2 t2 (.tup [x2, .int ((n : Int) + 1), .bl false]) = H3 at g12 q2 hD ⊢
            have gD := Grow.new (o := .lst [V.ref t1, V.ref t2]) hD
            have qD : upd H3 D (.lst [V.ref t1, V.ref t2]) D = some (.lst [V.ref t1, V.ref t2]) := upd_same
            generalize upd H3 D (.lst [V.ref t1, V.ref t2]) = H4 at gD qD ⊢
            have g4 := (g1.trans g12).trans gD
            refine ⟨t, D, xs, _, rfl, rfl, g4.lst hw1, qD, by rw [sizeLine_eq]; simp only [List.length_append, List.length_cons, List.length_nil]; omega, ?_⟩
            have hwt : ∀ ys, H4 t ≠ some (.tup ys) := fun ys z => by rw [g4.lst hw1] at z; cases z
            have gu : GrowW t H4 (upd H4 t (.lst (xs ++ [.ref t1, .ref t2]))) := GrowW.upd
            have gm : GrowW t H (upd H4 t (.lst (xs ++ [.ref t1, .ref t2]))) := Grow.putW (gr1.trans g4)
            have itsm : ItsL B (upd H4 t (.lst (xs ++ [.ref t1, .ref t2]))) [(d1, false, n + 1), (d2, false, n + 1)] [.ref t1, .ref t2] := putL (g4.lst hw1) nB (.cons ((g12.trans gD).tup q1) (e1.grow g4) (.cons (gD.tup q2) (e2.grow g4) .nil))
            have ham := gu.tup hwt (g4.tup ha)
            have e3m := (e3.grow g4).growW gu nB hwt
            have e4m := (e4.grow g4).growW gu nB hwt
            have hwm : upd H4 t (.lst (xs ++ [.ref t1, .ref t2])) t = some (.lst (xs ++ [.ref t1, .ref t2])) := upd_same
            generalize upd H4 t (.lst (xs ++ [.ref t1, .ref t2])) = Hm at gm itsm ham e3m e4m hwm ⊢
            refine ⟨_, rfl, .inl ⟨rfl, _, SqL.of hwm⟩, _, rfl, a, _, _, _, rfl, rfl, SqT.of ham, i3, _, rfl, _, _, rfl, rfl, (by show 3 ≤ sizeLine; decide), fun t3 ht3 => ?_⟩
            have g5 := Grow.new (o := .tup [x3, .int ((n : Int) + 1), .bl true]) ht3
            have q3 : upd Hm t3 (.tup [x3, .int ((n : Int) + 1), .bl true]) t3 = some (.tup [x3, .int ((n : Int) + 1), .bl true]) := upd_same
            generalize upd Hm t3 (.tup [x3, .int ((n : Int) + 1), .bl true]) = H5 at g5 q3 ⊢
            refine ⟨_, rfl, a, _, _, _, rfl, rfl, SqT.of (g5.tup ham), i4, _, rfl, _, _, rfl, rfl, (by show 3 ≤ sizeLine; decide), fun t4 ht4 => ⟨(by show 2 ≤ sizeLine; decide), fun D2 hD2 => ?_⟩⟩
            have g56 := Grow.new (o := .tup [x4, .int ((n : Int) + 1), .bl true]) ht4
            have q4 : upd H5 t4 (.tup [x4, .int ((n : Int) + 1), .bl true]) t4 = some (.tup [x4, .int ((n : Int) + 1), .bl true]) := upd_same
            generalize upd H5 t4 (.tup [x4, .int ((n : Int) + 1), .bl true]) = H6 at g56 q4 hD2 ⊢
            have gD2 := Grow.new (o := .lst [V.ref t3, V.ref t4]) hD2
            have qD2 : upd H6 D2 (.lst [V.ref t3, V.ref t4]) D2 = some (.lst [V.ref t3, V.ref t4]) := upd_same
            generalize upd H6 D2 (.lst [V.ref t3, V.ref t4]) = H7 at gD2 qD2 ⊢
            have g7 := (g5.trans g56).trans gD2
            refine ⟨t, D2, _, _, rfl, rfl, g7.lst hwm, qD2, by rw [sizeLine_eq]; simp only [List.length_append, List.length_cons, List.length_nil]; omega, ?_⟩
            refine ks 0 [d1, d2] [d3, d4] (by rw [bl_if, h5]; rfl) _ ([.ref t1, .ref t2] ++ [.ref t3, .ref t4]) (gm.trans' (Grow.putW g7)) (by rw [← List.append_assoc]; exact upd_same) ?_
            exact (putL (g7.lst hwm) nB (itsm.grow g7)).app (putL (g7.lst hwm) nB (.cons ((g56.trans gD2).tup q3) (e3m.grow g7) (.cons (gD2.tup q4) (e4m.grow g7) .nil)))
          -- match
          rw [bl_rest h1 h2 h3] at z0
          refine ⟨_, rfl, rfl, _, rfl, w_ifn (fun hm => z0 (if_neg (by unfold b4; rw [decide_eq_false hm]; simp)) H1 gr1.w) (fun hm => ⟨_, rfl, rfl, _, rfl, sz_ifn (n := 3) el (fun h5 => z0 (if_neg (by unfold b4; rw [h5]; simp)) H1 gr1.w) (fun h5 => ?_)⟩)⟩
          subst hm
          obtain ⟨a0, d1, d2, rfl⟩ := len3 h5
          obtain ⟨x0, x1, x2, rfl, e0, e1, e2⟩ := encs3 el
          have i1 : atI [x0, x1, x2] 1 = some x1 := at_of (j := 1) rfl rfl
          have i2 : atI [x0, x1, x2] 2 = some x2 := at_of (j := 2) rfl rfl
          refine ⟨_, rfl, a, _, _, _, rfl, rfl, SqT.of ha, i2, _, d2, _, _, rfl, e2.any, _, rfl, ?_⟩
          show if (!isTu 1 8 d2) = true then _ else _
          refine b_ifn (fun h6 => z0 (if_neg (by unfold b4; simp [J1.g2, h6])) H1 gr1.w) (fun h6 => ?_)
          have h4 : b4 "match" [a0, d1, d2] = true := by
            unfold b4
            simp [J1.g2, h6, lenIs]
          rw [if_pos h4] at z0
          refine ⟨_, rfl, .inl ⟨rfl, _, SqL.of hw1⟩, _, rfl, a, _, _, _, rfl, rfl, SqT.of ha, i1, _, rfl, _, _, rfl, rfl, (by show 3 ≤ sizeLine; decide), fun t1 ht1 => ?_⟩
          have g1 := Grow.new (o := .tup [x1, .int ((n : Int) + 1), .bl false]) ht1
          have q1 : upd H1 t1 (.tup [x1, .int ((n : Int) + 1), .bl false]) t1 = some (.tup [x1, .int ((n : Int) + 1), .bl false]) := upd_same
          generalize upd H1 t1 (.tup [x1, .int ((n : Int) + 1), .bl false]) = H2 at g1 q1 ⊢
          refine ⟨t, _, _, rfl, rfl, g1.lst hw1, by rw [sizeLine_eq]; omega, ?_⟩
          have hwt : ∀ ys, H2 t ≠ some (.tup ys) := fun ys z => by rw [g1.lst hw1] at z; cases z
          have gu : GrowW t H2 (upd H2 t (.lst (xs ++ [.ref t1]))) := GrowW.upd
          have gm : GrowW t H (upd H2 t (.lst (xs ++ [.ref t1]))) := Grow.putW (gr1.trans g1)
          have itsm : ItsL B (upd H2 t (.lst (xs ++ [.ref t1]))) [(d1, false, n + 1)] [.ref t1] := putL (g1.lst hw1) nB (.cons q1 (e1.grow g1) .nil)
          have ham := gu.tup hwt (g1.tup ha)
          have e2m := (e2.grow g1).growW gu nB hwt
          have hwm : upd H2 t (.lst (xs ++ [.ref t1])) t = some (.lst (xs ++ [.ref t1])) := upd_same
          have youngm : ∀ w, upd H2 t (.lst (xs ++ [.ref t1])) w = none → ¬ B w := fun w hw' => by
            by_cases z : w = t
            · rw [z]; exact nB
            · rw [upd_ne z] at hw'
              exact young w (Grow.none (gr1.trans g1) hw')
          generalize upd H2 t (.lst (xs ++ [.ref t1])) = Hm at gm itsm ham e2m hwm youngm ⊢
          have hwtm : ∀ ys, Hm t ≠ some (.tup ys) := fun ys z => by rw [hwm] at z; cases z
          cases e2m with
          | @tup b us ts hb eu =>
            have hl8 : ts.length ≤ 8 := by
              have h6 : (decide ((1 : Int) ≤ (ts.length : Int)) && decide ((ts.length : Int) ≤ 8)) = true := h6
              rw [Bool.and_eq_true] at h6
              have := of_decide_eq_true h6.2
              omega
            have hl9 := eu.length
            refine ⟨_, rfl, a, _, _, _, rfl, rfl, SqT.of ham, i2, b, rfl, ⟨us, SqT.of hb⟩, ?_⟩
            refine for_tup (xs := us) (fun i σ' Hc => ∃ v6 v7 acc, σ' = [some (.ref a), some (.int (n : Nat)), some (.ref t), some (.str "match"), some (.int (([x0, x1, .ref b] : List V).length : Nat)), some (.int ((1 + sumN (ts.take i) : Nat) : Int)), v6, v7] ∧ GrowW t Hm Hc ∧ Hc t = some (.lst (xs ++ [.ref t1] ++ acc)) ∧ acc.length = i ∧
              ItsL B Hc ((ts.take i).map fun b => (bodyOf b, true, n + 1)) acc ∧ (ts.take i).all isBranch = true) ⟨_, _, [], rfl, GrowW.refl _ _, by rw [List.append_nil]; exact hwm, rfl, .nil, rfl⟩ (fun i σ' Hc _ hp => ?_) (fun i z σ' Hc hz hp => ?_) (fun σ' Hc hp => ?_)
            · obtain ⟨v6, v7, acc, rfl, g, _⟩ := hp
              exact SqT.of (g.tup hwtm hb)
            · obtain ⟨v6, v7, acc, rfl, gc, hwc, hacc, its, hall⟩ := hp
              have hi : i < us.length := (List.getElem?_eq_some_iff.mp hz).1
              obtain ⟨d6, hd6, en6⟩ := (eu.growW gc nB hwtm).get hz
              have hct : ∀ ys, Hc t ≠ some (.tup ys) := fun ys z => by rw [hwc] at z; cases z
              have bad : ∀ H', GrowW t Hc H' → isBranch d6 = false → Q .non H' := fun H' g' e => z0 (if_neg (by
                show ¬ ts.all isBranch = true
                rw [all_not hd6 e]
                decide)) H' ((gm.trans' gc).trans' g')
              refine ⟨_, rfl, _, d6, _, _, rfl, en6.any, _, rfl, ?_⟩
              show if (!isTu 3 3 d6) = true then _ else _
              refine b_ifn (fun e => bad Hc (GrowW.refl _ _) (by
                unfold isBranch
                split
                · cases e
                · rfl)) (fun e => ?_)
              obtain ⟨n6, m6, y6, rfl⟩ := tu3 e
              obtain ⟨a6, zs6, rfl, ha6, el6⟩ := enc_tup en6
              obtain ⟨u1, u2, u3, rfl, k1, k2, k3⟩ := encs3 el6
              have j0 : atI [u1, u2, u3] 0 = some u1 := at_of (j := 0) rfl rfl
              have j1 : atI [u1, u2, u3] 1 = some u2 := at_of (j := 1) rfl rfl
              have j2 : atI [u1, u2, u3] 2 = some u3 := at_of (j := 2) rfl rfl
              refine ⟨_, rfl, a6, _, _, _, rfl, rfl, SqT.of ha6, j0, _, n6, true, rfl, k1.any, fun H3 gr3 => ⟨_, rfl, ?_⟩⟩
              show if (!isHig n6) = true then _ else _
              refine b_ifn (fun e7 => bad H3 gr3.w (by
                unfold isBranch
                split
                · rename_i zz
                  cases zz
                  rw [e7, Bool.false_and]
                · rfl)) (fun e7 => ?_)
              have e8 := branch_eq (d2 := m6) (d3 := y6) e7
              have k2 := k2.grow gr3
              refine ⟨_, rfl, a6, _, _, _, rfl, rfl, SqT.of (gr3.tup ha6), j1, _, m6, _, _, rfl, k2.any, _, rfl, ?_⟩
              show if (!isTu 0 5 m6) = true then _ else _
              refine b_ifn (fun e9 => bad H3 gr3.w (by rw [e8, e9, Bool.false_and])) (fun e9 => ?_)
              rw [e9, Bool.true_and] at e8
              cases k2 with
              | @tup b7 us7 ts7 hb7 eu7 =>
                have e8 : isBranch (.tup [n6, .tup ts7, y6]) = ts7.all isLow := e8
                have hl7 : ts7.length ≤ 5 := by
                  have e9 : (decide ((0 : Int) ≤ (ts7.length : Int)) && decide ((ts7.length : Int) ≤ 5)) = true := e9
                  rw [Bool.and_eq_true] at e9
                  have := of_decide_eq_true e9.2
                  omega
                have hl7' := eu7.length
                refine ⟨_, rfl, a6, _, _, _, rfl, rfl, SqT.of (gr3.tup ha6), j1, b7, rfl, ⟨us7, SqT.of hb7⟩, fun D hD => ?_⟩
                refine lc_tup (xs := us7) (fun i Hx => ∃ acc, Hx D = some (.lst acc) ∧ acc.isEmpty = (ts7.take i).all isLow ∧ acc.length ≤ i ∧ Grow H3 Hx) ⟨[], upd_same, rfl, Nat.le_refl _, Grow.new hD⟩ (fun i Hx _ hp => SqT.of (hp.choose_spec.2.2.2.tup hb7)) (fun i9 z9 Hx hz9 hp => ?_) (fun Hd hp => ?_)
                · obtain ⟨acc9, hacc9, hem, hl, gx⟩ := hp
                  obtain ⟨d9, hd9, en9⟩ := (eu7.grow gx).get hz9
                  have eall : (ts7.take (i9 + 1)).all isLow = ((ts7.take i9).all isLow && isLow d9) := by
                    rw [List.take_succ, hd9, List.all_append]
                    simp
                  have hi9 : i9 < us7.length := (List.getElem?_eq_some_iff.mp hz9).1
                  refine ⟨wipe_set, _, rfl, _, d9, false, rfl, en9.any, fun H8 gr8 => ⟨_, rfl, ?_⟩⟩
                  show if (!isLow d9) = true then _ else _
                  refine b_ifn (fun ek => ⟨_, rfl, acc9, gr8.lst hacc9, by rw [sizeLine_eq]; omega, acc9 ++ [z9], upd_same, ?_, ?_, (gx.trans gr8).but hD⟩) (fun ek => ⟨acc9, gr8.lst hacc9, by rw [eall, ek, Bool.and_true]; exact hem, by omega, gx.trans gr8⟩)
                  · rw [eall, ek, Bool.and_false]
                    cases acc9 <;> rfl
                  · rw [List.length_append, List.length_singleton]
                    omega
                · obtain ⟨acc9, hacc9, hem, _, gD⟩ := hp
                  refine ⟨Nat.zero_le _, fun e he => ?_⟩
                  have ge := Grow.new (o := .lst []) he
                  refine ⟨_, _, acc9, rfl, rfl, SqL.of (ge.lst hacc9), SqL.of upd_same, _, rfl, ?_⟩
                  have hem : acc9.isEmpty = ts7.all isLow := by
                    rw [← eu7.length, List.take_length] at hem
                    exact hem
                  have g9 := (gr3.trans gD).trans ge
                  have g39 := gD.trans ge
                  generalize upd Hd e (.lst []) = H9 at g9 g39 ge ⊢
                  show if (!acc9.isEmpty) = true then _ else _
                  rw [hem, ← e8]
                  refine b_ifn (fun ex => bad H9 g9.w ex) (fun ex => ?_)
                  refine ⟨_, rfl, _, rfl, a6, _, _, _, rfl, rfl, SqT.of (g9.tup ha6), j1, b7, us7, rfl, .inr (SqT.of (g39.tup hb7)), _, _, rfl, rfl, ?_⟩
                  refine ⟨_, rfl, .inl ⟨rfl, _, SqL.of (g9.lst hwc)⟩, _, rfl, a6, _, _, _, rfl, rfl, SqT.of (g9.tup ha6), j2, _, rfl, _, _, rfl, rfl, (by show 3 ≤ sizeLine; decide), fun t9 ht9 => ⟨t, _, _, rfl, rfl, (Grow.new ht9).lst (g9.lst hwc), by rw [sizeLine_eq]; simp only [List.length_append, List.length_cons, List.length_nil]; omega, ?_⟩⟩
                  have g10 := g9.trans (Grow.new (o := .tup [u3, .int ((n : Int) + 1), .bl true]) ht9)
                  have q9 : upd H9 t9 (.tup [u3, .int ((n : Int) + 1), .bl true]) t9 = some (.tup [u3, .int ((n : Int) + 1), .bl true]) := upd_same
                  generalize upd H9 t9 (.tup [u3, .int ((n : Int) + 1), .bl true]) = H10 at g10 q9 ⊢
                  refine ⟨some (.ref a6), v7, acc ++ [.ref t9], ?_, gc.trans' (Grow.putW g10), by rw [← List.append_assoc]; exact upd_same, by rw [List.length_append, hacc]; rfl, ?_, (all_take hall hd6).trans ex⟩
                  · have es : sumN (ts.take (i + 1)) = sumN (ts.take i) + us7.length := by
                      unfold sumN
                      rw [List.take_succ, hd6, List.map_append, List.sum_append, ← hl7']
                      rfl
                    rw [es, ← Nat.add_assoc]
                    rfl
                  · rw [List.take_succ, hd6, List.map_append]
                    exact (putL (g10.lst hwc) nB (its.grow g10)).app (putL (g10.lst hwc) nB (.cons q9 (k3.grow g10) .nil))
              | _ => cases e9
            · obtain ⟨v6, v7, acc, rfl, gc, hwc, hacc, its, hall⟩ := hp
              rw [← hl9, List.take_length] at its hall
              refine ⟨_, rfl, ?_⟩
              rw [← hl9, List.take_length]
              refine ks (sumN ts) [d1] (ts.map bodyOf) ?_ Hc ([.ref t1] ++ acc) (gm.trans' gc) (by rw [← List.append_assoc]; exact hwc) ?_
              · rw [bl_match]
                have q : (lenIs [a0, d1, .tup ts] 3 && isTu 1 8 (J1.g2 [a0, d1, .tup ts])) = true := by
                  simp [lenIs, J1.g2, h6]
                rw [if_pos q]
                have q2 : (parts (J1.g2 [a0, d1, .tup ts])).all isBranch = true := hall
                rw [if_pos q2]
                rfl
              · unfold next
                rw [List.map_map]
                exact (itsm.growW gc nB hwtm).app its
          | _ => cases h6
        | _ => cases eS
      | _ => cases e25
end
end J1
set_option Elab.async false
set_option linter.all false
set_option maxRecDepth 100000
set_option maxHeartbeats 4000000
namespace J1
open PySem PySem.Spec PyProof.Rows L2 GxR GA
theorem Grow.outW {w : Addr} {H H1 H2 : Hp} (g : Grow H H1) (gw : GrowW w H1 H2) (hw : H w = Option.none) : Grow H H2 := fun a o h => by
  have n : a ≠ w := fun z => by rw [z, hw] at h; cases h
  rcases g a o h with q | ⟨q1, ps, q2, q3⟩
  · exact gw a o n q
  · rcases gw a _ n q2 with q | ⟨_, q⟩
    · exact .inr ⟨q1, ps, q, q3⟩
    · exact .inr ⟨q1, q⟩
section
variable {P : Program} {w : World} {K : PySem.W.Frag} {mg : Str → Option Value} {base : Heap}
theorem ok_lfun {f fT fN fK fB fS : Addr} {fd fdT fdN fdK fdB fdS : FuncData} (F : Fun K "_law_is_function" "_law_is_function" lFun f fd) (GT : FnOk P w K mg base CX0 1 fT fdT ["_law_x", "_law_low", "_law_high"] (spF3 isTu)) (DT : Df K mg "_law_is_tuple" ["_law_x", "_law_low", "_law_high"] fT fdT)
    (GN : FnOk P w K mg base CX0 1 fN fdN ["_law_x", "_law_capital"] spN) (DN : Df K mg "_law_is_name" ["_law_x", "_law_capital"] fN fdN) (GK : FnOk P w K mg base CX0 2 fK fdK ["_law_x"] (spG (fun _ => True) isKin)) (DK : Df K mg "_law_is_kind" ["_law_x"] fK fdK)
    (GB : FnOk P w K mg base CX0 2 fB fdB ["_law_thing", "_law_deep", "_law_todo"] (spStep bodyP)) (DB : Df K mg "_law_step_body" ["_law_thing", "_law_deep", "_law_todo"] fB fdB) (GS : FnOk P w K mg base CX0 2 fS fdS ["_law_thing", "_law_deep", "_law_todo"] (spStep inT)) (DS : Df K mg "_law_step" ["_law_thing", "_law_deep", "_law_todo"] fS fdS) :
    FnOk P w K mg base CX0 5 f fd ["_law_thing"] (spG (fun _ => True) isFunc) := by
  refine F.ok (k := 4) c63 (fun vs H Q E h => ?_) (fun cdv A outer s H vs Q E hr h => ?_)
  · obtain ⟨x, d, rfl, _⟩ := h
    rfl
  · obtain ⟨x, d, rfl, en, _, kq⟩ := h
    refine ⟨_, (pss_cons (ps_if (PW.pt (pw_or (pt_not (pt_val (pe_call (GT.mono (by decide)) hr (by rfl) DT.g DT.k DT.b .nil pass0 (pa_cons (pv 0) (pa_cons pe_int (pa_cons pe_int pa_nil)))))) (pw_or (pt_not (pt_val (pe_call (GN.mono (by decide)) hr (by rfl) DN.g DN.k DN.b .nil pass0 (pa_cons (pe_ix ix_tup (pv 0) pe_int (fun _ _ => rfl)) (pa_cons pe_bl pa_nil))))) (pw_or1 (pt_not (pt_val (pe_call (GT.mono (by decide)) hr (by rfl) DT.g DT.k DT.b .nil pass0 (pa_cons (pe_ix ix_tup (pv 0) pe_int (fun _ _ => rfl)) (pa_cons pe_int (pa_cons pe_int pa_nil)))))))))) (pss_one (ps_ret pe_bl)) pss_nil) (pss_cons (ps_for PassesOwn.never rfl (pi_tup (pe_ix ix_tup (pv 0) pe_int (fun _ _ => rfl))) (pg_name (i := 1) c63.nd rfl (Or.inl rfl)) (pss_one (ps_if (PW.pt (pw_or (pt_not (pt_val (pe_call (GT.mono (by decide)) hr (by rfl) DT.g DT.k DT.b .nil pass0 (pa_cons (pv 1) (pa_cons pe_int (pa_cons pe_int pa_nil)))))) (pw_or (pt_not (pt_val (pe_call (GN.mono (by decide)) hr (by rfl) DN.g DN.k DN.b .nil pass0 (pa_cons (pe_ix ix_tup (pv 1) pe_int (fun _ _ => rfl)) (pa_cons pe_bl pa_nil))))) (pw_or1 (pt_not (pt_val (pe_call (GK.mono (by decide)) hr (by rfl) DK.g DK.k DK.b .nil pass0 (pa_cons (pe_ix ix_tup (pv 1) pe_int (fun _ _ => rfl)) pa_nil)))))))) (pss_one (ps_ret pe_bl)) pss_nil))) (pss_cons (ps_par (i := 2) (j := 3) (by rfl) c63.nd rfl rfl (by decide) rfl rfl (pa_cons (pe_lst (pa_cons (pe_tup (pa_cons (pe_ix ix_tup (pv 0) pe_int (fun _ _ => rfl)) (pa_cons pe_int (pa_cons pe_bl pa_nil)))) pa_nil)) (pa_cons pe_int pa_nil)) (by rfl)) (C8.pss_cut (ps_while PassesOwn.never (PW.pt (pw_and (pt_cmpR (op_neNil (Nat.lt_of_le_of_lt (Nat.le_add_right _ 64) hr.units)) (pv 2) (pe_lst pa_nil) (nomark _)) (pw_and1 (pt_cmpR op_le (pv 3) pe_int (nomark _))))) (pss_cons (ps_asg (pe_bm0 PySem.F.plainAttrs_list PySem.F.slot_list_pop PySem.F.type_list_pop mt_pop (pv 2)) (pg_tup (by rfl) (pgs_cons (pg_name (i := 4) c63.nd rfl (Or.inl rfl)) (pgs_cons (pg_name (i := 5) c63.nd rfl (Or.inl rfl)) (pgs_cons (pg_name (i := 6) c63.nd rfl (Or.inl rfl)) pgs_nil))))) (C8.pss_cut (ps_set (i := 7) c63.nd rfl (Or.inl rfl) (pe_ifExp (pt_val (pv 6)) (pe_call (GB.mono (by decide)) hr (by rfl) DB.g DB.k DB.b .nil pass0 (pa_cons (pv 4) (pa_cons (pv 5) (pa_cons (pv 2) pa_nil)))) (pe_call (GS.mono (by decide)) hr (by rfl) DS.g DS.k DS.b .nil pass0 (pa_cons (pv 4) (pa_cons (pv 5) (pa_cons (pv 2) pa_nil)))))) (pss_cons (ps_if (pt_cmpR op_isN (pv 7) pe_non (nomark _)) (pss_one (ps_ret pe_bl)) pss_nil) (pss_one (ps_aug (i := 3) c63.nd rfl (.inl rfl) (pv 7) ip_add)))))) (pss_one (ps_ret (pe_and (pe_cmpR op_le (pv 3) pe_int (nomark _)) (pe_one (pe_call (GK.mono (by decide)) hr (by rfl) DK.g DK.k DK.b .nil pass0 (pa_cons (pe_ix ix_tup (pv 0) pe_int (fun _ _ => rfl)) pa_nil)))))))))), ?_⟩
    refine ⟨_, rfl, _, d, _, _, rfl, en, _, rfl, ?_⟩
    cases e4 : isTu 4 4 d with
    | false =>
      have q := kq H (Grow.refl H)
      rw [show isFunc d = false from by
        unfold isFunc
        split
        · cases e4
        · rfl] at q
      exact iteT q
    | true =>
      obtain ⟨d1, d2, d3, d4, rfl⟩ := tu4 e4
      have en := EncB.here en
      generalize hB : (fun a => ∃ xs, H a = some (.lst xs)) = B at en
      have young : ∀ w, H w = none → ¬ B w := fun w hw z => by
        rw [← hB] at z
        obtain ⟨xs, z⟩ := z
        rw [hw] at z
        cases z
      obtain ⟨a, xs, rfl, ha, el⟩ := enc_tup en
      obtain ⟨x1, x2, x3, x4, rfl, h1, h2, h3, h4⟩ := encs4 el
      have i0 : atI [x1, x2, x3, x4] 0 = some x1 := at_of (j := 0) rfl rfl
      have i1 : atI [x1, x2, x3, x4] 1 = some x2 := at_of (j := 1) rfl rfl
      have i2 : atI [x1, x2, x3, x4] 2 = some x3 := at_of (j := 2) rfl rfl
      have i3 : atI [x1, x2, x3, x4] 3 = some x4 := at_of (j := 3) rfl rfl
      have em : isFunc (.tup [d1, d2, d3, d4]) = (isLow d1 && (isTu 0 6 d2 && (isKin d3 && (partsAll isParam d2 && wholeB d4)))) := rfl
      rw [em] at kq
      have no : ∀ H', Grow H H' → (isLow d1 && (isTu 0 6 d2 && (isKin d3 && (partsAll isParam d2 && wholeB d4)))) = false → Q (.bl false) H' := fun H' g e => by
        have q := kq H' g
        rw [e] at q
        exact q
      refine iteF ⟨_, rfl, a, _, _, _, rfl, rfl, SqT.of ha, i0, _, d1, false, rfl, h1.any, fun H1 gr1 => ⟨_, rfl, ?_⟩⟩
      show if (!isLow d1) = true then _ else _
      refine b_ifn (fun f1 => no H1 gr1 (by rw [f1]; rfl)) (fun f1 => ?_)
      refine ⟨_, rfl, a, _, _, _, rfl, rfl, SqT.of (gr1.tup ha), i1, _, d2, _, _, rfl, (h2.grow gr1).any, _, rfl, ?_⟩
      show if (!isTu 0 6 d2) = true then _ else _
      refine b_ifn (fun f2 => no H1 gr1 (by rw [f1, f2]; rfl)) (fun f2 => ?_)
      have h2' := h2.grow gr1
      cases h2' with
      | @tup b us ts hb eu =>
        have no : ∀ H', Grow H H' → (isKin d3 && (ts.all isParam && wholeB d4)) = false → Q (.bl false) H' := fun H' g e => no H' g (by
          rw [f1, f2]
          exact e)
        refine ⟨_, rfl, a, _, _, _, rfl, rfl, SqT.of (gr1.tup ha), i1, b, rfl, ⟨us, SqT.of hb⟩, ?_⟩
        refine for_tup (xs := us) (fun i σ' Hc => ∃ v1, σ' = [some (.ref a), v1, none, none, none, none, none, none] ∧ Grow H1 Hc ∧ (ts.take i).all isParam = true) ⟨_, rfl, Grow.refl _, rfl⟩ (fun i σ' Hc _ hp => ?_) (fun i z σ' Hc hz hp => ?_) (fun σ' Hc hp => ?_)
        · obtain ⟨v1, rfl, g, _⟩ := hp
          exact SqT.of (g.tup hb)
        · obtain ⟨v1, rfl, gc, hall⟩ := hp
          obtain ⟨d6, hd6, en6⟩ := (eu.grow gc).get hz
          have bad : ∀ H', Grow Hc H' → isParam d6 = false → Q (.bl false) H' := fun H' g' e => no H' ((gr1.trans gc).trans g') (by
            rw [all_not hd6 e]
            simp)
          refine ⟨_, rfl, _, d6, _, _, rfl, en6.any, _, rfl, ?_⟩
          show if (!isTu 2 2 d6) = true then _ else _
          refine b_ifn (fun e => bad Hc (Grow.refl _) (by
            unfold isParam
            split
            · cases e
            · rfl)) (fun e => ?_)
          obtain ⟨n6, m6, rfl⟩ := tu2 e
          obtain ⟨a6, zs6, rfl, ha6, el6⟩ := enc_tup en6
          obtain ⟨u1, u2, rfl, k1, k2⟩ := encs2 el6
          have j0 : atI [u1, u2] 0 = some u1 := at_of (j := 0) rfl rfl
          have j1 : atI [u1, u2] 1 = some u2 := at_of (j := 1) rfl rfl
          have e8 : isParam (.tup [n6, m6]) = (isLow n6 && isKin m6) := rfl
          refine ⟨_, rfl, a6, _, _, _, rfl, rfl, SqT.of ha6, j0, _, n6, false, rfl, k1.any, fun H3 gr3 => ⟨_, rfl, ?_⟩⟩
          show if (!isLow n6) = true then _ else _
          refine b_ifn (fun e7 => bad H3 gr3 (by rw [e8, e7]; rfl)) (fun e7 => ?_)
          refine ⟨_, rfl, a6, _, _, _, rfl, rfl, SqT.of (gr3.tup ha6), j1, _, m6, rfl, (k2.grow gr3).any, trivial, fun H4 gr4 => ⟨_, rfl, ?_⟩⟩
          show if (!isKin m6) = true then _ else _
          refine b_ifn (fun e9 => bad H4 (gr3.trans gr4) (by rw [e8, e9]; simp)) (fun e9 => ?_)
          exact ⟨_, rfl, (gc.trans gr3).trans gr4, (all_take hall hd6).trans (by rw [e8, e7, e9]; rfl)⟩
        · obtain ⟨v1, rfl, gc, hall⟩ := hp
          rw [← eu.length, List.take_length] at hall
          have g2 := gr1.trans gc
          rw [hall] at no
          -- the parts
          refine ⟨_, rfl, a, _, _, _, rfl, rfl, SqT.of (g2.tup ha), i3, (by show 3 ≤ sizeLine; decide), fun t0 ht0 => ⟨(by show 1 ≤ sizeLine; decide), fun wl hwl => ?_⟩⟩
          have gt0 := Grow.new (o := .tup [x4, .int 1, .bl true]) ht0
          have gw0 := Grow.new (o := .lst [V.ref t0]) hwl
          have hwl0 : H wl = none := Grow.none (g2.trans gt0) hwl
          have nB := young wl hwl0
          refine ⟨_, _, rfl, ?_⟩
          refine ⟨fun σ' Hc => ∃ (found : Nat) (v1 v4 v5 v6 v7 : Option V), σ' = [some (.ref a), v1, some (.ref wl), some (.int (found : Nat)), v4, v5, v6, v7] ∧ Grow H Hc ∧ decide (((found : Nat) : Int) ≤ 100) = wholeB d4, ?_, ?_⟩
          · refine while_by (fun σ' Hc => ∃ (ws : List It) (xs : List V) (found k : Nat) (v1 v4 v5 v6 v7 : Option V), σ' = [some (.ref a), v1, some (.ref wl), some (.int (found : Nat)), v4, v5, v6, v7] ∧ Hc wl = some (.lst xs) ∧ Grow H Hc ∧ ItsL B Hc ws xs ∧
              ((found ≤ 100 ∧ 102 ≤ k + found ∧ runW k ws found = wholeB d4 ∧ xs.length ≤ 1 + 14 * found) ∨ (100 < found ∧ wholeB d4 = false))) (fun (σ' : L2.St) _ => match σ'[3]? with | some (some (V.int f)) => (101 - f).toNat | _ => 0) ?_ ?_ ?_
            · refine ⟨[(d4, true, 1)], [.ref t0], 0, 102, _, _, _, _, _, rfl, upd_same, (g2.trans gt0).trans gw0, .cons (gw0.tup upd_same) (h4.grow ((g2.trans gt0).trans gw0)) .nil, .inl ⟨Nat.zero_le _, Nat.le_refl _, rfl, by simp⟩⟩
            · rintro σ' Hc ⟨ws, xs, found, k, v1, v4, v5, v6, v7, rfl, hw, gH, its, hd⟩
              refine ⟨_, rfl, Nat.zero_le _, fun e he => ⟨_, _, xs, rfl, rfl, SqL.of ((Grow.new he).lst hw), SqL.of upd_same, _, rfl, ?_⟩⟩
              have ge := Grow.new (o := .lst []) he
              generalize upd Hc e (.lst []) = He at ge ⊢
              have gHe := gH.trans ge
              have hwe := ge.lst hw
              have itse := its.grow ge
              have hwt : ∀ ys, He wl ≠ some (.tup ys) := fun ys z => by rw [hwe] at z; cases z
              show if (!xs.isEmpty) = true then _ else _
              refine b_ifn (fun ex => ?_) (fun ex => ?_)
              · refine ⟨_, rfl, _, _, rfl, rfl, _, rfl, ?_⟩
                rcases hd with ⟨hf, hk, hrun, hlen⟩ | ⟨hf, hwf⟩
                · refine ifT (by omega) ?_
                  obtain ⟨k, rfl⟩ : ∃ k', k = k' + 1 := ⟨k - 1, by omega⟩
                  cases hr0 : ws.reverse with
                  | nil =>
                    have e0 : ws = [] := List.reverse_eq_nil_iff.mp hr0
                    subst e0
                    cases its
                    cases ex
                  | cons i rest =>
                    obtain ⟨c1, b1, n1⟩ := i
                    have ews : ws = rest.reverse ++ [(c1, b1, n1)] := by
                      rw [← List.reverse_reverse ws, hr0, List.reverse_cons]
                    subst ews
                    obtain ⟨xs0, t, y, rfl, its0, ht, ey⟩ := ItsL.last itse
                    refine ⟨_, rfl, .inl ⟨rfl, _, SqL.of hwe⟩, wl, _, V.ref t, rfl, rfl, hwe, by simp, ?_⟩
                    rw [List.dropLast_concat]
                    have gu : GrowW wl He (upd He wl (.lst xs0)) := GrowW.upd
                    refine ⟨t, _, rfl, SqT.of (gu.tup hwt ht), rfl, _, _, rfl, _, _, rfl, _, _, rfl, rfl, ?_⟩
                    have its1 := its0.growW gu nB hwt
                    have ey1 := ey.growW gu nB hwt
                    have g1 := gHe.but (o := .lst xs0) hwl0
                    have hw1 : upd He wl (.lst xs0) wl = some (.lst xs0) := upd_same
                    generalize upd He wl (.lst xs0) = H1' at its1 ey1 g1 hw1 ⊢
                    have hwt1 : ∀ ys, H1' wl ≠ some (.tup ys) := fun ys z => by rw [hw1] at z; cases z
                    have young1 : ∀ w, H1' w = none → ¬ B w := fun w hw' => young w (Grow.none g1 hw')
                    simp only [List.length_append, List.length_cons, List.length_nil] at hlen
                    have bad : ∀ H', GrowW wl H1' H' → innerP c1 b1 = none ∨ 30 < n1 → Grow H H' ∧ wholeB d4 = false := fun H' gw hh => ⟨g1.outW gw hwl0, by
                      rw [← hrun, run_cons]
                      rcases hh with hh | hh
                      · rw [hh]
                      · cases innerP c1 b1 with
                        | none => rfl
                        | some r =>
                          obtain ⟨nm, ts, bs⟩ := r
                          show (if 100 < found + (1 + nm) ∨ 30 < n1 then false else _) = false
                          rw [if_pos (.inr hh)]⟩
                    refine ⟨fun σ2 H2 => ∃ v, σ2 = [some (.ref a), v1, some (.ref wl), some (.int (found : Nat)), some y, some (.int (n1 : Nat)), some (.bl b1), some v] ∧ ((v = .non ∧ Grow H H2 ∧ wholeB d4 = false) ∨ ∃ nm ts bs ys, innerP c1 b1 = some (nm, ts, bs) ∧ n1 ≤ 30 ∧ v = .int ((1 + nm : Nat) : Int) ∧
                      GrowW wl H1' H2 ∧ H2 wl = some (.lst (xs0 ++ ys)) ∧ ItsL B H2 (next n1 ts bs) ys), ?_, ?_⟩
                    · refine ⟨_, rfl, _, rfl, ?_⟩
                      cases b1 with
                      | true =>
                        have ei : innerP c1 true = bodyP c1 := if_pos rfl
                        refine iteT ⟨_, rfl, _, rfl, _, rfl, B, _, c1, n1, wl, xs0, rfl, ey1, nB, young1, hw1, by omega, fun hh H2 gw => ⟨.non, rfl, .inl ⟨rfl, bad H2 gw (by rw [ei]; exact hh)⟩⟩, fun nm ts bs es hn H2 ys gw hq iq => ⟨_, rfl, .inr ⟨nm, ts, bs, ys, ei.trans es, hn, rfl, gw, hq, iq⟩⟩⟩
                      | false =>
                        have ei : innerP c1 false = inT c1 := if_neg (by decide)
                        refine iteF ⟨_, rfl, _, rfl, _, rfl, B, _, c1, n1, wl, xs0, rfl, ey1, nB, young1, hw1, by omega, fun hh H2 gw => ⟨.non, rfl, .inl ⟨rfl, bad H2 gw (by rw [ei]; exact hh)⟩⟩, fun nm ts bs es hn H2 ys gw hq iq => ⟨_, rfl, .inr ⟨nm, ts, bs, ys, ei.trans es, hn, rfl, gw, hq, iq⟩⟩⟩
                    · rintro σ2 H2 ⟨v, rfl, hh⟩
                      rcases hh with ⟨rfl, gH2, er⟩ | ⟨nm, ts, bs, ys, ei, hn, rfl, gw, hq, iq⟩
                      · exact ⟨_, rfl, rfl, _, rfl, iteT (no H2 gH2 (by rw [er]; simp))⟩
                      · refine ⟨_, rfl, rfl, _, rfl, iteF ⟨_, rfl, _, rfl, _, _, rfl, rfl, ?_⟩⟩
                        have gH2 := g1.outW gw hwl0
                        have hil := inner_len ei
                        have hln := iq.length
                        have eln : (next n1 ts bs).length = ts.length + bs.length := by
                          unfold next
                          rw [List.length_append, List.length_map, List.length_map]
                        have er : wholeB d4 = if 100 < found + (1 + nm) ∨ 30 < n1 then false else runW k (rest.reverse ++ next n1 ts bs) (found + (1 + nm)) := by
                          rw [← hrun, run_cons, ei]
                        refine ⟨⟨rest.reverse ++ next n1 ts bs, xs0 ++ ys, found + (1 + nm), k, _, _, _, _, _, rfl, hq, gH2, (its1.growW gw nB hwt1).app iq, ?_⟩, ?_⟩
                        · by_cases c : 100 < found + (1 + nm)
                          · exact .inr ⟨c, by rw [er, if_pos (.inl c)]⟩
                          · refine .inl ⟨by omega, by omega, ?_, ?_⟩
                            · rw [er, if_neg (by omega)]
                            · rw [List.length_append]
                              omega
                        · show (101 - ((found : Int) + ((1 + nm : Nat) : Int))).toNat < (101 - (found : Int)).toNat
                          omega
                · refine ifF (by omega) ?_
                  exact ⟨found, _, _, _, _, _, rfl, gHe, by rw [hwf]; exact decide_eq_false (by omega)⟩
              · have ex : xs = [] := by
                  cases xs with
                  | nil => rfl
                  | cons z r => cases ex
                subst ex
                cases its
                refine ⟨found, _, _, _, _, _, rfl, gHe, ?_⟩
                rcases hd with ⟨hf, hk, hrun, _⟩ | ⟨hf, hwf⟩
                · obtain ⟨k, rfl⟩ : ∃ k', k = k' + 1 := ⟨k - 1, by omega⟩
                  rw [← hrun]
                  exact decide_eq_true (by omega)
                · rw [hwf]; exact decide_eq_false (by omega)
            · rintro σ3 H3 Q1 Q2 hqq ⟨v, e, hz, q⟩
              refine ⟨v, e, hz, fun p hp => ?_⟩
              obtain ⟨q1, q2, q3, q4, q5, q6, q7, q8, q9, q10⟩ := q p hp
              refine ⟨q1, q2, q3, q4, q5, q6, q7, q8, q9, ?_⟩
              cases q8 with
              | true =>
                rw [if_pos rfl] at q10
                obtain ⟨w1, w2, w3, w4, w5, w6, w7, w8, w9⟩ := q10
                exact iteT ⟨w1, w2, w3, w4, w5, w6, w7, w8, hqq _ _ w9⟩
              | false => exact hqq _ _ q10
          · rintro σ' Hc ⟨found, v1, v4, v5, v6, v7, rfl, gH, ew⟩
            have kq : ∀ H', Grow H H' → Q (.bl (isKin d3 && wholeB d4)) H' := fun H' g => by
              have q := kq H' g
              rw [f1, f2, show partsAll isParam (.tup ts) = true from hall] at q
              exact q
            refine ⟨_, rfl, _, _, rfl, rfl, _, rfl, ?_⟩
            rw [ew]
            refine b_if (fun e1 => ?_) (fun e1 => ?_)
            · exact ⟨_, rfl, a, _, _, _, rfl, rfl, SqT.of (gH.tup ha), i2, _, d3, rfl, (h3.grow gH).any, trivial, fun H' g' => by
                have q := kq H' (gH.trans g')
                rw [e1, Bool.and_true] at q
                exact q⟩
            · have q := kq Hc gH
              rw [e1, Bool.and_false] at q
              exact q
      | _ => cases f2
end
end J1
set_option Elab.async false
set_option linter.all false
set_option maxRecDepth 100000
set_option maxHeartbeats 4000000
namespace J1
open PySem PySem.Spec PyProof.Rows L2 GxR GA
/-! ### what is drawn: bounds, names, the well -/
abbrev EncT (H : Hp) : Da → V → Prop := EncB (fun _ => False) H
abbrev EncsT (H : Hp) : List Da → List V → Prop := EncsB (fun _ => False) H
mutual
theorem EncB.mono {B B' : Addr → Prop} {H : Hp} (hb : ∀ a, B a → B' a) : ∀ {d : Da} {x : V}, EncB B H d x → EncB B' H d x
  | _, _, .non => .non
  | _, _, .bl b => .bl b
  | _, _, .int i => .int i
  | _, _, .str s h => .str s h
  | _, _, .tup h e => .tup h (EncsB.mono hb e)
  | _, _, .lst h e b => .lst h (EncsB.mono hb e) (hb _ b)
theorem EncsB.mono {B B' : Addr → Prop} {H : Hp} (hb : ∀ a, B a → B' a) : ∀ {l : List Da} {xs : List V}, EncsB B H l xs → EncsB B' H l xs
  | _, _, .nil => .nil
  | _, _, .cons h t => .cons (EncB.mono hb h) (EncsB.mono hb t)
end
theorem noTup {H : Hp} {w : Addr} {ys : List V} (h : H w = some (.lst ys)) : ∀ xs, H w ≠ some (.tup xs) := fun xs z => by rw [h] at z; cases z
theorem EncB.gw {w : Addr} {ys : List V} {H H' : Hp} {d : Da} {x : V} (e : EncT H d x) (g : GrowW w H H') (h : H w = some (.lst ys)) : EncT H' d x := e.growW g (fun z => z) (noTup h)
theorem EncsB.gw {w : Addr} {ys : List V} {H H' : Hp} {l : List Da} {xs : List V} (e : EncsT H l xs) (g : GrowW w H H') (h : H w = some (.lst ys)) : EncsT H' l xs := e.growW g (fun z => z) (noTup h)
/-- a text of few ascii signs -/
structure NOk (c : Nat) (s : Str) : Prop where
  len : s.length ≤ c
  asc : ∀ k ∈ s.cps.toList, k < 128
theorem NOk.s {c : Nat} {s : Str} (h : NOk c s) (hc : c ≤ 10000) : SOk s := ⟨Nat.le_trans h.len hc, fun k hk => Nat.lt_trans (h.asc k hk) (by decide)⟩
mutual
def Bd (c : Nat) : Da → Prop
  | .int i => i.natAbs ≤ 10000000000000 + c
  | .str s => NOk c s
  | .tup l => l.length ≤ c ∧ Bds c l
  | .lst l => l.length ≤ c ∧ Bds c l
  | .non => True
  | .bl _ => True
def Bds (c : Nat) : List Da → Prop
  | [] => True
  | d :: r => Bd c d ∧ Bds c r
end
theorem bds_all {c : Nat} : ∀ {l : List Da}, Bds c l ↔ ∀ d ∈ l, Bd c d
  | [] => ⟨fun _ d h => (nomatch h), fun _ => trivial⟩
  | a :: r => by
    have ih := bds_all (c := c) (l := r)
    show Bd c a ∧ Bds c r ↔ _
    rw [ih]
    constructor
    · rintro ⟨h1, h2⟩ d hd
      rcases List.mem_cons.mp hd with rfl | hd
      · exact h1
      · exact h2 d hd
    · exact fun h => ⟨h a List.mem_cons_self, fun d hd => h d (List.mem_cons_of_mem _ hd)⟩
theorem bds_push {c : Nat} {l : List Da} {d : Da} (h : Bds c l) (hd : Bd c d) : Bds c (l ++ [d]) := bds_all.mpr fun e he => by
  rcases List.mem_append.mp he with he | he
  · exact bds_all.mp h e he
  · rw [List.mem_singleton.mp he]; exact hd
def De : Nat → Nat
  | 0 => 10
  | j + 1 => 10 * De j
theorem De_pos (j : Nat) : 10 ≤ De j := by
  induction j with
  | zero => exact Nat.le_refl _
  | succ j ih => show 10 ≤ 10 * De j; omega
theorem Wl.grow {H H' : Hp} {p l : Addr} {ns : List Int} {n : Nat} (W : Wl H p l ns n) (g : Grow H H') : Wl H' p l ns n := by
  obtain ⟨⟨c, a, h, r⟩, hl⟩ := W
  exact ⟨⟨c, a, g.lst h, r⟩, g.lst hl⟩
theorem Wl.upd {H : Hp} {p l q : Addr} {ns : List Int} {n : Nat} {o : HO} (W : Wl H p l ns n) (hp : q ≠ p) (hl : q ≠ l) : Wl (upd H q o) p l ns n := by
  obtain ⟨⟨c, a, h, r⟩, h2⟩ := W
  exact ⟨⟨c, a, by rw [upd_ne hp.symm]; exact h, r⟩, by rw [upd_ne hl.symm]; exact h2⟩
theorem Wl.more {H : Hp} {p l : Addr} {ns : List Int} {n m : Nat} (W : Wl H p l ns n) (h : n ≤ m) : Wl H p l ns m := by
  obtain ⟨⟨c, a, h0, h1, h2, h3⟩, hl⟩ := W
  exact ⟨⟨c, a, h0, h1, h2, by omega⟩, hl⟩
theorem Wl.pl {H : Hp} {p l : Addr} {ns : List Int} {n : Nat} (W : Wl H p l ns n) : ∃ ys, H p = some (.lst ys) := by
  obtain ⟨⟨c, a, h, _⟩, _⟩ := W
  exact ⟨_, h⟩
theorem Wl.np {H : Hp} {p l q : Addr} {ns : List Int} {n : Nat} (W : Wl H p l ns n) (h : H q = Option.none) : q ≠ p ∧ q ≠ l := by
  obtain ⟨⟨c, a, h1, _⟩, h2⟩ := W
  exact ⟨fun z => (by rw [z, h1] at h; cases h), fun z => (by rw [z, h2] at h; cases h)⟩
/-- the names that are drawn from: low ones, high ones -/
structure Nms (H : Hp) (p nm : Addr) : Prop where
  ex : ∃ (n0 n1 : Addr) (s0 s1 : List Str), H nm = some (.lst [.ref n0, .ref n1]) ∧ H n0 = some (.lst (s0.map V.str)) ∧ H n1 = some (.lst (s1.map V.str)) ∧ s0.length = 6 ∧ s1.length = 6 ∧ (∀ s ∈ s0, NOk 20 s) ∧ (∀ s ∈ s1, NOk 20 s) ∧ nm ≠ p ∧ n0 ≠ p ∧ n1 ≠ p
theorem GrowW.lst {w : Addr} {H H' : Hp} (g : GrowW w H H') {a : Addr} {xs : List V} (n : a ≠ w) (h : H a = some (.lst xs)) : H' a = some (.lst xs) := by
  rcases g a _ n h with q | ⟨⟨ps, q⟩, _⟩
  · exact q
  · cases q
theorem Nms.gw {H H' : Hp} {p nm : Addr} (N : Nms H p nm) (g : GrowW p H H') : Nms H' p nm := by
  obtain ⟨n0, n1, s0, s1, h, h0, h1, l0, l1, o0, o1, a, b, c⟩ := N
  exact ⟨n0, n1, s0, s1, g.lst a h, g.lst b h0, g.lst c h1, l0, l1, o0, o1, a, b, c⟩
theorem Nms.updL {H : Hp} {p nm q : Addr} {o : HO} (N : Nms H p nm) (g : ∀ (a : Addr) (xs : List V), H a = some (.lst xs) → a ≠ q) : Nms (upd H q o) p nm := by
  obtain ⟨n0, n1, s0, s1, h, h0, h1, l0, l1, o0, o1, a, b, c⟩ := N
  exact ⟨n0, n1, s0, s1, by rw [upd_ne (g _ _ h)]; exact h, by rw [upd_ne (g _ _ h0)]; exact h0, by rw [upd_ne (g _ _ h1)]; exact h1, l0, l1, o0, o1, a, b, c⟩
theorem GrowW.but {p q : Addr} {H0 H : Hp} {o : HO} (g : GrowW p H0 H) (hq : H0 q = Option.none) : GrowW p H0 (L2.upd H q o) := fun a u n h => by
  have m : a ≠ q := fun z => by rw [z, hq] at h; cases h
  rcases g a u n h with r | ⟨r1, ps, r2, r3⟩
  · exact .inl (by rw [upd_ne m]; exact r)
  · exact .inr ⟨r1, ps, by rw [upd_ne m]; exact r2, r3⟩
theorem GrowW.new {p q : Addr} {H : Hp} {o : HO} (hq : H q = Option.none) : GrowW p H (L2.upd H q o) := (Grow.new hq).w
theorem GrowW.none' {w : Addr} {H H' : Hp} (g : GrowW w H H') {a : Addr} (n : a ≠ w) (h : H' a = Option.none) : H a = Option.none := by
  cases e : H a with
  | none => rfl
  | some o =>
    rcases g a o n e with q | ⟨_, ps, q, _⟩
    · rw [h] at q; cases q
    · rw [h] at q; cases q
structure Gd2 (mg : Str → Option Value) : Prop where
  min : mg "min" = Option.none
  tuple : mg "tuple" = Option.none
  range : mg "range" = Option.none
  len : mg "len" = Option.none
  int : mg "int" = Option.none
abbrev lArgs : Stmt := top 52
theorem cLA : FnScope ["_law_well_here", "_law_names", "_law_many", "_law_budget", "_law_deep", "_law_k"] ["_law_well_here", "_law_names", "_law_many", "_law_budget", "_law_deep"] (defScope lArgs) := ⟨rfl, rfl, rfl, by decide +kernel, rfl, by decide +kernel, by decide +kernel⟩
abbrev lE : Stmt := top 53
theorem cLE : FnScope ["_law_well_here", "_law_names", "_law_budget", "_law_deep", "_law_pick", "_law_left", "_law_args"] ["_law_well_here", "_law_names", "_law_budget", "_law_deep"] (defScope lE) := ⟨rfl, rfl, rfl, by decide +kernel, rfl, by decide +kernel, by decide +kernel⟩
def spE (j : Nat) : Sp := fun vs H Q _ => ∃ (p l nm : Addr) (ns : List Int) (n : Nat) (bud deep : Int), vs = [.ref p, .ref nm, .int bud, .int deep] ∧ Wl H p l ns n ∧ Nms H p nm ∧ 29 ≤ deep + j ∧ deep ≤ 28 ∧ bud.natAbs ≤ 1000 ∧ n + De j ≤ 1000000000000000000000000000000000000000000000000000000000000 ∧
  ∀ d x n' H', EncT H' d x → Bd 20 d → n' ≤ n + De j → Wl H' p l ns n' → GrowW p H H' → Q x H'
def spArgs (j : Nat) : Sp := fun vs H Q _ => ∃ (p l nm : Addr) (ns : List Int) (n : Nat) (many bud deep : Int), vs = [.ref p, .ref nm, .int many, .int bud, .int deep] ∧ Wl H p l ns n ∧ Nms H p nm ∧ 29 ≤ deep + j ∧ deep ≤ 28 ∧ 0 ≤ many ∧ many ≤ 6 ∧ bud.natAbs ≤ 1000 ∧ n + 6 * De j ≤ 1000000000000000000000000000000000000000000000000000000000000 ∧
  ∀ ds a n' H', EncT H' (.tup ds) (.ref a) → Bd 20 (.tup ds) → n' ≤ n + 6 * De j → Wl H' p l ns n' → GrowW p H H' → Q (.ref a) H'
section
variable {P : Program} {w : World} {K : PySem.W.Frag} {mg : Str → Option Value} {base : Heap}
theorem ok_args {j : Nat} {f fE : Addr} {fd fdE : FuncData} (F : Fun K "_law_loose_args" "_law_loose_args" lArgs f fd) (N : Gd2 mg) (GE : FnOk P w K mg base CX0 (2 * j + 2) fE fdE ["_law_well_here", "_law_names", "_law_budget", "_law_deep"] (spE j)) (DE : Df K mg "_law_loose_e" ["_law_well_here", "_law_names", "_law_budget", "_law_deep"] fE fdE) :
    FnOk P w K mg base CX0 (2 * j + 3) f fd ["_law_well_here", "_law_names", "_law_many", "_law_budget", "_law_deep"] (spArgs j) := by
  refine F.ok (k := 2 * j + 2) cLA (fun vs H Q E h => ?_) (fun cdv A outer s H vs Q E hr h => ?_)
  · obtain ⟨p, l, nm, ns, n, many, bud, deep, rfl, _⟩ := h
    rfl
  · obtain ⟨p, l, nm, ns, n, many, bud, deep, rfl, W, Nm, hd1, hd2, hm0, hm6, hb, hn, kq⟩ := h
    refine ⟨_, (pss_cons (ps_set (i := 2) cLA.nd rfl (Or.inr rfl) (pe_callB (call_min2 rfl) (by rfl) N.min (by decide +kernel) (pa_cons (pv 2) (pa_cons (pv 3) pa_nil)))) (pss_one (ps_ret (pe_callTy call_tuple_of (by rfl) N.tuple (by decide +kernel) (pa_cons (pe_lc (own := [("_law_k", 5)]) (g := gName 5) (tt := tYes) (by rfl) cLA.nd (pi_range1 (by rfl) N.range (pa_cons (pv 2) pa_nil)) (blkOk_by (own := [("_law_k", 5)]) (N := ["_law_well_here", "_law_names", "_law_many", "_law_budget", "_law_deep", "_law_k"]) (sc := defScope lArgs) (by decide +kernel)) (fun _ _ _ _ _ => (pg_name (i := 5) cLA.nd rfl (Or.inl rfl))) (fun _ _ _ _ _ => pts_nil) (fun _ _ _ _ _ => (pe_call GE hr (by rfl) DE.g DE.k DE.b .nil pass0 (pa_cons (pv 0) (pa_cons (pv 1) (pa_cons (pe_op op_fdiv (pv 3) (pv 2)) (pa_cons (pv 4) pa_nil))))))) pa_nil))))), ?_⟩
    refine ⟨_, rfl, _, rfl, _, _, rfl, _, rfl, ?_⟩
    generalize hm : (if bud < many then bud else many) = m
    have hmm : m ≤ 6 := by rw [← hm]; split <;> omega
    have hml : m.natAbs ≤ 1000 := by rw [← hm]; split <;> omega
    have m2 : m < 2 ^ 62 := Int.lt_of_lt_of_le (by omega : m < 7) (by decide)
    have m3 : -(2 ^ 62) ≤ m := Int.le_trans (by decide) (by omega : (-1000 : Int) ≤ m)
    refine ⟨_, rfl, m3, m2, fun D hD => ?_⟩
    obtain ⟨hDp, hDl⟩ := W.np hD
    obtain ⟨ys, hys⟩ := W.pl
    have hmn : m.toNat ≤ 6 := by omega
    refine lc_range (n := m.toNat) (fun i Hc => ∃ acc ds n', Hc D = some (.lst acc) ∧ EncsT Hc ds acc ∧ Bds 20 ds ∧ ds.length = i ∧ Wl Hc p l ns n' ∧ n' ≤ n + i * De j ∧ GrowW p H Hc) ⟨[], [], n, upd_same, .nil, trivial, rfl, W.grow (Grow.new hD), by omega, GrowW.new hD⟩ (fun i Hc hi hp => ?_) (fun Hd hp => ?_)
    · obtain ⟨acc, ds, n', hacc, es, bs, hl, W', hn', g⟩ := hp
      have hi6 : (i + 1) * De j ≤ 6 * De j := Nat.mul_le_mul_right _ (by omega)
      rw [Nat.succ_mul] at hi6
      refine ⟨wipe_set, ?_⟩
      unfold tYes
      have mp : 0 < m := by omega
      refine iteT ⟨_, rfl, _, rfl, _, rfl, _, rfl, _, _, rfl, rfl, ⟨mp, by omega⟩, _, rfl, p, l, nm, ns, n', _, deep, rfl, W', Nm.gw g, hd1, hd2, Nat.le_trans (Int.natAbs_ediv_le_natAbs _ _) hb, by omega, fun d x n2 H2 ex bx hn2 W2 g2 => ?_⟩
      have hacc2 : H2 D = some (.lst acc) := g2.lst hDp hacc
      refine ⟨acc, hacc2, ?_, acc ++ [x], ds ++ [d], n2, upd_same, ?_, bds_push bs bx, ?_, W2.upd hDp hDl, ?_, (g.trans' g2).but hD⟩
      · have := es.length
        rw [sizeLine_eq]; omega
      · obtain ⟨yz, hyz⟩ := W'.pl
        exact (encs_push (es.gw g2 hyz) ex).gw GrowW.upd hacc2
      · rw [List.length_append, hl]; rfl
      · rw [Nat.succ_mul]; omega
    · obtain ⟨acc, ds, n', hacc, es, bs, hl, W', hn', g⟩ := hp
      have hi6 : m.toNat * De j ≤ 6 * De j := Nat.mul_le_mul_right _ hmn
      refine ⟨D, acc, rfl, .inl ⟨SqL.of hacc, fun t ht => ?_⟩⟩
      exact kq ds t n' _ (.tup upd_same (es.grow (Grow.new ht))) ⟨by omega, bs⟩ (by omega) (W'.grow (Grow.new ht)) (g.trans' (GrowW.new ht))
end
end J1
set_option Elab.async false
set_option linter.all false
set_option maxRecDepth 100000
set_option maxHeartbeats 4000000
namespace J1
open PySem PySem.Spec PyProof.Rows L2 GxR GA
theorem nk {c : Nat} {s : Str} (h : (decide (s.length ≤ c) && s.cps.toList.all fun k => decide (k < 128)) = true) : NOk c s := by
  rw [Bool.and_eq_true, List.all_eq_true] at h
  exact ⟨of_decide_eq_true h.1, fun k hk => of_decide_eq_true (h.2 k hk)⟩
theorem nk_num : NOk 20 "num" := nk (by decide +kernel)
theorem nk_name : NOk 20 "name" := nk (by decide +kernel)
theorem nk_op : NOk 20 "op" := nk (by decide +kernel)
theorem nk_times : NOk 20 "times" := nk (by decide +kernel)
theorem nk_make : NOk 20 "make" := nk (by decide +kernel)
theorem nk_call : NOk 20 "call" := nk (by decide +kernel)
theorem nk_plus : NOk 20 "+" := nk (by decide +kernel)
theorem nk_minus : NOk 20 "-" := nk (by decide +kernel)
theorem enc_s {c : Nat} {H : Hp} {s : Str} (h : NOk c s) (hc : c ≤ 10000) : EncT H (.str s) (.str s) := .str s (h.s hc)
section
variable {P : Program} {w : World} {K : PySem.W.Frag} {mg : Str → Option Value} {base : Heap}
theorem ok_e {j : Nat} {f fE fA fD fN fC : Addr} {fd fdE fdA fdD fdN fdC : FuncData} (F : Fun K "_law_loose_e" "_law_loose_e" lE f fd) (N : Gd2 mg)
    (GE : FnOk P w K mg base CX0 (2 * j + 2) fE fdE ["_law_well_here", "_law_names", "_law_budget", "_law_deep"] (spE j)) (DE : Df K mg "_law_loose_e" ["_law_well_here", "_law_names", "_law_budget", "_law_deep"] fE fdE)
    (GA : FnOk P w K mg base CX0 (2 * j + 3) fA fdA ["_law_well_here", "_law_names", "_law_many", "_law_budget", "_law_deep"] (spArgs j)) (DA : Df K mg "_law_loose_args" ["_law_well_here", "_law_names", "_law_many", "_law_budget", "_law_deep"] fA fdA)
    (GD : FnOk P w K mg base CX0 1 fD fdD ["_law_well_here", "_law_many"] spDr) (DD : Df K mg "_law_draw" ["_law_well_here", "_law_many"] fD fdD)
    (GN : FnOk P w K mg base CX0 2 fN fdN ["_law_well_here"] (spNm 1000000000000)) (DN : Df K mg "_law_number" ["_law_well_here"] fN fdN) (GC : FnOk P w K mg base CX0 2 fC fdC ["_law_well_here"] (spNm 1000000)) (DC : Df K mg "_law_factor" ["_law_well_here"] fC fdC) :
    FnOk P w K mg base CX0 (2 * (j + 1) + 2) f fd ["_law_well_here", "_law_names", "_law_budget", "_law_deep"] (spE (j + 1)) := by
  refine F.ok (k := 2 * j + 3) cLE (fun vs H Q E h => ?_) (fun cdv A outer s H vs Q E hr h => ?_)
  · obtain ⟨p, l, nm, ns, n, bud, deep, rfl, _⟩ := h
    rfl
  · obtain ⟨p, l, nm, ns, n, bud, deep, rfl, W, Nm, hd1, hd2, hb, hn, kq⟩ := h
    have hDe : De (j + 1) = 10 * De j := rfl
    have hDp := De_pos j
    rw [hDe] at hn kq
    have kq : ∀ d x n' H', EncT H' d x → Bd 20 d → n' ≤ n + 10 * De j → Wl H' p l ns n' → GrowW p H H' → Q x H' := kq
    refine ⟨_, (pss_cons (ps_set (i := 4) cLE.nd rfl (Or.inl rfl) (pe_call (GD.mono (by omega)) hr (by rfl) DD.g DD.k DD.b .nil pass0 (pa_cons (pv 0) (pa_cons pe_int pa_nil)))) (C8.pss_cut (ps_if (PW.pt (pw_or (pt_cmpR op_lt (pv 2) pe_int (nomark _)) (pw_or1 (pt_cmpR op_gt (pv 3) pe_int (nomark _))))) (pss_one (ps_set (i := 4) cLE.nd rfl (Or.inl rfl) (pe_op op_mod (pv 4) pe_int))) pss_nil) (pss_cons (ps_if (pt_cmpR op_eq (pv 4) pe_int (nomark _)) (pss_one (ps_ret (pe_tup (pa_cons pe_str (pa_cons (pe_call (GN.mono (by omega)) hr (by rfl) DN.g DN.k DN.b .nil pass0 (pa_cons (pv 0) pa_nil)) pa_nil))))) pss_nil) (pss_cons (ps_if (pt_cmpR op_eq (pv 4) pe_int (nomark _)) (pss_one (ps_ret (pe_tup (pa_cons pe_str (pa_cons (pe_ix ix_list (pe_ix ix_list (pv 1) pe_int (fun _ _ => rfl)) (pe_call (GD.mono (by omega)) hr (by rfl) DD.g DD.k DD.b .nil pass0 (pa_cons (pv 0) (pa_cons (pe_callB call_len_seq (by rfl) N.len PySem.boot_len (pa_cons (pe_ix ix_list (pv 1) pe_int (fun _ _ => rfl)) pa_nil)) pa_nil))) (fun _ _ => rfl)) pa_nil))))) pss_nil) (pss_cons (ps_if (pt_cmpR op_lt (pv 4) pe_int (nomark _)) (pss_cons (ps_set (i := 5) cLE.nd rfl (Or.inl rfl) (pe_call (GE.mono (by omega)) hr (by rfl) DE.g DE.k DE.b .nil pass0 (pa_cons (pv 0) (pa_cons (pv 1) (pa_cons (pe_op op_fdiv (pe_op op_sub (pv 2) pe_int) pe_int) (pa_cons (pe_op op_add (pv 3) pe_int) pa_nil)))))) (pss_one (ps_ret (pe_tup (pa_cons pe_str (pa_cons (pe_ix ix_list (pe_lst (pa_cons pe_str (pa_cons pe_str pa_nil))) (pe_op op_sub (pv 4) pe_int) (fun _ _ => rfl)) (pa_cons (pv 5) (pa_cons (pe_call (GE.mono (by omega)) hr (by rfl) DE.g DE.k DE.b .nil pass0 (pa_cons (pv 0) (pa_cons (pv 1) (pa_cons (pe_op op_fdiv (pe_op op_sub (pv 2) pe_int) pe_int) (pa_cons (pe_op op_add (pv 3) pe_int) pa_nil))))) pa_nil)))))))) pss_nil) (pss_cons (ps_if (pt_cmpR op_eq (pv 4) pe_int (nomark _)) (pss_one (ps_ret (pe_tup (pa_cons pe_str (pa_cons (pe_call (GC.mono (by omega)) hr (by rfl) DC.g DC.k DC.b .nil pass0 (pa_cons (pv 0) pa_nil)) (pa_cons (pe_call (GE.mono (by omega)) hr (by rfl) DE.g DE.k DE.b .nil pass0 (pa_cons (pv 0) (pa_cons (pv 1) (pa_cons (pe_op op_sub (pv 2) pe_int) (pa_cons (pe_op op_add (pv 3) pe_int) pa_nil))))) pa_nil)))))) pss_nil) (pss_cons (ps_if (pt_cmpR op_eq (pv 4) pe_int (nomark _)) (pss_cons (ps_set (i := 6) cLE.nd rfl (Or.inl rfl) (pe_call (GA.mono (by omega)) hr (by rfl) DA.g DA.k DA.b .nil pass0 (pa_cons (pv 0) (pa_cons (pv 1) (pa_cons (pe_call (GD.mono (by omega)) hr (by rfl) DD.g DD.k DD.b .nil pass0 (pa_cons (pv 0) (pa_cons pe_int pa_nil))) (pa_cons (pe_op op_sub (pv 2) pe_int) (pa_cons (pe_op op_add (pv 3) pe_int) pa_nil))))))) (pss_one (ps_ret (pe_tup (pa_cons pe_str (pa_cons (pe_ix ix_list (pe_ix ix_list (pv 1) pe_int (fun _ _ => rfl)) (pe_call (GD.mono (by omega)) hr (by rfl) DD.g DD.k DD.b .nil pass0 (pa_cons (pv 0) (pa_cons (pe_callB call_len_seq (by rfl) N.len PySem.boot_len (pa_cons (pe_ix ix_list (pv 1) pe_int (fun _ _ => rfl)) pa_nil)) pa_nil))) (fun _ _ => rfl)) (pa_cons (pv 6) pa_nil))))))) pss_nil) (pss_cons (ps_set (i := 6) cLE.nd rfl (Or.inl rfl) (pe_call (GA.mono (by omega)) hr (by rfl) DA.g DA.k DA.b .nil pass0 (pa_cons (pv 0) (pa_cons (pv 1) (pa_cons (pe_call (GD.mono (by omega)) hr (by rfl) DD.g DD.k DD.b .nil pass0 (pa_cons (pv 0) (pa_cons pe_int pa_nil))) (pa_cons (pe_op op_sub (pv 2) pe_int) (pa_cons (pe_op op_add (pv 3) pe_int) pa_nil))))))) (pss_one (ps_ret (pe_tup (pa_cons pe_str (pa_cons (pe_ix ix_list (pe_ix ix_list (pv 1) pe_int (fun _ _ => rfl)) (pe_call (GD.mono (by omega)) hr (by rfl) DD.g DD.k DD.b .nil pass0 (pa_cons (pv 0) (pa_cons (pe_callB call_len_seq (by rfl) N.len PySem.boot_len (pa_cons (pe_ix ix_list (pv 1) pe_int (fun _ _ => rfl)) pa_nil)) pa_nil))) (fun _ _ => rfl)) (pa_cons (pv 6) pa_nil)))))))))))))), ?_⟩
    refine ⟨_, rfl, p, l, ns, n, 7, rfl, by decide, cdw (by decide) (by decide), W, by omega, fun r0 H1 ra rb W1 g1 => ?_⟩
    have Nm1 := Nm.gw g1
    refine ⟨fun σ' H' => ∃ k : Int, σ' = [some (.ref p), some (.ref nm), some (.int bud), some (.int deep), some (.int k), none, none] ∧ H' = H1 ∧ 0 ≤ k ∧ k < 7 ∧ (27 < deep ∨ bud < 3 → k < 2), ?_, ?_⟩
    · refine ⟨_, rfl, _, _, rfl, rfl, _, rfl, ?_⟩
      by_cases h1 : bud < 3
      · exact ifT h1 (iteT ⟨_, rfl, _, _, rfl, rfl, (by show (0 : Int) < 2; decide), r0 % 2, rfl, rfl, by omega, by omega, fun _ => by omega⟩)
      · refine ifF h1 ⟨_, rfl, _, _, rfl, rfl, _, rfl, ?_⟩
        by_cases h2 : (27 : Int) < deep
        · rw [decide_eq_true h2]
          exact iteT ⟨_, rfl, _, _, rfl, rfl, (by show (0 : Int) < 2; decide), r0 % 2, rfl, rfl, by omega, by omega, fun _ => by omega⟩
        · rw [decide_eq_false h2]
          exact iteF ⟨r0, rfl, rfl, ra, rb, fun z => absurd z (fun z => z.elim h2 h1)⟩
    rintro σ' H' ⟨k, rfl, rfl, k0, k7, kd⟩
    have i0 : ∀ {u v : V}, atI [u, v] 0 = some u := at_of (j := 0) rfl rfl
    have i1 : ∀ {u v : V}, atI [u, v] 1 = some v := at_of (j := 1) rfl rfl
    -- num
    refine ⟨_, rfl, rfl, _, rfl, ite2 (fun _ => ?_) (fun e0 => ?_)⟩
    · refine ⟨_, rfl, p, l, ns, n + 1, rfl, W1, by omega, fun r H2 _ _ W2 g2 => ⟨(by show 2 ≤ sizeLine; decide), fun t ht => ?_⟩⟩
      exact kq (.tup [.str "num", .int r]) _ _ _ (.tup upd_same (.cons (enc_s nk_num (by decide)) (.cons (.int r) .nil))) ⟨(by show 2 ≤ 20; decide), nk_num, (by show r.natAbs ≤ _; omega), trivial⟩ (by omega) (W2.grow (Grow.new ht)) ((g1.trans' g2).trans' (GrowW.new ht))
    have e0 : k ≠ 0 := fun z => by rw [z] at e0; exact absurd e0 (by decide)
    -- name
    refine ⟨_, rfl, rfl, _, rfl, ite2 (fun _ => ?_) (fun e1 => ?_)⟩
    · obtain ⟨n0, n1, s0, s1, hnm, hn0, hn1, l0, l1, o0, o1, na, nb, nc⟩ := Nm1
      refine ⟨_, rfl, nm, _, _, _, rfl, rfl, SqL.of hnm, i0, _, rfl, _, rfl, nm, _, _, _, rfl, rfl, SqL.of hnm, i0, n0, _, rfl, .inl (SqL.of hn0), p, l, ns, n + 1, _, rfl, by rw [List.length_map, l0]; decide, cdw (by rw [List.length_map, l0]; decide) (by rw [List.length_map, l0]; decide), W1, by omega, fun r H2 ra rb W2 g2 => ?_⟩
      rw [List.length_map, l0] at rb
      have hj : r.toNat < s0.length := by omega
      refine ⟨n0, _, _, _, rfl, rfl, SqL.of (g2.lst nb hn0), at_of (j := r.toNat) (v := V.str s0[r.toNat]) (by omega) (by rw [List.getElem?_map, List.getElem?_eq_getElem hj]; rfl), (by show 2 ≤ sizeLine; decide), fun t ht => ?_⟩
      have no := o0 _ (List.getElem_mem hj)
      exact kq (.tup [.str "name", .str s0[r.toNat]]) _ _ _ (.tup upd_same (.cons (enc_s nk_name (by decide)) (.cons (enc_s no (by decide)) .nil))) ⟨(by show 2 ≤ 20; decide), nk_name, no, trivial⟩ (by omega) (W2.grow (Grow.new ht)) ((g1.trans' g2).trans' (GrowW.new ht))
    have e1 : k ≠ 1 := fun z => by rw [z] at e1; exact absurd e1 (by decide)
    have dl : deep ≤ 27 := by
      by_cases z : (27 : Int) < deep
      · have := kd (.inl z); omega
      · omega
    have bl : 3 ≤ bud := by
      by_cases z : bud < 3
      · have := kd (.inr z); omega
      · omega
    -- op
    refine ⟨_, rfl, _, _, rfl, rfl, _, rfl, ?_⟩
    by_cases h4 : k < 4
    · refine ifT h4 ⟨_, rfl, _, rfl, _, rfl, _, _, rfl, rfl, _, _, rfl, rfl, ⟨by decide, by decide⟩, _, rfl, _, _, rfl, rfl, p, l, nm, ns, n + 1, _, _, rfl, W1, Nm1, by omega, by omega, by omega, by omega, fun d2 x2 n2 H2 e2 b2 hn2 W2 g2 => ?_⟩
      refine ⟨(by show 2 ≤ sizeLine; decide), fun D hD => ?_⟩
      obtain ⟨sg, hsg, osg⟩ : ∃ sg : Str, atI [V.str "-", V.str "+"] (k - 2) = some (.str sg) ∧ NOk 20 sg := by
        rcases (by omega : k = 2 ∨ k = 3) with rfl | rfl
        · exact ⟨"-", at_of (j := 0) rfl rfl, nk_minus⟩
        · exact ⟨"+", at_of (j := 1) rfl rfl, nk_plus⟩
      have gD : Grow H2 (upd H2 D (.lst [V.str "-", V.str "+"])) := Grow.new hD
      refine ⟨_, rfl, _, _, rfl, rfl, D, _, _, _, rfl, rfl, SqL.of upd_same, hsg, ?_⟩
      have W3 := W2.grow gD
      have Nm3 := (Nm1.gw g2).gw gD.w
      have e3 := e2.grow gD
      generalize upd H2 D (.lst [V.str "-", V.str "+"]) = H3 at gD W3 Nm3 e3 ⊢
      refine ⟨_, rfl, _, rfl, _, rfl, _, rfl, _, _, rfl, rfl, _, _, rfl, rfl, ⟨by decide, by decide⟩, _, rfl, _, _, rfl, rfl, p, l, nm, ns, n2, _, _, rfl, W3, Nm3, by omega, by omega, by omega, by omega, fun d4 x4 n4 H4 e4 b4 hn4 W4 g4 => ⟨(by show 4 ≤ sizeLine; decide), fun t ht => ?_⟩⟩
      obtain ⟨yz, hyz⟩ := W3.pl
      have e5 := (e3.gw g4 hyz).grow (Grow.new (o := .tup [.str "op", .str sg, x2, x4]) ht)
      exact kq (.tup [.str "op", .str sg, d2, d4]) _ _ _ (.tup upd_same (.cons (enc_s nk_op (by decide)) (.cons (enc_s osg (by decide)) (.cons e5 (.cons (e4.grow (Grow.new ht)) .nil))))) ⟨(by show 4 ≤ 20; decide), nk_op, osg, b2, b4, trivial⟩ (by omega) (W4.grow (Grow.new ht)) ((((g1.trans' g2).trans' gD.w).trans' g4).trans' (GrowW.new ht))
    refine ifF h4 ?_
    -- times
    refine ⟨_, rfl, rfl, _, rfl, ite2 (fun _ => ?_) (fun e4 => ?_)⟩
    · refine ⟨_, rfl, p, l, ns, n + 1, rfl, W1, by omega, fun r H2 r0 r1 W2 g2 => ?_⟩
      refine ⟨_, rfl, _, rfl, _, rfl, _, _, rfl, rfl, _, rfl, _, _, rfl, rfl, p, l, nm, ns, n + 1 + 2, _, _, rfl, W2, Nm1.gw g2, by omega, by omega, by omega, by omega, fun d4 x4 n4 H4 e4 b4 hn4 W4 g4 => ⟨(by show 3 ≤ sizeLine; decide), fun t ht => ?_⟩⟩
      exact kq (.tup [.str "times", .int r, d4]) _ _ _ (.tup upd_same (.cons (enc_s nk_times (by decide)) (.cons (.int r) (.cons (e4.grow (Grow.new ht)) .nil)))) ⟨(by show 3 ≤ 20; decide), nk_times, (by show r.natAbs ≤ _; omega), b4, trivial⟩ (by omega) (W4.grow (Grow.new ht)) (((g1.trans' g2).trans' g4).trans' (GrowW.new ht))
    -- make
    refine ⟨_, rfl, rfl, _, rfl, ite2 (fun _ => ?_) (fun e5 => ?_)⟩
    · refine ⟨_, rfl, _, rfl, _, rfl, p, l, ns, n + 1, 6, rfl, by decide, cdw (by decide) (by decide), W1, by omega, fun r H2 r0 r1 W2 g2 => ?_⟩
      refine ⟨_, rfl, _, _, rfl, rfl, _, rfl, _, _, rfl, rfl, p, l, nm, ns, n + 1 + 1, r, _, _, rfl, W2, Nm1.gw g2, by omega, by omega, r0, by omega, by omega, by omega, fun ds a n3 H3 e3 b3 hn3 W3 g3 => ?_⟩
      obtain ⟨n0, n1, s0, s1, hnm, hn0, hn1, l0, l1, o0, o1, na, nb, nc⟩ := (Nm1.gw g2).gw g3
      refine ⟨_, rfl, nm, _, _, _, rfl, rfl, SqL.of hnm, i1, _, rfl, _, rfl, nm, _, _, _, rfl, rfl, SqL.of hnm, i1, n1, _, rfl, .inl (SqL.of hn1), p, l, ns, n3, _, rfl, by rw [List.length_map, l1]; decide, cdw (by rw [List.length_map, l1]; decide) (by rw [List.length_map, l1]; decide), W3, by omega, fun r H4 ra rb W4 g4 => ?_⟩
      rw [List.length_map, l1] at rb
      have hj : r.toNat < s1.length := by omega
      refine ⟨n1, _, _, _, rfl, rfl, SqL.of (g4.lst nc hn1), at_of (j := r.toNat) (v := V.str s1[r.toNat]) (by omega) (by rw [List.getElem?_map, List.getElem?_eq_getElem hj]; rfl), _, rfl, (by show 3 ≤ sizeLine; decide), fun t ht => ?_⟩
      have no := o1 _ (List.getElem_mem hj)
      obtain ⟨yz, hyz⟩ := W3.pl
      exact kq (.tup [.str "make", .str s1[r.toNat], .tup ds]) _ _ _ (.tup upd_same (.cons (enc_s nk_make (by decide)) (.cons (enc_s no (by decide)) (.cons ((e3.gw g4 hyz).grow (Grow.new ht)) .nil)))) ⟨(by show 3 ≤ 20; decide), nk_make, no, b3, trivial⟩ (by omega) (W4.grow (Grow.new ht)) ((((g1.trans' g2).trans' g3).trans' g4).trans' (GrowW.new ht))
    -- call
    refine ⟨_, rfl, _, rfl, _, rfl, p, l, ns, n + 1, 7, rfl, by decide, cdw (by decide) (by decide), W1, by omega, fun r H2 r0 r1 W2 g2 => ?_⟩
    refine ⟨_, rfl, _, _, rfl, rfl, _, rfl, _, _, rfl, rfl, p, l, nm, ns, n + 1 + 1, r, _, _, rfl, W2, Nm1.gw g2, by omega, by omega, r0, by omega, by omega, by omega, fun ds a n3 H3 e3 b3 hn3 W3 g3 => ?_⟩
    obtain ⟨n0, n1, s0, s1, hnm, hn0, hn1, l0, l1, o0, o1, na, nb, nc⟩ := (Nm1.gw g2).gw g3
    refine ⟨_, rfl, nm, _, _, _, rfl, rfl, SqL.of hnm, i0, _, rfl, _, rfl, nm, _, _, _, rfl, rfl, SqL.of hnm, i0, n0, _, rfl, .inl (SqL.of hn0), p, l, ns, n3, _, rfl, by rw [List.length_map, l0]; decide, cdw (by rw [List.length_map, l0]; decide) (by rw [List.length_map, l0]; decide), W3, by omega, fun r H4 ra rb W4 g4 => ?_⟩
    rw [List.length_map, l0] at rb
    have hj : r.toNat < s0.length := by omega
    refine ⟨n0, _, _, _, rfl, rfl, SqL.of (g4.lst nb hn0), at_of (j := r.toNat) (v := V.str s0[r.toNat]) (by omega) (by rw [List.getElem?_map, List.getElem?_eq_getElem hj]; rfl), _, rfl, (by show 3 ≤ sizeLine; decide), fun t ht => ?_⟩
    have no := o0 _ (List.getElem_mem hj)
    obtain ⟨yz, hyz⟩ := W3.pl
    exact kq (.tup [.str "call", .str s0[r.toNat], .tup ds]) _ _ _ (.tup upd_same (.cons (enc_s nk_call (by decide)) (.cons (enc_s no (by decide)) (.cons ((e3.gw g4 hyz).grow (Grow.new ht)) .nil)))) ⟨(by show 3 ≤ 20; decide), nk_call, no, b3, trivial⟩ (by omega) (W4.grow (Grow.new ht)) ((((g1.trans' g2).trans' g3).trans' g4).trans' (GrowW.new ht))
theorem none_e {f : Addr} {fd : FuncData} {k : Nat} : FnOk P w K mg base CX0 k f fd ["_law_well_here", "_law_names", "_law_budget", "_law_deep"] (spE 0) := by
  have no : ∀ vs H Q E, ¬ spE 0 vs H Q E := fun vs H Q E h => by
    obtain ⟨p, l, nm, ns, n, bud, deep, _, _, _, h1, h2, _⟩ := h
    omega
  exact ⟨fun vs H Q E h => absurd h (no vs H Q E), fun A outer s H args us vs Q E _ _ _ _ h => absurd h (no vs H Q E)⟩
theorem all_e {f fA fD fN fC : Addr} {fd fdA fdD fdN fdC : FuncData} (F : Fun K "_law_loose_e" "_law_loose_e" lE f fd) (FA : Fun K "_law_loose_args" "_law_loose_args" lArgs fA fdA) (N : Gd2 mg)
    (DE : Df K mg "_law_loose_e" ["_law_well_here", "_law_names", "_law_budget", "_law_deep"] f fd) (DA : Df K mg "_law_loose_args" ["_law_well_here", "_law_names", "_law_many", "_law_budget", "_law_deep"] fA fdA)
    (GD : FnOk P w K mg base CX0 1 fD fdD ["_law_well_here", "_law_many"] spDr) (DD : Df K mg "_law_draw" ["_law_well_here", "_law_many"] fD fdD)
    (GN : FnOk P w K mg base CX0 2 fN fdN ["_law_well_here"] (spNm 1000000000000)) (DN : Df K mg "_law_number" ["_law_well_here"] fN fdN) (GC : FnOk P w K mg base CX0 2 fC fdC ["_law_well_here"] (spNm 1000000)) (DC : Df K mg "_law_factor" ["_law_well_here"] fC fdC) :
    ∀ j : Nat, FnOk P w K mg base CX0 (2 * j + 2) f fd ["_law_well_here", "_law_names", "_law_budget", "_law_deep"] (spE j)
  | 0 => none_e
  | j + 1 => by
    have GE := all_e F FA N DE DA GD DD GN DN GC DC j
    exact ok_e F N GE DE (ok_args FA N GE DE) DA GD DD GN DN GC DC
end
end J1
set_option Elab.async false
set_option linter.all false
set_option maxRecDepth 100000
set_option maxHeartbeats 4000000
namespace J1
open PySem PySem.Spec PyProof.Rows L2 GxR GA
abbrev lB : Stmt := top 54
theorem cLB : FnScope ["_law_well_here", "_law_names", "_law_budget", "_law_deep", "_law_pick", "_law_half", "_law_e", "_law_name", "_law_part", "_law_sides", "_law_k", "_law_ways", "_law_many", "_law_branches", "_law_wide", "_law_inner", "_law_p", "_law_body"] ["_law_well_here", "_law_names", "_law_budget", "_law_deep"] (defScope lB) := ⟨rfl, rfl, rfl, by decide +kernel, rfl, by decide +kernel, by decide +kernel⟩
theorem nk_let : NOk 20 "let" := nk (by decide +kernel)
theorem nk_if : NOk 20 "if" := nk (by decide +kernel)
theorem nk_match : NOk 20 "match" := nk (by decide +kernel)
theorem nk_give : NOk 20 "give" := nk (by decide +kernel)
def Db : Nat → Nat
  | 0 => 0
  | i + 1 => 10 * Db i + 10 * De 28
def spB (i : Nat) : Sp := fun vs H Q _ => ∃ (p l nm : Addr) (ns : List Int) (n : Nat) (bud deep : Int), vs = [.ref p, .ref nm, .int bud, .int deep] ∧ Wl H p l ns n ∧ Nms H p nm ∧ 25 ≤ deep + i ∧ deep ≤ 24 ∧ 0 ≤ deep ∧ 1 ≤ bud ∧ bud ≤ 1000 ∧ n + Db i ≤ 1000000000000000000000000000000000000000000000000000000000000 ∧
  ∀ d x n' H', EncT H' d x → Bd 20 d → n' ≤ n + Db i → Wl H' p l ns n' → GrowW p H H' → Q x H'
theorem two_of {ds : List Da} {acc : List V} {H : Hp} (e : EncsT H ds acc) (h : ds.length = 2) : ∃ d0 d1 y0 y1, ds = [d0, d1] ∧ acc = [y0, y1] ∧ EncT H d0 y0 ∧ EncT H d1 y1 := by
  match ds, h with
  | [d0, d1], _ =>
    obtain ⟨y0, y1, rfl, h0, h1⟩ := encs2 e
    exact ⟨d0, d1, y0, y1, rfl, rfl, h0, h1⟩
section
variable {P : Program} {w : World} {K : PySem.W.Frag} {mg : Str → Option Value} {base : Heap}
theorem ok_b {i : Nat} {f fB fE fD : Addr} {fd fdB fdE fdD : FuncData} (F : Fun K "_law_loose_body" "_law_loose_body" lB f fd) (N : Gd2 mg)
    (GB : FnOk P w K mg base CX0 (58 + i) fB fdB ["_law_well_here", "_law_names", "_law_budget", "_law_deep"] (spB i)) (DB : Df K mg "_law_loose_body" ["_law_well_here", "_law_names", "_law_budget", "_law_deep"] fB fdB)
    (GE : FnOk P w K mg base CX0 58 fE fdE ["_law_well_here", "_law_names", "_law_budget", "_law_deep"] (spE 28)) (DE : Df K mg "_law_loose_e" ["_law_well_here", "_law_names", "_law_budget", "_law_deep"] fE fdE)
    (GD : FnOk P w K mg base CX0 1 fD fdD ["_law_well_here", "_law_many"] spDr) (DD : Df K mg "_law_draw" ["_law_well_here", "_law_many"] fD fdD) :
    FnOk P w K mg base CX0 (58 + i + 1) f fd ["_law_well_here", "_law_names", "_law_budget", "_law_deep"] (spB (i + 1)) := by
  refine F.ok (k := 58 + i) cLB (fun vs H Q E h => ?_) (fun cdv A outer s H vs Q E hr h => ?_)
  · obtain ⟨p, l, nm, ns, n, bud, deep, rfl, _⟩ := h
    rfl
  · obtain ⟨p, l, nm, ns, n, bud, deep, rfl, W, Nm, hd1, hd2, hd3, hb1, hb2, hn, kq⟩ := h
    have hDp := De_pos 28
    have hDb : Db (i + 1) = 10 * Db i + 10 * De 28 := rfl
    rw [hDb] at hn
    have kq : ∀ d x n' H', EncT H' d x → Bd 20 d → n' ≤ n + (10 * Db i + 10 * De 28) → Wl H' p l ns n' → GrowW p H H' → Q x H' := kq
    clear hDb
    refine ⟨_, (pss_cons (ps_set (i := 4) cLB.nd rfl (Or.inl rfl) (pe_call (GD.mono (by omega)) hr (by rfl) DD.g DD.k DD.b .nil pass0 (pa_cons (pv 0) (pa_cons pe_int pa_nil)))) (pss_cons (ps_if (PW.pt (pw_and (pt_cmpR op_lt (pv 3) pe_int (nomark _)) (pw_and (pt_cmpR op_lt (pv 4) pe_int (nomark _)) (pw_and1 (pt_cmpR op_gt (pv 2) pe_int (nomark _)))))) (pss_cons (ps_set (i := 5) cLB.nd rfl (Or.inl rfl) (pe_op op_fdiv (pe_op op_sub (pv 2) pe_int) pe_int)) (pss_cons (ps_set (i := 6) cLB.nd rfl (Or.inl rfl) (pe_call (GE.mono (by omega)) hr (by rfl) DE.g DE.k DE.b .nil pass0 (pa_cons (pv 0) (pa_cons (pv 1) (pa_cons (pv 5) (pa_cons (pe_op op_add (pv 3) pe_int) pa_nil)))))) (pss_cons (ps_set (i := 7) cLB.nd rfl (Or.inl rfl) (pe_ix ix_list (pe_ix ix_list (pv 1) pe_int (fun _ _ => rfl)) (pe_call (GD.mono (by omega)) hr (by rfl) DD.g DD.k DD.b .nil pass0 (pa_cons (pv 0) (pa_cons (pe_callB call_len_seq (by rfl) N.len PySem.boot_len (pa_cons (pe_ix ix_list (pv 1) pe_int (fun _ _ => rfl)) pa_nil)) pa_nil))) (fun _ _ => rfl))) (pss_one (ps_ret (pe_tup (pa_cons pe_str (pa_cons (pv 7) (pa_cons (pv 6) (pa_cons (pe_call (GB.mono (by omega)) hr (by rfl) DB.g DB.k DB.b .nil pass0 (pa_cons (pv 0) (pa_cons (pv 1) (pa_cons (pe_op op_sub (pe_op op_sub (pv 2) pe_int) (pv 5)) (pa_cons (pe_op op_add (pv 3) pe_int) pa_nil))))) pa_nil)))))))))) pss_nil) (pss_cons (ps_if (PW.pt (pw_and (pt_cmpR op_lt (pv 3) pe_int (nomark _)) (pw_and (pt_cmpR op_eq (pv 4) pe_int (nomark _)) (pw_and1 (pt_cmpR op_gt (pv 2) pe_int (nomark _)))))) (pss_cons (ps_set (i := 8) cLB.nd rfl (Or.inr rfl) (pe_op op_fdiv (pe_op op_sub (pv 2) pe_int) pe_int)) (pss_cons (ps_setLc (i := 9) (own := [("_law_k", 10)]) (g := gName 10) (tt := tYes) (by rfl) cLB.nd rfl rfl (sw_true rfl rfl rfl (by decide +kernel)) (pi_range1 (by rfl) N.range (pa_cons pe_int pa_nil)) (blkOk_by (own := [("_law_k", 10)]) (N := ["_law_well_here", "_law_names", "_law_budget", "_law_deep", "_law_pick", "_law_half", "_law_e", "_law_name", "_law_part", "_law_sides", "_law_k", "_law_ways", "_law_many", "_law_branches", "_law_wide", "_law_inner", "_law_p", "_law_body"]) (sc := defScope lB) (by decide +kernel)) (fun _ _ _ _ _ => (pg_name (i := 10) cLB.nd rfl (Or.inl rfl))) (fun _ _ _ _ _ => pts_nil) (fun _ _ _ _ _ => (pe_call (GE.mono (by omega)) hr (by rfl) DE.g DE.k DE.b .nil pass0 (pa_cons (pv 0) (pa_cons (pv 1) (pa_cons (pv 8) (pa_cons (pe_op op_add (pv 3) pe_int) pa_nil))))))) (pss_cons (ps_setLc (i := 11) (own := [("_law_k", 10)]) (g := gName 10) (tt := tYes) (by rfl) cLB.nd rfl rfl (sw_true rfl rfl rfl (by decide +kernel)) (pi_range1 (by rfl) N.range (pa_cons pe_int pa_nil)) (blkOk_by (own := [("_law_k", 10)]) (N := ["_law_well_here", "_law_names", "_law_budget", "_law_deep", "_law_pick", "_law_half", "_law_e", "_law_name", "_law_part", "_law_sides", "_law_k", "_law_ways", "_law_many", "_law_branches", "_law_wide", "_law_inner", "_law_p", "_law_body"]) (sc := defScope lB) (by decide +kernel)) (fun _ _ _ _ _ => (pg_name (i := 10) cLB.nd rfl (Or.inl rfl))) (fun _ _ _ _ _ => pts_nil) (fun _ _ _ _ _ => (pe_call (GB.mono (by omega)) hr (by rfl) DB.g DB.k DB.b .nil pass0 (pa_cons (pv 0) (pa_cons (pv 1) (pa_cons (pv 8) (pa_cons (pe_op op_add (pv 3) pe_int) pa_nil))))))) (pss_one (ps_ret (pe_tup (pa_cons pe_str (pa_cons (pe_ix ix_list (pv 9) pe_int (fun _ _ => rfl)) (pa_cons (pe_ix ix_list (pv 9) pe_int (fun _ _ => rfl)) (pa_cons (pe_ix ix_list (pv 11) pe_int (fun _ _ => rfl)) (pa_cons (pe_ix ix_list (pv 11) pe_int (fun _ _ => rfl)) pa_nil))))))))))) pss_nil) (pss_cons (ps_if (PW.pt (pw_and (pt_cmpR op_lt (pv 3) pe_int (nomark _)) (pw_and (pt_cmpR op_in_seq (pv 4) (pe_tup (pa_cons pe_int (pa_cons pe_int pa_nil))) (by rfl)) (pw_and1 (pt_cmpR op_gt (pv 2) pe_int (nomark _)))))) (pss_cons (ps_set (i := 12) cLB.nd rfl (Or.inl rfl) (pe_op op_add pe_int (pe_call (GD.mono (by omega)) hr (by rfl) DD.g DD.k DD.b .nil pass0 (pa_cons (pv 0) (pa_cons (pe_callB (call_min2 rfl) (by rfl) N.min (by decide +kernel) (pa_cons pe_int (pa_cons (pe_op op_fdiv (pe_op op_sub (pv 2) pe_int) pe_int) pa_nil))) pa_nil))))) (pss_cons (ps_set (i := 8) cLB.nd rfl (Or.inr rfl) (pe_op op_fdiv (pe_op op_sub (pv 2) pe_int) (pv 12))) (pss_cons (ps_set (i := 13) cLB.nd rfl (Or.inl rfl) (pe_lst pa_nil)) (pss_cons (ps_for PassesOwn.never rfl (pi_range1 (by rfl) N.range (pa_cons (pv 12) pa_nil)) (pg_name (i := 10) cLB.nd rfl (Or.inl rfl)) (pss_cons (ps_set (i := 14) cLB.nd rfl (Or.inl rfl) (pe_call (GD.mono (by omega)) hr (by rfl) DD.g DD.k DD.b .nil pass0 (pa_cons (pv 0) (pa_cons (pe_callB (call_min2 rfl) (by rfl) N.min (by decide +kernel) (pa_cons pe_int (pa_cons (pe_op op_sub (pv 8) pe_int) pa_nil))) pa_nil)))) (pss_cons (ps_set (i := 15) cLB.nd rfl (Or.inl rfl) (pe_callTy call_tuple_of (by rfl) N.tuple (by decide +kernel) (pa_cons (pe_lc (own := [("_law_p", 16)]) (g := gName 16) (tt := tYes) (by rfl) cLB.nd (pi_range1 (by rfl) N.range (pa_cons (pv 14) pa_nil)) (blkOk_by (own := [("_law_p", 16)]) (N := ["_law_well_here", "_law_names", "_law_budget", "_law_deep", "_law_pick", "_law_half", "_law_e", "_law_name", "_law_part", "_law_sides", "_law_k", "_law_ways", "_law_many", "_law_branches", "_law_wide", "_law_inner", "_law_p", "_law_body"]) (sc := defScope lB) (by decide +kernel)) (fun _ _ _ _ _ => (pg_name (i := 16) cLB.nd rfl (Or.inl rfl))) (fun _ _ _ _ _ => pts_nil) (fun _ _ _ _ _ => (pe_ix (r := rIxL K) ix_list (pe_ix (r := rIxL K) ix_list (pv 1) pe_int (fun _ _ => rfl)) (pe_call (GD.mono (by omega)) hr (by rfl) DD.g DD.k DD.b .nil pass0 (pa_cons (pv 0) (pa_cons (pe_callB (r := rLen K) call_len_seq (by rfl) N.len PySem.boot_len (pa_cons (pe_ix (r := rIxL K) ix_list (pv 1) pe_int (fun _ _ => rfl)) pa_nil)) pa_nil))) (fun _ _ => rfl)))) pa_nil))) (pss_cons (ps_set (i := 17) cLB.nd rfl (Or.inl rfl) (pe_call (GB.mono (by omega)) hr (by rfl) DB.g DB.k DB.b .nil pass0 (pa_cons (pv 0) (pa_cons (pv 1) (pa_cons (pe_op op_sub (pv 8) (pv 14)) (pa_cons (pe_op op_add (pv 3) pe_int) pa_nil)))))) (pss_one (ps_expr (pe_bm PySem.F.plainAttrs_list PySem.F.slot_list_append PySem.F.type_list_append mt_append (pv 13) (pa_cons (pe_tup (pa_cons (pe_ix ix_list (pe_ix ix_list (pv 1) pe_int (fun _ _ => rfl)) (pe_call (GD.mono (by omega)) hr (by rfl) DD.g DD.k DD.b .nil pass0 (pa_cons (pv 0) (pa_cons (pe_callB call_len_seq (by rfl) N.len PySem.boot_len (pa_cons (pe_ix ix_list (pv 1) pe_int (fun _ _ => rfl)) pa_nil)) pa_nil))) (fun _ _ => rfl)) (pa_cons (pv 15) (pa_cons (pv 17) pa_nil)))) pa_nil)))))))) (pss_one (ps_ret (pe_tup (pa_cons pe_str (pa_cons (pe_call (GE.mono (by omega)) hr (by rfl) DE.g DE.k DE.b .nil pass0 (pa_cons (pv 0) (pa_cons (pv 1) (pa_cons pe_int (pa_cons (pe_op op_add (pv 3) pe_int) pa_nil))))) (pa_cons (pe_callTy call_tuple_of (by rfl) N.tuple (by decide +kernel) (pa_cons (pv 13) pa_nil)) pa_nil)))))))))) pss_nil) (pss_one (ps_ret (pe_tup (pa_cons pe_str (pa_cons (pe_call (GE.mono (by omega)) hr (by rfl) DE.g DE.k DE.b .nil pass0 (pa_cons (pv 0) (pa_cons (pv 1) (pa_cons (pe_op op_sub (pv 2) pe_int) (pa_cons (pe_op op_add (pv 3) pe_int) pa_nil))))) pa_nil))))))))), ?_⟩
    refine ⟨_, rfl, p, l, ns, n, 6, rfl, by decide, cdw (by decide) (by decide), W, by omega, fun k H1 k0 k7 W1 g1 => ?_⟩
    have Nm1 := Nm.gw g1
    have i0 : ∀ {u v : V}, atI [u, v] 0 = some u := at_of (j := 0) rfl rfl
    have i1 : ∀ {u v : V}, atI [u, v] 1 = some v := at_of (j := 1) rfl rfl
    -- let
    try dsimp only [tSeq, tIfS, tNext]
    refine rd_and0 (c1 := decide (deep < 24)) (c2 := decide (k < 2) && decide (5 < bud)) (fun R' h => ⟨_, rfl, _, _, rfl, rfl, _, rfl, h⟩) (fun e kk => rd_and0 (c1 := decide (k < 2)) (c2 := decide (5 < bud)) (fun R' h => ⟨_, rfl, _, _, rfl, rfl, _, rfl, h⟩) (fun e kk => ⟨_, rfl, _, _, rfl, rfl, _, rfl, kk⟩) kk) ?_
    refine b_if (fun h => ?_) (fun _ => ?_)
    · simp only [Bool.and_eq_true, decide_eq_true_eq] at h
      obtain ⟨h24, _, h5⟩ := h
      refine ⟨_, rfl, _, _, rfl, rfl, _, _, rfl, rfl, ⟨by decide, by decide⟩, ?_⟩
      refine ⟨_, rfl, _, rfl, _, rfl, _, rfl, _, _, rfl, rfl, p, l, nm, ns, n + 1, _, _, rfl, W1, Nm1, by omega, by omega, by omega, by omega, fun d2 x2 n2 H2 e2 b2 hn2 W2 g2 => ?_⟩
      obtain ⟨n0, n1, s0, s1, hnm, hn0, hn1, l0, l1, o0, o1, na, nb, nc⟩ := Nm1.gw g2
      refine ⟨_, rfl, nm, _, _, _, rfl, rfl, SqL.of hnm, i0, _, rfl, _, rfl, nm, _, _, _, rfl, rfl, SqL.of hnm, i0, n0, _, rfl, .inl (SqL.of hn0), p, l, ns, n2, _, rfl, by rw [List.length_map, l0]; decide, cdw (by rw [List.length_map, l0]; decide) (by rw [List.length_map, l0]; decide), W2, by omega, fun r H3 ra rb W3 g3 => ?_⟩
      rw [List.length_map, l0] at rb
      have hj : r.toNat < s0.length := by omega
      have no := o0 _ (List.getElem_mem hj)
      refine ⟨n0, _, _, _, rfl, rfl, SqL.of (g3.lst nb hn0), at_of (j := r.toNat) (v := V.str s0[r.toNat]) (by omega) (by rw [List.getElem?_map, List.getElem?_eq_getElem hj]; rfl), ?_⟩
      refine ⟨_, rfl, _, rfl, _, rfl, _, rfl, _, rfl, _, _, rfl, rfl, _, rfl, _, _, rfl, rfl, _, rfl, _, _, rfl, rfl, p, l, nm, ns, n2 + 1, _, _, rfl, W3, (Nm1.gw g2).gw g3, by omega, by omega, by omega, by omega, by omega, by omega, fun d4 x4 n4 H4 e4 b4 hn4 W4 g4 => ⟨(by show 4 ≤ sizeLine; decide), fun t ht => ?_⟩⟩
      obtain ⟨y2, hy2⟩ := W2.pl
      obtain ⟨y3, hy3⟩ := W3.pl
      exact kq (.tup [.str "let", .str s0[r.toNat], d2, d4]) _ _ _ (.tup upd_same (.cons (enc_s nk_let (by decide)) (.cons (enc_s no (by decide)) (.cons (((e2.gw g3 hy2).gw g4 hy3).grow (Grow.new ht)) (.cons (e4.grow (Grow.new ht)) .nil))))) ⟨(by show 4 ≤ 20; decide), nk_let, no, b2, b4, trivial⟩ (by omega) (W4.grow (Grow.new ht)) ((((g1.trans' g2).trans' g3).trans' g4).trans' (GrowW.new ht))
    -- if
    try dsimp only [tSeq, tIfS, tNext]
    refine rd_and0 (c1 := decide (deep < 24)) (c2 := decide (V.int k = V.int 2) && decide (8 < bud)) (fun R' h => ⟨_, rfl, _, _, rfl, rfl, _, rfl, h⟩) (fun e kk => rd_and0 (c1 := decide (V.int k = V.int 2)) (c2 := decide (8 < bud)) (fun R' h => ⟨_, rfl, rfl, _, rfl, h⟩) (fun e kk => ⟨_, rfl, _, _, rfl, rfl, _, rfl, kk⟩) kk) ?_
    refine b_if (fun h => ?_) (fun _ => ?_)
    · simp only [Bool.and_eq_true, decide_eq_true_eq] at h
      obtain ⟨h24, _, h5⟩ := h
      refine ⟨_, rfl, _, _, rfl, rfl, _, _, rfl, rfl, ⟨by decide, by decide⟩, ?_⟩
      refine ⟨2, rfl, by decide, by decide, fun D hD => ?_⟩
      obtain ⟨hDp1, hDl⟩ := W1.np hD
      refine lc_range (n := 2) (fun i' Hc => ∃ acc ds n', Hc D = some (.lst acc) ∧ EncsT Hc ds acc ∧ Bds 20 ds ∧ ds.length = i' ∧ Wl Hc p l ns n' ∧ n' ≤ n + 1 + i' * De 28 ∧ GrowW p H1 Hc) ⟨[], [], n + 1, upd_same, .nil, trivial, rfl, W1.grow (Grow.new hD), by omega, GrowW.new hD⟩ (fun i' Hc hi hp => ?_) (fun Hd hp => ?_)
      · obtain ⟨acc, ds, n', hacc, es, bs, hl, W', hn', g⟩ := hp
        have hi2 : (i' + 1) * De 28 ≤ 2 * De 28 := Nat.mul_le_mul_right _ (by omega)
        rw [Nat.succ_mul] at hi2
        refine ⟨wipe_set, ?_⟩
        unfold tYes
        refine iteT ⟨_, rfl, _, rfl, _, rfl, _, rfl, _, _, rfl, rfl, p, l, nm, ns, n', _, _, rfl, W', Nm1.gw g, by omega, by omega, by omega, by omega, fun d x n2 H2 ex bx hn2 W2 g2 => ?_⟩
        have hacc2 : H2 D = some (.lst acc) := g2.lst hDp1 hacc
        refine ⟨acc, hacc2, ?_, acc ++ [x], ds ++ [d], n2, upd_same, ?_, bds_push bs bx, ?_, W2.upd hDp1 hDl, ?_, (g.trans' g2).but hD⟩
        · have := es.length
          rw [sizeLine_eq]; omega
        · obtain ⟨yz, hyz⟩ := W'.pl
          exact (encs_push (es.gw g2 hyz) ex).gw GrowW.upd hacc2
        · rw [List.length_append, hl]; rfl
        · rw [Nat.succ_mul]; omega
      · obtain ⟨acc, ds, n2, hacc, es, bs, hl, W2, hn2, g2⟩ := hp
        obtain ⟨d0, d1, y0, y1, rfl, rfl, e0, e1⟩ := two_of es hl
        refine ⟨2, rfl, by decide, by decide, fun D2 hD2 => ?_⟩
        obtain ⟨hDp2, hDl2⟩ := W2.np hD2
        refine lc_range (n := 2) (fun i' Hc => ∃ acc ds n', Hc D2 = some (.lst acc) ∧ EncsT Hc ds acc ∧ Bds 20 ds ∧ ds.length = i' ∧ Wl Hc p l ns n' ∧ n' ≤ n2 + i' * Db i ∧ GrowW p Hd Hc) ⟨[], [], n2, upd_same, .nil, trivial, rfl, W2.grow (Grow.new hD2), by omega, GrowW.new hD2⟩ (fun i' Hc hi hp => ?_) (fun He hp => ?_)
        · obtain ⟨acc, ds, n', hacc, es, bs, hl, W', hn', g⟩ := hp
          have hi2 : (i' + 1) * Db i ≤ 2 * Db i := Nat.mul_le_mul_right _ (by omega)
          rw [Nat.succ_mul] at hi2
          refine ⟨wipe_set, ?_⟩
          unfold tYes
          refine iteT ⟨_, rfl, _, rfl, _, rfl, _, rfl, _, _, rfl, rfl, p, l, nm, ns, n', _, _, rfl, W', (Nm1.gw g2).gw g, by omega, by omega, by omega, by omega, by omega, by omega, fun d x n3 H3 ex bx hn3 W3 g3 => ?_⟩
          have hacc3 : H3 D2 = some (.lst acc) := g3.lst hDp2 hacc
          refine ⟨acc, hacc3, ?_, acc ++ [x], ds ++ [d], n3, upd_same, ?_, bds_push bs bx, ?_, W3.upd hDp2 hDl2, ?_, (g.trans' g3).but hD2⟩
          · have := es.length
            rw [sizeLine_eq]; omega
          · obtain ⟨yz, hyz⟩ := W'.pl
            exact (encs_push (es.gw g3 hyz) ex).gw GrowW.upd hacc3
          · rw [List.length_append, hl]; rfl
          · rw [Nat.succ_mul]; omega
        · obtain ⟨acc, ds, n3, hacc3, es3, bs3, hl3, W3, hn3, g3⟩ := hp
          obtain ⟨d2, d3, y2, y3, rfl, rfl, e2, e3⟩ := two_of es3 hl3
          obtain ⟨yz, hyz⟩ := W2.pl
          have hD' := g3.lst hDp1 hacc
          refine ⟨_, rfl, D, _, _, _, rfl, rfl, SqL.of hD', i0, _, rfl, D, _, _, _, rfl, rfl, SqL.of hD', i1, _, rfl, D2, _, _, _, rfl, rfl, SqL.of hacc3, i0, _, rfl, D2, _, _, _, rfl, rfl, SqL.of hacc3, i1, (by show 5 ≤ sizeLine; decide), fun t ht => ?_⟩
          exact kq (.tup [.str "if", d0, d1, d2, d3]) _ _ _ (.tup upd_same (.cons (enc_s nk_if (by decide)) (.cons ((e0.gw g3 hyz).grow (Grow.new ht)) (.cons ((e1.gw g3 hyz).grow (Grow.new ht)) (.cons (e2.grow (Grow.new ht)) (.cons (e3.grow (Grow.new ht)) .nil)))))) ⟨(by show 5 ≤ 20; decide), nk_if, bs.1, bs.2.1, bs3.1, bs3.2.1, trivial⟩ (by omega) (W3.grow (Grow.new ht)) (((g1.trans' g2).trans' g3).trans' (GrowW.new ht))
    -- match
    try dsimp only [tSeq, tIfS, tNext]
    refine rd_and (c1 := decide (deep < 24)) (c2 := inV (.int k) [.int 3, .int 4] && decide (8 < bud)) (fun R' h => ⟨_, rfl, _, _, rfl, rfl, _, rfl, h⟩) (fun e kk => ?_) (fun H1' gr1 => ?_)
    · refine ⟨_, rfl, (by show 2 ≤ sizeLine; decide), fun q hq => ⟨q, _, rfl, .inr (SqT.of upd_same), rfl, rfl, _, rfl, ?_⟩⟩
      have kk := kk _ (Grow.new (o := .tup [.int 3, .int 4]) hq)
      show if inV (.int k) [.int 3, .int 4] = true then _ else _
      refine b_if (fun e2 => ?_) (fun e2 => ?_)
      · rw [e2, Bool.true_and] at kk
        exact ⟨_, rfl, _, _, rfl, rfl, _, rfl, kk⟩
      · rw [e2, Bool.false_and] at kk
        exact kk
    have W1 := W1.grow gr1
    have Nm1 := Nm1.gw gr1.w
    have g1 := g1.trans' gr1.w
    refine b_if (fun h => ?_) (fun _ => ?_)
    · simp only [Bool.and_eq_true, decide_eq_true_eq] at h
      obtain ⟨h24, _, h5⟩ := h
      refine ⟨_, rfl, _, rfl, _, _, rfl, rfl, _, _, rfl, rfl, ⟨by decide, by decide⟩, _, _, rfl, ?_⟩
      generalize hmx : (if (bud - 3) / 5 < 8 then (bud - 3) / 5 else 8) = mx
      have hmx1 : 1 ≤ mx ∧ mx ≤ 8 ∧ mx ≤ (bud - 3) / 5 := by
        rw [← hmx]
        split <;> omega
      refine ⟨p, l, ns, n + 1, mx, rfl, by omega, cdw (by omega) (Nat.lt_of_lt_of_le (by omega : mx.natAbs < 9) (by decide)), W1, by omega, fun r H2 ra rb W2 g2 => ?_⟩
      refine ⟨_, _, rfl, rfl, ?_⟩
      have hm1 : 1 ≤ 1 + r ∧ 1 + r ≤ 8 ∧ 5 * (1 + r) ≤ bud - 3 := by omega
      dsimp only
      generalize 1 + r = many at hm1 ⊢
      refine ⟨_, rfl, _, _, rfl, rfl, _, rfl, _, _, rfl, rfl, ⟨by omega, by omega⟩, ?_⟩
      have hp5 : 5 ≤ (bud - 3) / many := Int.le_ediv_of_mul_le (by omega) hm1.2.2
      have hp6 : ((bud - 3) / many).natAbs ≤ (bud - 3).natAbs := Int.natAbs_ediv_le_natAbs _ _
      have hp7 : (bud - 3) / many ≤ 1000 := by omega
      dsimp only
      generalize (bud - 3) / many = part at hp5 hp7 ⊢
      refine ⟨Nat.zero_le _, fun q hq => ?_⟩
      have hmb : many < 2 ^ 62 := Int.lt_of_lt_of_le (by omega : many < 9) (by decide)
      obtain ⟨hqp, hql⟩ := W2.np hq
      have W2' := W2.grow (Grow.new (o := .lst []) hq)
      have Nm2 := ((Nm1.gw g2).gw (GrowW.new (o := .lst []) hq))
      have g12 := (g1.trans' g2).trans' (GrowW.new (o := .lst []) hq)
      have hqq : upd H2 q (.lst []) q = some (.lst []) := upd_same
      generalize upd H2 q (.lst []) = H3 at W2' Nm2 g12 hqq ⊢
      refine ⟨_, rfl, many, rfl, Int.le_trans (by decide) (by omega : (0 : Int) ≤ many), hmb, ?_⟩
      have hmn : many.toNat ≤ 8 := by omega
      refine for_range (n := many.toNat) (fun i' σ' Hc => ∃ (v10 v14 v15 v17 : Option V) (acc : List V) (ds : List Da) (n' : Nat), σ' = [some (.ref p), some (.ref nm), some (.int bud), some (.int deep), some (.int k), none, none, none, some (.int part), none, v10, none, some (.int many), some (.ref q), v14, v15, none, v17] ∧
        Hc q = some (.lst acc) ∧ EncsT Hc ds acc ∧ Bds 20 ds ∧ ds.length = i' ∧ Wl Hc p l ns n' ∧ n' ≤ n + 2 + i' * (Db i + 8) ∧ Nms Hc p nm ∧ GrowW p H Hc) ⟨none, none, none, none, [], [], n + 2, rfl, hqq, .nil, trivial, rfl, W2', by omega, Nm2, g12⟩ (fun i' σ' Hc hi hp => ?_) (fun σ' Hc hp => ?_)
      · obtain ⟨v10, v14, v15, v17, acc, ds, n', rfl, hacc, es, bs, hl, W', hn', Nm', g⟩ := hp
        have hi2 : (i' + 1) * (Db i + 8) ≤ 8 * (Db i + 8) := Nat.mul_le_mul_right _ (by omega)
        rw [Nat.succ_mul] at hi2
        have hqH : H q = none := by
          cases eq : H q with
          | none => rfl
          | some o =>
            rcases (g1.trans' g2) q o hqp eq with z | ⟨_, ps, z, _⟩
            · rw [hq] at z; cases z
            · rw [hq] at z; cases z
        refine ⟨_, rfl, _, rfl, _, _, rfl, rfl, _, _, rfl, ?_⟩
        generalize hw : (if part - 1 < 6 then part - 1 else 6) = wm
        have hw1 : 1 ≤ wm ∧ wm ≤ 6 ∧ wm ≤ part - 1 := by
          rw [← hw]
          split <;> omega
        refine ⟨p, l, ns, n', wm, rfl, by omega, cdw (by omega) (Nat.lt_of_lt_of_le (by omega : wm.natAbs < 9) (by decide)), W', by omega, fun wd H4 wa wb W4 g4 => ?_⟩
        have hacc4 := g4.lst hqp hacc
        obtain ⟨yz, hyz⟩ := W'.pl
        have es4 := es.gw g4 hyz
        have Nm4 := Nm'.gw g4
        have gg4 := g.trans' g4
        have hwdb : wd < 2 ^ 62 := Int.lt_of_lt_of_le (by omega : wd < 9) (by decide)
        refine ⟨_, rfl, wd, rfl, Int.le_trans (by decide) wa, hwdb, fun D hD => ?_⟩
        obtain ⟨hDp1, hDl⟩ := W4.np hD
        have hDq : D ≠ q := fun z => by rw [z, hacc4] at hD; cases hD
        refine lc_range (n := wd.toNat) (fun i2 Hx => ∃ acc2 ds2, Hx D = some (.lst acc2) ∧ EncsT Hx ds2 acc2 ∧ Bds 20 ds2 ∧ ds2.length = i2 ∧ Wl Hx p l ns (n' + 1 + i2) ∧ GrowW p H4 Hx) ⟨[], [], upd_same, .nil, trivial, rfl, W4.grow (Grow.new hD), GrowW.new hD⟩ (fun i2 Hx hi2' hp => ?_) (fun Hd hp => ?_)
        · obtain ⟨acc2, ds2, hacc2, es2, bs2, hl2, Wx, gx⟩ := hp
          refine ⟨wipe_set, ?_⟩
          unfold tYes
          obtain ⟨n0, n1, s0, s1, hnm, hn0, hn1, l0, l1, o0, o1, na, nb, nc⟩ := Nm4.gw gx
          refine iteT ⟨_, rfl, nm, _, _, _, rfl, rfl, SqL.of hnm, i0, _, rfl, _, rfl, nm, _, _, _, rfl, rfl, SqL.of hnm, i0, n0, _, rfl, .inl (SqL.of hn0), p, l, ns, _, _, rfl, by rw [List.length_map, l0]; decide, cdw (by rw [List.length_map, l0]; decide) (by rw [List.length_map, l0]; decide), Wx, by omega, fun r H5 ra rb W5 g5 => ?_⟩
          rw [List.length_map, l0] at rb
          have hj : r.toNat < s0.length := by omega
          have no := o0 _ (List.getElem_mem hj)
          have hacc5 := g5.lst hDp1 hacc2
          obtain ⟨yx, hyx⟩ := Wx.pl
          refine ⟨n0, _, _, _, rfl, rfl, SqL.of (g5.lst nb hn0), at_of (j := r.toNat) (v := V.str s0[r.toNat]) (by omega) (by rw [List.getElem?_map, List.getElem?_eq_getElem hj]; rfl), acc2, hacc5, ?_, acc2 ++ [.str s0[r.toNat]], ds2 ++ [.str s0[r.toNat]], upd_same, (encs_push (es2.gw g5 hyx) (enc_s no (by decide))).gw GrowW.upd hacc5, bds_push (d := .str s0[r.toNat]) bs2 no, ?_, ?_, (gx.trans' g5).but hD⟩
          · have := es2.length
            rw [sizeLine_eq]; omega
          · rw [List.length_append, hl2]; rfl
          · exact (W5.more (by omega)).upd hDp1 hDl
        · obtain ⟨acc2, ds2, hacc2, es2, bs2, hl2, Wx, gx⟩ := hp
          refine ⟨D, acc2, rfl, .inl ⟨SqL.of hacc2, fun t1 ht1 => ?_⟩⟩
          have gt1 : Grow Hd (upd Hd t1 (.tup acc2)) := Grow.new ht1
          have et1 : EncT (upd Hd t1 (.tup acc2)) (.tup ds2) (.ref t1) := .tup upd_same (es2.grow gt1)
          have bt1 : Bd 20 (.tup ds2) := ⟨by omega, bs2⟩
          have W6 := Wx.grow gt1
          have g6 := gx.trans' gt1.w
          have hacc6 := g6.lst hqp hacc4
          obtain ⟨y4, hy4⟩ := W4.pl
          have es6 := es4.gw g6 hy4
          have Nm6 := Nm4.gw g6
          have gg6 := gg4.trans' g6
          generalize upd Hd t1 (.tup acc2) = H6 at et1 W6 hacc6 es6 Nm6 gg6 ⊢
          refine ⟨_, rfl, _, rfl, _, rfl, _, rfl, _, _, rfl, rfl, _, rfl, _, _, rfl, rfl, p, l, nm, ns, _, _, _, rfl, W6, Nm6, by omega, by omega, by omega, by omega, by omega, by omega, fun d7 x7 n7 H7 e7 b7 hn7 W7 g7 => ?_⟩
          obtain ⟨y6, hy6⟩ := W6.pl
          have hacc7 := g7.lst hqp hacc6
          have es7 := es6.gw g7 hy6
          have Nm7 := Nm6.gw g7
          have gg7 := gg6.trans' g7
          have et7 := et1.gw g7 hy6
          obtain ⟨n0, n1, s0, s1, hnm, hn0, hn1, l0, l1, o0, o1, na, nb, nc⟩ := id Nm7
          refine ⟨_, rfl, .inl ⟨rfl, _, SqL.of hacc7⟩, _, rfl, nm, _, _, _, rfl, rfl, SqL.of hnm, i1, _, rfl, _, rfl, nm, _, _, _, rfl, rfl, SqL.of hnm, i1, n1, _, rfl, .inl (SqL.of hn1), p, l, ns, _, _, rfl, by rw [List.length_map, l1]; decide, cdw (by rw [List.length_map, l1]; decide) (by rw [List.length_map, l1]; decide), W7, by omega, fun r H8 ra rb W8 g8 => ?_⟩
          rw [List.length_map, l1] at rb
          have hj : r.toNat < s1.length := by omega
          have no := o1 _ (List.getElem_mem hj)
          obtain ⟨y7, hy7⟩ := W7.pl
          have hacc8 := g8.lst hqp hacc7
          have es8 := es7.gw g8 hy7
          have Nm8 := Nm7.gw g8
          have gg8 := gg7.trans' g8
          have et8 := et7.gw g8 hy7
          have e8 := e7.gw g8 hy7
          refine ⟨n1, _, _, _, rfl, rfl, SqL.of (g8.lst nc hn1), at_of (j := r.toNat) (v := V.str s1[r.toNat]) (by omega) (by rw [List.getElem?_map, List.getElem?_eq_getElem hj]; rfl), _, rfl, _, rfl, (by show 3 ≤ sizeLine; decide), fun t9 ht9 => ?_⟩
          have gt9 := Grow.new (o := .tup [.str s1[r.toNat], .ref t1, x7]) ht9
          have hacc9 := gt9.lst hacc8
          refine ⟨q, _, _, rfl, rfl, hacc9, ?_, ?_⟩
          · have := es.length
            rw [sizeLine_eq]; omega
          · obtain ⟨hqp', hql'⟩ : q ≠ p ∧ q ≠ l := ⟨hqp, hql⟩
            refine ⟨_, _, _, _, acc ++ [.ref t9], ds ++ [.tup [.str s1[r.toNat], .tup ds2, d7]], _, rfl, upd_same, ?_, bds_push (d := .tup [.str s1[r.toNat], .tup ds2, d7]) bs ⟨(by show 3 ≤ 20; decide), no, bt1, b7, trivial⟩, by rw [List.length_append, hl]; rfl, ((W8.grow gt9).upd hqp hql), ?_, ?_, (gg8.trans' gt9.w).but hqH⟩
            · exact (encs_push (es8.grow gt9) (.tup upd_same (.cons (enc_s no (by decide)) (.cons (et8.grow gt9) (.cons (e8.grow gt9) .nil))))).gw GrowW.upd hacc9
            · rw [Nat.succ_mul]; omega
            · exact Nm.gw ((gg8.trans' gt9.w).but hqH)
      · obtain ⟨v10, v14, v15, v17, acc, ds, n', rfl, hacc, es, bs, hl, W', hn', Nm', g⟩ := hp
        have hi2 : many.toNat * (Db i + 8) ≤ 8 * (Db i + 8) := Nat.mul_le_mul_right _ hmn
        refine ⟨_, rfl, _, rfl, _, rfl, _, _, rfl, rfl, p, l, nm, ns, n', _, _, rfl, W', Nm', by omega, by omega, by omega, by omega, fun d2 x2 n2 H4 e2 b2 hn2 W4 g4 => ?_⟩
        have hacc4 := g4.lst hqp hacc
        obtain ⟨yz, hyz⟩ := W'.pl
        have es4 := es.gw g4 hyz
        refine ⟨_, rfl, q, acc, rfl, .inl ⟨SqL.of hacc4, fun t1 ht1 => ⟨(by show 3 ≤ sizeLine; decide), fun t ht => ?_⟩⟩⟩
        have g5 := Grow.new (o := .tup acc) ht1
        have g6 := g5.trans (Grow.new (o := .tup [.str "match", x2, .ref t1]) ht)
        exact kq (.tup [.str "match", d2, .tup ds]) _ _ _ (.tup upd_same (.cons (enc_s nk_match (by decide)) (.cons (e2.grow g6) (.cons (.tup ((Grow.new ht).tup upd_same) (es4.grow g6)) .nil)))) ⟨(by show 3 ≤ 20; decide), nk_match, b2, ⟨by omega, bs⟩, trivial⟩ (by omega) (W4.grow g6) ((g.trans' g4).trans' g6.w)
    -- give
    refine ⟨_, rfl, _, rfl, _, rfl, _, _, rfl, rfl, _, rfl, _, _, rfl, rfl, p, l, nm, ns, n + 1, _, _, rfl, W1, Nm1, by omega, by omega, by omega, by omega, fun d2 x2 n2 H2 e2 b2 hn2 W2 g2 => ⟨(by show 2 ≤ sizeLine; decide), fun t ht => ?_⟩⟩
    exact kq (.tup [.str "give", d2]) _ _ _ (.tup upd_same (.cons (enc_s nk_give (by decide)) (.cons (e2.grow (Grow.new ht)) .nil))) ⟨(by show 2 ≤ 20; decide), nk_give, b2, trivial⟩ (by omega) (W2.grow (Grow.new ht)) ((g1.trans' g2).trans' (GrowW.new ht))
end
end J1
set_option Elab.async false
set_option linter.all false
set_option maxRecDepth 100000
set_option maxHeartbeats 4000000
namespace J1
open PySem PySem.Spec PyProof.Rows L2 GxR GA
section
variable {P : Program} {w : World} {K : PySem.W.Frag} {mg : Str → Option Value} {base : Heap}
theorem none_b {f : Addr} {fd : FuncData} {k : Nat} : FnOk P w K mg base CX0 k f fd ["_law_well_here", "_law_names", "_law_budget", "_law_deep"] (spB 0) := by
  have no : ∀ vs H Q E, ¬ spB 0 vs H Q E := fun vs H Q E h => by
    obtain ⟨p, l, nm, ns, n, bud, deep, _, _, _, h1, h2, _⟩ := h
    omega
  exact ⟨fun vs H Q E h => absurd h (no vs H Q E), fun A outer s H args us vs Q E _ _ _ _ h => absurd h (no vs H Q E)⟩
theorem all_b {f fE fD : Addr} {fd fdE fdD : FuncData} (F : Fun K "_law_loose_body" "_law_loose_body" lB f fd) (N : Gd2 mg) (DB : Df K mg "_law_loose_body" ["_law_well_here", "_law_names", "_law_budget", "_law_deep"] f fd)
    (GE : FnOk P w K mg base CX0 58 fE fdE ["_law_well_here", "_law_names", "_law_budget", "_law_deep"] (spE 28)) (DE : Df K mg "_law_loose_e" ["_law_well_here", "_law_names", "_law_budget", "_law_deep"] fE fdE)
    (GD : FnOk P w K mg base CX0 1 fD fdD ["_law_well_here", "_law_many"] spDr) (DD : Df K mg "_law_draw" ["_law_well_here", "_law_many"] fD fdD) : ∀ i : Nat, FnOk P w K mg base CX0 (58 + i) f fd ["_law_well_here", "_law_names", "_law_budget", "_law_deep"] (spB i)
  | 0 => none_b
  | i + 1 => ok_b F N (all_b F N DB GE DE GD DD i) DB GE DE GD DD
end
/-! ### names -/
def GrowV (p u : Addr) (H H' : Hp) : Prop := ∀ a o, a ≠ p → a ≠ u → H a = some o → H' a = some o ∨ (∃ ps, o = .tbl ps) ∧ TabG H' a
theorem GrowW.v {p u : Addr} {H H' : Hp} (g : GrowW p H H') : GrowV p u H H' := fun a o n _ h => g a o n h
theorem GrowV.trans {p u : Addr} {H H1 H2 : Hp} (x : GrowV p u H H1) (y : GrowV p u H1 H2) : GrowV p u H H2 := fun a o n m h => by
  rcases x a o n m h with h1 | ⟨h1, ps, q, z⟩
  · exact y a o n m h1
  · rcases y a _ n m q with q2 | ⟨_, q2⟩
    · exact .inr ⟨h1, ps, q2, z⟩
    · exact .inr ⟨h1, q2⟩
theorem GrowV.upd {p u : Addr} {H : Hp} {o : HO} : GrowV p u H (L2.upd H u o) := fun a v _ m h => .inl (by rw [upd_ne m]; exact h)
theorem GrowW.afterV {p u : Addr} {H0 H H' : Hp} (g : GrowW p H0 H) (hu : H0 u = Option.none) (v : GrowV p u H H') : GrowW p H0 H' := fun a o n h => by
  have m : a ≠ u := fun z => by rw [z, hu] at h; cases h
  rcases g a o n h with h1 | ⟨h1, ps, q, z⟩
  · exact v a o n m h1
  · rcases v a _ n m q with q2 | ⟨_, q2⟩
    · exact .inr ⟨h1, ps, q2, z⟩
    · exact .inr ⟨h1, q2⟩
theorem GrowV.lst {p u : Addr} {H H' : Hp} (g : GrowV p u H H') {a : Addr} {xs : List V} (n : a ≠ p) (m : a ≠ u) (h : H a = some (.lst xs)) : H' a = some (.lst xs) := by
  rcases g a _ n m h with q | ⟨⟨ps, q⟩, _⟩
  · exact q
  · cases q
theorem nok_app {a b : Nat} {s t : Str} (hs : NOk a s) (ht : NOk b t) : NOk (a + b) (s ++ t) := by
  have e : (s ++ t).cps = s.cps ++ t.cps := rfl
  refine ⟨?_, fun k hk => ?_⟩
  · have h1 : s.cps.size ≤ a := hs.len
    have h2 : t.cps.size ≤ b := ht.len
    show (s ++ t).cps.size ≤ a + b
    rw [e, Array.size_append]
    omega
  · rw [e, Array.toList_append] at hk
    rcases List.mem_append.mp hk with hk | hk
    · exact hs.asc k hk
    · exact ht.asc k hk
theorem nok_le {a b : Nat} {s : Str} (h : NOk a s) (hab : a ≤ b) : NOk b s := ⟨Nat.le_trans h.len hab, h.asc⟩
theorem nok_one {c : Nat} (h : c < 128) : NOk 1 ⟨#[c]⟩ := ⟨Nat.le_refl _, fun k hk => by
  have : k = c := by simpa using hk
  rw [this]; exact h⟩
theorem pigeon {l : List Str} : ∀ {n : Nat} {f : Nat → Str} (_ : ∀ i j, i < n → j < n → f i = f j → i = j) (_ : ∀ i, i < n → f i ∈ l), n ≤ l.length := by
  intro n
  induction n generalizing l with
  | zero => exact fun _ _ => Nat.zero_le _
  | succ n ih =>
    intro f inj mem
    have hm := mem n (Nat.lt_succ_self n)
    have h := ih (l := l.erase (f n)) (f := f) (fun i j hi hj e => inj i j (by omega) (by omega) e) (fun i hi => (List.mem_erase_of_ne (fun e => by have := inj i n (by omega) (by omega) e; omega)).mpr (mem i (by omega)))
    rw [List.length_erase_of_mem hm] at h
    have := List.length_pos_of_mem hm
    omega
theorem str_inj : ∀ i j : Fin 21, Str.ofString (toString ((i.val : Nat) : Int)) = Str.ofString (toString ((j.val : Nat) : Int)) → i = j := by decide +kernel
theorem str_nok : ∀ i : Fin 21, (decide ((Str.ofString (toString ((i.val : Nat) : Int))).length ≤ 3) && (Str.ofString (toString ((i.val : Nat) : Int))).cps.toList.all fun k => decide (k < 128)) = true := by decide +kernel
theorem app_inj {a b c : Str} (h : a ++ b = a ++ c) : b = c := by
  have e : a.cps ++ b.cps = a.cps ++ c.cps := congrArg Str.cps h
  have e2 : a.cps.toList ++ b.cps.toList = a.cps.toList ++ c.cps.toList := by
    rw [← Array.toList_append, ← Array.toList_append, e]
  have e3 := List.append_cancel_left e2
  have e4 : b.cps = c.cps := Array.toList_inj.mp e3
  cases b; cases c; cases e4; rfl
theorem nok_cut {c : Nat} {s : Str} {lo hi : Option Int} (h : NOk c s) : NOk c (cutS s lo hi) := by
  refine ⟨?_, fun k hk => ?_⟩
  · have h1 : s.cps.size ≤ c := h.len
    show (cutS s lo hi).cps.size ≤ c
    unfold cutS
    rw [List.size_toArray, List.length_take, List.length_drop, Array.length_toList]
    omega
  · unfold cutS at hk
    rw [List.toList_toArray] at hk
    exact h.asc k (List.mem_of_mem_drop (List.mem_of_mem_take hk))
theorem cut3 {s : Str} {m : Nat} (h : NOk m s) : NOk 3 (cutS s none (some 3)) := by
  refine ⟨?_, (nok_cut h).asc⟩
  show (cutS s none (some 3)).cps.size ≤ 3
  unfold cutS
  rw [List.size_toArray, List.length_take, HT.sIx_none]
  have e : HT.sIx s.length s.length (some 3) ≤ 3 := by
    have := HT.sIx_nat s.length s.length 3
    have e2 : HT.sIx s.length s.length (some ((3 : Nat) : Int)) = min 3 s.length ∨ True := .inr trivial
    have h3 : HT.sIx s.length s.length (some 3) = HT.sIx s.length s.length (some ((3 : Nat) : Int)) := rfl
    rw [h3, this]
    omega
  omega
theorem at_g {α : Type} {xs : List α} {z : Int} {j : Nat} {v : α} (e : z = (j : Int)) (h : xs[j]? = some v) : atI xs z = some v := by
  rw [e]
  exact atI_nat h
theorem small_ok : (("abcdefghijklmnopqrstuvwxyz" : Str).cps.toList.length = 26) ∧ (("ABCDEFGHIJKLMNOPQRSTUVWXYZ" : Str).cps.toList.length = 26) ∧ signL.length = 62 ∧ (("abcdefghijklmnopqrstuvwxyz" : Str).cps.toList.all fun k => decide (k < 128)) = true ∧ (("ABCDEFGHIJKLMNOPQRSTUVWXYZ" : Str).cps.toList.all fun k => decide (k < 128)) = true := by decide +kernel
abbrev lWord : Stmt := top 51
theorem cW : FnScope ["_law_well_here", "_law_capital", "_law_used", "_law_small", "_law_large", "_law_name", "_law_size", "_law_k"] ["_law_well_here", "_law_capital", "_law_used"] (defScope lWord) := ⟨rfl, rfl, rfl, by decide +kernel, rfl, by decide +kernel, by decide +kernel⟩
def spWord : Sp := fun vs H Q _ => ∃ (p l u : Addr) (ns : List Int) (n : Nat) (cap : Bool) (us : List Str), vs = [.ref p, .bl cap, .ref u] ∧ Wl H p l ns n ∧ u ≠ p ∧ u ≠ l ∧ H u = some (.lst (us.map V.str)) ∧ us.length ≤ 12 ∧ n + 14 ≤ 1000000000000000000000000000000000000000000000000000000000000 ∧
  ∀ s H', NOk 14 s → H' u = some (.lst ((us ++ [s]).map V.str)) → Wl H' p l ns (n + 14) → GrowV p u H H' → Q (.str s) H'
structure Gd3 (mg : Str → Option Value) : Prop where
  len : mg "len" = Option.none
  int : mg "int" = Option.none
  str : mg "str" = Option.none
  range : mg "range" = Option.none
section
variable {P : Program} {w : World} {K : PySem.W.Frag} {mg : Str → Option Value} {base : Heap}
theorem ok_word {f fD : Addr} {fd fdD : FuncData} (F : Fun K "_law_word" "_law_word" lWord f fd) (N : Gd3 mg) (GD : FnOk P w K mg base CX0 1 fD fdD ["_law_well_here", "_law_many"] spDr) (DD : Df K mg "_law_draw" ["_law_well_here", "_law_many"] fD fdD) :
    FnOk P w K mg base CX0 2 f fd ["_law_well_here", "_law_capital", "_law_used"] spWord := by
  refine F.ok (k := 1) cW (fun vs H Q E h => ?_) (fun cdv A outer s H vs Q E hr h => ?_)
  · obtain ⟨p, l, u, ns, n, cap, us, rfl, _⟩ := h
    rfl
  · obtain ⟨p, l, u, ns, n, cap, us, rfl, W, hup, hul, hu, hus, hn, kq⟩ := h
    refine ⟨_, (pss_cons (ps_set (i := 3) cW.nd rfl (Or.inl rfl) pe_str) (pss_cons (ps_set (i := 4) cW.nd rfl (Or.inl rfl) pe_str) (pss_cons (ps_set (i := 5) cW.nd rfl (Or.inr rfl) (pe_ix ix_str (pe_ix ix_list (pe_lst (pa_cons (pv 3) (pa_cons (pv 4) pa_nil))) (pe_callTy call_int1 (by rfl) N.int (by decide +kernel) (pa_cons (pv 1) pa_nil)) (fun _ _ => rfl)) (pe_call GD hr (by rfl) DD.g DD.k DD.b .nil pass0 (pa_cons (pv 0) (pa_cons pe_int pa_nil))) (fun _ _ => rfl))) (pss_cons (ps_set (i := 6) cW.nd rfl (Or.inl rfl) (pe_call GD hr (by rfl) DD.g DD.k DD.b .nil pass0 (pa_cons (pv 0) (pa_cons pe_int pa_nil)))) (C8.pss_cut (ps_if (pt_cmpR op_eq (pe_call GD hr (by rfl) DD.g DD.k DD.b .nil pass0 (pa_cons (pv 0) (pa_cons pe_int pa_nil))) pe_int (nomark _)) (pss_one (ps_set (i := 6) cW.nd rfl (Or.inl rfl) (pe_call GD hr (by rfl) DD.g DD.k DD.b .nil pass0 (pa_cons (pv 0) (pa_cons pe_int pa_nil))))) pss_nil) (pss_cons (ps_for PassesOwn.never rfl (pi_range1 (by rfl) N.range (pa_cons (pv 6) pa_nil)) (pg_name (i := 7) cW.nd rfl (Or.inl rfl)) (pss_one (ps_set (i := 5) cW.nd rfl (Or.inr rfl) (pe_op op_add_str (pv 5) (pe_ix ix_str (pe_op op_add_str (pe_op op_add_str (pv 3) (pv 4)) pe_str) (pe_call GD hr (by rfl) DD.g DD.k DD.b .nil pass0 (pa_cons (pv 0) (pa_cons pe_int pa_nil))) (fun _ _ => rfl)))))) (C8.pss_cut (ps_if (pt_cmpR op_in_seq (pv 5) (pe_tup (pa_cons pe_str (pa_cons pe_str (pa_cons pe_str (pa_cons pe_str (pa_cons pe_str (pa_cons pe_str (pa_cons pe_str (pa_cons pe_str pa_nil))))))))) (by rfl)) (pss_one (ps_set (i := 5) cW.nd rfl (Or.inr rfl) (pe_op op_add_str (pv 5) pe_str))) pss_nil) (C8.pss_cut (ps_if (pt_cmpR op_in_seq (pv 5) (pv 2) (by rfl)) (pss_one (ps_set (i := 5) cW.nd rfl (Or.inr rfl) (pe_ix ix_list (pe_lc (own := [("_law_k", 7)]) (g := gName 7) (by rfl) cW.nd (pi_range1 (by rfl) N.range (pa_cons (pe_op op_add (pe_callB call_len_seq (by rfl) N.len PySem.boot_len (pa_cons (pv 2) pa_nil)) pe_int) pa_nil)) (blkOk_by (own := [("_law_k", 7)]) (N := ["_law_well_here", "_law_capital", "_law_used", "_law_small", "_law_large", "_law_name", "_law_size", "_law_k"]) (sc := defScope lWord) (by decide +kernel)) (fun _ _ _ _ _ => (pg_name (i := 7) cW.nd rfl (Or.inl rfl))) (fun _ _ _ _ _ => (pts_one (pt_cmpR (r := rIn K true) op_notIn_seq (pe_op op_add_str (pe_slice sl_str (pv 5) po_none (po_some pe_int)) (pe_callTy call_str_int (by rfl) N.str (by decide +kernel) (pa_cons (pv 7) pa_nil))) (pv 2) (by rfl)))) (fun _ _ _ _ _ => (pe_op op_add_str (pe_slice sl_str (pv 5) po_none (po_some pe_int)) (pe_callTy call_str_int (by rfl) N.str (by decide +kernel) (pa_cons (pv 7) pa_nil))))) pe_int (fun _ _ => rfl)))) pss_nil) (pss_cons (ps_expr (pe_bm PySem.F.plainAttrs_list PySem.F.slot_list_append PySem.F.type_list_append mt_append (pv 2) (pa_cons (pv 5) pa_nil))) (pss_one (ps_ret (pv 5)))))))))))), ?_⟩
    refine ⟨_, rfl, _, rfl, (by show 2 ≤ sizeLine; decide), fun D0 hD0 => ?_⟩
    have g0 := Grow.new (o := .lst [V.str "abcdefghijklmnopqrstuvwxyz", V.str "ABCDEFGHIJKLMNOPQRSTUVWXYZ"]) hD0
    refine ⟨_, rfl, .inr ⟨cap, rfl, D0, _, _, V.str (if cap = true then "ABCDEFGHIJKLMNOPQRSTUVWXYZ" else "abcdefghijklmnopqrstuvwxyz"), rfl, rfl, SqL.of upd_same, ?_, ?_⟩⟩
    · cases cap
      · exact at_of (j := 0) rfl rfl
      · exact at_of (j := 1) rfl rfl
    have W0 := W.grow g0
    have hu0 := g0.lst hu
    generalize upd H D0 (.lst [V.str "abcdefghijklmnopqrstuvwxyz", V.str "ABCDEFGHIJKLMNOPQRSTUVWXYZ"]) = H0 at g0 W0 hu0 ⊢
    obtain ⟨lz, hlz, haz⟩ : ∃ lz : List Nat, lz = ((if cap = true then ("ABCDEFGHIJKLMNOPQRSTUVWXYZ" : Str) else "abcdefghijklmnopqrstuvwxyz") : Str).cps.toList ∧ (lz.length = 26 ∧ ∀ k ∈ lz, k < 128) := by
      obtain ⟨q1, q2, _, q4, q5⟩ := small_ok
      cases cap
      · exact ⟨_, rfl, q1, fun k hk => of_decide_eq_true (List.all_eq_true.mp q4 k hk)⟩
      · exact ⟨_, rfl, q2, fun k hk => of_decide_eq_true (List.all_eq_true.mp q5 k hk)⟩
    have hsz : ((if cap = true then ("ABCDEFGHIJKLMNOPQRSTUVWXYZ" : Str) else "abcdefghijklmnopqrstuvwxyz") : Str).length ≤ sizeLine := by
      have : ((if cap = true then ("ABCDEFGHIJKLMNOPQRSTUVWXYZ" : Str) else "abcdefghijklmnopqrstuvwxyz") : Str).cps.size = 26 := by rw [← Array.length_toList, ← hlz, haz.1]
      show Array.size _ ≤ _
      rw [this, sizeLine_eq]; omega
    refine ⟨_, rfl, p, l, ns, n, 26, rfl, by decide, cdw (by decide) (by decide), W0, by omega, fun r H1 ra rb W1 g1 => ?_⟩
    have hj : r.toNat < lz.length := by omega
    have hat : atI ((if cap = true then ("ABCDEFGHIJKLMNOPQRSTUVWXYZ" : Str) else "abcdefghijklmnopqrstuvwxyz") : Str).cps.toList r = some lz[r.toNat] := by
      rw [← hlz]
      exact at_g (j := r.toNat) (v := lz[r.toNat]) (by omega) (List.getElem?_eq_getElem hj)
    refine ⟨_, _, lz[r.toNat], rfl, rfl, hsz, hat, ?_⟩
    have nk0 : NOk 1 ⟨#[lz[r.toNat]]⟩ := nok_one (haz.2 _ (List.getElem_mem hj))
    generalize (⟨#[lz[r.toNat]]⟩ : Str) = s0 at nk0 ⊢
    have hu1 := g1.lst hup hu0
    have v1 : GrowV p u H H1 := g0.w.v.trans g1.v
    refine ⟨_, rfl, p, l, ns, n + 1, 3, rfl, by decide, cdw (by decide) (by decide), W1, by omega, fun sz H2 sa sb W2 g2 => ?_⟩
    have hu2 := g2.lst hup hu1
    have v2 := v1.trans g2.v
    refine ⟨fun σ' H' => ∃ sz : Int, σ' = [some (.ref p), some (.bl cap), some (.ref u), some (.str "abcdefghijklmnopqrstuvwxyz"), some (.str "ABCDEFGHIJKLMNOPQRSTUVWXYZ"), some (.str s0), some (.int sz), none] ∧ 0 ≤ sz ∧ sz < 10 ∧ H' u = some (.lst (us.map V.str)) ∧ Wl H' p l ns (n + 4) ∧ GrowV p u H H', ?_, ?_⟩
    · refine ⟨_, rfl, p, l, ns, n + 2, 3, rfl, by decide, cdw (by decide) (by decide), W2, by omega, fun r3 H3 _ _ W3 g3 => ?_⟩
      refine ⟨rfl, _, rfl, ite2 (fun _ => ?_) (fun _ => ?_)⟩
      · exact ⟨_, rfl, p, l, ns, n + 3, 10, rfl, by decide, cdw (by decide) (by decide), W3, by omega, fun r4 H4 a4 b4 W4 g4 => ⟨r4, rfl, a4, b4, g4.lst hup (g3.lst hup hu2), W4, (v2.trans g3.v).trans g4.v⟩⟩
      · exact ⟨sz, rfl, sa, by omega, g3.lst hup hu2, W3.more (by omega), v2.trans g3.v⟩
    rintro σ' H3 ⟨sz, rfl, s1, s2, hu3, W3, v3⟩
    have hszb : sz < 2 ^ 62 := Int.lt_of_lt_of_le s2 (by decide)
    refine ⟨_, rfl, sz, rfl, Int.le_trans (by decide) s1, hszb, ?_⟩
    refine for_range (n := sz.toNat) (fun i' σ' Hc => ∃ (s : Str) (v7 : Option V), σ' = [some (.ref p), some (.bl cap), some (.ref u), some (.str "abcdefghijklmnopqrstuvwxyz"), some (.str "ABCDEFGHIJKLMNOPQRSTUVWXYZ"), some (.str s), some (.int sz), v7] ∧ NOk (1 + i') s ∧ Hc u = some (.lst (us.map V.str)) ∧ Wl Hc p l ns (n + 4 + i') ∧ GrowV p u H Hc)
      ⟨s0, none, rfl, nk0, hu3, W3, v3⟩ (fun i' σ' Hc hi hp => ?_) (fun σ' Hc hp => ?_)
    · obtain ⟨s, v7, rfl, ns', hu4, W4, v4⟩ := hp
      refine ⟨_, rfl, _, rfl, _, rfl, _, _, rfl, rfl, by decide, _, _, rfl, rfl, by decide, _, rfl, p, l, ns, n + 4 + i', 62, rfl, by decide, cdw (by decide) (by decide), W4, by omega, fun r5 H5 a5 b5 W5 g5 => ?_⟩
      have hj5 : r5.toNat < signL.length := by rw [small_ok.2.2.1]; omega
      have hat5 : atI signL r5 = some signL[r5.toNat] := at_g (j := r5.toNat) (v := signL[r5.toNat]) (by omega) (List.getElem?_eq_getElem hj5)
      refine ⟨_, _, signL[r5.toNat], rfl, rfl, by decide, hat5, _, _, rfl, rfl, ?_, ?_⟩
      · have h1 : s.length ≤ 1 + i' := ns'.len
        show s.length + 1 ≤ sizeLine
        rw [sizeLine_eq]; omega
      · exact ⟨s ++ ⟨#[signL[r5.toNat]]⟩, _, rfl, nok_le (nok_app ns' (nok_one (sign_lt _ (List.getElem_mem hj5)))) (by omega), g5.lst hup hu4, W5, v4.trans g5.v⟩
    obtain ⟨s, v7, rfl, ns', hu4, W4, v4⟩ := hp
    have ns' : NOk 10 s := nok_le ns' (by omega)
    have W4 := W4.more (show n + 4 + sz.toNat ≤ n + 13 by omega)
    -- a word that is none
    refine ⟨fun σ' H' => ∃ (s : Str) (v7 : Option V), σ' = [some (.ref p), some (.bl cap), some (.ref u), some (.str "abcdefghijklmnopqrstuvwxyz"), some (.str "ABCDEFGHIJKLMNOPQRSTUVWXYZ"), some (.str s), some (.int sz), v7] ∧ NOk 11 s ∧ H' u = some (.lst (us.map V.str)) ∧ Wl H' p l ns (n + 13) ∧ GrowV p u H H', ?_, ?_⟩
    · refine ⟨_, rfl, (by show 8 ≤ sizeLine; decide), fun q hq => ⟨q, _, rfl, .inr (SqT.of upd_same), rfl, words_flat, _, rfl, ?_⟩⟩
      have gq := Grow.new (o := .tup (wordsL.map V.str)) hq
      refine ite2 (fun _ => ?_) (fun _ => ?_)
      · have nx : NOk 1 "x" := nk (by decide +kernel)
        refine ⟨_, rfl, _, _, rfl, rfl, ?_, s ++ "x", _, rfl, nok_app ns' nx, gq.lst hu4, W4.grow gq, v4.trans gq.w.v⟩
        have h1 : s.length ≤ 10 := ns'.len
        show s.length + 1 ≤ sizeLine
        rw [sizeLine_eq]; omega
      · exact ⟨s, _, rfl, nok_le ns' (by omega), gq.lst hu4, W4.grow gq, v4.trans gq.w.v⟩
    rintro σ' H5 ⟨s, v7, rfl, ns', hu5, W5, v5⟩
    have flat : (us.map V.str).all flatV = true := by
      rw [List.all_map]
      exact List.all_eq_true.mpr fun _ _ => rfl
    have inU : ∀ t : Str, inV (.str t) (us.map V.str) = us.contains t := fun t => by
      unfold inV
      rw [List.any_map]
      have : ((fun y => eqV y (V.str t)) ∘ V.str) = fun y => y == t := funext fun y => rfl
      rw [this]
      rw [Bool.eq_iff_iff, List.any_eq_true, List.contains_iff_mem]
      constructor
      · rintro ⟨y, hy, e⟩
        rw [← beq_iff_eq.mp e]; exact hy
      · exact fun h => ⟨t, h, by simp⟩
    refine ⟨fun σ' H' => ∃ (s : Str) (v7 : Option V), σ' = [some (.ref p), some (.bl cap), some (.ref u), some (.str "abcdefghijklmnopqrstuvwxyz"), some (.str "ABCDEFGHIJKLMNOPQRSTUVWXYZ"), some (.str s), some (.int sz), v7] ∧ NOk 14 s ∧ H' u = some (.lst (us.map V.str)) ∧ Wl H' p l ns (n + 13) ∧ GrowV p u H H', ?_, ?_⟩
    · refine ⟨_, rfl, _, rfl, u, _, rfl, .inl (SqL.of hu5), rfl, flat, _, rfl, ite2 (fun _ => ?_) (fun _ => ?_)⟩
      · refine ⟨_, rfl, u, _, rfl, .inl (SqL.of hu5), _, _, rfl, rfl, _, rfl, ?_⟩
        have hle : (us.map V.str).length = us.length := List.length_map _
        have hb5 : (((us.map V.str).length : Nat) : Int) + 1 < 2 ^ 62 := Int.lt_of_lt_of_le (by omega : (((us.map V.str).length : Nat) : Int) + 1 < 14) (by decide)
        refine ⟨Int.le_trans (by decide) (by omega : (0 : Int) ≤ (((us.map V.str).length : Nat) : Int) + 1), hb5, fun D hD => ?_⟩
        obtain ⟨hDp, hDl⟩ := W5.np hD
        have hDu : D ≠ u := fun z => by rw [z, hu5] at hD; cases hD
        have hDH : H D = Option.none := by
          cases e : H D with
          | none => rfl
          | some o =>
            rcases v5 D o hDp hDu e with z | ⟨_, ps, z, _⟩
            · rw [hD] at z; cases z
            · rw [hD] at z; cases z
        have hls : s.length ≤ sizeLine := by have := ns'.len; rw [sizeLine_eq]; omega
        refine lc_range (n := ((((us.map V.str).length : Nat) : Int) + 1).toNat) (fun i Hc => ∃ acc, Hc D = some (.lst acc) ∧ acc.length ≤ i ∧ (∀ x ∈ acc, ∃ t, x = .str t ∧ NOk 14 t) ∧ (acc = [] → ∀ k, k < i → (cutS s Option.none (some 3) ++ Str.ofString (toString ((k : Nat) : Int))) ∈ us) ∧ Hc u = some (.lst (us.map V.str)) ∧ Wl Hc p l ns (n + 13) ∧ GrowV p u H Hc)
          ⟨[], upd_same, Nat.le_refl _, fun _ h => (nomatch h), fun _ k hk => absurd hk (Nat.not_lt_zero k), (Grow.new hD).lst hu5, W5.grow (Grow.new hD), v5.trans (GrowW.new hD).v⟩ (fun i Hc hi hp => ?_) (fun Hd hp => ?_)
        · obtain ⟨acc, hacc, hl, hall, hno, hu', W', v'⟩ := hp
          have hi20 : i < 21 := by omega
          have q1 := str_nok ⟨i, hi20⟩
          have q2 : NOk 3 (Str.ofString (toString ((i : Nat) : Int))) := nk q1
          have ntk : NOk 6 (cutS s Option.none (some 3) ++ Str.ofString (toString ((i : Nat) : Int))) := nok_app (cut3 ns') q2
          have hlog : ((0 : Int) + (i : Nat)).natAbs.log2 < 1920 := by
            have : ((0 : Int) + (i : Nat)).natAbs = i := by omega
            rw [this]
            have h1 : i.log2 ≤ i := Nat.log2_le_self i
            omega
          have ez : (0 : Int) + (i : Nat) = (i : Nat) := Int.zero_add _
          have hsz : (cutS s Option.none (some 3)).length + (Str.ofString (toString ((0 : Int) + (i : Nat)))).length ≤ sizeLine := by
            rw [ez]
            have h1 := (cut3 ns').len
            have h2 := q2.len
            rw [sizeLine_eq]; omega
          refine ⟨wipe_set, _, rfl, _, rfl, s, rfl, hls, _, rfl, _, rfl, hlog, _, _, rfl, rfl, hsz, _, rfl, u, _, rfl, .inl (SqL.of hu'), rfl, flat, _, rfl, ?_⟩
          show if (!inV (.str (cutS s Option.none (some 3) ++ Str.ofString (toString ((0 : Int) + (i : Nat))))) (us.map V.str)) = true then _ else _
          rw [inU, ez]
          rw [ez] at hlog hsz
          refine b_ifn (fun e => ?_) (fun e => ?_)
          · refine ⟨_, rfl, _, rfl, s, rfl, hls, _, rfl, _, rfl, hlog, _, _, rfl, rfl, hsz, acc, hacc, by rw [sizeLine_eq]; omega, _, upd_same, by rw [List.length_append]; exact Nat.succ_le_succ hl, ?_, fun z => absurd z (by simp), by rw [upd_ne hDu.symm]; exact hu', W'.upd hDp hDl, ?_⟩
            · intro x hx
              rcases List.mem_append.mp hx with hx | hx
              · exact hall x hx
              · rw [List.mem_singleton.mp hx]
                exact ⟨_, rfl, nok_le ntk (by decide)⟩
            · intro a o n1 n2 h
              have m : a ≠ D := fun z => by rw [z, hDH] at h; cases h
              rcases v' a o n1 n2 h with r | ⟨r1, ps, r2, r3⟩
              · exact .inl (by rw [upd_ne m]; exact r)
              · exact .inr ⟨r1, ps, by rw [upd_ne m]; exact r2, r3⟩
          · refine ⟨acc, hacc, by omega, hall, fun z k hk => ?_, hu', W', v'⟩
            by_cases hki : k = i
            · rw [hki]; exact List.contains_iff_mem.mp e
            · exact hno z k (by omega)
        · obtain ⟨acc, hacc, hl, hall, hno, hu', W', v'⟩ := hp
          cases acc with
          | nil =>
            have := pigeon (l := us) (n := ((((us.map V.str).length : Nat) : Int) + 1).toNat) (f := fun k => cutS s Option.none (some 3) ++ Str.ofString (toString ((k : Nat) : Int))) (fun i j hi hj e => by
              have h1 := str_inj ⟨i, by omega⟩ ⟨j, by omega⟩ (app_inj e)
              exact congrArg Fin.val h1) (hno rfl)
            omega
          | cons y r =>
            obtain ⟨t, rfl, nt⟩ := hall y List.mem_cons_self
            exact ⟨D, _, _, _, rfl, rfl, SqL.of hacc, at_of (j := 0) rfl rfl, t, _, rfl, nt, hu', W', v'⟩
      · exact ⟨s, _, rfl, nok_le ns' (by omega), hu5, W5, v5⟩
    rintro σ' H6 ⟨s, v8, rfl, ns', hu6, W6, v6⟩
    refine ⟨_, rfl, .inl ⟨rfl, _, SqL.of hu6⟩, _, rfl, u, _, _, rfl, rfl, hu6, ?_, ?_⟩
    · rw [List.length_map, sizeLine_eq]; omega
    · refine ⟨_, rfl, kq s _ ns' (by rw [List.map_append]; exact upd_same) ((W6.more (by omega)).upd hup hul) (v6.trans GrowV.upd)⟩
end
end J1
set_option Elab.async false
set_option linter.all false
set_option maxRecDepth 100000
set_option maxHeartbeats 4000000
namespace J1
open PySem PySem.Spec PyProof.Rows L2 GxR GA
abbrev lLoose : Stmt := top 55
theorem cL : FnScope ["_law_well_here", "_law_many", "_law_budgets", "_law_used", "_law_names", "_law_k", "_law_kinds", "_law_functions", "_law_sorts", "_law_makers", "_law_m", "_law_fields", "_law_f", "_law_params", "_law_p", "_law_body"] ["_law_well_here", "_law_many", "_law_budgets"] (defScope lLoose) := ⟨rfl, rfl, rfl, by decide +kernel, rfl, by decide +kernel, by decide +kernel⟩
/-- a list of k drawn things -/
def LL (H : Hp) (q : Addr) (k : Nat) : Prop := ∃ acc ds, H q = some (.lst acc) ∧ EncsT H ds acc ∧ Bds 20 ds ∧ ds.length = k
theorem LL.gw {p q : Addr} {H H' : Hp} {k : Nat} {ys : List V} (L : LL H q k) (g : GrowW p H H') (n : q ≠ p) (h : H p = some (.lst ys)) : LL H' q k := by
  obtain ⟨acc, ds, h1, e, b, hl⟩ := L
  exact ⟨acc, ds, g.lst n h1, e.gw g h, b, hl⟩
theorem LL.grow {q : Addr} {H H' : Hp} {k : Nat} (L : LL H q k) (g : Grow H H') : LL H' q k := by
  obtain ⟨acc, ds, h1, e, b, hl⟩ := L
  exact ⟨acc, ds, g.lst h1, e.grow g, b, hl⟩
theorem LL.upd {q r : Addr} {H : Hp} {k : Nat} {o : HO} {ys : List V} (L : LL H q k) (n : q ≠ r) (h : H r = some (.lst ys)) : LL (L2.upd H r o) q k := by
  obtain ⟨acc, ds, h1, e, b, hl⟩ := L
  exact ⟨acc, ds, by rw [upd_ne n]; exact h1, e.gw GrowW.upd h, b, hl⟩
theorem LL.push {q : Addr} {H : Hp} {acc : List V} {ds : List Da} {k : Nat} {d : Da} {x : V} (h : H q = some (.lst acc)) (e : EncsT H ds acc) (b : Bds 20 ds) (hl : ds.length = k) (ex : EncT H d x) (bx : Bd 20 d) : LL (L2.upd H q (.lst (acc ++ [x]))) q (k + 1) :=
  ⟨acc ++ [x], ds ++ [d], upd_same, (encs_push e ex).gw GrowW.upd h, bds_push b bx, by rw [List.length_append, hl]; rfl⟩
theorem LL.nil {q : Addr} {H : Hp} : LL (L2.upd H q (.lst [])) q 0 := ⟨[], [], upd_same, .nil, trivial, rfl⟩
theorem LL.ne {q x : Addr} {H : Hp} {k : Nat} (L : LL H q k) (h : H x = Option.none) : q ≠ x := by
  obtain ⟨acc, ds, h1, _⟩ := L
  exact fun z => by rw [z, h] at h1; cases h1
def spLoose : Sp := fun vs H Q _ => ∃ (p l bl : Addr) (ns : List Int) (n : Nat) (many : Int), vs = [.ref p, .int many, .ref bl] ∧ Wl H p l ns n ∧ 0 ≤ many ∧ many ≤ 2 ∧ bl ≠ p ∧ H bl = some (.lst [.int 8, .int 20, .int 60]) ∧ n + (1000 + 3 * Db 24) ≤ 1000000000000000000000000000000000000000000000000000000000000 ∧
  ∀ ks fs x n' H', EncT H' (.tup [.tup ks, .tup fs]) x → Bd 20 (.tup [.tup ks, .tup fs]) → n' ≤ n + (1000 + 3 * Db 24) → Wl H' p l ns n' → GrowW p H H' → Q x H'
structure Gd4 (mg : Str → Option Value) : Prop where
  len : mg "len" = Option.none
  int : mg "int" = Option.none
  tuple : mg "tuple" = Option.none
  range : mg "range" = Option.none
section
variable {P : Program} {w : World} {K : PySem.W.Frag} {mg : Str → Option Value} {base : Heap}
theorem ok_loose {f fD fW fB : Addr} {fd fdD fdW fdB : FuncData} (F : Fun K "_law_loose" "_law_loose" lLoose f fd) (N : Gd4 mg) (GD : FnOk P w K mg base CX0 1 fD fdD ["_law_well_here", "_law_many"] spDr) (DD : Df K mg "_law_draw" ["_law_well_here", "_law_many"] fD fdD)
    (GW : FnOk P w K mg base CX0 2 fW fdW ["_law_well_here", "_law_capital", "_law_used"] spWord) (DW : Df K mg "_law_word" ["_law_well_here", "_law_capital", "_law_used"] fW fdW)
    (GB : FnOk P w K mg base CX0 82 fB fdB ["_law_well_here", "_law_names", "_law_budget", "_law_deep"] (spB 24)) (DB : Df K mg "_law_loose_body" ["_law_well_here", "_law_names", "_law_budget", "_law_deep"] fB fdB) :
    FnOk P w K mg base CX0 83 f fd ["_law_well_here", "_law_many", "_law_budgets"] spLoose := by
  refine F.ok (k := 82) cL (fun vs H Q E h => ?_) (fun cdv A outer s H vs Q E hr h => ?_)
  · obtain ⟨p, l, bl, ns, n, many, rfl, _⟩ := h
    rfl
  · obtain ⟨p, l, bl, ns, n, many, rfl, W, hm0, hm2, hblp, hbl, hn, kq⟩ := h
    obtain ⟨d24, hd24⟩ : ∃ d, d = Db 24 := ⟨_, rfl⟩
    rw [← hd24] at hn kq
    refine ⟨_, (pss_cons (ps_set (i := 3) cL.nd rfl (Or.inr rfl) (pe_lst pa_nil)) (pss_cons (ps_set (i := 4) cL.nd rfl (Or.inl rfl) (pe_lst (pa_cons (pe_lc (own := [("_law_k", 5)]) (g := gName 5) (tt := tYes) (by rfl) cL.nd (pi_range1 (by rfl) N.range (pa_cons pe_int pa_nil)) (blkOk_by (own := [("_law_k", 5)]) (N := ["_law_well_here", "_law_many", "_law_budgets", "_law_used", "_law_names", "_law_k", "_law_kinds", "_law_functions", "_law_sorts", "_law_makers", "_law_m", "_law_fields", "_law_f", "_law_params", "_law_p", "_law_body"]) (sc := defScope lLoose) (by decide +kernel)) (fun _ _ _ _ _ => (pg_name (i := 5) cL.nd rfl (Or.inl rfl))) (fun _ _ _ _ _ => pts_nil) (fun _ _ _ _ _ => (pe_call (GW.mono (by decide)) hr (by rfl) DW.g DW.k DW.b .nil pass0 (pa_cons (pv 0) (pa_cons pe_bl (pa_cons (pv 3) pa_nil)))))) (pa_cons (pe_lc (own := [("_law_k", 5)]) (g := gName 5) (tt := tYes) (by rfl) cL.nd (pi_range1 (by rfl) N.range (pa_cons pe_int pa_nil)) (blkOk_by (own := [("_law_k", 5)]) (N := ["_law_well_here", "_law_many", "_law_budgets", "_law_used", "_law_names", "_law_k", "_law_kinds", "_law_functions", "_law_sorts", "_law_makers", "_law_m", "_law_fields", "_law_f", "_law_params", "_law_p", "_law_body"]) (sc := defScope lLoose) (by decide +kernel)) (fun _ _ _ _ _ => (pg_name (i := 5) cL.nd rfl (Or.inl rfl))) (fun _ _ _ _ _ => pts_nil) (fun _ _ _ _ _ => (pe_call (GW.mono (by decide)) hr (by rfl) DW.g DW.k DW.b .nil pass0 (pa_cons (pv 0) (pa_cons pe_bl (pa_cons (pv 3) pa_nil)))))) pa_nil)))) (pss_cons (ps_par (i := 6) (j := 7) (by rfl) cL.nd rfl rfl (by decide) rfl rfl (pa_cons (pe_lst pa_nil) (pa_cons (pe_lst pa_nil) pa_nil)) (by rfl)) (pss_cons (ps_set (i := 8) cL.nd rfl (Or.inr rfl) (pe_op op_cat (pe_ix ix_list (pv 4) pe_int (fun _ _ => rfl)) (pe_lst (pa_cons pe_str (pa_cons pe_str pa_nil))))) (C8.pss_cut (ps_for PassesOwn.never rfl (pi_range1 (by rfl) N.range (pa_cons (pe_call (GD.mono (by decide)) hr (by rfl) DD.g DD.k DD.b .nil pass0 (pa_cons (pv 0) (pa_cons pe_int pa_nil))) pa_nil)) (pg_name (i := 5) cL.nd rfl (Or.inl rfl)) (pss_cons (ps_set (i := 9) cL.nd rfl (Or.inl rfl) (pe_lst pa_nil)) (pss_cons (ps_for PassesOwn.never rfl (pi_range1 (by rfl) N.range (pa_cons (pe_op op_add pe_int (pe_call (GD.mono (by decide)) hr (by rfl) DD.g DD.k DD.b .nil pass0 (pa_cons (pv 0) (pa_cons (pe_ix ix_list (pe_lst (pa_cons pe_int (pa_cons pe_int pa_nil))) (pe_callTy call_int1 (by rfl) N.int (by decide +kernel) (pa_cons (pe_cmpR op_eq (pe_call (GD.mono (by decide)) hr (by rfl) DD.g DD.k DD.b .nil pass0 (pa_cons (pv 0) (pa_cons pe_int pa_nil))) pe_int (nomark _)) pa_nil)) (fun _ _ => rfl)) pa_nil)))) pa_nil)) (pg_name (i := 10) cL.nd rfl (Or.inl rfl)) (pss_cons (ps_set (i := 11) cL.nd rfl (Or.inl rfl) (pe_callTy call_tuple_of (by rfl) N.tuple (by decide +kernel) (pa_cons (pe_lc (own := [("_law_f", 12)]) (g := gName 12) (tt := tYes) (by rfl) cL.nd (pi_range1 (by rfl) N.range (pa_cons (pe_call (GD.mono (by decide)) hr (by rfl) DD.g DD.k DD.b .nil pass0 (pa_cons (pv 0) (pa_cons pe_int pa_nil))) pa_nil)) (blkOk_by (own := [("_law_f", 12)]) (N := ["_law_well_here", "_law_many", "_law_budgets", "_law_used", "_law_names", "_law_k", "_law_kinds", "_law_functions", "_law_sorts", "_law_makers", "_law_m", "_law_fields", "_law_f", "_law_params", "_law_p", "_law_body"]) (sc := defScope lLoose) (by decide +kernel)) (fun _ _ _ _ _ => (pg_name (i := 12) cL.nd rfl (Or.inl rfl))) (fun _ _ _ _ _ => pts_nil) (fun _ _ _ _ _ => (pe_ix (r := rIxL K) ix_list (pv 8) (pe_call (GD.mono (by decide)) hr (by rfl) DD.g DD.k DD.b .nil pass0 (pa_cons (pv 0) (pa_cons pe_int pa_nil))) (fun _ _ => rfl)))) pa_nil))) (pss_one (ps_expr (pe_bm PySem.F.plainAttrs_list PySem.F.slot_list_append PySem.F.type_list_append mt_append (pv 9) (pa_cons (pe_tup (pa_cons (pe_ix ix_list (pe_ix ix_list (pv 4) pe_int (fun _ _ => rfl)) (pe_call (GD.mono (by decide)) hr (by rfl) DD.g DD.k DD.b .nil pass0 (pa_cons (pv 0) (pa_cons pe_int pa_nil))) (fun _ _ => rfl)) (pa_cons (pv 11) pa_nil))) pa_nil)))))) (pss_one (ps_expr (pe_bm PySem.F.plainAttrs_list PySem.F.slot_list_append PySem.F.type_list_append mt_append (pv 6) (pa_cons (pe_tup (pa_cons (pe_ix ix_list (pe_ix ix_list (pv 4) pe_int (fun _ _ => rfl)) (pe_call (GD.mono (by decide)) hr (by rfl) DD.g DD.k DD.b .nil pass0 (pa_cons (pv 0) (pa_cons pe_int pa_nil))) (fun _ _ => rfl)) (pa_cons (pe_callTy call_tuple_of (by rfl) N.tuple (by decide +kernel) (pa_cons (pv 9) pa_nil)) pa_nil))) pa_nil))))))) (C8.pss_cut (ps_for PassesOwn.never rfl (pi_range1 (by rfl) N.range (pa_cons (pv 1) pa_nil)) (pg_name (i := 5) cL.nd rfl (Or.inl rfl)) (pss_cons (ps_set (i := 13) cL.nd rfl (Or.inl rfl) (pe_lst pa_nil)) (pss_cons (ps_for PassesOwn.never rfl (pi_range1 (by rfl) N.range (pa_cons (pe_call (GD.mono (by decide)) hr (by rfl) DD.g DD.k DD.b .nil pass0 (pa_cons (pv 0) (pa_cons (pe_ix ix_list (pe_lst (pa_cons pe_int (pa_cons pe_int pa_nil))) (pe_callTy call_int1 (by rfl) N.int (by decide +kernel) (pa_cons (pe_cmpR op_eq (pe_call (GD.mono (by decide)) hr (by rfl) DD.g DD.k DD.b .nil pass0 (pa_cons (pv 0) (pa_cons pe_int pa_nil))) pe_int (nomark _)) pa_nil)) (fun _ _ => rfl)) pa_nil))) pa_nil)) (pg_name (i := 14) cL.nd rfl (Or.inl rfl)) (pss_one (ps_expr (pe_bm PySem.F.plainAttrs_list PySem.F.slot_list_append PySem.F.type_list_append mt_append (pv 13) (pa_cons (pe_tup (pa_cons (pe_ix ix_list (pe_ix ix_list (pv 4) pe_int (fun _ _ => rfl)) (pe_call (GD.mono (by decide)) hr (by rfl) DD.g DD.k DD.b .nil pass0 (pa_cons (pv 0) (pa_cons pe_int pa_nil))) (fun _ _ => rfl)) (pa_cons (pe_ix ix_list (pv 8) (pe_call (GD.mono (by decide)) hr (by rfl) DD.g DD.k DD.b .nil pass0 (pa_cons (pv 0) (pa_cons pe_int pa_nil))) (fun _ _ => rfl)) pa_nil))) pa_nil))))) (pss_cons (ps_set (i := 15) cL.nd rfl (Or.inl rfl) (pe_call GB hr (by rfl) DB.g DB.k DB.b .nil pass0 (pa_cons (pv 0) (pa_cons (pv 4) (pa_cons (pe_ix ix_list (pv 2) (pe_call (GD.mono (by decide)) hr (by rfl) DD.g DD.k DD.b .nil pass0 (pa_cons (pv 0) (pa_cons (pe_callB call_len_seq (by rfl) N.len PySem.boot_len (pa_cons (pv 2) pa_nil)) pa_nil))) (fun _ _ => rfl)) (pa_cons pe_int pa_nil)))))) (pss_one (ps_expr (pe_bm PySem.F.plainAttrs_list PySem.F.slot_list_append PySem.F.type_list_append mt_append (pv 7) (pa_cons (pe_tup (pa_cons (pe_ix ix_list (pe_ix ix_list (pv 4) pe_int (fun _ _ => rfl)) (pe_call (GD.mono (by decide)) hr (by rfl) DD.g DD.k DD.b .nil pass0 (pa_cons (pv 0) (pa_cons pe_int pa_nil))) (fun _ _ => rfl)) (pa_cons (pe_callTy call_tuple_of (by rfl) N.tuple (by decide +kernel) (pa_cons (pv 13) pa_nil)) (pa_cons (pe_ix ix_list (pv 8) (pe_call (GD.mono (by decide)) hr (by rfl) DD.g DD.k DD.b .nil pass0 (pa_cons (pv 0) (pa_cons pe_int pa_nil))) (fun _ _ => rfl)) (pa_cons (pv 15) pa_nil))))) pa_nil)))))))) (pss_one (ps_ret (pe_tup (pa_cons (pe_callTy call_tuple_of (by rfl) N.tuple (by decide +kernel) (pa_cons (pv 6) pa_nil)) (pa_cons (pe_callTy call_tuple_of (by rfl) N.tuple (by decide +kernel) (pa_cons (pv 7) pa_nil)) pa_nil))))))))))), ?_⟩
    refine ⟨Nat.zero_le _, fun u hu0 => ?_⟩
    obtain ⟨hup, hul⟩ := W.np hu0
    have gu := Grow.new (o := .lst []) hu0
    have W1 := W.grow gu
    have hu1 : upd H u (.lst []) u = some (.lst []) := upd_same
    generalize upd H u (.lst []) = H1 at gu W1 hu1 ⊢
    refine ⟨6, rfl, by decide, by decide, fun D0 hD0 => ?_⟩
    obtain ⟨hD0p, hD0l⟩ := W1.np hD0
    have hD0u : D0 ≠ u := fun z => by rw [z, hu1] at hD0; cases hD0
    have hD0H := Grow.none gu hD0
    refine lc_range (n := 6) (fun i Hc => ∃ us ss : List Str, Hc u = some (.lst (us.map V.str)) ∧ us.length = i ∧ Hc D0 = some (.lst (ss.map V.str)) ∧ ss.length = i ∧ (∀ s ∈ ss, NOk 20 s) ∧ Wl Hc p l ns (n + 14 * i) ∧ GrowW p H Hc)
      ⟨[], [], by rw [upd_ne hD0u.symm]; exact hu1, rfl, upd_same, rfl, fun _ h => (nomatch h), W1.upd hD0p hD0l, gu.w.but hD0H⟩ (fun i Hc hi hp => ?_) (fun Hd hp => ?_)
    · obtain ⟨us, ss, hu, hul', hD, hsl, hss, W', g⟩ := hp
      refine ⟨wipe_set, ?_⟩
      unfold tYes
      refine iteT ⟨_, rfl, _, rfl, p, l, u, ns, n + 14 * i, false, us, rfl, W', hup, hul, hu, by omega, by omega, fun s H2 ns2 hu2 W2 v2 => ?_⟩
      have hD2 := v2.lst hD0p hD0u hD
      refine ⟨_, hD2, by rw [List.length_map, sizeLine_eq]; omega, us ++ [s], ss ++ [s], by rw [upd_ne hD0u.symm]; exact hu2, by rw [List.length_append, hul']; rfl, by rw [List.map_append]; exact upd_same, by rw [List.length_append, hsl]; rfl, ?_, (W2.more (by omega)).upd hD0p hD0l, (g.afterV hu0 v2).but hD0H⟩
      intro t ht
      rcases List.mem_append.mp ht with ht | ht
      · exact hss t ht
      · rw [List.mem_singleton.mp ht]; exact nok_le ns2 (by decide)
    obtain ⟨us0, s0, hu2, hul2, hD0', hsl0, hss0, W2, g2⟩ := hp
    refine ⟨6, rfl, by decide, by decide, fun D1 hD1 => ?_⟩
    obtain ⟨hD1p, hD1l⟩ := W2.np hD1
    have hD1u : D1 ≠ u := fun z => by rw [z, hu2] at hD1; cases hD1
    have hD10 : D1 ≠ D0 := fun z => by rw [z, hD0'] at hD1; cases hD1
    have hD1H := g2.none' hD1p hD1
    refine lc_range (n := 6) (fun i Hc => ∃ us ss : List Str, Hc u = some (.lst (us.map V.str)) ∧ us.length = 6 + i ∧ Hc D1 = some (.lst (ss.map V.str)) ∧ ss.length = i ∧ (∀ s ∈ ss, NOk 20 s) ∧ Hc D0 = some (.lst (s0.map V.str)) ∧ Wl Hc p l ns (n + 14 * 6 + 14 * i) ∧ GrowW p H Hc)
      ⟨us0, [], by rw [upd_ne hD1u.symm]; exact hu2, hul2, upd_same, rfl, fun _ h => (nomatch h), by rw [upd_ne hD10.symm]; exact hD0', W2.upd hD1p hD1l, g2.but hD1H⟩ (fun i Hc hi hp => ?_) (fun Hd2 hp => ?_)
    · obtain ⟨us, ss, hu, hul', hD, hsl, hss, hD0'', W', g⟩ := hp
      refine ⟨wipe_set, ?_⟩
      unfold tYes
      refine iteT ⟨_, rfl, _, rfl, p, l, u, ns, _, true, us, rfl, W', hup, hul, hu, by omega, by omega, fun s H2 ns2 hu2 W2 v2 => ?_⟩
      have hD2 := v2.lst hD1p hD1u hD
      refine ⟨_, hD2, by rw [List.length_map, sizeLine_eq]; omega, us ++ [s], ss ++ [s], by rw [upd_ne hD1u.symm]; exact hu2, by rw [List.length_append, hul']; rfl, by rw [List.map_append]; exact upd_same, by rw [List.length_append, hsl]; rfl, ?_, by rw [upd_ne hD10.symm]; exact v2.lst hD0p hD0u hD0'', (W2.more (by omega)).upd hD1p hD1l, (g.afterV hu0 v2).but hD1H⟩
      intro t ht
      rcases List.mem_append.mp ht with ht | ht
      · exact hss t ht
      · rw [List.mem_singleton.mp ht]; exact nok_le ns2 (by decide)
    obtain ⟨us1, s1, hu3, hul3, hD1', hsl1, hss1, hD0'', W3, g3⟩ := hp
    refine ⟨(by show 2 ≤ sizeLine; decide), fun nm hnm => ?_⟩
    obtain ⟨hnmp, hnml⟩ := W3.np hnm
    have gnm := Grow.new (o := .lst [V.ref D0, V.ref D1]) hnm
    have Nm : Nms (upd Hd2 nm (.lst [V.ref D0, V.ref D1])) p nm := ⟨D0, D1, s0, s1, upd_same, gnm.lst hD0'', gnm.lst hD1', hsl0, hsl1, hss0, hss1, hnmp, hD0p, hD1p⟩
    have W4 := W3.grow gnm
    have gn := g3.trans' gnm.w
    generalize hHn : upd Hd2 nm (.lst [V.ref D0, V.ref D1]) = Hn at Nm W4 gn ⊢
    clear gnm hHn
    -- kinds, functions, sorts
    refine ⟨Nat.zero_le _, fun kq' hkq => ⟨Nat.zero_le _, fun fq hfq => ⟨_, _, rfl, ?_⟩⟩⟩
    obtain ⟨hkp, hkl⟩ := W4.np hkq
    have gk := Grow.new (o := .lst []) hkq
    have Lk : LL (upd Hn kq' (.lst [])) kq' 0 := LL.nil
    have W5 := W4.grow gk
    have hfN := Grow.none gk hfq
    obtain ⟨hfp, hfl⟩ := W5.np hfq
    have hfk : fq ≠ kq' := (Lk.ne hfq).symm
    have gf := Grow.new (o := .lst []) hfq
    have Lk := Lk.grow gf
    have Lf : LL (upd (upd Hn kq' (.lst [])) fq (.lst [])) fq 0 := LL.nil
    have W5 := W5.grow gf
    have Bn : GrowW p Hn (upd (upd Hn kq' (.lst [])) fq (.lst [])) := (gk.trans gf).w
    generalize upd (upd Hn kq' (.lst [])) fq (.lst []) = H5 at Lk Lf W5 Bn ⊢
    clear gf hfq
    have i0 : ∀ {u v : V}, atI [u, v] 0 = some u := at_of (j := 0) rfl rfl
    have i1 : ∀ {u v : V}, atI [u, v] 1 = some v := at_of (j := 1) rfl rfl
    obtain ⟨n0, n1, t0, t1, hnm5, hn05, hn15, l0, l1, o0, o1, na, nb, nc⟩ := Nm.gw Bn
    refine ⟨_, rfl, nm, _, _, _, rfl, rfl, SqL.of hnm5, i1, (by show 2 ≤ sizeLine; decide), fun w2 hw2 => ?_⟩
    have gw2 := Grow.new (o := .lst [V.str "whole", V.str "whole"]) hw2
    refine ⟨n1, w2, _, _, rfl, rfl, gw2.lst hn15, upd_same, ?_, fun so hso0 => ?_⟩
    · rw [List.length_map, l1, sizeLine_eq]; decide
    have W6 := W5.grow gw2
    obtain ⟨hsp, hsl⟩ := W6.np hso0
    have Lk := Lk.grow gw2
    have Lf := Lf.grow gw2
    have hsk : kq' ≠ so := Lk.ne hso0
    have hsf : fq ≠ so := Lf.ne hso0
    have gso := Grow.new (o := .lst (t1.map V.str ++ [V.str "whole", V.str "whole"])) hso0
    have W6 := W6.grow gso
    have Lk := Lk.grow gso
    have Lf := Lf.grow gso
    have Bn := (Bn.trans' gw2.w).trans' gso.w
    obtain ⟨sv, hsv, hsv8, hsvo⟩ : ∃ sv : List Str, t1.map V.str ++ [V.str "whole", V.str "whole"] = sv.map V.str ∧ sv.length = 8 ∧ ∀ s ∈ sv, NOk 20 s := by
      refine ⟨t1 ++ ([("whole" : Str), ("whole" : Str)] : List Str), by rw [List.map_append]; rfl, by rw [List.length_append, l1]; rfl, fun s hs => ?_⟩
      rcases List.mem_append.mp hs with hs | hs
      · exact o1 s hs
      · have : s = "whole" := by simpa using hs
        rw [this]
        exact nk (by decide +kernel)
    have hso : upd (upd H5 w2 (.lst [V.str "whole", V.str "whole"])) so (.lst (t1.map V.str ++ [V.str "whole", V.str "whole"])) so = some (.lst (sv.map V.str)) := by rw [← hsv]; exact upd_same
    generalize upd (upd H5 w2 (.lst [V.str "whole", V.str "whole"])) so (.lst (t1.map V.str ++ [V.str "whole", V.str "whole"])) = H6 at W6 Lk Lf Bn hso ⊢
    clear gso gw2 hso0 hw2
    have nmb : ∀ {Hc : Hp}, GrowW p Hn Hc → Nms Hc p nm := fun g => Nm.gw g
    -- the kinds
    refine ⟨fun σ' Hc => ∃ (v5 v9 v10 v11 : Option V) (kn n' : Nat), σ' = [some (.ref p), some (.int many), some (.ref bl), some (.ref u), some (.ref nm), v5, some (.ref kq'), some (.ref fq), some (.ref so), v9, v10, v11, none, none, none, none] ∧
      LL Hc kq' kn ∧ kn ≤ 2 ∧ LL Hc fq 0 ∧ Hc so = some (.lst (sv.map V.str)) ∧ Wl Hc p l ns n' ∧ n' ≤ n + 400 ∧ GrowW p Hn Hc, ?_, ?_⟩
    · refine ⟨_, rfl, p, l, ns, _, 3, rfl, by decide, cdw (by decide) (by decide), W6, by omega, fun kn H7 ka kb W7 g7 => ?_⟩
      obtain ⟨y6, hy6⟩ := W6.pl
      refine ⟨kn, rfl, Int.le_trans (by decide) ka, Int.lt_of_lt_of_le kb (by decide), ?_⟩
      refine for_range (n := kn.toNat) (fun i σ' Hc => ∃ (v5 v9 v10 v11 : Option V) (n' : Nat), σ' = [some (.ref p), some (.int many), some (.ref bl), some (.ref u), some (.ref nm), v5, some (.ref kq'), some (.ref fq), some (.ref so), v9, v10, v11, none, none, none, none] ∧
        LL Hc kq' i ∧ LL Hc fq 0 ∧ Hc so = some (.lst (sv.map V.str)) ∧ Wl Hc p l ns n' ∧ n' ≤ n + 200 + i * 100 ∧ GrowW p Hn Hc) ⟨none, none, none, none, _, rfl, Lk.gw g7 hkp hy6, Lf.gw g7 hfp hy6, g7.lst hsp hso, W7, by omega, Bn.trans' g7⟩ (fun i σ' Hc hi hp => ?_) (fun σ' Hc hp => ?_)
      · obtain ⟨v5, v9, v10, v11, n', rfl, Lk, Lf, hso, W', hn', Bn⟩ := hp
        refine ⟨Nat.zero_le _, fun mk hmk => ?_⟩
        obtain ⟨hmp, hml⟩ := W'.np hmk
        have hmN := Bn.none' hmp hmk
        have hmkk := Lk.ne hmk
        have hmkf := Lf.ne hmk
        have hmks : so ≠ mk := fun z => by rw [z, hmk] at hso; cases hso
        have gm := Grow.new (o := .lst []) hmk
        have Lm : LL (upd Hc mk (.lst [])) mk 0 := LL.nil
        have Lk := Lk.grow gm
        have Lf := Lf.grow gm
        have hso := gm.lst hso
        have W' := W'.grow gm
        have Bn := Bn.trans' gm.w
        generalize upd Hc mk (.lst []) = H8 at Lm Lk Lf hso W' Bn ⊢
        clear gm
        refine ⟨_, rfl, (by show 2 ≤ sizeLine; decide), fun e0 he0 => ?_⟩
        have ge := Grow.new (o := .lst [V.int 3, V.int 8]) he0
        have hep : e0 ≠ p := (W'.np he0).1
        have W9 := W'.grow ge
        have hee : upd H8 e0 (.lst [V.int 3, V.int 8]) e0 = some (.lst [V.int 3, V.int 8]) := upd_same
        have Lm := Lm.grow ge
        have Lk := Lk.grow ge
        have Lf := Lf.grow ge
        have hso := ge.lst hso
        have Bn := Bn.trans' ge.w
        generalize upd H8 e0 (.lst [V.int 3, V.int 8]) = H9 at W9 hee Lm Lk Lf hso Bn ⊢
        clear ge he0
        refine ⟨_, rfl, p, l, ns, n', 6, rfl, by decide, cdw (by decide) (by decide), W9, by omega, fun r6 Ha ra rb Wa ga => ?_⟩
        obtain ⟨y9, hy9⟩ := W9.pl
        have Lm := Lm.gw ga hmp hy9
        have Lk := Lk.gw ga hkp hy9
        have Lf := Lf.gw ga hfp hy9
        have hso := ga.lst hsp hso
        have Bn := Bn.trans' ga
        refine ⟨rfl, .inr ⟨_, rfl, e0, _, _, V.int (if decide (V.int r6 = V.int 5) = true then 8 else 3), rfl, rfl, SqL.of (ga.lst hep hee), ?_, ?_⟩⟩
        · cases decide (V.int r6 = V.int 5)
          · exact i0
          · exact i1
        have hm8 : 0 < (if decide (V.int r6 = V.int 5) = true then (8 : Int) else 3) ∧ (if decide (V.int r6 = V.int 5) = true then (8 : Int) else 3) ≤ 8 := by split <;> omega
        generalize (if decide (V.int r6 = V.int 5) = true then (8 : Int) else 3) = m8 at hm8 ⊢
        refine ⟨p, l, ns, n' + 1, m8, rfl, hm8.1, cdw hm8.1 (Nat.lt_of_lt_of_le (by omega : m8.natAbs < 9) (by decide)), Wa, by omega, fun rm Hb rma rmb Wb gb => ?_⟩
        obtain ⟨ya, hya⟩ := Wa.pl
        have Lm := Lm.gw gb hmp hya
        have Lk := Lk.gw gb hkp hya
        have Lf := Lf.gw gb hfp hya
        have hso := gb.lst hsp hso
        have Bn := Bn.trans' gb
        refine ⟨_, _, rfl, rfl, 1 + rm, rfl, Int.le_trans (by decide) (by omega : (0 : Int) ≤ 1 + rm), Int.lt_of_lt_of_le (by omega : 1 + rm < 9) (by decide), ?_⟩
        refine for_range (n := (1 + rm).toNat) (fun j σ' Hc => ∃ (v10 v11 : Option V) (n2 : Nat), σ' = [some (.ref p), some (.int many), some (.ref bl), some (.ref u), some (.ref nm), some (.int (0 + (i : Nat))), some (.ref kq'), some (.ref fq), some (.ref so), some (.ref mk), v10, v11, none, none, none, none] ∧
          LL Hc mk j ∧ LL Hc kq' i ∧ LL Hc fq 0 ∧ Hc so = some (.lst (sv.map V.str)) ∧ Wl Hc p l ns n2 ∧ n2 ≤ n' + 2 + j * 8 ∧ GrowW p Hn Hc) ⟨_, _, _, rfl, Lm, Lk, Lf, hso, Wb, by omega, Bn⟩ (fun j σ' Hc hj hp => ?_) (fun σ' Hc hp => ?_)
        · obtain ⟨v10, v11, n2, rfl, Lm, Lk, Lf, hso, W', hn2, Bn⟩ := hp
          refine ⟨_, rfl, p, l, ns, n2, 6, rfl, by decide, cdw (by decide) (by decide), W', by omega, fun rf Hd rfa rfb Wd gd => ?_⟩
          obtain ⟨yd, hyd⟩ := W'.pl
          have Lm := Lm.gw gd hmp hyd
          have Lk := Lk.gw gd hkp hyd
          have Lf := Lf.gw gd hfp hyd
          have hso := gd.lst hsp hso
          have Bn := Bn.trans' gd
          refine ⟨rf, rfl, Int.le_trans (by decide) rfa, Int.lt_of_lt_of_le rfb (by decide), fun D hD => ?_⟩
          obtain ⟨hDp, hDl⟩ := Wd.np hD
          have hDN := Bn.none' hDp hD
          refine lc_range (n := rf.toNat) (fun i2 Hx => LL Hx D i2 ∧ Wl Hx p l ns (n2 + 1 + i2) ∧ GrowW p Hd Hx) ⟨LL.nil, Wd.grow (Grow.new hD), GrowW.new hD⟩ (fun i2 Hx hi2 hp => ?_) (fun Hx hp => ?_)
          · obtain ⟨⟨acc2, ds2, hacc2, es2, bs2, hl2⟩, Wx, gx⟩ := hp
            refine ⟨wipe_set, ?_⟩
            unfold tYes
            refine iteT ⟨_, rfl, _, rfl, p, l, ns, _, 8, rfl, by decide, cdw (by decide) (by decide), Wx, by omega, fun r H5 ra rb W5 g5 => ?_⟩
            have hj2 : r.toNat < sv.length := by omega
            have no := hsvo _ (List.getElem_mem hj2)
            have hacc5 := g5.lst hDp hacc2
            obtain ⟨yx, hyx⟩ := Wx.pl
            refine ⟨so, _, _, _, rfl, rfl, SqL.of (g5.lst hsp (gx.lst hsp hso)), at_of (j := r.toNat) (v := V.str sv[r.toNat]) (by omega) (by rw [List.getElem?_map, List.getElem?_eq_getElem hj2]; rfl), acc2, hacc5, ?_, LL.push (d := .str sv[r.toNat]) hacc5 (es2.gw g5 hyx) bs2 hl2 (enc_s no (by decide)) no, (W5.more (by omega)).upd hDp hDl, (gx.trans' g5).but hD⟩
            have := es2.length
            rw [sizeLine_eq]; omega
          · obtain ⟨⟨acc2, ds2, hacc2, es2, bs2, hl2⟩, Wx, gx⟩ := hp
            refine ⟨D, acc2, rfl, .inl ⟨SqL.of hacc2, fun t1 ht1 => ?_⟩⟩
            have gt1 : Grow Hx (upd Hx t1 (.tup acc2)) := Grow.new ht1
            have et1 : EncT (upd Hx t1 (.tup acc2)) (.tup ds2) (.ref t1) := .tup upd_same (es2.grow gt1)
            have bt1 : Bd 20 (.tup ds2) := ⟨by omega, bs2⟩
            have We := Wx.grow gt1
            have ge := gx.trans' gt1.w
            obtain ⟨yd, hyd⟩ := Wd.pl
            have Lm := Lm.gw ge hmp hyd
            have Lk := Lk.gw ge hkp hyd
            have Lf := Lf.gw ge hfp hyd
            have hso := ge.lst hsp hso
            have Bn := Bn.trans' ge
            generalize upd Hx t1 (.tup acc2) = He at et1 We Lm Lk Lf hso Bn ⊢
            clear gt1 ge gx Wx hacc2 es2
            obtain ⟨accm, dsm, hm, em, bm, hlm⟩ := id Lm
            obtain ⟨n0, n1, t0, t1', hnmE, hn0E, hn1E, l0, l1, o0, o1, na, nb, nc⟩ := nmb Bn
            refine ⟨_, rfl, .inl ⟨rfl, _, SqL.of hm⟩, _, rfl, nm, _, _, _, rfl, rfl, SqL.of hnmE, i1, _, rfl, p, l, ns, _, 6, rfl, by decide, cdw (by decide) (by decide), We, by omega, fun r Hf ra rb Wf gf => ?_⟩
            have hj2 : r.toNat < t1'.length := by omega
            have no := o1 _ (List.getElem_mem hj2)
            refine ⟨n1, _, _, _, rfl, rfl, SqL.of (gf.lst nc hn1E), at_of (j := r.toNat) (v := V.str t1'[r.toNat]) (by omega) (by rw [List.getElem?_map, List.getElem?_eq_getElem hj2]; rfl), _, rfl, (by show 2 ≤ sizeLine; decide), fun t9 ht9 => ?_⟩
            have g9 := Grow.new (o := .tup [.str t1'[r.toNat], .ref t1]) ht9
            obtain ⟨ye, hye⟩ := We.pl
            have hm9 := g9.lst (gf.lst hmp hm)
            have em9 := (em.gw gf hye).grow g9
            have et9 := (et1.gw gf hye).grow g9
            have Lk := (Lk.gw gf hkp hye).grow g9
            have Lf := (Lf.gw gf hfp hye).grow g9
            have hso := g9.lst (gf.lst hsp hso)
            have Bn := (Bn.trans' gf).trans' g9.w
            have Wg := Wf.grow g9
            have q9 : upd Hf t9 (.tup [.str t1'[r.toNat], .ref t1]) t9 = some (.tup [.str t1'[r.toNat], .ref t1]) := upd_same
            generalize upd Hf t9 (.tup [.str t1'[r.toNat], .ref t1]) = Hg at hm9 em9 et9 Lk Lf hso Bn Wg q9 ⊢
            refine ⟨mk, _, _, rfl, rfl, hm9, ?_, _, _, _, rfl, LL.push (d := .tup [.str t1'[r.toNat], .tup ds2]) hm9 em9 bm hlm (.tup q9 (.cons (enc_s no (by decide)) (.cons et9 .nil))) ⟨(by show 2 ≤ 20; decide), no, bt1, trivial⟩, Lk.upd hmkk hm9, Lf.upd hmkf hm9, by rw [upd_ne hmks]; exact hso, Wg.upd hmp hml, ?_, Bn.but hmN⟩
            · have := em.length
              rw [sizeLine_eq]; omega
            · omega
        · obtain ⟨v10, v11, n2, rfl, Lm, Lk, Lf, hso, W', hn2, Bn⟩ := hp
          obtain ⟨acck, dsk, hk, ek, bk, hlk⟩ := id Lk
          obtain ⟨n0, n1, t0, t1', hnmE, hn0E, hn1E, l0, l1, o0, o1, na, nb, nc⟩ := nmb Bn
          refine ⟨_, rfl, .inl ⟨rfl, _, SqL.of hk⟩, _, rfl, nm, _, _, _, rfl, rfl, SqL.of hnmE, i1, _, rfl, p, l, ns, _, 6, rfl, by decide, cdw (by decide) (by decide), W', by omega, fun r Hf ra rb Wf gf => ?_⟩
          have hj2 : r.toNat < t1'.length := by omega
          have no := o1 _ (List.getElem_mem hj2)
          obtain ⟨ye, hye⟩ := W'.pl
          obtain ⟨accm, dsm, hm, em, bm, hlm⟩ := Lm.gw gf hmp hye
          refine ⟨n1, _, _, _, rfl, rfl, SqL.of (gf.lst nc hn1E), at_of (j := r.toNat) (v := V.str t1'[r.toNat]) (by omega) (by rw [List.getElem?_map, List.getElem?_eq_getElem hj2]; rfl), _, rfl, mk, accm, rfl, .inl ⟨SqL.of hm, fun t8 ht8 => ⟨(by show 2 ≤ sizeLine; decide), fun t9 ht9 => ?_⟩⟩⟩
          have g8 := Grow.new (o := .tup accm) ht8
          have q8 := (Grow.new (o := .tup [.str t1'[r.toNat], .ref t8]) ht9).tup (upd_same (H := Hf) (a := t8) (o := .tup accm))
          have g9 := g8.trans (Grow.new (o := .tup [.str t1'[r.toNat], .ref t8]) ht9)
          have hk9 := g9.lst (gf.lst hkp hk)
          have ek9 := (ek.gw gf hye).grow g9
          have em9 := em.grow g9
          have Lf := (Lf.gw gf hfp hye).grow g9
          have hso := g9.lst (gf.lst hsp hso)
          have Bn := (Bn.trans' gf).trans' g9.w
          have Wg := Wf.grow g9
          have q9 : upd (upd Hf t8 (.tup accm)) t9 (.tup [.str t1'[r.toNat], .ref t8]) t9 = some (.tup [.str t1'[r.toNat], .ref t8]) := upd_same
          generalize upd (upd Hf t8 (.tup accm)) t9 (.tup [.str t1'[r.toNat], .ref t8]) = Hg at q8 hk9 ek9 em9 Lf hso Bn Wg q9 ⊢
          refine ⟨kq', _, _, rfl, rfl, hk9, ?_, _, _, _, _, _, rfl, LL.push (d := .tup [.str t1'[r.toNat], .tup dsm]) hk9 ek9 bk hlk (.tup q9 (.cons (enc_s no (by decide)) (.cons (.tup q8 em9) .nil))) ⟨(by show 2 ≤ 20; decide), no, ⟨by omega, bm⟩, trivial⟩, Lf.upd hfk hk9, by rw [upd_ne hsk.symm]; exact hso, Wg.upd hkp hkl, ?_, Bn.but hkq⟩
          · have := ek.length
            rw [sizeLine_eq]; omega
          · omega
      · obtain ⟨v5, v9, v10, v11, n', rfl, Lk, Lf, hso, W', hn', Bn⟩ := hp
        exact ⟨_, _, _, _, _, _, rfl, Lk, by omega, Lf, hso, W', by omega, Bn⟩
    rintro σ' Hc ⟨v5, v9, v10, v11, kn, n', rfl, Lk, hkn, Lf, hso, W', hn', Bn⟩
    have blH : ∀ {Hc : Hp}, GrowW p Hn Hc → Hc bl = some (.lst [.int 8, .int 20, .int 60]) := fun g => (gn.trans' g).lst hblp hbl
    refine ⟨fun σ' Hc => ∃ (v5 v9 v10 v11 v13 v14 v15 : Option V) (fnn n' : Nat), σ' = [some (.ref p), some (.int many), some (.ref bl), some (.ref u), some (.ref nm), v5, some (.ref kq'), some (.ref fq), some (.ref so), v9, v10, v11, none, v13, v14, v15] ∧
      LL Hc kq' kn ∧ LL Hc fq fnn ∧ fnn ≤ 2 ∧ Wl Hc p l ns n' ∧ n' ≤ n + 400 + 2 * (d24 + 40) ∧ GrowW p Hn Hc, ?_, ?_⟩
    · refine ⟨_, rfl, many, rfl, Int.le_trans (by decide) hm0, Int.lt_of_le_of_lt hm2 (by decide), ?_⟩
      have hmn : many.toNat ≤ 2 := by omega
      refine for_range (n := many.toNat) (fun i σ' Hc => ∃ (v5 v13 v14 v15 : Option V) (n2 : Nat), σ' = [some (.ref p), some (.int many), some (.ref bl), some (.ref u), some (.ref nm), v5, some (.ref kq'), some (.ref fq), some (.ref so), v9, v10, v11, none, v13, v14, v15] ∧
        LL Hc kq' kn ∧ LL Hc fq i ∧ Hc so = some (.lst (sv.map V.str)) ∧ Wl Hc p l ns n2 ∧ n2 ≤ n + 400 + i * (d24 + 40) ∧ GrowW p Hn Hc) ⟨_, _, _, _, _, rfl, Lk, Lf, hso, W', by omega, Bn⟩ (fun i σ' Hc hi hp => ?_) (fun σ' Hc hp => ?_)
      · obtain ⟨v5, v13, v14, v15, n2, rfl, Lk, Lf, hso, W', hn2, Bn⟩ := hp
        have hi2 : (i + 1) * (d24 + 40) ≤ 2 * (d24 + 40) := Nat.mul_le_mul_right _ (by omega)
        rw [Nat.succ_mul] at hi2
        refine ⟨Nat.zero_le _, fun mk hmk => ?_⟩
        obtain ⟨hmp, hml⟩ := W'.np hmk
        have hmN := Bn.none' hmp hmk
        have hmkk := Lk.ne hmk
        have hmkf := Lf.ne hmk
        have hmks : so ≠ mk := fun z => by rw [z, hmk] at hso; cases hso
        have gm := Grow.new (o := .lst []) hmk
        have Lm : LL (upd Hc mk (.lst [])) mk 0 := LL.nil
        have Lk := Lk.grow gm
        have Lf := Lf.grow gm
        have hso := gm.lst hso
        have W' := W'.grow gm
        have Bn := Bn.trans' gm.w
        generalize upd Hc mk (.lst []) = H8 at Lm Lk Lf hso W' Bn ⊢
        clear gm
        refine ⟨_, rfl, (by show 2 ≤ sizeLine; decide), fun e0 he0 => ?_⟩
        have ge := Grow.new (o := .lst [V.int 3, V.int 7]) he0
        have hep : e0 ≠ p := (W'.np he0).1
        have W9 := W'.grow ge
        have hee : upd H8 e0 (.lst [V.int 3, V.int 7]) e0 = some (.lst [V.int 3, V.int 7]) := upd_same
        have Lm := Lm.grow ge
        have Lk := Lk.grow ge
        have Lf := Lf.grow ge
        have hso := ge.lst hso
        have Bn := Bn.trans' ge.w
        generalize upd H8 e0 (.lst [V.int 3, V.int 7]) = H9 at W9 hee Lm Lk Lf hso Bn ⊢
        clear ge he0
        refine ⟨_, rfl, p, l, ns, n2, 4, rfl, by decide, cdw (by decide) (by decide), W9, by omega, fun r6 Ha ra rb Wa ga => ?_⟩
        obtain ⟨y9, hy9⟩ := W9.pl
        have Lm := Lm.gw ga hmp hy9
        have Lk := Lk.gw ga hkp hy9
        have Lf := Lf.gw ga hfp hy9
        have hso := ga.lst hsp hso
        have Bn := Bn.trans' ga
        refine ⟨rfl, .inr ⟨_, rfl, e0, _, _, V.int (if decide (V.int r6 = V.int 3) = true then 7 else 3), rfl, rfl, SqL.of (ga.lst hep hee), ?_, ?_⟩⟩
        · cases decide (V.int r6 = V.int 3)
          · exact i0
          · exact i1
        have hm8 : 0 < (if decide (V.int r6 = V.int 3) = true then (7 : Int) else 3) ∧ (if decide (V.int r6 = V.int 3) = true then (7 : Int) else 3) ≤ 7 := by split <;> omega
        generalize (if decide (V.int r6 = V.int 3) = true then (7 : Int) else 3) = m8 at hm8 ⊢
        refine ⟨p, l, ns, n2 + 1, m8, rfl, hm8.1, cdw hm8.1 (Nat.lt_of_lt_of_le (by omega : m8.natAbs < 9) (by decide)), Wa, by omega, fun rm Hb rma rmb Wb gb => ?_⟩
        obtain ⟨ya, hya⟩ := Wa.pl
        have Lm := Lm.gw gb hmp hya
        have Lk := Lk.gw gb hkp hya
        have Lf := Lf.gw gb hfp hya
        have hso := gb.lst hsp hso
        have Bn := Bn.trans' gb
        refine ⟨rm, rfl, Int.le_trans (by decide) rma, Int.lt_of_lt_of_le (by omega : rm < 9) (by decide), ?_⟩
        refine for_range (n := rm.toNat) (fun j σ' Hc => ∃ (v14 : Option V) (n3 : Nat), σ' = [some (.ref p), some (.int many), some (.ref bl), some (.ref u), some (.ref nm), some (.int (0 + (i : Nat))), some (.ref kq'), some (.ref fq), some (.ref so), v9, v10, v11, none, some (.ref mk), v14, v15] ∧
          LL Hc mk j ∧ LL Hc kq' kn ∧ LL Hc fq i ∧ Hc so = some (.lst (sv.map V.str)) ∧ Wl Hc p l ns n3 ∧ n3 ≤ n2 + 2 + j * 2 ∧ GrowW p Hn Hc) ⟨_, _, rfl, Lm, Lk, Lf, hso, Wb, by omega, Bn⟩ (fun j σ' Hc hj hp => ?_) (fun σ' Hc hp => ?_)
        · obtain ⟨v14, n3, rfl, Lm, Lk, Lf, hso, W', hn3, Bn⟩ := hp
          obtain ⟨accm, dsm, hm, em, bm, hlm⟩ := id Lm
          obtain ⟨n0, n1, t0, t1', hnmE, hn0E, hn1E, l0, l1, o0, o1, na, nb, nc⟩ := nmb Bn
          refine ⟨_, rfl, .inl ⟨rfl, _, SqL.of hm⟩, _, rfl, nm, _, _, _, rfl, rfl, SqL.of hnmE, i0, _, rfl, p, l, ns, _, 6, rfl, by decide, cdw (by decide) (by decide), W', by omega, fun r Hf ra rb Wf gf => ?_⟩
          have hj2 : r.toNat < t0.length := by omega
          have no := o0 _ (List.getElem_mem hj2)
          refine ⟨n0, _, _, _, rfl, rfl, SqL.of (gf.lst nb hn0E), at_of (j := r.toNat) (v := V.str t0[r.toNat]) (by omega) (by rw [List.getElem?_map, List.getElem?_eq_getElem hj2]; rfl), _, rfl, _, rfl, p, l, ns, _, 8, rfl, by decide, cdw (by decide) (by decide), Wf, by omega, fun r9 Hg rc rd Wg gg => ?_⟩
          have hj3 : r9.toNat < sv.length := by omega
          have no3 := hsvo _ (List.getElem_mem hj3)
          refine ⟨so, _, _, _, rfl, rfl, SqL.of (gg.lst hsp (gf.lst hsp hso)), at_of (j := r9.toNat) (v := V.str sv[r9.toNat]) (by omega) (by rw [List.getElem?_map, List.getElem?_eq_getElem hj3]; rfl), (by show 2 ≤ sizeLine; decide), fun t9 ht9 => ?_⟩
          have g9 := Grow.new (o := .tup [.str t0[r.toNat], .str sv[r9.toNat]]) ht9
          have gfg := gf.trans' gg
          obtain ⟨ye, hye⟩ := W'.pl
          have hm9 := g9.lst (gfg.lst hmp hm)
          have em9 := (em.gw gfg hye).grow g9
          have Lk := (Lk.gw gfg hkp hye).grow g9
          have Lf := (Lf.gw gfg hfp hye).grow g9
          have hso := g9.lst (gfg.lst hsp hso)
          have Bn := (Bn.trans' gfg).trans' g9.w
          have Wg := Wg.grow g9
          have q9 : upd Hg t9 (.tup [.str t0[r.toNat], .str sv[r9.toNat]]) t9 = some (.tup [.str t0[r.toNat], .str sv[r9.toNat]]) := upd_same
          generalize upd Hg t9 (.tup [.str t0[r.toNat], .str sv[r9.toNat]]) = Hh at hm9 em9 Lk Lf hso Bn Wg q9 ⊢
          refine ⟨mk, _, _, rfl, rfl, hm9, ?_, _, _, rfl, LL.push (d := .tup [.str t0[r.toNat], .str sv[r9.toNat]]) hm9 em9 bm hlm (.tup q9 (.cons (enc_s no (by decide)) (.cons (enc_s no3 (by decide)) .nil))) ⟨(by show 2 ≤ 20; decide), no, no3, trivial⟩, Lk.upd hmkk hm9, Lf.upd hmkf hm9, by rw [upd_ne hmks]; exact hso, Wg.upd hmp hml, ?_, Bn.but hmN⟩
          · have := em.length
            rw [sizeLine_eq]; omega
          · omega
        · obtain ⟨v14, n3, rfl, Lm, Lk, Lf, hso, W', hn3, Bn⟩ := hp
          have hbl' := blH Bn
          refine ⟨_, rfl, _, rfl, _, rfl, _, rfl, _, rfl, bl, _, rfl, .inl (SqL.of hbl'), p, l, ns, n3, 3, rfl, by decide, cdw (by decide) (by decide), W', by omega, fun rb Hb rba rbb Wb gb => ?_⟩
          obtain ⟨bg, hbg, hbg1, hbg2⟩ : ∃ bg : Int, atI [V.int 8, V.int 20, V.int 60] rb = some (.int bg) ∧ 1 ≤ bg ∧ bg ≤ 1000 := by
            rcases (by omega : rb = 0 ∨ rb = 1 ∨ rb = 2) with rfl | rfl | rfl
            · exact ⟨8, at_of (j := 0) rfl rfl, by decide, by decide⟩
            · exact ⟨20, at_of (j := 1) rfl rfl, by decide, by decide⟩
            · exact ⟨60, at_of (j := 2) rfl rfl, by decide, by decide⟩
          obtain ⟨yb, hyb⟩ := W'.pl
          have Bn := Bn.trans' gb
          refine ⟨bl, _, _, _, rfl, rfl, SqL.of (blH Bn), hbg, p, l, nm, ns, n3 + 1, bg, 1, rfl, Wb, nmb Bn, by decide, by decide, by decide, hbg1, hbg2, by rw [← hd24]; omega, fun db xb nb' Hc eb bb hnb Wc gc => ?_⟩
          rw [← hd24] at hnb
          have gbc := gb.trans' gc
          have Lm := Lm.gw gbc hmp hyb
          have Lk := Lk.gw gbc hkp hyb
          have Lf := Lf.gw gbc hfp hyb
          have hso := gbc.lst hsp hso
          have Bn := Bn.trans' gc
          obtain ⟨accf, dsf, hf, ef, bf, hlf⟩ := id Lf
          obtain ⟨n0, n1, t0, t1', hnmE, hn0E, hn1E, l0, l1, o0, o1, na, nb, nc⟩ := nmb Bn
          refine ⟨_, rfl, .inl ⟨rfl, _, SqL.of hf⟩, _, rfl, nm, _, _, _, rfl, rfl, SqL.of hnmE, i0, _, rfl, p, l, ns, _, 6, rfl, by decide, cdw (by decide) (by decide), Wc, by omega, fun r Hf ra rb Wf gf => ?_⟩
          have hj2 : r.toNat < t0.length := by omega
          have no := o0 _ (List.getElem_mem hj2)
          obtain ⟨yc, hyc⟩ := Wc.pl
          obtain ⟨accm, dsm, hm, em, bm, hlm⟩ := Lm.gw gf hmp hyc
          refine ⟨n0, _, _, _, rfl, rfl, SqL.of (gf.lst nb hn0E), at_of (j := r.toNat) (v := V.str t0[r.toNat]) (by omega) (by rw [List.getElem?_map, List.getElem?_eq_getElem hj2]; rfl), _, rfl, mk, accm, rfl, .inl ⟨SqL.of hm, fun t8 ht8 => ?_⟩⟩
          have g8 := Grow.new (o := .tup accm) ht8
          have e8 : EncT (upd Hf t8 (.tup accm)) (.tup dsm) (.ref t8) := .tup upd_same (em.grow g8)
          have eb8 := (eb.gw gf hyc).grow g8
          have hf8 := g8.lst (gf.lst hfp hf)
          have ef8 := (ef.gw gf hyc).grow g8
          have Lk := (Lk.gw gf hkp hyc).grow g8
          have hso := g8.lst (gf.lst hsp hso)
          have Bn := (Bn.trans' gf).trans' g8.w
          have Wf := Wf.grow g8
          generalize upd Hf t8 (.tup accm) = Hi at e8 eb8 hf8 ef8 Lk hso Bn Wf ⊢
          refine ⟨_, rfl, _, rfl, p, l, ns, _, 8, rfl, by decide, cdw (by decide) (by decide), Wf, by omega, fun r9 Hg rc rd Wg gg => ?_⟩
          have hj3 : r9.toNat < sv.length := by omega
          have no3 := hsvo _ (List.getElem_mem hj3)
          obtain ⟨yg, hyg⟩ := Wf.pl
          refine ⟨so, _, _, _, rfl, rfl, SqL.of (gg.lst hsp hso), at_of (j := r9.toNat) (v := V.str sv[r9.toNat]) (by omega) (by rw [List.getElem?_map, List.getElem?_eq_getElem hj3]; rfl), _, rfl, (by show 4 ≤ sizeLine; decide), fun t9 ht9 => ?_⟩
          have g9 := Grow.new (o := .tup [.str t0[r.toNat], .ref t8, .str sv[r9.toNat], xb]) ht9
          have hf9 := g9.lst (gg.lst hfp hf8)
          have ef9 := (ef8.gw gg hyg).grow g9
          have e89 := (e8.gw gg hyg).grow g9
          have eb9 := (eb8.gw gg hyg).grow g9
          have Lk := (Lk.gw gg hkp hyg).grow g9
          have hso := g9.lst (gg.lst hsp hso)
          have Bn := (Bn.trans' gg).trans' g9.w
          have Wg := Wg.grow g9
          have q9 : upd Hg t9 (.tup [.str t0[r.toNat], .ref t8, .str sv[r9.toNat], xb]) t9 = some (.tup [.str t0[r.toNat], .ref t8, .str sv[r9.toNat], xb]) := upd_same
          generalize upd Hg t9 (.tup [.str t0[r.toNat], .ref t8, .str sv[r9.toNat], xb]) = Hh at hf9 ef9 e89 eb9 Lk hso Bn Wg q9 ⊢
          refine ⟨fq, _, _, rfl, rfl, hf9, ?_, _, _, _, _, _, rfl, Lk.upd hfk.symm hf9, LL.push (d := .tup [.str t0[r.toNat], .tup dsm, .str sv[r9.toNat], db]) hf9 ef9 bf hlf (.tup q9 (.cons (enc_s no (by decide)) (.cons e89 (.cons (enc_s no3 (by decide)) (.cons eb9 .nil))))) ⟨(by show 4 ≤ 20; decide), no, ⟨by omega, bm⟩, no3, bb, trivial⟩, by rw [upd_ne hsf.symm]; exact hso, Wg.upd hfp hfl, ?_, Bn.but hfN⟩
          · have := ef.length
            rw [sizeLine_eq]; omega
          · rw [Nat.succ_mul]; omega
      · obtain ⟨v5, v13, v14, v15, n2, rfl, Lk, Lf, hso, W', hn2, Bn⟩ := hp
        have hi2 : many.toNat * (d24 + 40) ≤ 2 * (d24 + 40) := Nat.mul_le_mul_right _ hmn
        exact ⟨_, _, _, _, _, _, _, _, _, rfl, Lk, Lf, hmn, W', by omega, Bn⟩
    rintro σ' Hc ⟨v5, v9, v10, v11, v13, v14, v15, fnn, n2, rfl, Lk, Lf, hfn, W', hn2, Bn⟩
    obtain ⟨acck, dsk, hk, ek, bk, hlk⟩ := Lk
    obtain ⟨accf, dsf, hf, ef, bf, hlf⟩ := Lf
    refine ⟨_, rfl, kq', acck, rfl, .inl ⟨SqL.of hk, fun t1 ht1 => ?_⟩⟩
    have g1 := Grow.new (o := .tup acck) ht1
    refine ⟨_, rfl, fq, accf, rfl, .inl ⟨SqL.of (g1.lst hf), fun t2 ht2 => ⟨(by show 2 ≤ sizeLine; decide), fun t3 ht3 => ?_⟩⟩⟩
    have g2 := Grow.new (o := .tup accf) ht2
    have g3 := Grow.new (o := .tup [.ref t1, .ref t2]) ht3
    exact kq dsk dsf _ _ _ (.tup upd_same (.cons (.tup ((g2.trans g3).tup upd_same) (ek.grow ((g1.trans g2).trans g3))) (.cons (.tup (g3.tup upd_same) (ef.grow ((g1.trans g2).trans g3))) .nil))) ⟨(by show 2 ≤ 20; decide), ⟨by omega, bk⟩, ⟨by omega, bf⟩, trivial⟩ (by omega) (W'.grow ((g1.trans g2).trans g3)) ((gn.trans' Bn).trans' ((g1.trans g2).trans g3).w)
end
end J1
set_option Elab.async false
set_option linter.all false
set_option maxRecDepth 100000
set_option maxHeartbeats 4000000
namespace J1
open PySem PySem.Spec PyProof.Rows L2 GxR GA
abbrev lX : Stmt := top 67
theorem cX : FnScope ["_law_size"] ["_law_size"] (defScope lX) := ⟨rfl, rfl, rfl, by decide +kernel, rfl, by decide +kernel, by decide +kernel⟩
abbrev lCh : Stmt := top 68
theorem cCh : FnScope ["_law_size", "_law_e", "_law_k"] ["_law_size"] (defScope lCh) := ⟨rfl, rfl, rfl, by decide +kernel, rfl, by decide +kernel, by decide +kernel⟩
abbrev lLs : Stmt := top 69
theorem cLs : FnScope ["_law_size", "_law_e", "_law_body", "_law_k"] ["_law_size", "_law_e"] (defScope lLs) := ⟨rfl, rfl, rfl, by decide +kernel, rfl, by decide +kernel, by decide +kernel⟩
abbrev lSt : Stmt := top 70
theorem cSt : FnScope ["_law_well_here", "_law_size", "_law_one", "_law_e", "_law_k", "_law_some"] ["_law_well_here", "_law_size"] (defScope lSt) := ⟨rfl, rfl, rfl, by decide +kernel, rfl, by decide +kernel, by decide +kernel⟩
abbrev lBo : Stmt := top 71
theorem cBo : FnScope ["_law_well_here", "_law_size", "_law_body", "_law_one", "_law_give", "_law_k", "_law_some"] ["_law_well_here", "_law_size", "_law_body"] (defScope lBo) := ⟨rfl, rfl, rfl, by decide +kernel, rfl, by decide +kernel, by decide +kernel⟩
abbrev lGi : Stmt := top 72
theorem cGi : FnScope ["_law_body"] ["_law_body"] (defScope lGi) := ⟨rfl, rfl, rfl, by decide +kernel, rfl, by decide +kernel, by decide +kernel⟩
theorem enc_new {H : Hp} {t : Addr} {ds : List Da} {xs : List V} (ht : H t = Option.none) (e : EncsT H ds xs) : EncT (upd H t (.tup xs)) (.tup ds) (.ref t) := .tup upd_same (e.grow (Grow.new ht))
theorem nk_x : NOk 20 "x" := nk (by decide +kernel)
theorem nk_f : NOk 20 "f" := nk (by decide +kernel)
theorem nk_M : NOk 20 "M" := nk (by decide +kernel)
theorem nk_N : NOk 20 "N" := nk (by decide +kernel)
theorem nk_whole : NOk 20 "whole" := nk (by decide +kernel)
theorem es {H : Hp} {s : Str} (h : NOk 20 s) : EncT H (.str s) (.str s) := enc_s h (by decide)
/-- a thing is handed back; nothing changes but what is new -/
def GiveT (H : Hp) (Q : VK) : Prop := ∀ d x H', Grow H H' → EncT H' d x → Bd 20 d → Q x H'
def spX (j : Nat) : Sp := fun vs H Q _ => ∃ size : Int, vs = [.int size] ∧ 1 ≤ size ∧ size.toNat < 2 ^ j ∧ GiveT H Q
def spCh : Sp := fun vs H Q _ => ∃ size : Int, vs = [.int size] ∧ 0 ≤ size ∧ size ≤ 40 ∧ GiveT H Q
def spLs : Sp := fun vs H Q _ => ∃ (size : Int) (d : Da) (x : V), vs = [.int size, x] ∧ 0 ≤ size ∧ size ≤ 40 ∧ EncT H d x ∧ Bd 20 d ∧ GiveT H Q
def GiveW (H : Hp) (p l : Addr) (ns : List Int) (n : Nat) (Q : VK) : Prop := ∀ d x H', GrowW p H H' → EncT H' d x → Bd 20 d → Wl H' p l ns n → Q x H'
def spSt : Sp := fun vs H Q _ => ∃ (p l : Addr) (ns : List Int) (n : Nat) (size : Int), vs = [.ref p, .int size] ∧ Wl H p l ns n ∧ size ≤ 40 ∧ -40 ≤ size ∧ n + 40 ≤ 1000000000000000000000000000000000000000000000000000000000000 ∧ GiveW H p l ns (n + 40) Q
def spBo : Sp := fun vs H Q _ => ∃ (p l : Addr) (ns : List Int) (n : Nat) (size : Int) (d : Da) (x : V), vs = [.ref p, .int size, x] ∧ Wl H p l ns n ∧ 0 ≤ size ∧ size ≤ 40 ∧ EncT H d x ∧ Bd 20 d ∧ n + 40 ≤ 1000000000000000000000000000000000000000000000000000000000000 ∧ GiveW H p l ns (n + 40) Q
def spGi : Sp := fun vs H Q _ => ∃ (d : Da) (x : V), vs = [x] ∧ EncT H d x ∧ Bd 20 d ∧ GiveT H Q
section
variable {P : Program} {w : World} {K : PySem.W.Frag} {mg : Str → Option Value} {base : Heap}
theorem ok_gi {f : Addr} {fd : FuncData} (F : Fun K "_law_given" "_law_given" lGi f fd) : FnOk P w K mg base CX0 1 f fd ["_law_body"] spGi := by
  refine F.ok (k := 0) cGi (fun vs H Q E h => ?_) (fun cdv A outer s H vs Q E hr h => ?_)
  · obtain ⟨d, x, rfl, _⟩ := h
    rfl
  · obtain ⟨d, x, rfl, e, b, kq⟩ := h
    refine ⟨_, (pss_one (ps_ret (pe_tup (pa_cons (pe_tup pa_nil) (pa_cons (pe_tup (pa_cons (pe_tup (pa_cons pe_str (pa_cons (pe_tup pa_nil) (pa_cons pe_str (pa_cons (pv 0) pa_nil))))) pa_nil)) pa_nil))))), ?_⟩
    refine ⟨Nat.zero_le _, fun t1 h1 => ⟨Nat.zero_le _, fun t2 h2 => ⟨_, rfl, (by show 4 ≤ sizeLine; decide), fun t3 h3 => ⟨(by show 1 ≤ sizeLine; decide), fun t4 h4 => ⟨(by show 2 ≤ sizeLine; decide), fun t5 h5 => ?_⟩⟩⟩⟩⟩
    have g1 := Grow.new (o := .tup []) h1
    have g2 := Grow.new (o := .tup []) h2
    have g3 := Grow.new (o := .tup [.str "f", .ref t2, .str "whole", x]) h3
    have g4 := Grow.new (o := .tup [.ref t3]) h4
    have g5 := Grow.new (o := .tup [.ref t1, .ref t4]) h5
    have e1 : EncT _ (.tup []) (.ref t1) := enc_new h1 .nil
    have e2 : EncT _ (.tup []) (.ref t2) := enc_new h2 .nil
    have e3 := enc_new h3 (.cons (es nk_f) (.cons e2 (.cons (es nk_whole) (.cons ((e.grow g1).grow g2) .nil))))
    have e4 := enc_new h4 (.cons e3 .nil)
    have e5 := enc_new h5 (.cons (((e1.grow g2).grow g3).grow g4) (.cons e4 .nil))
    exact kq _ _ _ ((((g1.trans g2).trans g3).trans g4).trans g5) e5 ⟨(by show 2 ≤ 20; decide), ⟨Nat.zero_le _, trivial⟩, ⟨(by show 1 ≤ 20; decide), ⟨(by show 4 ≤ 20; decide), nk_f, ⟨Nat.zero_le _, trivial⟩, nk_whole, b, trivial⟩, trivial⟩, trivial⟩
theorem ok_ch {f : Addr} {fd : FuncData} (F : Fun K "_law_chain" "_law_chain" lCh f fd) (nR : mg "range" = Option.none) : FnOk P w K mg base CX0 1 f fd ["_law_size"] spCh := by
  refine F.ok (k := 0) cCh (fun vs H Q E h => ?_) (fun cdv A outer s H vs Q E hr h => ?_)
  · obtain ⟨size, rfl, _⟩ := h
    rfl
  · obtain ⟨size, rfl, h0, h40, kq⟩ := h
    refine ⟨_, (pss_cons (ps_set (i := 1) cCh.nd rfl (Or.inl rfl) (pe_tup (pa_cons pe_str (pa_cons pe_int pa_nil)))) (pss_cons (ps_for PassesOwn.never rfl (pi_range1 (by rfl) nR (pa_cons (pe_op op_sub (pv 0) pe_int) pa_nil)) (pg_name (i := 2) cCh.nd rfl (Or.inl rfl)) (pss_one (ps_set (i := 1) cCh.nd rfl (Or.inl rfl) (pe_tup (pa_cons pe_str (pa_cons pe_int (pa_cons (pv 1) pa_nil))))))) (pss_one (ps_ret (pv 1))))), ?_⟩
    refine ⟨(by show 2 ≤ sizeLine; decide), fun t1 h1 => ?_⟩
    refine ⟨_, rfl, _, _, rfl, rfl, size - 1, rfl, Int.le_trans (by decide) (by omega : (-1 : Int) ≤ size - 1), Int.lt_of_lt_of_le (by omega : size - 1 < 41) (by decide), ?_⟩
    refine for_range (n := (size - 1).toNat) (fun i σ' Hc => ∃ (d : Da) (x : V) (v2 : Option V), σ' = [some (.int size), some x, v2] ∧ EncT Hc d x ∧ Bd 20 d ∧ Grow H Hc) ⟨_, _, _, rfl, enc_new h1 (.cons (es nk_num) (.cons (.int 7) .nil)), ⟨(by show 2 ≤ 20; decide), nk_num, (by show (7 : Int).natAbs ≤ _; decide), trivial⟩, Grow.new h1⟩ (fun i σ' Hc hi hp => ?_) (fun σ' Hc hp => ?_)
    · obtain ⟨d, x, v2, rfl, e, b, g⟩ := hp
      refine ⟨_, rfl, (by show 3 ≤ sizeLine; decide), fun t2 h2 => ?_⟩
      exact ⟨_, _, _, rfl, enc_new h2 (.cons (es nk_times) (.cons (.int 2) (.cons e .nil))), ⟨(by show 3 ≤ 20; decide), nk_times, (by show (2 : Int).natAbs ≤ _; decide), b, trivial⟩, g.trans (Grow.new h2)⟩
    · obtain ⟨d, x, v2, rfl, e, b, g⟩ := hp
      exact ⟨_, rfl, kq d x _ g e b⟩
theorem ok_ls {f : Addr} {fd : FuncData} (F : Fun K "_law_lets" "_law_lets" lLs f fd) (nR : mg "range" = Option.none) : FnOk P w K mg base CX0 1 f fd ["_law_size", "_law_e"] spLs := by
  refine F.ok (k := 0) cLs (fun vs H Q E h => ?_) (fun cdv A outer s H vs Q E hr h => ?_)
  · obtain ⟨size, d, x, rfl, _⟩ := h
    rfl
  · obtain ⟨size, d0, x0, rfl, h0, h40, e0, b0, kq⟩ := h
    refine ⟨_, (pss_cons (ps_set (i := 2) cLs.nd rfl (Or.inl rfl) (pe_tup (pa_cons pe_str (pa_cons (pv 1) pa_nil)))) (pss_cons (ps_for PassesOwn.never rfl (pi_range1 (by rfl) nR (pa_cons (pv 0) pa_nil)) (pg_name (i := 3) cLs.nd rfl (Or.inl rfl)) (pss_one (ps_set (i := 2) cLs.nd rfl (Or.inl rfl) (pe_tup (pa_cons pe_str (pa_cons pe_str (pa_cons (pe_tup (pa_cons pe_str (pa_cons (pv 3) pa_nil))) (pa_cons (pv 2) pa_nil)))))))) (pss_one (ps_ret (pv 2))))), ?_⟩
    refine ⟨_, rfl, (by show 2 ≤ sizeLine; decide), fun t1 h1 => ?_⟩
    refine ⟨_, rfl, size, rfl, Int.le_trans (by decide) h0, Int.lt_of_lt_of_le (by omega : size < 41) (by decide), ?_⟩
    refine for_range (n := size.toNat) (fun i σ' Hc => ∃ (d : Da) (x : V) (v3 : Option V), σ' = [some (.int size), some x0, some x, v3] ∧ EncT Hc d x ∧ Bd 20 d ∧ Grow H Hc) ⟨_, _, _, rfl, enc_new h1 (.cons (es nk_give) (.cons e0 .nil)), ⟨(by show 2 ≤ 20; decide), nk_give, b0, trivial⟩, Grow.new h1⟩ (fun i σ' Hc hi hp => ?_) (fun σ' Hc hp => ?_)
    · obtain ⟨d, x, v3, rfl, e, b, g⟩ := hp
      refine ⟨_, rfl, (by show 2 ≤ sizeLine; decide), fun t2 h2 => ⟨_, rfl, (by show 4 ≤ sizeLine; decide), fun t3 h3 => ?_⟩⟩
      have e2 := enc_new h2 (.cons (es nk_num) (.cons (.int (0 + (i : Nat))) .nil))
      exact ⟨_, _, _, rfl, enc_new h3 (.cons (es nk_let) (.cons (es nk_x) (.cons e2 (.cons (e.grow (Grow.new h2)) .nil)))), ⟨(by show 4 ≤ 20; decide), nk_let, nk_x, ⟨(by show 2 ≤ 20; decide), nk_num, (by show ((0 : Int) + (i : Nat)).natAbs ≤ _; omega), trivial⟩, b, trivial⟩, (g.trans (Grow.new h2)).trans (Grow.new h3)⟩
    · obtain ⟨d, x, v3, rfl, e, b, g⟩ := hp
      exact ⟨_, rfl, kq d x _ g e b⟩
end
end J1
set_option Elab.async false
set_option linter.all false
set_option maxRecDepth 100000
set_option maxHeartbeats 4000000
namespace J1
open PySem PySem.Spec PyProof.Rows L2 GxR GA
theorem pick_d {H : Hp} {ds : List Da} {xs : List V} {r : Int} (e : EncsT H ds xs) (b : Bds 20 ds) (h0 : 0 ≤ r) (h1 : r < (xs.length : Nat)) : ∃ d x, atI xs r = some x ∧ EncT H d x ∧ Bd 20 d := by
  have hj : r.toNat < xs.length := by omega
  obtain ⟨d, hd, ed⟩ := e.get (List.getElem?_eq_getElem hj)
  exact ⟨d, _, at_of (j := r.toNat) (by omega) (List.getElem?_eq_getElem hj), ed, bds_all.mp b d (List.mem_of_getElem? hd)⟩
section
variable {P : Program} {w : World} {K : PySem.W.Frag} {mg : Str → Option Value} {base : Heap}
theorem none_x {f : Addr} {fd : FuncData} {k : Nat} : FnOk P w K mg base CX0 k f fd ["_law_size"] (spX 0) := by
  have no : ∀ vs H Q E, ¬ spX 0 vs H Q E := fun vs H Q E h => by
    obtain ⟨size, _, h1, h2, _⟩ := h
    have h2 : size.toNat < 1 := h2
    omega
  exact ⟨fun vs H Q E h => absurd h (no vs H Q E), fun A outer s H args us vs Q E _ _ _ _ h => absurd h (no vs H Q E)⟩
theorem ok_x {j : Nat} {f fX : Addr} {fd fdX : FuncData} (F : Fun K "_law_exact" "_law_exact" lX f fd) (GX : FnOk P w K mg base CX0 (1 + j) fX fdX ["_law_size"] (spX j)) (DX : Df K mg "_law_exact" ["_law_size"] fX fdX) :
    FnOk P w K mg base CX0 (1 + j + 1) f fd ["_law_size"] (spX (j + 1)) := by
  refine F.ok (k := 1 + j) cX (fun vs H Q E h => ?_) (fun cdv A outer s H vs Q E hr h => ?_)
  · obtain ⟨size, rfl, _⟩ := h
    rfl
  · obtain ⟨size, rfl, h1, hj, kq⟩ := h
    rw [Nat.pow_succ] at hj
    refine ⟨_, (pss_cons (ps_if (pt_cmpR op_eq (pv 0) pe_int (nomark _)) (pss_one (ps_ret (pe_tup (pa_cons pe_str (pa_cons pe_int pa_nil))))) pss_nil) (pss_cons (ps_if (pt_cmpR op_eq (pv 0) pe_int (nomark _)) (pss_one (ps_ret (pe_tup (pa_cons pe_str (pa_cons pe_int (pa_cons (pe_tup (pa_cons pe_str (pa_cons pe_int pa_nil))) pa_nil)))))) pss_nil) (pss_one (ps_ret (pe_tup (pa_cons pe_str (pa_cons pe_str (pa_cons (pe_call (GX.mono (by omega)) hr (by rfl) DX.g DX.k DX.b .nil pass0 (pa_cons (pe_op op_fdiv (pe_op op_sub (pv 0) pe_int) pe_int) pa_nil)) (pa_cons (pe_call (GX.mono (by omega)) hr (by rfl) DX.g DX.k DX.b .nil pass0 (pa_cons (pe_op op_sub (pe_op op_sub (pv 0) pe_int) (pe_op op_fdiv (pe_op op_sub (pv 0) pe_int) pe_int)) pa_nil)) pa_nil))))))))), ?_⟩
    refine ⟨_, rfl, rfl, _, rfl, ite2 (fun _ => ?_) (fun e1 => ?_)⟩
    · refine ⟨(by show 2 ≤ sizeLine; decide), fun t1 ht1 => ?_⟩
      exact kq _ _ _ (Grow.new ht1) (enc_new ht1 (.cons (es nk_num) (.cons (.int 7) .nil))) ⟨(by show 2 ≤ 20; decide), nk_num, (by show (7 : Int).natAbs ≤ _; decide), trivial⟩
    have e1 : size ≠ 1 := fun z => by rw [z] at e1; exact absurd e1 (by decide)
    refine ⟨_, rfl, rfl, _, rfl, ite2 (fun _ => ?_) (fun e2 => ?_)⟩
    · refine ⟨(by show 2 ≤ sizeLine; decide), fun t1 ht1 => ⟨(by show 3 ≤ sizeLine; decide), fun t2 ht2 => ?_⟩⟩
      have e1 := enc_new ht1 (.cons (es nk_num) (.cons (.int 7) .nil))
      exact kq _ _ _ ((Grow.new ht1).trans (Grow.new ht2)) (enc_new ht2 (.cons (es nk_times) (.cons (.int 3) (.cons e1 .nil)))) ⟨(by show 3 ≤ 20; decide), nk_times, (by show (3 : Int).natAbs ≤ _; decide), ⟨(by show 2 ≤ 20; decide), nk_num, (by show (7 : Int).natAbs ≤ _; decide), trivial⟩, trivial⟩
    have e2 : size ≠ 2 := fun z => by rw [z] at e2; exact absurd e2 (by decide)
    refine ⟨_, rfl, _, _, rfl, rfl, _, _, rfl, rfl, ⟨by decide, by decide⟩, (size - 1) / 2, rfl, by omega, by omega, fun d1 x1 H1 g1 en1 b1 => ?_⟩
    refine ⟨_, rfl, _, _, rfl, rfl, _, rfl, _, _, rfl, rfl, _, _, rfl, rfl, ⟨by decide, by decide⟩, _, _, rfl, rfl, size - 1 - (size - 1) / 2, rfl, by omega, by omega, fun d2 x2 H2 g2 en2 b2 => ⟨(by show 4 ≤ sizeLine; decide), fun t ht => ?_⟩⟩
    exact kq _ _ _ ((g1.trans g2).trans (Grow.new ht)) (enc_new ht (.cons (es nk_op) (.cons (es nk_plus) (.cons (en1.grow g2) (.cons en2 .nil))))) ⟨(by show 4 ≤ 20; decide), nk_op, nk_plus, b1, b2, trivial⟩
theorem all_x {f : Addr} {fd : FuncData} (F : Fun K "_law_exact" "_law_exact" lX f fd) (DX : Df K mg "_law_exact" ["_law_size"] f fd) : ∀ j : Nat, FnOk P w K mg base CX0 (1 + j) f fd ["_law_size"] (spX j)
  | 0 => none_x
  | j + 1 => ok_x F (all_x F DX j) DX
theorem ok_st {f fD : Addr} {fd fdD : FuncData} (F : Fun K "_law_steps" "_law_steps" lSt f fd) (nR : mg "range" = Option.none) (GD : FnOk P w K mg base CX0 1 fD fdD ["_law_well_here", "_law_many"] spDr) (DD : Df K mg "_law_draw" ["_law_well_here", "_law_many"] fD fdD) :
    FnOk P w K mg base CX0 2 f fd ["_law_well_here", "_law_size"] spSt := by
  refine F.ok (k := 1) cSt (fun vs H Q E h => ?_) (fun cdv A outer s H vs Q E hr h => ?_)
  · obtain ⟨p, l, ns, n, size, rfl, _⟩ := h
    rfl
  · obtain ⟨p, l, ns, n, size, rfl, W, h40, h0, hn, kq⟩ := h
    refine ⟨_, (pss_cons (ps_asg (pe_tup (pa_cons (pe_tup (pa_cons pe_str (pa_cons pe_int pa_nil))) (pa_cons (pe_tup (pa_cons pe_str (pa_cons pe_str pa_nil))) pa_nil))) (pg_tup (by rfl) (pgs_cons (pg_name (i := 2) cSt.nd rfl (Or.inl rfl)) (pgs_cons (pg_name (i := 3) cSt.nd rfl (Or.inl rfl)) pgs_nil)))) (pss_cons (ps_for PassesOwn.never rfl (pi_range1 (by rfl) nR (pa_cons (pe_op op_sub (pv 1) pe_int) pa_nil)) (pg_name (i := 4) cSt.nd rfl (Or.inl rfl)) (pss_cons (ps_set (i := 5) cSt.nd rfl (Or.inl rfl) (pe_lst (pa_cons (pe_tup (pa_cons pe_str (pa_cons pe_str (pa_cons (pv 3) (pa_cons (pv 2) pa_nil))))) (pa_cons (pe_tup (pa_cons pe_str (pa_cons pe_str (pa_cons (pv 2) (pa_cons (pv 3) pa_nil))))) (pa_cons (pe_tup (pa_cons pe_str (pa_cons pe_int (pa_cons (pv 3) pa_nil)))) (pa_cons (pe_tup (pa_cons pe_str (pa_cons pe_str (pa_cons (pe_tup (pa_cons (pv 2) (pa_cons (pv 3) pa_nil))) pa_nil)))) (pa_cons (pe_tup (pa_cons pe_str (pa_cons pe_str (pa_cons (pe_tup (pa_cons (pv 3) pa_nil)) pa_nil)))) pa_nil))))))) (pss_one (ps_set (i := 3) cSt.nd rfl (Or.inl rfl) (pe_ix ix_list (pv 5) (pe_call GD hr (by rfl) DD.g DD.k DD.b .nil pass0 (pa_cons (pv 0) (pa_cons pe_int pa_nil))) (fun _ _ => rfl)))))) (pss_one (ps_ret (pv 3))))), ?_⟩
    refine ⟨(by show 2 ≤ sizeLine; decide), fun o1 ho1 => ⟨(by show 2 ≤ sizeLine; decide), fun o2 ho2 => ⟨(by show 2 ≤ sizeLine; decide), fun o3 ho3 => ⟨o3, _, rfl, SqT.of upd_same, rfl, _, _, rfl, _, _, rfl, rfl, ?_⟩⟩⟩⟩
    have go1 := Grow.new (o := .tup [.str "num", .int 1]) ho1
    have go2 := Grow.new (o := .tup [.str "name", .str "x"]) ho2
    have eone := (enc_new ho1 (.cons (es nk_num) (.cons (.int 1) .nil))).grow go2
    have bone : Bd 20 (.tup [.str "num", .int 1]) := ⟨(by show 2 ≤ 20; decide), nk_num, (by show (1 : Int).natAbs ≤ _; decide), trivial⟩
    have ee := enc_new ho2 (.cons (es nk_name) (.cons (es nk_x) .nil))
    have go3 := Grow.new (o := .tup [.ref o1, .ref o2]) ho3
    have W1 := ((W.grow go1).grow go2).grow go3
    have eone := eone.grow go3
    have ee := ee.grow go3
    have gg := ((go1.trans go2).trans go3).w (w := p)
    generalize upd (upd (upd H o1 (.tup [.str "num", .int 1])) o2 (.tup [.str "name", .str "x"])) o3 (.tup [.ref o1, .ref o2]) = H0 at eone ee W1 gg ⊢
    refine ⟨_, rfl, _, _, rfl, rfl, size - 1, rfl, Int.le_trans (by decide) (by omega : (-41 : Int) ≤ size - 1), Int.lt_of_lt_of_le (by omega : size - 1 < 41) (by decide), ?_⟩
    refine for_range (n := (size - 1).toNat) (fun i σ' Hc => ∃ (d : Da) (x : V) (v4 v5 : Option V), σ' = [some (.ref p), some (.int size), some (.ref o1), some x, v4, v5] ∧ EncT Hc d x ∧ Bd 20 d ∧ EncT Hc (.tup [.str "num", .int 1]) (.ref o1) ∧ Wl Hc p l ns (n + i) ∧ GrowW p H Hc) ⟨_, _, _, _, rfl, ee, ⟨(by show 2 ≤ 20; decide), nk_name, nk_x, trivial⟩, eone, W1, gg⟩ (fun i σ' Hc hi hp => ?_) (fun σ' Hc hp => ?_)
    · obtain ⟨d, x, v4, v5, rfl, e, b, eo, W', g⟩ := hp
      refine ⟨_, rfl, _, rfl, (by show 4 ≤ sizeLine; decide), fun t1 h1 => ?_⟩
      have g1 := Grow.new (o := .tup [.str "op", .str "+", x, .ref o1]) h1
      have e1 := enc_new h1 (.cons (es nk_op) (.cons (es nk_plus) (.cons e (.cons eo .nil))))
      refine ⟨_, rfl, _, rfl, (by show 4 ≤ sizeLine; decide), fun t2 h2 => ?_⟩
      have g2 := Grow.new (o := .tup [.str "op", .str "-", .ref o1, x]) h2
      have e2 := enc_new h2 (.cons (es nk_op) (.cons (es nk_minus) (.cons (eo.grow g1) (.cons (e.grow g1) .nil))))
      refine ⟨_, rfl, (by show 3 ≤ sizeLine; decide), fun t3 h3 => ?_⟩
      have g3 := Grow.new (o := .tup [.str "times", .int 2, x]) h3
      have e3 := enc_new h3 (.cons (es nk_times) (.cons (.int 2) (.cons (e.grow (g1.trans g2)) .nil)))
      refine ⟨_, rfl, _, rfl, (by show 2 ≤ sizeLine; decide), fun t4 h4 => ?_⟩
      have g4 := Grow.new (o := .tup [.ref o1, x]) h4
      have e4 := enc_new h4 (.cons (eo.grow ((g1.trans g2).trans g3)) (.cons (e.grow ((g1.trans g2).trans g3)) .nil))
      refine ⟨(by show 3 ≤ sizeLine; decide), fun t5 h5 => ?_⟩
      have g5 := Grow.new (o := .tup [.str "make", .str "M", .ref t4]) h5
      have e5 := enc_new h5 (.cons (es nk_make) (.cons (es nk_M) (.cons e4 .nil)))
      refine ⟨_, rfl, (by show 1 ≤ sizeLine; decide), fun t6 h6 => ?_⟩
      have g6 := Grow.new (o := .tup [x]) h6
      have g15 := (((g1.trans g2).trans g3).trans g4).trans g5
      have e6 := enc_new h6 (.cons (e.grow g15) .nil)
      refine ⟨(by show 3 ≤ sizeLine; decide), fun t7 h7 => ⟨(by show 5 ≤ sizeLine; decide), fun D hD => ?_⟩⟩
      have g7 := Grow.new (o := .tup [.str "call", .str "f", .ref t6]) h7
      have e7 := enc_new h7 (.cons (es nk_call) (.cons (es nk_f) (.cons e6 .nil)))
      have gD := Grow.new (o := .lst [V.ref t1, V.ref t2, V.ref t3, V.ref t5, V.ref t7]) hD
      have g67 := (g6.trans g7).trans gD
      have gall := g15.trans g67
      have eL : EncsT _ [.tup [.str "op", .str "+", d, .tup [.str "num", .int 1]], .tup [.str "op", .str "-", .tup [.str "num", .int 1], d], .tup [.str "times", .int 2, d], .tup [.str "make", .str "M", .tup [.tup [.str "num", .int 1], d]], .tup [.str "call", .str "f", .tup [d]]] [V.ref t1, V.ref t2, V.ref t3, V.ref t5, V.ref t7] := .cons (e1.grow ((((g2.trans g3).trans g4).trans g5).trans g67)) (.cons (e2.grow (((g3.trans g4).trans g5).trans g67)) (.cons (e3.grow ((g4.trans g5).trans g67)) (.cons (e5.grow g67) (.cons (e7.grow gD) .nil))))
      have bL : Bds 20 [.tup [.str "op", .str "+", d, .tup [.str "num", .int 1]], .tup [.str "op", .str "-", .tup [.str "num", .int 1], d], .tup [.str "times", .int 2, d], .tup [.str "make", .str "M", .tup [.tup [.str "num", .int 1], d]], .tup [.str "call", .str "f", .tup [d]]] := ⟨(⟨(by show 4 ≤ 20; decide), nk_op, nk_plus, b, bone, trivial⟩ : Bd 20 (.tup [.str "op", .str "+", d, .tup [.str "num", .int 1]])), (⟨(by show 4 ≤ 20; decide), nk_op, nk_minus, bone, b, trivial⟩ : Bd 20 (.tup [.str "op", .str "-", .tup [.str "num", .int 1], d])), (⟨(by show 3 ≤ 20; decide), nk_times, (by show (2 : Int).natAbs ≤ _; decide), b, trivial⟩ : Bd 20 (.tup [.str "times", .int 2, d])),
        (⟨(by show 3 ≤ 20; decide), nk_make, nk_M, ⟨(by show 2 ≤ 20; decide), bone, b, trivial⟩, trivial⟩ : Bd 20 (.tup [.str "make", .str "M", .tup [.tup [.str "num", .int 1], d]])), (⟨(by show 3 ≤ 20; decide), nk_call, nk_f, ⟨(by show 1 ≤ 20; decide), b, trivial⟩, trivial⟩ : Bd 20 (.tup [.str "call", .str "f", .tup [d]])), (trivial : Bds 20 [])⟩
      have eo9 := eo.grow gall
      have W9 := W'.grow gall
      have hD9 := upd_same (H := upd (upd (upd (upd (upd (upd (upd Hc t1 (.tup [.str "op", .str "+", x, .ref o1])) t2 (.tup [.str "op", .str "-", .ref o1, x])) t3 (.tup [.str "times", .int 2, x])) t4 (.tup [.ref o1, x])) t5 (.tup [.str "make", .str "M", .ref t4])) t6 (.tup [x])) t7 (.tup [.str "call", .str "f", .ref t6])) (a := D) (o := .lst [V.ref t1, V.ref t2, V.ref t3, V.ref t5, V.ref t7])
      have hDp : D ≠ p := ((W'.grow ((g15.trans g6).trans g7)).np hD).1
      have gw := g.trans' (gall.w (w := p))
      generalize upd (upd (upd (upd (upd (upd (upd (upd Hc t1 (.tup [.str "op", .str "+", x, .ref o1])) t2 (.tup [.str "op", .str "-", .ref o1, x])) t3 (.tup [.str "times", .int 2, x])) t4 (.tup [.ref o1, x])) t5 (.tup [.str "make", .str "M", .ref t4])) t6 (.tup [x])) t7 (.tup [.str "call", .str "f", .ref t6])) D (.lst [V.ref t1, V.ref t2, V.ref t3, V.ref t5, V.ref t7]) = H9 at eL eo9 W9 hD9 gw ⊢
      refine ⟨_, rfl, _, rfl, p, l, ns, n + i, 5, rfl, by decide, cdw (by decide) (by decide), W9, by omega, fun r Hf ra rb Wf gf => ?_⟩
      obtain ⟨y9, hy9⟩ := W9.pl
      obtain ⟨dn, xn, hat, en, bn⟩ := pick_d (eL.gw gf hy9) bL ra (by show r < 5; exact rb)
      exact ⟨D, _, _, _, rfl, rfl, SqL.of (gf.lst hDp hD9), hat, dn, xn, _, _, rfl, en, bn, eo9.gw gf hy9, Wf, gw.trans' gf⟩
    · obtain ⟨d, x, v4, v5, rfl, e, b, eo, W', g⟩ := hp
      exact ⟨_, rfl, kq d x _ g e b (W'.more (by omega))⟩
end
end J1
set_option Elab.async false
set_option linter.all false
set_option maxRecDepth 100000
set_option maxHeartbeats 8000000
namespace J1
open PySem PySem.Spec PyProof.Rows L2 GxR GA
theorem encs_rep {H : Hp} {d : Da} {x : V} (e : EncT H d x) : ∀ n : Nat, EncsT H (List.replicate n d) (List.replicate n [x]).flatten
  | 0 => .nil
  | n + 1 => .cons e (encs_rep e n)
theorem bds_rep {c : Nat} {d : Da} (b : Bd c d) (n : Nat) : Bds c (List.replicate n d) := bds_all.mpr fun e he => by
  rw [(List.mem_replicate.mp he).2]; exact b
theorem bd_rep {d : Da} (b : Bd 20 d) {n : Nat} (h : n ≤ 20) : Bd 20 (.tup (List.replicate n d)) := ⟨by rw [List.length_replicate]; exact h, bds_rep b n⟩
section
variable {P : Program} {w : World} {K : PySem.W.Frag} {mg : Str → Option Value} {base : Heap}
theorem ok_bo {f fD : Addr} {fd fdD : FuncData} (F : Fun K "_law_bodies" "_law_bodies" lBo f fd) (nR : mg "range" = Option.none) (GD : FnOk P w K mg base CX0 1 fD fdD ["_law_well_here", "_law_many"] spDr) (DD : Df K mg "_law_draw" ["_law_well_here", "_law_many"] fD fdD) :
    FnOk P w K mg base CX0 2 f fd ["_law_well_here", "_law_size", "_law_body"] spBo := by
  refine F.ok (k := 1) cBo (fun vs H Q E h => ?_) (fun cdv A outer s H vs Q E hr h => ?_)
  · obtain ⟨p, l, ns, n, size, d, x, rfl, _⟩ := h
    rfl
  · obtain ⟨p, l, ns, n, size, d0, x0, rfl, W, h0, h40, e0, b0, hn, kq⟩ := h
    refine ⟨_, (pss_cons (ps_asg (pe_tup (pa_cons (pe_tup (pa_cons pe_str (pa_cons pe_int pa_nil))) (pa_cons (pe_tup (pa_cons pe_str (pa_cons (pe_tup (pa_cons pe_str (pa_cons pe_int pa_nil))) pa_nil))) pa_nil))) (pg_tup (by rfl) (pgs_cons (pg_name (i := 3) cBo.nd rfl (Or.inl rfl)) (pgs_cons (pg_name (i := 4) cBo.nd rfl (Or.inl rfl)) pgs_nil)))) (pss_cons (ps_for PassesOwn.never rfl (pi_range1 (by rfl) nR (pa_cons (pv 1) pa_nil)) (pg_name (i := 5) cBo.nd rfl (Or.inl rfl)) (pss_cons (ps_set (i := 6) cBo.nd rfl (Or.inl rfl) (pe_lst (pa_cons (pe_tup (pa_cons pe_str (pa_cons pe_str (pa_cons (pv 3) (pa_cons (pv 2) pa_nil))))) (pa_cons (pe_tup (pa_cons pe_str (pa_cons (pv 3) (pa_cons (pv 3) (pa_cons (pv 2) (pa_cons (pv 4) pa_nil)))))) (pa_cons (pe_tup (pa_cons pe_str (pa_cons (pv 3) (pa_cons (pv 3) (pa_cons (pv 4) (pa_cons (pv 2) pa_nil)))))) pa_nil))))) (pss_one (ps_set (i := 2) cBo.nd rfl (Or.inl rfl) (pe_ix ix_list (pe_op op_cat (pv 6) (pe_lst (pa_cons (pe_tup (pa_cons pe_str (pa_cons (pv 3) (pa_cons (pe_tup (pa_cons (pe_tup (pa_cons pe_str (pa_cons (pe_tup pa_nil) (pa_cons (pv 4) pa_nil)))) (pa_cons (pe_tup (pa_cons pe_str (pa_cons (pe_tup pa_nil) (pa_cons (pv 2) pa_nil)))) pa_nil))) pa_nil)))) pa_nil))) (pe_call GD hr (by rfl) DD.g DD.k DD.b .nil pass0 (pa_cons (pv 0) (pa_cons pe_int pa_nil))) (fun _ _ => rfl)))))) (pss_one (ps_ret (pv 2))))), ?_⟩
    refine ⟨(by show 2 ≤ sizeLine; decide), fun o1 ho1 => ⟨(by show 2 ≤ sizeLine; decide), fun o2 ho2 => ⟨(by show 2 ≤ sizeLine; decide), fun o3 ho3 => ⟨(by show 2 ≤ sizeLine; decide), fun o4 ho4 => ⟨o4, _, rfl, SqT.of upd_same, rfl, _, _, rfl, _, _, rfl, rfl, ?_⟩⟩⟩⟩⟩
    have go1 := Grow.new (o := .tup [.str "num", .int 1]) ho1
    have go2 := Grow.new (o := .tup [.str "num", .int 2]) ho2
    have go3 := Grow.new (o := .tup [.str "give", .ref o2]) ho3
    have go4 := Grow.new (o := .tup [.ref o1, .ref o3]) ho4
    have eone := (((enc_new ho1 (.cons (es nk_num) (.cons (.int 1) .nil))).grow go2).grow go3).grow go4
    have bone : Bd 20 (.tup [.str "num", .int 1]) := ⟨(by show 2 ≤ 20; decide), nk_num, (by show (1 : Int).natAbs ≤ _; decide), trivial⟩
    have etwo := enc_new ho2 (.cons (es nk_num) (.cons (.int 2) .nil))
    have egive := (enc_new ho3 (.cons (es nk_give) (.cons etwo .nil))).grow go4
    have bgive : Bd 20 (.tup [.str "give", .tup [.str "num", .int 2]]) := ⟨(by show 2 ≤ 20; decide), nk_give, ⟨(by show 2 ≤ 20; decide), nk_num, (by show (2 : Int).natAbs ≤ _; decide), trivial⟩, trivial⟩
    have gall := ((go1.trans go2).trans go3).trans go4
    have e0 := e0.grow gall
    have W1 := W.grow gall
    have gg := gall.w (w := p)
    generalize upd (upd (upd (upd H o1 (.tup [.str "num", .int 1])) o2 (.tup [.str "num", .int 2])) o3 (.tup [.str "give", .ref o2])) o4 (.tup [.ref o1, .ref o3]) = H0 at eone egive e0 W1 gg ⊢
    clear go1 go2 go3 go4 gall etwo
    refine ⟨_, rfl, size, rfl, Int.le_trans (by decide) h0, Int.lt_of_lt_of_le (by omega : size < 41) (by decide), ?_⟩
    refine for_range (n := size.toNat) (fun i σ' Hc => ∃ (d : Da) (x : V) (v5 v6 : Option V), σ' = [some (.ref p), some (.int size), some x, some (.ref o1), some (.ref o3), v5, v6] ∧ EncT Hc d x ∧ Bd 20 d ∧ EncT Hc (.tup [.str "num", .int 1]) (.ref o1) ∧ EncT Hc (.tup [.str "give", .tup [.str "num", .int 2]]) (.ref o3) ∧ Wl Hc p l ns (n + i) ∧ GrowW p H Hc) ⟨_, _, _, _, rfl, e0, b0, eone, egive, W1, gg⟩ (fun i σ' Hc hi hp => ?_) (fun σ' Hc hp => ?_)
    · obtain ⟨d, x, v5, v6, rfl, e, b, eo, eg, W', g⟩ := hp
      refine ⟨_, rfl, _, rfl, (by show 4 ≤ sizeLine; decide), fun t1 h1 => ?_⟩
      have g1 := Grow.new (o := .tup [.str "let", .str "x", .ref o1, x]) h1
      have e1 := enc_new h1 (.cons (es nk_let) (.cons (es nk_x) (.cons eo (.cons e .nil))))
      refine ⟨_, rfl, _, rfl, _, rfl, _, rfl, (by show 5 ≤ sizeLine; decide), fun t2 h2 => ?_⟩
      have g2 := Grow.new (o := .tup [.str "if", .ref o1, .ref o1, x, .ref o3]) h2
      have e2 := enc_new h2 (.cons (es nk_if) (.cons (eo.grow g1) (.cons (eo.grow g1) (.cons (e.grow g1) (.cons (eg.grow g1) .nil)))))
      refine ⟨_, rfl, _, rfl, _, rfl, _, rfl, (by show 5 ≤ sizeLine; decide), fun t3 h3 => ?_⟩
      have g3 := Grow.new (o := .tup [.str "if", .ref o1, .ref o1, .ref o3, x]) h3
      have g12 := g1.trans g2
      have e3 := enc_new h3 (.cons (es nk_if) (.cons (eo.grow g12) (.cons (eo.grow g12) (.cons (eg.grow g12) (.cons (e.grow g12) .nil)))))
      refine ⟨(by show 3 ≤ sizeLine; decide), fun D hD => ?_⟩
      have gD := Grow.new (o := .lst [V.ref t1, V.ref t2, V.ref t3]) hD
      have g13 := (g12.trans g3).trans gD
      have e1 := e1.grow ((g2.trans g3).trans gD)
      have e2 := e2.grow (g3.trans gD)
      have e3 := e3.grow gD
      have e := e.grow g13
      have eo := eo.grow g13
      have eg := eg.grow g13
      have W' := W'.grow g13
      have g := g.trans' (g13.w (w := p))
      have hDs : upd (upd (upd (upd Hc t1 (.tup [.str "let", .str "x", .ref o1, x])) t2 (.tup [.str "if", .ref o1, .ref o1, x, .ref o3])) t3 (.tup [.str "if", .ref o1, .ref o1, .ref o3, x])) D (.lst [V.ref t1, V.ref t2, V.ref t3]) D = some (.lst [V.ref t1, V.ref t2, V.ref t3]) := upd_same
      generalize upd (upd (upd (upd Hc t1 (.tup [.str "let", .str "x", .ref o1, x])) t2 (.tup [.str "if", .ref o1, .ref o1, x, .ref o3])) t3 (.tup [.str "if", .ref o1, .ref o1, .ref o3, x])) D (.lst [V.ref t1, V.ref t2, V.ref t3]) = H9 at e1 e2 e3 e eo eg W' g hDs ⊢
      clear g1 g2 g3 g12 gD g13
      refine ⟨_, rfl, _, rfl, Nat.zero_le _, fun u1 k1 => ⟨_, rfl, (by show 3 ≤ sizeLine; decide), fun u2 k2 => ⟨Nat.zero_le _, fun u3 k3 => ⟨_, rfl, (by show 3 ≤ sizeLine; decide), fun u4 k4 => ⟨(by show 2 ≤ sizeLine; decide), fun u5 k5 => ⟨(by show 3 ≤ sizeLine; decide), fun u6 k6 => ⟨(by show 1 ≤ sizeLine; decide), fun u7 k7 => ?_⟩⟩⟩⟩⟩⟩⟩
      have a1 := Grow.new (o := .tup []) k1
      have a2 := Grow.new (o := .tup [.str "M", .ref u1, .ref o3]) k2
      have a3 := Grow.new (o := .tup []) k3
      have a4 := Grow.new (o := .tup [.str "N", .ref u3, x]) k4
      have a5 := Grow.new (o := .tup [.ref u2, .ref u4]) k5
      have a6 := Grow.new (o := .tup [.str "match", .ref o1, .ref u5]) k6
      have a7 := Grow.new (o := .lst [V.ref u6]) k7
      have f1 := enc_new k1 .nil
      have f2 := enc_new k2 (.cons (es nk_M) (.cons f1 (.cons (eg.grow a1) .nil)))
      have f3 := enc_new k3 .nil
      have f4 := enc_new k4 (.cons (es nk_N) (.cons f3 (.cons (e.grow ((a1.trans a2).trans a3)) .nil)))
      have f5 := enc_new k5 (.cons (f2.grow (a3.trans a4)) (.cons f4 .nil))
      have a15 := (((a1.trans a2).trans a3).trans a4).trans a5
      have f6 := enc_new k6 (.cons (es nk_match) (.cons (eo.grow a15) (.cons f5 .nil)))
      have a17 := (a15.trans a6).trans a7
      have q7 := upd_same (H := upd (upd (upd (upd (upd (upd H9 u1 (.tup [])) u2 (.tup [.str "M", .ref u1, .ref o3])) u3 (.tup [])) u4 (.tup [.str "N", .ref u3, x])) u5 (.tup [.ref u2, .ref u4])) u6 (.tup [.str "match", .ref o1, .ref u5])) (a := u7) (o := .lst [V.ref u6])
      refine ⟨D, u7, _, _, rfl, rfl, a17.lst hDs, q7, (by rw [sizeLine_eq]; show 3 + 1 ≤ 16777216; decide), fun R hR => ?_⟩
      have gR := Grow.new (o := .lst ([V.ref t1, V.ref t2, V.ref t3] ++ [V.ref u6])) hR
      have a18 := a17.trans gR
      have eL : EncsT _ [.tup [.str "let", .str "x", .tup [.str "num", .int 1], d], .tup [.str "if", .tup [.str "num", .int 1], .tup [.str "num", .int 1], d, .tup [.str "give", .tup [.str "num", .int 2]]], .tup [.str "if", .tup [.str "num", .int 1], .tup [.str "num", .int 1], .tup [.str "give", .tup [.str "num", .int 2]], d],
        .tup [.str "match", .tup [.str "num", .int 1], .tup [.tup [.str "M", .tup [], .tup [.str "give", .tup [.str "num", .int 2]]], .tup [.str "N", .tup [], d]]]] ([V.ref t1, V.ref t2, V.ref t3] ++ [V.ref u6]) := .cons (e1.grow a18) (.cons (e2.grow a18) (.cons (e3.grow a18) (.cons (f6.grow (a7.trans gR)) .nil)))
      have bL : Bds 20 [.tup [.str "let", .str "x", .tup [.str "num", .int 1], d], .tup [.str "if", .tup [.str "num", .int 1], .tup [.str "num", .int 1], d, .tup [.str "give", .tup [.str "num", .int 2]]], .tup [.str "if", .tup [.str "num", .int 1], .tup [.str "num", .int 1], .tup [.str "give", .tup [.str "num", .int 2]], d],
        .tup [.str "match", .tup [.str "num", .int 1], .tup [.tup [.str "M", .tup [], .tup [.str "give", .tup [.str "num", .int 2]]], .tup [.str "N", .tup [], d]]]] := ⟨⟨(by show 4 ≤ 20; decide), nk_let, nk_x, bone, b, trivial⟩, ⟨(by show 5 ≤ 20; decide), nk_if, bone, bone, b, bgive, trivial⟩, ⟨(by show 5 ≤ 20; decide), nk_if, bone, bone, bgive, b, trivial⟩, ⟨(by show 3 ≤ 20; decide), nk_match, bone, ⟨(by show 2 ≤ 20; decide), ⟨(by show 3 ≤ 20; decide), nk_M, ⟨Nat.zero_le _, trivial⟩, bgive, trivial⟩, ⟨(by show 3 ≤ 20; decide), nk_N, ⟨Nat.zero_le _, trivial⟩, b, trivial⟩, trivial⟩, trivial⟩, trivial⟩
      have hRp : R ≠ p := ((W'.grow a17).np hR).1
      have eo := eo.grow a18
      have eg := eg.grow a18
      have W' := W'.grow a18
      have g := g.trans' (a18.w (w := p))
      refine ⟨_, rfl, p, l, ns, n + i, 4, rfl, by decide, cdw (by decide) (by decide), W', by omega, fun r Hf ra rb Wf gf => ?_⟩
      obtain ⟨y9, hy9⟩ := W'.pl
      obtain ⟨dn, xn, hat, en, bn⟩ := pick_d (eL.gw gf hy9) bL ra (by show r < 4; exact rb)
      exact ⟨R, _, _, _, rfl, rfl, SqL.of (gf.lst hRp upd_same), hat, dn, xn, _, _, rfl, en, bn, eo.gw gf hy9, eg.gw gf hy9, Wf, g.trans' gf⟩
    · obtain ⟨d, x, v5, v6, rfl, e, b, eo, eg, W', g⟩ := hp
      exact ⟨_, rfl, kq d x _ g e b (W'.more (by omega))⟩
end
end J1
set_option Elab.async false
set_option linter.all false
set_option maxRecDepth 100000
set_option maxHeartbeats 16000000
namespace J1
open PySem PySem.Spec PyProof.Rows L2 GxR GA
theorem nk_K : NOk 20 "K" := nk (by decide +kernel)
theorem nk_y : NOk 20 "y" := nk (by decide +kernel)
theorem nk_z : NOk 20 "z" := nk (by decide +kernel)
abbrev lEd : Stmt := top 73
theorem cEd : FnScope ["_law_well_here", "_law_more", "_law_pick", "_law_one", "_law_give", "_law_branch", "_law_size"] ["_law_well_here"] (defScope lEd) := ⟨rfl, rfl, rfl, by decide +kernel, rfl, by decide +kernel, by decide +kernel⟩
def spEd : Sp := fun vs H Q _ => ∃ (p l : Addr) (ns : List Int) (n : Nat), vs = [.ref p] ∧ Wl H p l ns n ∧ n + 100 ≤ 1000000000000000000000000000000000000000000000000000000000000 ∧ GiveW H p l ns (n + 100) Q
section
variable {P : Program} {w : World} {K : PySem.W.Frag} {mg : Str → Option Value} {base : Heap}
theorem ok_ed {f fD fG fX fL fC fB fS : Addr} {fd fdD fdG fdX fdL fdC fdB fdS : FuncData} (F : Fun K "_law_edge" "_law_edge" lEd f fd) (nT : mg "tuple" = Option.none) (GD : FnOk P w K mg base CX0 1 fD fdD ["_law_well_here", "_law_many"] spDr) (DD : Df K mg "_law_draw" ["_law_well_here", "_law_many"] fD fdD)
    (GG : FnOk P w K mg base CX0 1 fG fdG ["_law_body"] spGi) (DG : Df K mg "_law_given" ["_law_body"] fG fdG) (GX : FnOk P w K mg base CX0 8 fX fdX ["_law_size"] (spX 7)) (DX : Df K mg "_law_exact" ["_law_size"] fX fdX)
    (GL : FnOk P w K mg base CX0 1 fL fdL ["_law_size", "_law_e"] spLs) (DL : Df K mg "_law_lets" ["_law_size", "_law_e"] fL fdL) (GC : FnOk P w K mg base CX0 1 fC fdC ["_law_size"] spCh) (DC : Df K mg "_law_chain" ["_law_size"] fC fdC)
    (GB : FnOk P w K mg base CX0 2 fB fdB ["_law_well_here", "_law_size", "_law_body"] spBo) (DB : Df K mg "_law_bodies" ["_law_well_here", "_law_size", "_law_body"] fB fdB) (GS : FnOk P w K mg base CX0 2 fS fdS ["_law_well_here", "_law_size"] spSt) (DS : Df K mg "_law_steps" ["_law_well_here", "_law_size"] fS fdS) :
    FnOk P w K mg base CX0 9 f fd ["_law_well_here"] spEd := by
  refine F.ok (k := 8) cEd (fun vs H Q E h => ?_) (fun cdv A outer s H vs Q E hr h => ?_)
  · obtain ⟨p, l, ns, n, rfl, _⟩ := h
    rfl
  · obtain ⟨p, l, ns, n, rfl, W, hn, kq⟩ := h
    have kq : ∀ d x H', GrowW p H H' → EncT H' d x → Bd 20 d → Wl H' p l ns (n + 100) → Q x H' := kq
    refine ⟨_, (pss_cons (ps_set (i := 1) cEd.nd rfl (Or.inl rfl) (pe_call (GD.mono (by decide)) hr (by rfl) DD.g DD.k DD.b .nil pass0 (pa_cons (pv 0) (pa_cons pe_int pa_nil)))) (pss_cons (ps_set (i := 2) cEd.nd rfl (Or.inl rfl) (pe_call (GD.mono (by decide)) hr (by rfl) DD.g DD.k DD.b .nil pass0 (pa_cons (pv 0) (pa_cons pe_int pa_nil)))) (pss_cons (ps_set (i := 3) cEd.nd rfl (Or.inl rfl) (pe_tup (pa_cons pe_str (pa_cons pe_int pa_nil)))) (pss_cons (ps_set (i := 4) cEd.nd rfl (Or.inl rfl) (pe_tup (pa_cons pe_str (pa_cons (pv 3) pa_nil)))) (pss_cons (ps_if (pt_cmpR op_eq (pv 2) pe_int (nomark _)) (pss_one (ps_ret (pe_tup (pa_cons (pe_callTy call_tuple_of (by rfl) nT (by decide +kernel) (pa_cons (pe_op op_rep (pe_lst (pa_cons (pe_tup (pa_cons pe_str (pa_cons (pe_tup (pa_cons (pe_tup (pa_cons pe_str (pa_cons (pe_tup pa_nil) pa_nil))) pa_nil)) pa_nil))) pa_nil)) (pe_op op_add pe_int (pv 1))) pa_nil)) (pa_cons (pe_tup pa_nil) pa_nil))))) pss_nil) (pss_cons (ps_if (pt_cmpR op_eq (pv 2) pe_int (nomark _)) (pss_one (ps_ret (pe_tup (pa_cons (pe_tup (pa_cons (pe_tup (pa_cons pe_str (pa_cons (pe_callTy call_tuple_of (by rfl) nT (by decide +kernel) (pa_cons (pe_op op_rep (pe_lst (pa_cons (pe_tup (pa_cons pe_str (pa_cons (pe_tup (pa_cons pe_str pa_nil)) pa_nil))) pa_nil)) (pe_op op_add pe_int (pv 1))) pa_nil)) pa_nil))) pa_nil)) (pa_cons (pe_tup pa_nil) pa_nil))))) pss_nil) (pss_cons (ps_if (pt_cmpR op_eq (pv 2) pe_int (nomark _)) (pss_one (ps_ret (pe_tup (pa_cons (pe_tup (pa_cons (pe_tup (pa_cons pe_str (pa_cons (pe_tup (pa_cons (pe_tup (pa_cons pe_str (pa_cons (pe_op op_repT (pe_tup (pa_cons pe_str pa_nil)) (pe_op op_add pe_int (pv 1))) pa_nil))) pa_nil)) pa_nil))) pa_nil)) (pa_cons (pe_tup pa_nil) pa_nil))))) pss_nil) (pss_cons (ps_if (pt_cmpR op_eq (pv 2) pe_int (nomark _)) (pss_one (ps_ret (pe_tup (pa_cons (pe_tup pa_nil) (pa_cons (pe_op op_repT (pe_tup (pa_cons (pe_tup (pa_cons pe_str (pa_cons (pe_tup pa_nil) (pa_cons pe_str (pa_cons (pv 4) pa_nil))))) pa_nil)) (pe_op op_add pe_int (pv 1))) pa_nil))))) pss_nil) (pss_cons (ps_if (pt_cmpR op_eq (pv 2) pe_int (nomark _)) (pss_one (ps_ret (pe_tup (pa_cons (pe_tup pa_nil) (pa_cons (pe_tup (pa_cons (pe_tup (pa_cons pe_str (pa_cons (pe_op op_repT (pe_tup (pa_cons (pe_tup (pa_cons pe_str (pa_cons pe_str pa_nil))) pa_nil)) (pe_op op_add pe_int (pv 1))) (pa_cons pe_str (pa_cons (pv 4) pa_nil))))) pa_nil)) pa_nil))))) pss_nil) (pss_cons (ps_if (pt_cmpR op_eq (pv 2) pe_int (nomark _)) (pss_one (ps_ret (pe_call (GG.mono (by decide)) hr (by rfl) DG.g DG.k DG.b .nil pass0 (pa_cons (pe_tup (pa_cons pe_str (pa_cons (pe_tup (pa_cons pe_str (pa_cons pe_str (pa_cons (pe_op op_repT (pe_tup (pa_cons (pv 3) pa_nil)) (pe_op op_add pe_int (pv 1))) pa_nil)))) pa_nil))) pa_nil)))) pss_nil) (pss_cons (ps_if (pt_cmpR op_eq (pv 2) pe_int (nomark _)) (pss_one (ps_ret (pe_call (GG.mono (by decide)) hr (by rfl) DG.g DG.k DG.b .nil pass0 (pa_cons (pe_tup (pa_cons pe_str (pa_cons (pe_tup (pa_cons pe_str (pa_cons pe_str (pa_cons (pe_op op_repT (pe_tup (pa_cons (pv 3) pa_nil)) (pe_op op_add pe_int (pv 1))) pa_nil)))) pa_nil))) pa_nil)))) pss_nil) (pss_cons (ps_if (pt_cmpR op_eq (pv 2) pe_int (nomark _)) (pss_one (ps_ret (pe_call (GG.mono (by decide)) hr (by rfl) DG.g DG.k DG.b .nil pass0 (pa_cons (pe_tup (pa_cons pe_str (pa_cons (pv 3) (pa_cons (pe_tup (pa_cons (pe_tup (pa_cons pe_str (pa_cons (pe_op op_repT (pe_tup (pa_cons pe_str pa_nil)) (pe_op op_add pe_int (pv 1))) (pa_cons (pv 4) pa_nil)))) pa_nil)) pa_nil)))) pa_nil)))) pss_nil) (pss_cons (ps_if (pt_cmpR op_eq (pv 2) pe_int (nomark _)) (pss_one (ps_ret (pe_call (GG.mono (by decide)) hr (by rfl) DG.g DG.k DG.b .nil pass0 (pa_cons (pe_tup (pa_cons pe_str (pa_cons (pv 3) (pa_cons (pe_op op_repT (pe_tup (pa_cons (pe_tup (pa_cons pe_str (pa_cons (pe_tup pa_nil) (pa_cons (pv 4) pa_nil)))) pa_nil)) (pe_op op_add pe_int (pv 1))) pa_nil)))) pa_nil)))) pss_nil) (pss_cons (ps_if (pt_cmpR op_eq (pv 2) pe_int (nomark _)) (pss_one (ps_ret (pe_call (GG.mono (by decide)) hr (by rfl) DG.g DG.k DG.b .nil pass0 (pa_cons (pe_tup (pa_cons pe_str (pa_cons (pe_call GX hr (by rfl) DX.g DX.k DX.b .nil pass0 (pa_cons (pe_op op_add pe_int (pv 1)) pa_nil)) pa_nil))) pa_nil)))) pss_nil) (pss_cons (ps_if (pt_cmpR op_eq (pv 2) pe_int (nomark _)) (pss_one (ps_ret (pe_call (GG.mono (by decide)) hr (by rfl) DG.g DG.k DG.b .nil pass0 (pa_cons (pe_call (GL.mono (by decide)) hr (by rfl) DL.g DL.k DL.b .nil pass0 (pa_cons pe_int (pa_cons (pe_call GX hr (by rfl) DX.g DX.k DX.b .nil pass0 (pa_cons (pe_op op_add pe_int (pv 1)) pa_nil)) pa_nil))) pa_nil)))) pss_nil) (pss_cons (ps_if (pt_cmpR op_eq (pv 2) pe_int (nomark _)) (pss_one (ps_ret (pe_call (GG.mono (by decide)) hr (by rfl) DG.g DG.k DG.b .nil pass0 (pa_cons (pe_tup (pa_cons pe_str (pa_cons (pe_call (GC.mono (by decide)) hr (by rfl) DC.g DC.k DC.b .nil pass0 (pa_cons (pe_op op_add pe_int (pv 1)) pa_nil)) pa_nil))) pa_nil)))) pss_nil) (pss_cons (ps_if (pt_cmpR op_eq (pv 2) pe_int (nomark _)) (pss_one (ps_ret (pe_call (GG.mono (by decide)) hr (by rfl) DG.g DG.k DG.b .nil pass0 (pa_cons (pe_call (GL.mono (by decide)) hr (by rfl) DL.g DL.k DL.b .nil pass0 (pa_cons pe_int (pa_cons (pe_call (GC.mono (by decide)) hr (by rfl) DC.g DC.k DC.b .nil pass0 (pa_cons (pe_op op_add pe_int (pv 1)) pa_nil)) pa_nil))) pa_nil)))) pss_nil) (pss_cons (ps_if (pt_cmpR op_eq (pv 2) pe_int (nomark _)) (pss_cons (ps_set (i := 5) cEd.nd rfl (Or.inl rfl) (pe_tup (pa_cons pe_str (pa_cons (pe_tup (pa_cons pe_str (pa_cons pe_str (pa_cons pe_str pa_nil)))) (pa_cons (pe_tup (pa_cons pe_str (pa_cons (pv 3) (pa_cons (pe_call GX hr (by rfl) DX.g DX.k DX.b .nil pass0 (pa_cons pe_int pa_nil)) (pa_cons (pv 4) (pa_cons (pe_tup (pa_cons pe_str (pa_cons (pe_call GX hr (by rfl) DX.g DX.k DX.b .nil pass0 (pa_cons (pe_op op_add pe_int (pv 1)) pa_nil)) pa_nil))) pa_nil)))))) pa_nil))))) (pss_one (ps_ret (pe_call (GG.mono (by decide)) hr (by rfl) DG.g DG.k DG.b .nil pass0 (pa_cons (pe_tup (pa_cons pe_str (pa_cons (pv 3) (pa_cons (pe_tup (pa_cons (pv 5) (pa_cons (pv 5) (pa_cons (pe_tup (pa_cons pe_str (pa_cons (pe_tup pa_nil) (pa_cons (pe_tup (pa_cons pe_str (pa_cons (pe_call GX hr (by rfl) DX.g DX.k DX.b .nil pass0 (pa_cons pe_int pa_nil)) pa_nil))) pa_nil)))) pa_nil)))) pa_nil)))) pa_nil))))) pss_nil) (pss_cons (ps_if (pt_cmpR op_in_seq (pv 2) (pe_tup (pa_cons pe_int (pa_cons pe_int pa_nil))) (by rfl)) (pss_cons (ps_set (i := 6) cEd.nd rfl (Or.inl rfl) (pe_call (GD.mono (by decide)) hr (by rfl) DD.g DD.k DD.b .nil pass0 (pa_cons (pv 0) (pa_cons pe_int pa_nil)))) (pss_one (ps_ret (pe_call (GG.mono (by decide)) hr (by rfl) DG.g DG.k DG.b .nil pass0 (pa_cons (pe_call (GB.mono (by decide)) hr (by rfl) DB.g DB.k DB.b .nil pass0 (pa_cons (pv 0) (pa_cons (pv 6) (pa_cons (pe_tup (pa_cons pe_str (pa_cons (pe_call (GS.mono (by decide)) hr (by rfl) DS.g DS.k DS.b .nil pass0 (pa_cons (pv 0) (pa_cons (pe_op op_sub (pe_op op_add pe_int (pv 1)) (pv 6)) pa_nil))) pa_nil))) pa_nil)))) pa_nil))))) pss_nil) (pss_cons (ps_if (pt_cmpR op_eq (pv 2) pe_int (nomark _)) (pss_one (ps_ret (pe_call (GG.mono (by decide)) hr (by rfl) DG.g DG.k DG.b .nil pass0 (pa_cons (pe_tup (pa_cons pe_str (pa_cons (pe_tup (pa_cons pe_str (pa_cons (pe_ix ix_list (pe_lst (pa_cons (pe_op op_pow pe_int pe_int) (pa_cons (pe_un un_neg (pe_op op_pow pe_int pe_int)) pa_nil))) (pe_call (GD.mono (by decide)) hr (by rfl) DD.g DD.k DD.b .nil pass0 (pa_cons (pv 0) (pa_cons pe_int pa_nil))) (fun _ _ => rfl)) pa_nil))) pa_nil))) pa_nil)))) pss_nil) (pss_one (ps_ret (pe_call (GG.mono (by decide)) hr (by rfl) DG.g DG.k DG.b .nil pass0 (pa_cons (pe_tup (pa_cons pe_str (pa_cons (pe_tup (pa_cons pe_str (pa_cons (pe_ix ix_list (pe_lst (pa_cons (pe_op op_pow pe_int pe_int) (pa_cons (pe_un un_neg (pe_op op_pow pe_int pe_int)) pa_nil))) (pe_call (GD.mono (by decide)) hr (by rfl) DD.g DD.k DD.b .nil pass0 (pa_cons (pv 0) (pa_cons pe_int pa_nil))) (fun _ _ => rfl)) (pa_cons (pv 3) pa_nil)))) pa_nil))) pa_nil)))))))))))))))))))))))), ?_⟩
    refine ⟨_, rfl, p, l, ns, n, 2, rfl, by decide, cdw (by decide) (by decide), W, by omega, fun more H1 m0 m1 W1 g1 => ?_⟩
    refine ⟨_, rfl, p, l, ns, n + 1, 18, rfl, by decide, cdw (by decide) (by decide), W1, by omega, fun pick H2 _ _ W2 g2 => ?_⟩
    refine ⟨(by show 2 ≤ sizeLine; decide), fun t1 h1 => ⟨_, rfl, (by show 2 ≤ sizeLine; decide), fun t2 h2 => ?_⟩⟩
    have gA := Grow.new (o := .tup [.str "num", .int 1]) h1
    have gB := Grow.new (o := .tup [.str "give", .ref t1]) h2
    have eone0 := enc_new h1 (.cons (es nk_num) (.cons (.int 1) .nil))
    have egive := enc_new h2 (.cons (es nk_give) (.cons eone0 .nil))
    have eone := eone0.grow gB
    have bone : Bd 20 (.tup [.str "num", .int 1]) := ⟨(by show 2 ≤ 20; decide), nk_num, (by show (1 : Int).natAbs ≤ _; decide), trivial⟩
    have bgive : Bd 20 (.tup [.str "give", .tup [.str "num", .int 1]]) := ⟨(by show 2 ≤ 20; decide), nk_give, bone, trivial⟩
    have W3 := (W2.grow gA).grow gB
    have gg := (g1.trans' g2).trans' ((gA.trans gB).w (w := p))
    generalize upd (upd H2 t1 (.tup [.str "num", .int 1])) t2 (.tup [.str "give", .ref t1]) = H3 at eone egive W3 gg ⊢
    clear gA gB eone0
    have fin : ∀ d x H', Grow H3 H' → EncT H' d x → Bd 20 d → Q x H' := fun d x H' g e b => kq d x H' (gg.trans' g.w) e b ((W3.grow g).more (by omega))
    refine ⟨_, rfl, rfl, _, rfl, ite2 (fun _ => ?_) (fun _ => ?_)⟩
    · refine ⟨Nat.zero_le _, fun a1 h1 => ?_⟩
      have G1 := Grow.new (o := .tup []) h1
      have E1 := enc_new h1 .nil
      refine ⟨(by show 2 ≤ sizeLine; decide), fun a2 h2 => ?_⟩
      have G2 := Grow.new (o := .tup [.str "M", .ref a1]) h2
      have E2 := enc_new h2 (.cons (es nk_M) (.cons E1 .nil))
      refine ⟨(by show 1 ≤ sizeLine; decide), fun a3 h3 => ?_⟩
      have G3 := Grow.new (o := .tup [.ref a2]) h3
      have E3 := enc_new h3 (.cons E2 .nil)
      refine ⟨(by show 2 ≤ sizeLine; decide), fun a4 h4 => ?_⟩
      have G4 := Grow.new (o := .tup [.str "K", .ref a3]) h4
      have E4 := enc_new h4 (.cons (es nk_K) (.cons E3 .nil))
      refine ⟨(by show 1 ≤ sizeLine; decide), fun a5 h5 => ?_⟩
      have G5 := Grow.new (o := .lst [.ref a4]) h5
      refine ⟨_, rfl, _, _, rfl, rfl, a5, _, _, rfl, rfl, upd_same, (Int.le_trans (by decide) (by omega : (0 : Int) ≤ 8 + more)), (Int.lt_of_lt_of_le (by omega : (8 : Int) + more < 20) (by decide)), (by rw [sizeLine_eq]; simp only [List.length_cons, List.length_nil]; omega), fun a6 h6 => ?_⟩
      have G6 := Grow.new (o := .lst (List.replicate (8 + more).toNat [.ref a4]).flatten) h6
      refine ⟨a6, _, rfl, .inl ⟨SqL.of upd_same, fun a7 h7 => ?_⟩⟩
      have G7 := Grow.new (o := .tup (List.replicate (8 + more).toNat [.ref a4]).flatten) h7
      have E7 := enc_new h7 ((encs_rep (E4.grow G5) (8 + more).toNat).grow G6)
      refine ⟨Nat.zero_le _, fun a8 h8 => ?_⟩
      have G8 := Grow.new (o := .tup []) h8
      have E8 := enc_new h8 .nil
      refine ⟨(by show 2 ≤ sizeLine; decide), fun a9 h9 => ?_⟩
      have G9 := Grow.new (o := .tup [.ref a7, .ref a8]) h9
      have E9 := enc_new h9 (.cons (E7.grow G8) (.cons E8 .nil))
      exact fin (.tup [.tup (List.replicate (8 + more).toNat (.tup [.str "K", .tup [.tup [.str "M", .tup []]]])), .tup []]) (.ref a9) _ ((((((((G1.trans G2).trans G3).trans G4).trans G5).trans G6).trans G7).trans G8).trans G9) E9 (⟨(by show 2 ≤ 20; decide), (bd_rep (d := .tup [.str "K", .tup [.tup [.str "M", .tup []]]]) (⟨(by show 2 ≤ 20; decide), nk_K, (⟨(by show 1 ≤ 20; decide), (⟨(by show 2 ≤ 20; decide), nk_M, (⟨(by show 0 ≤ 20; decide), trivial⟩ : Bd 20 (.tup [])), trivial⟩ : Bd 20 (.tup [.str "M", .tup []])), trivial⟩ : Bd 20 (.tup [.tup [.str "M", .tup []]])), trivial⟩ : Bd 20 (.tup [.str "K", .tup [.tup [.str "M", .tup []]]])) (by omega)), (⟨(by show 0 ≤ 20; decide), trivial⟩ : Bd 20 (.tup [])), trivial⟩ : Bd 20 (.tup [.tup (List.replicate (8 + more).toNat (.tup [.str "K", .tup [.tup [.str "M", .tup []]]])), .tup []]))
    refine ⟨_, rfl, rfl, _, rfl, ite2 (fun _ => ?_) (fun _ => ?_)⟩
    · refine ⟨(by show 1 ≤ sizeLine; decide), fun a1 h1 => ?_⟩
      have G1 := Grow.new (o := .tup [.str "whole"]) h1
      have E1 := enc_new h1 (.cons (es nk_whole) .nil)
      refine ⟨(by show 2 ≤ sizeLine; decide), fun a2 h2 => ?_⟩
      have G2 := Grow.new (o := .tup [.str "M", .ref a1]) h2
      have E2 := enc_new h2 (.cons (es nk_M) (.cons E1 .nil))
      refine ⟨(by show 1 ≤ sizeLine; decide), fun a3 h3 => ?_⟩
      have G3 := Grow.new (o := .lst [.ref a2]) h3
      refine ⟨_, rfl, _, _, rfl, rfl, a3, _, _, rfl, rfl, upd_same, (Int.le_trans (by decide) (by omega : (0 : Int) ≤ 8 + more)), (Int.lt_of_lt_of_le (by omega : (8 : Int) + more < 20) (by decide)), (by rw [sizeLine_eq]; simp only [List.length_cons, List.length_nil]; omega), fun a4 h4 => ?_⟩
      have G4 := Grow.new (o := .lst (List.replicate (8 + more).toNat [.ref a2]).flatten) h4
      refine ⟨a4, _, rfl, .inl ⟨SqL.of upd_same, fun a5 h5 => ?_⟩⟩
      have G5 := Grow.new (o := .tup (List.replicate (8 + more).toNat [.ref a2]).flatten) h5
      have E5 := enc_new h5 ((encs_rep (E2.grow G3) (8 + more).toNat).grow G4)
      refine ⟨(by show 2 ≤ sizeLine; decide), fun a6 h6 => ?_⟩
      have G6 := Grow.new (o := .tup [.str "K", .ref a5]) h6
      have E6 := enc_new h6 (.cons (es nk_K) (.cons E5 .nil))
      refine ⟨(by show 1 ≤ sizeLine; decide), fun a7 h7 => ?_⟩
      have G7 := Grow.new (o := .tup [.ref a6]) h7
      have E7 := enc_new h7 (.cons E6 .nil)
      refine ⟨Nat.zero_le _, fun a8 h8 => ?_⟩
      have G8 := Grow.new (o := .tup []) h8
      have E8 := enc_new h8 .nil
      refine ⟨(by show 2 ≤ sizeLine; decide), fun a9 h9 => ?_⟩
      have G9 := Grow.new (o := .tup [.ref a7, .ref a8]) h9
      have E9 := enc_new h9 (.cons (E7.grow G8) (.cons E8 .nil))
      exact fin (.tup [.tup [.tup [.str "K", .tup (List.replicate (8 + more).toNat (.tup [.str "M", .tup [.str "whole"]]))]], .tup []]) (.ref a9) _ ((((((((G1.trans G2).trans G3).trans G4).trans G5).trans G6).trans G7).trans G8).trans G9) E9 (⟨(by show 2 ≤ 20; decide), (⟨(by show 1 ≤ 20; decide), (⟨(by show 2 ≤ 20; decide), nk_K, (bd_rep (d := .tup [.str "M", .tup [.str "whole"]]) (⟨(by show 2 ≤ 20; decide), nk_M, (⟨(by show 1 ≤ 20; decide), nk_whole, trivial⟩ : Bd 20 (.tup [.str "whole"])), trivial⟩ : Bd 20 (.tup [.str "M", .tup [.str "whole"]])) (by omega)), trivial⟩ : Bd 20 (.tup [.str "K", .tup (List.replicate (8 + more).toNat (.tup [.str "M", .tup [.str "whole"]]))])), trivial⟩ : Bd 20 (.tup [.tup [.str "K", .tup (List.replicate (8 + more).toNat (.tup [.str "M", .tup [.str "whole"]]))]])), (⟨(by show 0 ≤ 20; decide), trivial⟩ : Bd 20 (.tup [])), trivial⟩ : Bd 20 (.tup [.tup [.tup [.str "K", .tup (List.replicate (8 + more).toNat (.tup [.str "M", .tup [.str "whole"]]))]], .tup []]))
    refine ⟨_, rfl, rfl, _, rfl, ite2 (fun _ => ?_) (fun _ => ?_)⟩
    · refine ⟨(by show 1 ≤ sizeLine; decide), fun a1 h1 => ?_⟩
      have G1 := Grow.new (o := .tup [.str "K"]) h1
      refine ⟨_, rfl, _, _, rfl, rfl, a1, _, _, rfl, rfl, SqT.of upd_same, (by simp), by omega, by omega, (by simp), fun a2 h2 => ?_⟩
      have G2 := Grow.new (o := .tup (List.replicate (5 + more).toNat [.str "K"]).flatten) h2
      have E2 := enc_new h2 (encs_rep (es nk_K) (5 + more).toNat)
      refine ⟨(by show 2 ≤ sizeLine; decide), fun a3 h3 => ?_⟩
      have G3 := Grow.new (o := .tup [.str "M", .ref a2]) h3
      have E3 := enc_new h3 (.cons (es nk_M) (.cons E2 .nil))
      refine ⟨(by show 1 ≤ sizeLine; decide), fun a4 h4 => ?_⟩
      have G4 := Grow.new (o := .tup [.ref a3]) h4
      have E4 := enc_new h4 (.cons E3 .nil)
      refine ⟨(by show 2 ≤ sizeLine; decide), fun a5 h5 => ?_⟩
      have G5 := Grow.new (o := .tup [.str "K", .ref a4]) h5
      have E5 := enc_new h5 (.cons (es nk_K) (.cons E4 .nil))
      refine ⟨(by show 1 ≤ sizeLine; decide), fun a6 h6 => ?_⟩
      have G6 := Grow.new (o := .tup [.ref a5]) h6
      have E6 := enc_new h6 (.cons E5 .nil)
      refine ⟨Nat.zero_le _, fun a7 h7 => ?_⟩
      have G7 := Grow.new (o := .tup []) h7
      have E7 := enc_new h7 .nil
      refine ⟨(by show 2 ≤ sizeLine; decide), fun a8 h8 => ?_⟩
      have G8 := Grow.new (o := .tup [.ref a6, .ref a7]) h8
      have E8 := enc_new h8 (.cons (E6.grow G7) (.cons E7 .nil))
      exact fin (.tup [.tup [.tup [.str "K", .tup [.tup [.str "M", .tup (List.replicate (5 + more).toNat (.str "K"))]]]], .tup []]) (.ref a8) _ (((((((G1.trans G2).trans G3).trans G4).trans G5).trans G6).trans G7).trans G8) E8 (⟨(by show 2 ≤ 20; decide), (⟨(by show 1 ≤ 20; decide), (⟨(by show 2 ≤ 20; decide), nk_K, (⟨(by show 1 ≤ 20; decide), (⟨(by show 2 ≤ 20; decide), nk_M, (bd_rep (d := .str "K") nk_K (by omega)), trivial⟩ : Bd 20 (.tup [.str "M", .tup (List.replicate (5 + more).toNat (.str "K"))])), trivial⟩ : Bd 20 (.tup [.tup [.str "M", .tup (List.replicate (5 + more).toNat (.str "K"))]])), trivial⟩ : Bd 20 (.tup [.str "K", .tup [.tup [.str "M", .tup (List.replicate (5 + more).toNat (.str "K"))]]])), trivial⟩ : Bd 20 (.tup [.tup [.str "K", .tup [.tup [.str "M", .tup (List.replicate (5 + more).toNat (.str "K"))]]]])), (⟨(by show 0 ≤ 20; decide), trivial⟩ : Bd 20 (.tup [])), trivial⟩ : Bd 20 (.tup [.tup [.tup [.str "K", .tup [.tup [.str "M", .tup (List.replicate (5 + more).toNat (.str "K"))]]]], .tup []]))
    refine ⟨_, rfl, rfl, _, rfl, ite2 (fun _ => ?_) (fun _ => ?_)⟩
    · refine ⟨Nat.zero_le _, fun a1 h1 => ?_⟩
      have G1 := Grow.new (o := .tup []) h1
      have E1 := enc_new h1 .nil
      refine ⟨Nat.zero_le _, fun a2 h2 => ?_⟩
      have G2 := Grow.new (o := .tup []) h2
      have E2 := enc_new h2 .nil
      refine ⟨_, rfl, (by show 4 ≤ sizeLine; decide), fun a3 h3 => ?_⟩
      have G3 := Grow.new (o := .tup [.str "f", .ref a2, .str "whole", .ref t2]) h3
      have E3 := enc_new h3 (.cons (es nk_f) (.cons E2 (.cons (es nk_whole) (.cons ((egive.grow G1).grow G2) .nil))))
      refine ⟨(by show 1 ≤ sizeLine; decide), fun a4 h4 => ?_⟩
      have G4 := Grow.new (o := .tup [.ref a3]) h4
      refine ⟨_, rfl, _, _, rfl, rfl, a4, _, _, rfl, rfl, SqT.of upd_same, (by simp), by omega, by omega, (by simp), fun a5 h5 => ?_⟩
      have G5 := Grow.new (o := .tup (List.replicate (12 + more).toNat [.ref a3]).flatten) h5
      have E5 := enc_new h5 (encs_rep (E3.grow G4) (12 + more).toNat)
      refine ⟨(by show 2 ≤ sizeLine; decide), fun a6 h6 => ?_⟩
      have G6 := Grow.new (o := .tup [.ref a1, .ref a5]) h6
      have E6 := enc_new h6 (.cons ((((E1.grow G2).grow G3).grow G4).grow G5) (.cons E5 .nil))
      exact fin (.tup [.tup [], .tup (List.replicate (12 + more).toNat (.tup [.str "f", .tup [], .str "whole", .tup [.str "give", .tup [.str "num", .int 1]]]))]) (.ref a6) _ (((((G1.trans G2).trans G3).trans G4).trans G5).trans G6) E6 (⟨(by show 2 ≤ 20; decide), (⟨(by show 0 ≤ 20; decide), trivial⟩ : Bd 20 (.tup [])), (bd_rep (d := .tup [.str "f", .tup [], .str "whole", .tup [.str "give", .tup [.str "num", .int 1]]]) (⟨(by show 4 ≤ 20; decide), nk_f, (⟨(by show 0 ≤ 20; decide), trivial⟩ : Bd 20 (.tup [])), nk_whole, bgive, trivial⟩ : Bd 20 (.tup [.str "f", .tup [], .str "whole", .tup [.str "give", .tup [.str "num", .int 1]]])) (by omega)), trivial⟩ : Bd 20 (.tup [.tup [], .tup (List.replicate (12 + more).toNat (.tup [.str "f", .tup [], .str "whole", .tup [.str "give", .tup [.str "num", .int 1]]]))]))
    refine ⟨_, rfl, rfl, _, rfl, ite2 (fun _ => ?_) (fun _ => ?_)⟩
    · refine ⟨Nat.zero_le _, fun a1 h1 => ?_⟩
      have G1 := Grow.new (o := .tup []) h1
      have E1 := enc_new h1 .nil
      refine ⟨(by show 2 ≤ sizeLine; decide), fun a2 h2 => ?_⟩
      have G2 := Grow.new (o := .tup [.str "x", .str "whole"]) h2
      have E2 := enc_new h2 (.cons (es nk_x) (.cons (es nk_whole) .nil))
      refine ⟨(by show 1 ≤ sizeLine; decide), fun a3 h3 => ?_⟩
      have G3 := Grow.new (o := .tup [.ref a2]) h3
      refine ⟨_, rfl, _, _, rfl, rfl, a3, _, _, rfl, rfl, SqT.of upd_same, (by simp), by omega, by omega, (by simp), fun a4 h4 => ?_⟩
      have G4 := Grow.new (o := .tup (List.replicate (6 + more).toNat [.ref a2]).flatten) h4
      have E4 := enc_new h4 (encs_rep (E2.grow G3) (6 + more).toNat)
      refine ⟨_, rfl, (by show 4 ≤ sizeLine; decide), fun a5 h5 => ?_⟩
      have G5 := Grow.new (o := .tup [.str "f", .ref a4, .str "whole", .ref t2]) h5
      have E5 := enc_new h5 (.cons (es nk_f) (.cons E4 (.cons (es nk_whole) (.cons ((((egive.grow G1).grow G2).grow G3).grow G4) .nil))))
      refine ⟨(by show 1 ≤ sizeLine; decide), fun a6 h6 => ?_⟩
      have G6 := Grow.new (o := .tup [.ref a5]) h6
      have E6 := enc_new h6 (.cons E5 .nil)
      refine ⟨(by show 2 ≤ sizeLine; decide), fun a7 h7 => ?_⟩
      have G7 := Grow.new (o := .tup [.ref a1, .ref a6]) h7
      have E7 := enc_new h7 (.cons (((((E1.grow G2).grow G3).grow G4).grow G5).grow G6) (.cons E6 .nil))
      exact fin (.tup [.tup [], .tup [.tup [.str "f", .tup (List.replicate (6 + more).toNat (.tup [.str "x", .str "whole"])), .str "whole", .tup [.str "give", .tup [.str "num", .int 1]]]]]) (.ref a7) _ ((((((G1.trans G2).trans G3).trans G4).trans G5).trans G6).trans G7) E7 (⟨(by show 2 ≤ 20; decide), (⟨(by show 0 ≤ 20; decide), trivial⟩ : Bd 20 (.tup [])), (⟨(by show 1 ≤ 20; decide), (⟨(by show 4 ≤ 20; decide), nk_f, (bd_rep (d := .tup [.str "x", .str "whole"]) (⟨(by show 2 ≤ 20; decide), nk_x, nk_whole, trivial⟩ : Bd 20 (.tup [.str "x", .str "whole"])) (by omega)), nk_whole, bgive, trivial⟩ : Bd 20 (.tup [.str "f", .tup (List.replicate (6 + more).toNat (.tup [.str "x", .str "whole"])), .str "whole", .tup [.str "give", .tup [.str "num", .int 1]]])), trivial⟩ : Bd 20 (.tup [.tup [.str "f", .tup (List.replicate (6 + more).toNat (.tup [.str "x", .str "whole"])), .str "whole", .tup [.str "give", .tup [.str "num", .int 1]]]])), trivial⟩ : Bd 20 (.tup [.tup [], .tup [.tup [.str "f", .tup (List.replicate (6 + more).toNat (.tup [.str "x", .str "whole"])), .str "whole", .tup [.str "give", .tup [.str "num", .int 1]]]]]))
    refine ⟨_, rfl, rfl, _, rfl, ite2 (fun _ => ?_) (fun _ => ?_)⟩
    · refine ⟨_, rfl, (by show 1 ≤ sizeLine; decide), fun a1 h1 => ?_⟩
      have G1 := Grow.new (o := .tup [.ref t1]) h1
      refine ⟨_, rfl, _, _, rfl, rfl, a1, _, _, rfl, rfl, SqT.of upd_same, (by simp), by omega, by omega, (by simp), fun a2 h2 => ?_⟩
      have G2 := Grow.new (o := .tup (List.replicate (5 + more).toNat [.ref t1]).flatten) h2
      have E2 := enc_new h2 (encs_rep (eone.grow G1) (5 + more).toNat)
      refine ⟨(by show 3 ≤ sizeLine; decide), fun a3 h3 => ?_⟩
      have G3 := Grow.new (o := .tup [.str "make", .str "M", .ref a2]) h3
      have E3 := enc_new h3 (.cons (es nk_make) (.cons (es nk_M) (.cons E2 .nil)))
      refine ⟨(by show 2 ≤ sizeLine; decide), fun a4 h4 => ?_⟩
      have G4 := Grow.new (o := .tup [.str "give", .ref a3]) h4
      have E4 := enc_new h4 (.cons (es nk_give) (.cons E3 .nil))
      refine ⟨.tup [.str "give", .tup [.str "make", .str "M", .tup (List.replicate (5 + more).toNat (.tup [.str "num", .int 1]))]], .ref a4, rfl, E4, (⟨(by show 2 ≤ 20; decide), nk_give, (⟨(by show 3 ≤ 20; decide), nk_make, nk_M, (bd_rep (d := .tup [.str "num", .int 1]) bone (by omega)), trivial⟩ : Bd 20 (.tup [.str "make", .str "M", .tup (List.replicate (5 + more).toNat (.tup [.str "num", .int 1]))])), trivial⟩ : Bd 20 (.tup [.str "give", .tup [.str "make", .str "M", .tup (List.replicate (5 + more).toNat (.tup [.str "num", .int 1]))]])), fun d5 x5 H5 G5 E5 B5 => ?_⟩
      exact fin d5 x5 _ ((((G1.trans G2).trans G3).trans G4).trans G5) E5 B5
    refine ⟨_, rfl, rfl, _, rfl, ite2 (fun _ => ?_) (fun _ => ?_)⟩
    · refine ⟨_, rfl, (by show 1 ≤ sizeLine; decide), fun a1 h1 => ?_⟩
      have G1 := Grow.new (o := .tup [.ref t1]) h1
      refine ⟨_, rfl, _, _, rfl, rfl, a1, _, _, rfl, rfl, SqT.of upd_same, (by simp), by omega, by omega, (by simp), fun a2 h2 => ?_⟩
      have G2 := Grow.new (o := .tup (List.replicate (6 + more).toNat [.ref t1]).flatten) h2
      have E2 := enc_new h2 (encs_rep (eone.grow G1) (6 + more).toNat)
      refine ⟨(by show 3 ≤ sizeLine; decide), fun a3 h3 => ?_⟩
      have G3 := Grow.new (o := .tup [.str "call", .str "f", .ref a2]) h3
      have E3 := enc_new h3 (.cons (es nk_call) (.cons (es nk_f) (.cons E2 .nil)))
      refine ⟨(by show 2 ≤ sizeLine; decide), fun a4 h4 => ?_⟩
      have G4 := Grow.new (o := .tup [.str "give", .ref a3]) h4
      have E4 := enc_new h4 (.cons (es nk_give) (.cons E3 .nil))
      refine ⟨.tup [.str "give", .tup [.str "call", .str "f", .tup (List.replicate (6 + more).toNat (.tup [.str "num", .int 1]))]], .ref a4, rfl, E4, (⟨(by show 2 ≤ 20; decide), nk_give, (⟨(by show 3 ≤ 20; decide), nk_call, nk_f, (bd_rep (d := .tup [.str "num", .int 1]) bone (by omega)), trivial⟩ : Bd 20 (.tup [.str "call", .str "f", .tup (List.replicate (6 + more).toNat (.tup [.str "num", .int 1]))])), trivial⟩ : Bd 20 (.tup [.str "give", .tup [.str "call", .str "f", .tup (List.replicate (6 + more).toNat (.tup [.str "num", .int 1]))]])), fun d5 x5 H5 G5 E5 B5 => ?_⟩
      exact fin d5 x5 _ ((((G1.trans G2).trans G3).trans G4).trans G5) E5 B5
    refine ⟨_, rfl, rfl, _, rfl, ite2 (fun _ => ?_) (fun _ => ?_)⟩
    · refine ⟨_, rfl, (by show 1 ≤ sizeLine; decide), fun a1 h1 => ?_⟩
      have G1 := Grow.new (o := .tup [.str "x"]) h1
      refine ⟨_, rfl, _, _, rfl, rfl, a1, _, _, rfl, rfl, SqT.of upd_same, (by simp), by omega, by omega, (by simp), fun a2 h2 => ?_⟩
      have G2 := Grow.new (o := .tup (List.replicate (5 + more).toNat [.str "x"]).flatten) h2
      have E2 := enc_new h2 (encs_rep (es nk_x) (5 + more).toNat)
      refine ⟨_, rfl, (by show 3 ≤ sizeLine; decide), fun a3 h3 => ?_⟩
      have G3 := Grow.new (o := .tup [.str "M", .ref a2, .ref t2]) h3
      have E3 := enc_new h3 (.cons (es nk_M) (.cons E2 (.cons ((egive.grow G1).grow G2) .nil)))
      refine ⟨(by show 1 ≤ sizeLine; decide), fun a4 h4 => ?_⟩
      have G4 := Grow.new (o := .tup [.ref a3]) h4
      have E4 := enc_new h4 (.cons E3 .nil)
      refine ⟨(by show 3 ≤ sizeLine; decide), fun a5 h5 => ?_⟩
      have G5 := Grow.new (o := .tup [.str "match", .ref t1, .ref a4]) h5
      have E5 := enc_new h5 (.cons (es nk_match) (.cons ((((eone.grow G1).grow G2).grow G3).grow G4) (.cons E4 .nil)))
      refine ⟨.tup [.str "match", .tup [.str "num", .int 1], .tup [.tup [.str "M", .tup (List.replicate (5 + more).toNat (.str "x")), .tup [.str "give", .tup [.str "num", .int 1]]]]], .ref a5, rfl, E5, (⟨(by show 3 ≤ 20; decide), nk_match, bone, (⟨(by show 1 ≤ 20; decide), (⟨(by show 3 ≤ 20; decide), nk_M, (bd_rep (d := .str "x") nk_x (by omega)), bgive, trivial⟩ : Bd 20 (.tup [.str "M", .tup (List.replicate (5 + more).toNat (.str "x")), .tup [.str "give", .tup [.str "num", .int 1]]])), trivial⟩ : Bd 20 (.tup [.tup [.str "M", .tup (List.replicate (5 + more).toNat (.str "x")), .tup [.str "give", .tup [.str "num", .int 1]]]])), trivial⟩ : Bd 20 (.tup [.str "match", .tup [.str "num", .int 1], .tup [.tup [.str "M", .tup (List.replicate (5 + more).toNat (.str "x")), .tup [.str "give", .tup [.str "num", .int 1]]]]])), fun d6 x6 H6 G6 E6 B6 => ?_⟩
      exact fin d6 x6 _ (((((G1.trans G2).trans G3).trans G4).trans G5).trans G6) E6 B6
    refine ⟨_, rfl, rfl, _, rfl, ite2 (fun _ => ?_) (fun _ => ?_)⟩
    · refine ⟨_, rfl, Nat.zero_le _, fun a1 h1 => ?_⟩
      have G1 := Grow.new (o := .tup []) h1
      have E1 := enc_new h1 .nil
      refine ⟨_, rfl, (by show 3 ≤ sizeLine; decide), fun a2 h2 => ?_⟩
      have G2 := Grow.new (o := .tup [.str "M", .ref a1, .ref t2]) h2
      have E2 := enc_new h2 (.cons (es nk_M) (.cons E1 (.cons (egive.grow G1) .nil)))
      refine ⟨(by show 1 ≤ sizeLine; decide), fun a3 h3 => ?_⟩
      have G3 := Grow.new (o := .tup [.ref a2]) h3
      refine ⟨_, rfl, _, _, rfl, rfl, a3, _, _, rfl, rfl, SqT.of upd_same, (by simp), by omega, by omega, (by simp), fun a4 h4 => ?_⟩
      have G4 := Grow.new (o := .tup (List.replicate (8 + more).toNat [.ref a2]).flatten) h4
      have E4 := enc_new h4 (encs_rep (E2.grow G3) (8 + more).toNat)
      refine ⟨(by show 3 ≤ sizeLine; decide), fun a5 h5 => ?_⟩
      have G5 := Grow.new (o := .tup [.str "match", .ref t1, .ref a4]) h5
      have E5 := enc_new h5 (.cons (es nk_match) (.cons ((((eone.grow G1).grow G2).grow G3).grow G4) (.cons E4 .nil)))
      refine ⟨.tup [.str "match", .tup [.str "num", .int 1], .tup (List.replicate (8 + more).toNat (.tup [.str "M", .tup [], .tup [.str "give", .tup [.str "num", .int 1]]]))], .ref a5, rfl, E5, (⟨(by show 3 ≤ 20; decide), nk_match, bone, (bd_rep (d := .tup [.str "M", .tup [], .tup [.str "give", .tup [.str "num", .int 1]]]) (⟨(by show 3 ≤ 20; decide), nk_M, (⟨(by show 0 ≤ 20; decide), trivial⟩ : Bd 20 (.tup [])), bgive, trivial⟩ : Bd 20 (.tup [.str "M", .tup [], .tup [.str "give", .tup [.str "num", .int 1]]])) (by omega)), trivial⟩ : Bd 20 (.tup [.str "match", .tup [.str "num", .int 1], .tup (List.replicate (8 + more).toNat (.tup [.str "M", .tup [], .tup [.str "give", .tup [.str "num", .int 1]]]))])), fun d6 x6 H6 G6 E6 B6 => ?_⟩
      exact fin d6 x6 _ (((((G1.trans G2).trans G3).trans G4).trans G5).trans G6) E6 B6
    refine ⟨_, rfl, rfl, _, rfl, ite2 (fun _ => ?_) (fun _ => ?_)⟩
    · refine ⟨_, rfl, _, _, rfl, rfl, 99 + more, rfl, by omega, (Nat.lt_of_lt_of_le (by omega : (99 + more).toNat < 128) (by decide)), fun d1 x1 H1 G1 E1 B1 => ?_⟩
      refine ⟨(by show 2 ≤ sizeLine; decide), fun a2 h2 => ?_⟩
      have G2 := Grow.new (o := .tup [.str "give", x1]) h2
      have E2 := enc_new h2 (.cons (es nk_give) (.cons E1 .nil))
      refine ⟨.tup [.str "give", d1], .ref a2, rfl, E2, (⟨(by show 2 ≤ 20; decide), nk_give, B1, trivial⟩ : Bd 20 (.tup [.str "give", d1])), fun d3 x3 H3 G3 E3 B3 => ?_⟩
      exact fin d3 x3 _ ((G1.trans G2).trans G3) E3 B3
    refine ⟨_, rfl, rfl, _, rfl, ite2 (fun _ => ?_) (fun _ => ?_)⟩
    · refine ⟨_, rfl, _, _, rfl, rfl, 57 + more, rfl, by omega, (Nat.lt_of_lt_of_le (by omega : (57 + more).toNat < 128) (by decide)), fun d1 x1 H1 G1 E1 B1 => ?_⟩
      refine ⟨14, d1, x1, rfl, by decide, by decide, E1, B1, fun d2 x2 H2 G2 E2 B2 => ?_⟩
      refine ⟨d2, x2, rfl, E2, B2, fun d3 x3 H3 G3 E3 B3 => ?_⟩
      exact fin d3 x3 _ ((G1.trans G2).trans G3) E3 B3
    refine ⟨_, rfl, rfl, _, rfl, ite2 (fun _ => ?_) (fun _ => ?_)⟩
    · refine ⟨_, rfl, _, _, rfl, rfl, 29 + more, rfl, by omega, by omega, fun d1 x1 H1 G1 E1 B1 => ?_⟩
      refine ⟨(by show 2 ≤ sizeLine; decide), fun a2 h2 => ?_⟩
      have G2 := Grow.new (o := .tup [.str "give", x1]) h2
      have E2 := enc_new h2 (.cons (es nk_give) (.cons E1 .nil))
      refine ⟨.tup [.str "give", d1], .ref a2, rfl, E2, (⟨(by show 2 ≤ 20; decide), nk_give, B1, trivial⟩ : Bd 20 (.tup [.str "give", d1])), fun d3 x3 H3 G3 E3 B3 => ?_⟩
      exact fin d3 x3 _ ((G1.trans G2).trans G3) E3 B3
    refine ⟨_, rfl, rfl, _, rfl, ite2 (fun _ => ?_) (fun _ => ?_)⟩
    · refine ⟨_, rfl, _, _, rfl, rfl, 15 + more, rfl, by omega, by omega, fun d1 x1 H1 G1 E1 B1 => ?_⟩
      refine ⟨14, d1, x1, rfl, by decide, by decide, E1, B1, fun d2 x2 H2 G2 E2 B2 => ?_⟩
      refine ⟨d2, x2, rfl, E2, B2, fun d3 x3 H3 G3 E3 B3 => ?_⟩
      exact fin d3 x3 _ ((G1.trans G2).trans G3) E3 B3
    refine ⟨_, rfl, rfl, _, rfl, ite2 (fun _ => ?_) (fun _ => ?_)⟩
    · refine ⟨(by show 3 ≤ sizeLine; decide), fun a1 h1 => ?_⟩
      have G1 := Grow.new (o := .tup [.str "x", .str "y", .str "z"]) h1
      have E1 := enc_new h1 (.cons (es nk_x) (.cons (es nk_y) (.cons (es nk_z) .nil)))
      refine ⟨_, rfl, 9, rfl, by omega, (Nat.lt_of_lt_of_le (by omega : ((9 : Int)).toNat < 128) (by decide)), fun d2 x2 H2 G2 E2 B2 => ?_⟩
      refine ⟨_, rfl, _, rfl, _, _, rfl, rfl, 14 + more, rfl, by omega, (Nat.lt_of_lt_of_le (by omega : (14 + more).toNat < 128) (by decide)), fun d3 x3 H3 G3 E3 B3 => ?_⟩
      refine ⟨(by show 2 ≤ sizeLine; decide), fun a4 h4 => ?_⟩
      have G4 := Grow.new (o := .tup [.str "give", x3]) h4
      have E4 := enc_new h4 (.cons (es nk_give) (.cons E3 .nil))
      refine ⟨(by show 5 ≤ sizeLine; decide), fun a5 h5 => ?_⟩
      have G5 := Grow.new (o := .tup [.str "if", .ref t1, x2, .ref t2, .ref a4]) h5
      have E5 := enc_new h5 (.cons (es nk_if) (.cons ((((eone.grow G1).grow G2).grow G3).grow G4) (.cons ((E2.grow G3).grow G4) (.cons ((((egive.grow G1).grow G2).grow G3).grow G4) (.cons E4 .nil)))))
      refine ⟨(by show 3 ≤ sizeLine; decide), fun a6 h6 => ?_⟩
      have G6 := Grow.new (o := .tup [.str "M", .ref a1, .ref a5]) h6
      have E6 := enc_new h6 (.cons (es nk_M) (.cons ((((E1.grow G2).grow G3).grow G4).grow G5) (.cons E5 .nil)))
      refine ⟨_, rfl, _, rfl, _, rfl, Nat.zero_le _, fun a7 h7 => ?_⟩
      have G7 := Grow.new (o := .tup []) h7
      have E7 := enc_new h7 .nil
      refine ⟨35, rfl, by omega, (Nat.lt_of_lt_of_le (by omega : ((35 : Int)).toNat < 128) (by decide)), fun d8 x8 H8 G8 E8 B8 => ?_⟩
      refine ⟨(by show 2 ≤ sizeLine; decide), fun a9 h9 => ?_⟩
      have G9 := Grow.new (o := .tup [.str "give", x8]) h9
      have E9 := enc_new h9 (.cons (es nk_give) (.cons E8 .nil))
      refine ⟨(by show 3 ≤ sizeLine; decide), fun a10 h10 => ?_⟩
      have G10 := Grow.new (o := .tup [.str "N", .ref a7, .ref a9]) h10
      have E10 := enc_new h10 (.cons (es nk_N) (.cons ((E7.grow G8).grow G9) (.cons E9 .nil)))
      refine ⟨(by show 3 ≤ sizeLine; decide), fun a11 h11 => ?_⟩
      have G11 := Grow.new (o := .tup [.ref a6, .ref a6, .ref a10]) h11
      have E11 := enc_new h11 (.cons ((((E6.grow G7).grow G8).grow G9).grow G10) (.cons ((((E6.grow G7).grow G8).grow G9).grow G10) (.cons E10 .nil)))
      refine ⟨(by show 3 ≤ sizeLine; decide), fun a12 h12 => ?_⟩
      have G12 := Grow.new (o := .tup [.str "match", .ref t1, .ref a11]) h12
      have E12 := enc_new h12 (.cons (es nk_match) (.cons (((((((((((eone.grow G1).grow G2).grow G3).grow G4).grow G5).grow G6).grow G7).grow G8).grow G9).grow G10).grow G11) (.cons E11 .nil)))
      refine ⟨.tup [.str "match", .tup [.str "num", .int 1], .tup [.tup [.str "M", .tup [.str "x", .str "y", .str "z"], .tup [.str "if", .tup [.str "num", .int 1], d2, .tup [.str "give", .tup [.str "num", .int 1]], .tup [.str "give", d3]]], .tup [.str "M", .tup [.str "x", .str "y", .str "z"], .tup [.str "if", .tup [.str "num", .int 1], d2, .tup [.str "give", .tup [.str "num", .int 1]], .tup [.str "give", d3]]], .tup [.str "N", .tup [], .tup [.str "give", d8]]]], .ref a12, rfl, E12, (⟨(by show 3 ≤ 20; decide), nk_match, bone, (⟨(by show 3 ≤ 20; decide), (⟨(by show 3 ≤ 20; decide), nk_M, (⟨(by show 3 ≤ 20; decide), nk_x, nk_y, nk_z, trivial⟩ : Bd 20 (.tup [.str "x", .str "y", .str "z"])), (⟨(by show 5 ≤ 20; decide), nk_if, bone, B2, bgive, (⟨(by show 2 ≤ 20; decide), nk_give, B3, trivial⟩ : Bd 20 (.tup [.str "give", d3])), trivial⟩ : Bd 20 (.tup [.str "if", .tup [.str "num", .int 1], d2, .tup [.str "give", .tup [.str "num", .int 1]], .tup [.str "give", d3]])), trivial⟩ : Bd 20 (.tup [.str "M", .tup [.str "x", .str "y", .str "z"], .tup [.str "if", .tup [.str "num", .int 1], d2, .tup [.str "give", .tup [.str "num", .int 1]], .tup [.str "give", d3]]])), (⟨(by show 3 ≤ 20; decide), nk_M, (⟨(by show 3 ≤ 20; decide), nk_x, nk_y, nk_z, trivial⟩ : Bd 20 (.tup [.str "x", .str "y", .str "z"])), (⟨(by show 5 ≤ 20; decide), nk_if, bone, B2, bgive, (⟨(by show 2 ≤ 20; decide), nk_give, B3, trivial⟩ : Bd 20 (.tup [.str "give", d3])), trivial⟩ : Bd 20 (.tup [.str "if", .tup [.str "num", .int 1], d2, .tup [.str "give", .tup [.str "num", .int 1]], .tup [.str "give", d3]])), trivial⟩ : Bd 20 (.tup [.str "M", .tup [.str "x", .str "y", .str "z"], .tup [.str "if", .tup [.str "num", .int 1], d2, .tup [.str "give", .tup [.str "num", .int 1]], .tup [.str "give", d3]]])), (⟨(by show 3 ≤ 20; decide), nk_N, (⟨(by show 0 ≤ 20; decide), trivial⟩ : Bd 20 (.tup [])), (⟨(by show 2 ≤ 20; decide), nk_give, B8, trivial⟩ : Bd 20 (.tup [.str "give", d8])), trivial⟩ : Bd 20 (.tup [.str "N", .tup [], .tup [.str "give", d8]])), trivial⟩ : Bd 20 (.tup [.tup [.str "M", .tup [.str "x", .str "y", .str "z"], .tup [.str "if", .tup [.str "num", .int 1], d2, .tup [.str "give", .tup [.str "num", .int 1]], .tup [.str "give", d3]]], .tup [.str "M", .tup [.str "x", .str "y", .str "z"], .tup [.str "if", .tup [.str "num", .int 1], d2, .tup [.str "give", .tup [.str "num", .int 1]], .tup [.str "give", d3]]], .tup [.str "N", .tup [], .tup [.str "give", d8]]])), trivial⟩ : Bd 20 (.tup [.str "match", .tup [.str "num", .int 1], .tup [.tup [.str "M", .tup [.str "x", .str "y", .str "z"], .tup [.str "if", .tup [.str "num", .int 1], d2, .tup [.str "give", .tup [.str "num", .int 1]], .tup [.str "give", d3]]], .tup [.str "M", .tup [.str "x", .str "y", .str "z"], .tup [.str "if", .tup [.str "num", .int 1], d2, .tup [.str "give", .tup [.str "num", .int 1]], .tup [.str "give", d3]]], .tup [.str "N", .tup [], .tup [.str "give", d8]]]])), fun d13 x13 H13 G13 E13 B13 => ?_⟩
      exact fin d13 x13 _ ((((((((((((G1.trans G2).trans G3).trans G4).trans G5).trans G6).trans G7).trans G8).trans G9).trans G10).trans G11).trans G12).trans G13) E13 B13
    refine ⟨_, rfl, (by show 2 ≤ sizeLine; decide), fun q1 hq1 => ⟨q1, _, rfl, .inr (SqT.of upd_same), rfl, rfl, _, rfl, ?_⟩⟩
    have Gq := Grow.new (o := .tup [V.int 14, V.int 15]) hq1
    have eone := eone.grow Gq
    have W3 := W3.grow Gq
    have gg := gg.trans' (Gq.w (w := p))
    have hfin : ∀ d x H', Grow (upd H3 q1 (.tup [V.int 14, V.int 15])) H' → EncT H' d x → Bd 20 d → Q x H' := fun d x H' g => fin d x H' (Gq.trans g)
    have fin := hfin
    clear hfin egive
    generalize upd H3 q1 (.tup [V.int 14, V.int 15]) = H4 at eone W3 gg fin ⊢
    refine ite2 (fun _ => ?_) (fun _ => ?_)
    · refine ⟨_, rfl, p, l, ns, n + 2, 7, rfl, by decide, cdw (by decide) (by decide), W3, by omega, fun sz H5 z0 z1 W5 g5 => ?_⟩
      refine ⟨_, rfl, _, rfl, _, rfl, _, rfl, _, _, rfl, rfl, _, rfl, _, _, rfl, rfl, p, l, ns, n + 3, 29 + more - sz, rfl, W5, by omega, by omega, by omega, fun d6 x6 H6 g6 e6 b6 W6 => ?_⟩
      refine ⟨(by show 2 ≤ sizeLine; decide), fun t7 h7 => ?_⟩
      have G7 := Grow.new (o := .tup [.str "give", x6]) h7
      have E7 := enc_new h7 (.cons (es nk_give) (.cons e6 .nil))
      refine ⟨p, l, ns, n + 43, sz, .tup [.str "give", d6], .ref t7, rfl, (W6.grow G7).more (by omega), z0, by omega, E7, ⟨(by show 2 ≤ 20; decide), nk_give, b6, trivial⟩, by omega, fun d8 x8 H8 g8 e8 b8 W8 => ?_⟩
      refine ⟨d8, x8, rfl, e8, b8, fun d9 x9 H9 g9 e9 b9 => ?_⟩
      exact kq d9 x9 H9 (((((gg.trans' g5).trans' g6).trans' (G7.w (w := p))).trans' g8).trans' g9.w) e9 b9 ((W8.grow g9).more (by omega))
    refine ⟨_, rfl, rfl, _, rfl, ite2 (fun _ => ?_) (fun _ => ?_)⟩
    · refine ⟨_, _, rfl, rfl, ⟨by decide, by decide, by decide⟩, _, _, rfl, rfl, ⟨by decide, by decide, by decide⟩, _, rfl, (by show 2 ≤ sizeLine; decide), fun D hD => ?_⟩
      have hDp : D ≠ p := (W3.np hD).1
      have GD' := Grow.new (o := .lst [V.int (10 ^ Int.toNat 12), V.int (-(10 ^ Int.toNat 12))]) hD
      refine ⟨_, rfl, p, l, ns, n + 2, 2, rfl, by decide, cdw (by decide) (by decide), W3.grow GD', by omega, fun r H5 r0 r1 W5 g5 => ?_⟩
      obtain ⟨b, hb, hb2⟩ : ∃ b : Int, atI [V.int (10 ^ Int.toNat 12), V.int (-(10 ^ Int.toNat 12))] r = some (.int b) ∧ b.natAbs ≤ 1000000000000 := by
        rcases (by omega : r = 0 ∨ r = 1) with rfl | rfl
        · exact ⟨_, at_of (j := 0) rfl rfl, by decide⟩
        · exact ⟨_, at_of (j := 1) rfl rfl, by decide⟩
      refine ⟨D, _, _, _, rfl, rfl, SqL.of (g5.lst hDp upd_same), hb, (by show 2 ≤ sizeLine; decide), fun t6 h6 => ⟨(by show 2 ≤ sizeLine; decide), fun t7 h7 => ?_⟩⟩
      have G6 := Grow.new (o := .tup [.str "num", .int b]) h6
      have G7 := Grow.new (o := .tup [.str "give", .ref t6]) h7
      have E6 := enc_new h6 (.cons (es nk_num) (.cons (.int b) .nil))
      have E7 := enc_new h7 (.cons (es nk_give) (.cons E6 .nil))
      refine ⟨.tup [.str "give", .tup [.str "num", .int b]], _, rfl, E7, ⟨(by show 2 ≤ 20; decide), nk_give, ⟨(by show 2 ≤ 20; decide), nk_num, (by show b.natAbs ≤ _; omega), trivial⟩, trivial⟩, fun d9 x9 H9 g9 e9 b9 => ?_⟩
      exact kq d9 x9 H9 ((((gg.trans' (GD'.w (w := p))).trans' g5).trans' ((G6.trans G7).w (w := p))).trans' g9.w) e9 b9 ((((W5.grow G6).grow G7).grow g9).more (by omega))
    refine ⟨_, _, rfl, rfl, ⟨by decide, by decide, by decide⟩, _, _, rfl, rfl, ⟨by decide, by decide, by decide⟩, _, rfl, (by show 2 ≤ sizeLine; decide), fun D hD => ?_⟩
    have hDp : D ≠ p := (W3.np hD).1
    have GD' := Grow.new (o := .lst [V.int (10 ^ Int.toNat 6), V.int (-(10 ^ Int.toNat 6))]) hD
    refine ⟨_, rfl, p, l, ns, n + 2, 2, rfl, by decide, cdw (by decide) (by decide), W3.grow GD', by omega, fun r H5 r0 r1 W5 g5 => ?_⟩
    obtain ⟨b, hb, hb2⟩ : ∃ b : Int, atI [V.int (10 ^ Int.toNat 6), V.int (-(10 ^ Int.toNat 6))] r = some (.int b) ∧ b.natAbs ≤ 1000000000000 := by
      rcases (by omega : r = 0 ∨ r = 1) with rfl | rfl
      · exact ⟨_, at_of (j := 0) rfl rfl, by decide⟩
      · exact ⟨_, at_of (j := 1) rfl rfl, by decide⟩
    refine ⟨D, _, _, _, rfl, rfl, SqL.of (g5.lst hDp upd_same), hb, _, rfl, (by show 3 ≤ sizeLine; decide), fun t6 h6 => ⟨(by show 2 ≤ sizeLine; decide), fun t7 h7 => ?_⟩⟩
    obtain ⟨y5, hy5⟩ := (W3.grow GD').pl
    have eo := (eone.grow GD').gw g5 hy5
    have G6 := Grow.new (o := .tup [.str "times", .int b, .ref t1]) h6
    have G7 := Grow.new (o := .tup [.str "give", .ref t6]) h7
    have E6 := enc_new h6 (.cons (es nk_times) (.cons (.int b) (.cons eo .nil)))
    have E7 := enc_new h7 (.cons (es nk_give) (.cons E6 .nil))
    refine ⟨.tup [.str "give", .tup [.str "times", .int b, .tup [.str "num", .int 1]]], _, rfl, E7, ⟨(by show 2 ≤ 20; decide), nk_give, ⟨(by show 3 ≤ 20; decide), nk_times, (by show b.natAbs ≤ _; omega), bone, trivial⟩, trivial⟩, fun d9 x9 H9 g9 e9 b9 => ?_⟩
    exact kq d9 x9 H9 ((((gg.trans' (GD'.w (w := p))).trans' g5).trans' ((G6.trans G7).w (w := p))).trans' g9.w) e9 b9 ((((W5.grow G6).grow G7).grow g9).more (by omega))
end
end J1
set_option Elab.async false
set_option linter.all false
set_option maxRecDepth 100000
set_option maxHeartbeats 4000000
namespace J1
open PySem PySem.Spec PyProof.Rows L2 GxR GA HT
section
variable {prog : Program} {w : World} {A : Around} {E : Value → Shared → Prop} {s : Shared}
theorem str_of_bool {b : Bool} {Q : Value → Shared → Prop} (h : Q (.str (if b then "True" else "False") s.toks) { s with toks := s.toks + 1 }) : wpAny (model prog w) A (call (.type "str") [.bool b]) Q E s :=
  callType_new F.called_str (by decide) (F.typeCall_str_1 _) (F.newCall_str_1 _) (fun obj => F.args_object_init_2 obj _) F.entry_str_new
    (meets_str_new (S := fun _ R s => R (.ok (.ret (.str (if b then "True" else "False") s.toks))) { s with toks := s.toks + 1 }) fun _ _ _ _ s hq =>
      wpAny_strOf_gives rfl (PySem.typeIs_bool s b) F.slot_bool_str F.slot_bool_repr F.entry_bool_repr (F.args_bool_repr_1 _) (gives_bool_repr b) hq (hsz := by cases b <;> decide)) ⟨typeIs_str _ _ _, h⟩
end
section
variable {X : Cx}
/-- an int or a truth, and an int -/
def numD : V → Option Int
  | .int i => some i
  | .bl b => some (if b = true then 1 else 0)
  | _ => Option.none
theorem op_addB : OpR X (binaryOp .Add) (fun x y H Q => ∃ i j, numD x = some i ∧ y = .int j ∧ Q (.int (i + j)) H) := by
  intro pins s σ H x y v u Q I rx ry h
  obtain ⟨i, j, hx, rfl, q⟩ := h
  cases x with
  | int k =>
    cases hx
    exact op_add pins s σ H _ _ v u Q I rx ry ⟨_, _, rfl, rfl, q⟩
  | bl b =>
    cases hx
    cases rx
    obtain ⟨t', rfl⟩ := ry
    exact IntBool.add_bool_int ⟨.int _, H, I.tok _, ⟨_, rfl⟩, q⟩
  | _ => cases hx
theorem op_subB : OpR X (binaryOp .Sub) (fun x y H Q => ∃ i j, numD x = some i ∧ y = .int j ∧ Q (.int (i - j)) H) := by
  intro pins s σ H x y v u Q I rx ry h
  obtain ⟨i, j, hx, rfl, q⟩ := h
  cases x with
  | int k =>
    cases hx
    exact op_sub pins s σ H _ _ v u Q I rx ry ⟨_, _, rfl, rfl, q⟩
  | bl b =>
    cases hx
    cases rx
    obtain ⟨t', rfl⟩ := ry
    exact IntBool.sub_bool_int ⟨.int _, H, I.tok _, ⟨_, rfl⟩, q⟩
  | _ => cases hx
theorem call_strB : CallR X (.type "str") (fun xs H Q => ∃ x i, xs = [x] ∧ numD x = some i ∧ i.natAbs.log2 < 1920 ∧ ∀ s : Str, ((∃ k, x = .int k ∧ s = Str.ofString (toString k)) ∨ (∃ b : Bool, x = .bl b ∧ s = (if b = true then ("True" : Str) else ("False" : Str)))) → Q (.str s) H) := by
  intro pins s σ H xs us Q I r h
  obtain ⟨x, i, rfl, hx, hl, q⟩ := h
  obtain ⟨u, rfl, ru⟩ := vals1 r
  cases x with
  | int k =>
    cases hx
    obtain ⟨t, rfl⟩ := ru
    exact PySem.P.str_of_int hl ⟨.str _, H, I.tok _, ⟨_, rfl⟩, q _ (.inl ⟨_, rfl, rfl⟩)⟩
  | bl b =>
    cases ru
    exact str_of_bool ⟨.str _, H, I.tok _, ⟨_, rfl⟩, q _ (.inr ⟨b, rfl, rfl⟩)⟩
  | _ => cases hx
end
section
variable {prog : Program} {w : World} {A : Around} {E : Value → Shared → Prop} {s : Shared}
theorem places_rev (n : Nat) : Builtin.Slice.slicePlaces ((n : Int) - 1) (-1) (-1) = n := by
  unfold Builtin.Slice.slicePlaces
  rw [if_neg (by decide)]
  by_cases h : (n : Int) - 1 > -1
  · rw [if_pos h]
    have e : ((n : Int) - 1 - -1 - 1) / (- -1) + 1 = (n : Int) := by
      rw [show (- -1 : Int) = 1 by decide, Int.ediv_one]
      omega
    rw [e]
    omega
  · rw [if_neg h]
    have : n = 0 := by omega
    subst this
    rfl
theorem sliceApplied_rev {sl : Addr} {vl vu vs : Value} {n : Nat} {Q : Int × Int × Nat → Shared → Prop} (hs : s.heap.IsSliceOf sl vl vu vs) (pl : IsPart vl Option.none) (pu : IsPart vu Option.none) (ps : IsPart vs (some (-1)))
    (h : Q ((n : Int) - 1, -1, n) s) : wpAny (model prog w) A (Builtin.Slice.sliceApplied (.ref sl) (pure (n : Int))) Q E s := by
  obtain ⟨os, hos, hcs, hds⟩ := id hs
  unfold Builtin.Slice.sliceApplied Builtin.Slice.sliceFields
  refine wpAny_bind (wpAny_bind (wpAny_field hos hds (x := vl) rfl (wpAny_bind (wpAny_field hos hds (x := vu) rfl (wpAny_bind (wpAny_field hos hds (x := vs) rfl (wpAny_pure ?_)))))))
  refine wpAny_bind (slicePart_ ps ?_)
  show wpAny _ _ (if ((-1 : Int) == 0) = true then _ else _) _ _ s
  rw [if_neg (by decide)]
  refine wpAny_bind (slicePart_ pl (wpAny_bind (slicePart_ pu (wpAny_bind (wpAny_pure ?_)))))
  show wpAny _ _ (pure ((n : Int) - 1, (-1 : Int), Builtin.Slice.slicePlaces ((n : Int) - 1) (-1) (-1))) _ _ s
  rw [places_rev]
  exact wpAny_pure h
theorem getItem_tuple_rev {t sl : Addr} {items : Array Value} {vl vu vs : Value} {Q : Value → Shared → Prop} (ht : IsTup s.heap t items) (hs : s.heap.IsSliceOf sl vl vu vs) (pl : IsPart vl Option.none) (pu : IsPart vu Option.none) (ps : IsPart vs (some (-1)))
    (h : Q (.ref s.heap.objs.size) { s with heap := s.heap.push { cls := .type "tuple", data := .seq items.toList.reverse.toArray } })
    (hsz : items.size ≤ sizeLine) : wpAny (model prog w) A (getItem (.ref t) (.ref sl)) Q E s := by
  have htake : sizeOk (.seq items.toList.reverse.toArray) := by
    show items.toList.reverse.toArray.size ≤ sizeLine
    rw [List.size_toArray, List.length_reverse, Array.length_toList]
    exact hsz
  obtain ⟨os, hos, hcs, hds⟩ := id hs
  have hTs : s.TypeIs (.ref sl) "slice" := ⟨os, hos, hcs⟩
  unfold getItem
  try with_reducible refine wpAny_holding ?_
  first | refine wpAny_bind (wpAny_pure ?_) | skip
  refine wpAny_bind (wpAny_sequenceKey ht.typeIs (by decide) ?_)
  refine wpAny_bind (wpAny_callSpecial?_slot (name := Str.ofString "__getitem__") ht.typeIs PyProof.Rows.slot_tuple_getitem
    (wpAny_call_entry PyProof.Rows.slot_tuple_getitem ht.typeIs entry_tuple_getitem ?_ (args_tuple_getitem _ _)))
  show wpAny _ _ (Builtin.Tuple.tupleItemsOf (.ref t) >>= _) _ _ s
  refine wpAny_bind (tupleItemsOf_ ht ?_)
  refine wpAny_bind (wpAny_typeOf hTs ?_)
  rw [if_pos (by decide)]
  refine wpAny_bind (sliceApplied_rev hs pl pu ps ?_)
  have hno : ¬ ((((items.size : Int) - 1) == 0 && (-1 : Int) == 1 && items.size == items.size) = true) := by
    intro q
    rw [Bool.and_eq_true, Bool.and_eq_true] at q
    exact absurd q.1.2 (by decide)
  show wpAny _ _ (if (((items.size : Int) - 1) == 0 && (-1 : Int) == 1 && items.size == items.size) = true then _ else _) _ _ s
  have hpick : ((List.range items.size).filterMap fun (m : Nat) => items[(((items.size : Int) - 1) + (m : Int) * -1).toNat]?).toArray = items.toList.reverse.toArray := by
    have e1 : (List.range items.size).filterMap (fun (m : Nat) => items[(((items.size : Int) - 1) + (m : Int) * -1).toNat]?) = ((List.range items.size).map fun k => items.size - 1 - k).filterMap (items[·]?) := by
      rw [List.filterMap_map]
      apply congrArg (fun f => List.filterMap f (List.range items.size))
      funext m
      show items[(((items.size : Int) - 1) + (m : Int) * -1).toNat]? = items[items.size - 1 - m]?
      have : (((items.size : Int) - 1) + (m : Int) * -1).toNat = items.size - 1 - m := by omega
      rw [this]
    rw [e1, PySem.W.krv_range, List.filterMap_reverse, PySem.W.krv_all]
  rw [if_neg hno, hpick]
  first
    | exact wpAny_bind (m := Builtin.Tuple.tupleExact _) (wpAny_newObj_type (wpAny_pure ⟨_, rfl, wpAny_pure h⟩) htake)
    | exact wpAny_bind (m := Builtin.Tuple.tupleExact _) (wpAny_newObj_type (wpAny_bind (wpAny_pure (wpAny_pure ⟨_, rfl, wpAny_pure h⟩))) htake)
    | exact wpAny_bind (wpAny_bind (m := Builtin.Tuple.tupleExact _) (wpAny_newObj_type (wpAny_pure (wpAny_pure ⟨_, rfl, wpAny_pure h⟩)) htake))
    | exact wpAny_bind (wpAny_bind (m := Builtin.Tuple.tupleExact _) (wpAny_newObj_type (wpAny_pure ⟨_, rfl, wpAny_pure h⟩) htake))
end
section
variable {X : Cx}
def tRevT (K : PySem.W.Frag) (te : TE) : TE := fun σ H Q => te σ H fun x H1 => ∃ a xs, x = .ref a ∧ SqT K H1 a xs ∧ ∀ p, H1 p = Option.none → Q (.ref p) (upd H1 p (.tup xs.reverse))
/-- t[::-1] of a tuple -/
theorem pe_revT {e : Expr} {te : TE} {k : Nat} {p1 p2 p3 pos : Pos} (he : PE X e te) : PE X (.Subscript e (.Slice Option.none Option.none (some (.UnaryOp .USub (.Constant (.int 1) k p1) p2)) p3) pos) (tRevT X.K te) := by
  refine ⟨fun pins s σ H Q I h => ?_⟩
  refine Subscript_ (thn (he.run pins s σ H _ I h) fun v s1 ⟨x, H1, I1, r1, q1⟩ => ?_)
  obtain ⟨a, xs, ex, hx, q⟩ := q1
  subst ex
  cases r1
  have hst : PO X (some (.UnaryOp .USub (.Constant (.int 1) k p1) p2)) (tPart (tUn (rU fun i => .int (-i)) (tC (.int 1)))) := po_some (pe_un un_neg pe_int)
  refine wpAny_Slice (thn (po_none.run pins s1 σ H1 (fun o H2 => o = Option.none ∧ H2 = H1) I1 ⟨rfl, rfl⟩) fun vl s2 ⟨l, H2, I2, pl, el, e2⟩ => ?_)
  subst el e2
  refine thn (po_none.run pins s2 σ H2 (fun o H3 => o = Option.none ∧ H3 = H2) I2 ⟨rfl, rfl⟩) fun vu s3 ⟨u, H3, I3, pu, eu, e3⟩ => ?_
  subst eu e3
  refine thn (hst.run pins s3 σ H3 (fun o H4 => o = some (-1) ∧ H4 = H3) I3 ⟨1, rfl, -1, rfl, rfl, rfl⟩) fun vs s4 ⟨o, H4, I4, ps, eo, e4⟩ => ?_
  subst eo e4
  have I5 : Inv X pins σ H4 { s4 with heap := s4.heap.push { cls := .type "slice", data := .fields #[vl, vu, vs] } } := I4.kept (t' := s4.toks) fun b ob q => Heap.get?_push_of_some _ q
  obtain ⟨its, r, ht, hz⟩ := I5.tuple hx
  have hlen := r.length
  show wpAny (model X.prog X.w) X.A (subscriptTail e (.Slice Option.none Option.none (some (.UnaryOp .USub (.Constant (.int 1) k p1) p2)) p3) (.ref a) (.ref s4.heap.objs.size)) (EP X pins σ Q) X.xe { s4 with heap := s4.heap.push { cls := .type "slice", data := .fields #[vl, vu, vs] } }
  refine tail_any (ops := [.ref a, .ref s4.heap.objs.size]) ht.typeIs (PyProof.Rows.slot_tuple_getitem.lookup) ?_ (by with_unfolding_all rfl)
  refine getItem_tuple_rev ht (Heap.IsSliceOf.new _ vl vu vs) pl pu ps ?_ (by rw [List.size_toArray]; omega)
  refine ⟨.ref _, _, I5.laid (t' := s4.toks) (o := .tup xs.reverse) (fun b ob q => Heap.get?_push_of_some _ q) (Nat.le_refl _) ?_, rfl, q _ (I5.hok.fresh (Nat.le_refl _))⟩
  exact ⟨by rw [List.length_reverse]; exact hz, _, r.reverse, IsTup.new _ _⟩
end
end J1
set_option Elab.async false
set_option linter.all false
set_option maxRecDepth 100000
set_option maxHeartbeats 4000000
namespace J1
open PySem PySem.Spec PyProof.Rows L2 GxR GA
theorem up_asc : ∀ c : Fin 128, ((Unicode.upperOf c.val).all fun k => decide (k < 128)) = true := by decide +kernel
theorem lo_asc : ∀ c : Fin 128, ((Unicode.lowerOf c.val).all fun k => decide (k < 128)) = true := by decide +kernel
theorem placed_asc {s : Str} {f : Nat → Nat → List Nat} (h : ∀ i c, s.cps[i]? = some c → ∀ k ∈ f i c, k < 128) : ∀ k ∈ (placed s f).toList, k < 128 := fun k hk => by
  unfold placed at hk
  rw [Array.mem_toList_iff] at hk
  obtain ⟨a, ha, hka⟩ := Array.mem_flatten.mp hk
  obtain ⟨i, hi, rfl⟩ := Array.mem_iff_getElem.mp ha
  rw [Array.getElem_mapIdx] at hka
  rw [Array.size_mapIdx] at hi
  exact h i s.cps[i] (Array.getElem?_eq_getElem hi) k (by simpa using hka)
theorem nok_upper {c : Nat} {s : Str} (h : NOk c s) : NOk (3 * c) (Txt.upper s) := by
  refine ⟨?_, fun k hk => ?_⟩
  · have h1 := len_upper s
    have h2 := h.len
    omega
  · refine placed_asc (fun i c hc k hk => ?_) k hk
    have hm : c ∈ s.cps.toList := by rw [Array.mem_toList_iff]; exact Array.mem_of_getElem? hc
    exact of_decide_eq_true (List.all_eq_true.mp (up_asc ⟨c, h.asc c hm⟩) k hk)
theorem nok_lower {c : Nat} {s : Str} (h : NOk c s) : NOk (3 * c) (Txt.lower s) := by
  refine ⟨?_, fun k hk => ?_⟩
  · have h1 := len_lower s
    have h2 := h.len
    omega
  · refine placed_asc (fun i c hc k hk => ?_) k hk
    have hm : c ∈ s.cps.toList := by rw [Array.mem_toList_iff]; exact Array.mem_of_getElem? hc
    have hl := h.asc c hm
    have e : Unicode.lowerAt s.cps i = Unicode.lowerOf c := by
      unfold Unicode.lowerAt
      rw [hc]
      show (if c == 0x3A3 && Unicode.endsWord s.cps i then [0x3C2] else Unicode.lowerOf c) = _
      have : (c == 0x3A3) = false := by rw [beq_eq_false_iff_ne]; omega
      rw [this, Bool.false_and]
      rfl
    rw [e] at hk
    exact of_decide_eq_true (List.all_eq_true.mp (lo_asc ⟨c, hl⟩) k hk)
theorem nok_int {i : Int} (h : i.natAbs.log2 < 1920) : NOk 1921 (Str.ofString (toString i)) := by
  refine ⟨int_text_len_1921 h, fun k hk => ?_⟩
  by_cases h2 : k < 128
  · exact h2
  · exact absurd hk (int_text_free' k ⟨by omega, by omega⟩ i)
theorem log_of {i : Int} {c : Nat} (hc : c ≤ 5000) (h : i.natAbs ≤ 10000000000000 + c) : i.natAbs.log2 < 1920 := by
  by_cases h0 : i.natAbs = 0
  · rw [h0]; decide
  · have h1 : i.natAbs < 2 ^ 60 := Nat.lt_of_le_of_lt h (Nat.lt_of_le_of_lt (by omega : 10000000000000 + c ≤ 10000000005000) (by decide))
    have := (Nat.log2_lt h0).mpr h1
    omega
/-- t == () -/
def rNilT (K : PySem.W.Frag) : R2 := fun x y H Q => ∃ a b xs, x = .ref a ∧ y = .ref b ∧ SqT K H a xs ∧ SqT K H b [] ∧ Q (.bl xs.isEmpty) H
theorem op_eqNilT {X : Cx} (hu : X.A.units < cLine) : OpR X (compareOp .Eq) (rNilT X.K) := by
  intro pins s σ H x y v u Q I rx ry h
  obtain ⟨a, b, xs, rfl, rfl, ha, hb, q⟩ := h
  obtain rfl : v = .ref a := rx
  obtain rfl : u = .ref b := ry
  obtain ⟨ia, ra, pa, _⟩ := I.tuple ha
  obtain ⟨ib, rb, pb, _⟩ := I.tuple hb
  cases rb
  have e : (ia.length == 0) = xs.isEmpty := by
    rw [← ra.length]
    cases xs <;> rfl
  refine SeqAt.eq_tupleAt (e := fun _ => true) (items := ia.toArray) (items2 := #[]) pa pb hu (fun j _ h2 => absurd h2 (by simp)) ⟨.bl xs.isEmpty, H, I, ?_, q⟩
  show _ = _
  simp
  exact e
end J1
set_option Elab.async false
set_option linter.all false
set_option maxRecDepth 100000
set_option maxHeartbeats 8000000
namespace J1
open PySem PySem.Spec PyProof.Rows L2 GxR GA
abbrev lOd : Stmt := top 65
theorem cOd : FnScope ["_law_thing", "_law_well_here", "_law_odd_here", "_law_at", "_law_sign"] ["_law_thing", "_law_well_here"] (defScope lOd) := ⟨rfl, rfl, rfl, by decide +kernel, rfl, by decide +kernel, by decide +kernel⟩
theorem encs_takeB {B : Addr → Prop} {H : Hp} {l : List Da} {xs : List V} (n : Nat) (e : EncsB B H l xs) : EncsB B H (l.take n) (xs.take n) := encs_take n e
theorem bds_sub {c : Nat} {l m : List Da} (b : Bds c l) (h : ∀ d ∈ m, d ∈ l) : Bds c m := bds_all.mpr fun d hd => bds_all.mp b d (h d hd)
theorem bd_le {c k : Nat} (h : c ≤ k) : ∀ {d : Da}, Bd c d → Bd k d
  | .int i, b => Nat.le_trans (show i.natAbs ≤ 10000000000000 + c from b) (by omega)
  | .str s, b => nok_le b h
  | .tup l, b => ⟨Nat.le_trans b.1 h, bds_all.mpr fun d hd => bd_le h (bds_all.mp b.2 d hd)⟩
  | .lst l, b => ⟨Nat.le_trans b.1 h, bds_all.mpr fun d hd => bd_le h (bds_all.mp b.2 d hd)⟩
  | .non, _ => trivial
  | .bl _, _ => trivial
theorem bds_le {c k : Nat} (h : c ≤ k) {l : List Da} (b : Bds c l) : Bds k l := bds_all.mpr fun d hd => bd_le h (bds_all.mp b d hd)
theorem bds_app {c : Nat} {l m : List Da} (h1 : Bds c l) (h2 : Bds c m) : Bds c (l ++ m) := bds_all.mpr fun d hd => by
  rcases List.mem_append.mp hd with hd | hd
  · exact bds_all.mp h1 d hd
  · exact bds_all.mp h2 d hd
theorem encs_app {B : Addr → Prop} {H : Hp} : ∀ {l m : List Da} {xs ys : List V}, EncsB B H l xs → EncsB B H m ys → EncsB B H (l ++ m) (xs ++ ys)
  | _, _, _, _, .nil, h => h
  | _, _, _, _, .cons h t, k => .cons h (encs_app t k)
theorem encs_rev {B : Addr → Prop} {H : Hp} : ∀ {l : List Da} {xs : List V}, EncsB B H l xs → EncsB B H l.reverse xs.reverse
  | _, _, .nil => .nil
  | _, _, .cons h t => by
    rw [List.reverse_cons, List.reverse_cons]
    exact encs_app (encs_rev t) (.cons h .nil)
/-- t[lo:hi] -/
theorem rd_sl {K : PySem.W.Frag} {B : Addr → Prop} {H : Hp} {a : Addr} {xs : List V} {l : List Da} {lo hi : Option Int} {c : Nat} {Q : VK} (ha : H a = some (.tup xs)) (el : EncsB B H l xs) (b : Bds c l)
    (k : ∀ q ys l' H', Grow H H' → H' q = some (.tup ys) → EncsB B H' l' ys → Bds c l' → l'.length ≤ l.length → Q (.ref q) H') : rSlA K (.ref a) lo hi H Q := by
  refine ⟨a, xs, rfl, SqT.of ha, fun _ => k a xs l H (Grow.refl H) ha el b (Nat.le_refl _), fun _ p hp => ?_⟩
  have g := Grow.new (o := .tup (cutV xs lo hi)) hp
  refine k p _ ((l.drop (HT.sIx xs.length 0 lo)).take (HT.sIx xs.length xs.length hi - HT.sIx xs.length 0 lo)) _ g upd_same ((encs_take _ (encs_drop _ el)).grow g) (bds_sub b fun d hd => List.mem_of_mem_drop (List.mem_of_mem_take hd)) ?_
  rw [List.length_take, List.length_drop]
  omega
/-- t + u -/
theorem rd_cat {K : PySem.W.Frag} {B : Addr → Prop} {H : Hp} {a b : Addr} {xs ys : List V} {l m : List Da} {c : Nat} {Q : VK} (ha : H a = some (.tup xs)) (hb : H b = some (.tup ys)) (el : EncsB B H l xs) (em : EncsB B H m ys) (bl : Bds c l) (bm : Bds c m) (hz : l.length + m.length ≤ 20000)
    (k : ∀ q zs H', Grow H H' → H' q = some (.tup zs) → EncsB B H' (l ++ m) zs → Bds c (l ++ m) → Q (.ref q) H') : rCatA K (.ref a) (.ref b) H Q := by
  have h1 := el.length
  have h2 := em.length
  refine ⟨a, b, xs, ys, rfl, rfl, SqT.of ha, SqT.of hb, by rw [sizeLine_eq]; omega, fun e => ?_, fun _ e => ?_, fun _ _ p hp => ?_⟩
  · subst e
    cases el
    exact k b ys H (Grow.refl H) hb em bm
  · subst e
    cases em
    have e1 : l ++ [] = l := List.append_nil l
    exact k a xs H (Grow.refl H) ha (by rw [e1]; exact el) (by rw [e1]; exact bl)
  · have g := Grow.new (o := .tup (xs ++ ys)) hp
    exact k p _ _ g upd_same ((encs_app el em).grow g) (bds_app bl bm)
theorem pick_b {B : Addr → Prop} {H : Hp} {c : Nat} {ds : List Da} {xs : List V} {r : Int} (e : EncsB B H ds xs) (b : Bds c ds) (h0 : 0 ≤ r) (h1 : r < (xs.length : Nat)) : ∃ d x, atI xs r = some x ∧ EncB B H d x ∧ Bd c d := by
  have hj : r.toNat < xs.length := by omega
  obtain ⟨d, hd, ed⟩ := e.get (List.getElem?_eq_getElem hj)
  exact ⟨d, _, at_of (j := r.toNat) (by omega) (List.getElem?_eq_getElem hj), ed, bds_all.mp b d (List.mem_of_getElem? hd)⟩
theorem EncB.gb {B : Addr → Prop} {w : Addr} {ys : List V} {H H' : Hp} {d : Da} {x : V} (e : EncB B H d x) (nB : ¬ B w) (g : GrowW w H H') (h : H w = some (.lst ys)) : EncB B H' d x := e.growW g nB (noTup h)
theorem EncsB.gb {B : Addr → Prop} {w : Addr} {ys : List V} {H H' : Hp} {l : List Da} {xs : List V} (e : EncsB B H l xs) (nB : ¬ B w) (g : GrowW w H H') (h : H w = some (.lst ys)) : EncsB B H' l xs := e.growW g nB (noTup h)
mutual
theorem EncB.but {B : Addr → Prop} {H : Hp} {D : Addr} (hD : H D = Option.none) : ∀ {d : Da} {x : V}, EncB B H d x → EncB (fun a => B a ∧ a ≠ D) H d x
  | _, _, .non => .non
  | _, _, .bl b => .bl b
  | _, _, .int i => .int i
  | _, _, .str s h => .str s h
  | _, _, .tup h e => .tup h (EncsB.but hD e)
  | _, _, .lst h e b => .lst h (EncsB.but hD e) ⟨b, fun z => by rw [z, hD] at h; cases h⟩
theorem EncsB.but {B : Addr → Prop} {H : Hp} {D : Addr} (hD : H D = Option.none) : ∀ {l : List Da} {xs : List V}, EncsB B H l xs → EncsB (fun a => B a ∧ a ≠ D) H l xs
  | _, _, .nil => .nil
  | _, _, .cons h t => .cons (EncB.but hD h) (EncsB.but hD t)
end
theorem none_of {H H' : Hp} {D : Addr} (g : Grow H H') (h : H' D = Option.none) : H D = Option.none := by
  cases e : H D with
  | none => rfl
  | some o =>
    rcases g D o e with q | ⟨_, ps, q, _⟩
    · rw [h] at q; cases q
    · rw [h] at q; cases q
def spOd : Sp := fun vs H Q _ => ∃ (B : Addr → Prop) (c : Nat) (p l : Addr) (ns : List Int) (n : Nat) (d : Da) (x : V), vs = [x, .ref p] ∧ EncB B H d x ∧ Bd c d ∧ c ≤ 2500 ∧ ¬ B p ∧ (∀ a, H a = Option.none → B a) ∧ Wl H p l ns n ∧ n + 4 ≤ 1000000000000000000000000000000000000000000000000000000000000 ∧
  ∀ d' x' H', EncB B H' d' x' → Bd (3 * c + 1940) d' → Wl H' p l ns (n + 4) → GrowW p H H' → Q x' H'
structure Gd5 (mg : Str → Option Value) : Prop where
  nI : mg "isinstance" = Option.none
  ni : mg "int" = Option.none
  ns : mg "str" = Option.none
  nt : mg "tuple" = Option.none
  len : mg "len" = Option.none
  list : mg "list" = Option.none
  str : mg "str" = Option.none
section
variable {P : Program} {w : World} {K : PySem.W.Frag} {mg : Str → Option Value} {base : Heap}
theorem ok_od {f fD : Addr} {fd fdD : FuncData} (F : Fun K "_law_odd" "_law_odd" lOd f fd) (N : Gd5 mg) (GD : FnOk P w K mg base CX0 1 fD fdD ["_law_well_here", "_law_many"] spDr) (DD : Df K mg "_law_draw" ["_law_well_here", "_law_many"] fD fdD) :
    FnOk P w K mg base CX0 2 f fd ["_law_thing", "_law_well_here"] spOd := by
  refine F.ok (k := 1) cOd (fun vs H Q E h => ?_) (fun cdv A outer s H vs Q E hr h => ?_)
  · obtain ⟨B, c, p, l, ns, n, d, x, rfl, _⟩ := h
    rfl
  · obtain ⟨B, c, p, l, ns, n, d, x, rfl, en, bd, hc, nB, young, W, hn, kq⟩ := h
    obtain ⟨kI, kB, kS, kT⟩ := kitD d
    refine ⟨_, (pss_cons (ps_if (pt_val (pe_callB call_isi (by rfl) N.nI boot_isinstance (pa_cons (pv 0) (pa_cons (pe_bltn (v := .ty "int") rfl N.ni (by decide +kernel) rfl) pa_nil)))) (pss_cons (ps_set (i := 2) cOd.nd rfl (Or.inl rfl) (pe_lst (pa_cons (pe_op op_addB (pv 0) pe_int) (pa_cons (pe_op op_subB (pv 0) pe_int) (pa_cons (pe_op op_addB (pv 0) (pe_call GD hr (by rfl) DD.g DD.k DD.b .nil pass0 (pa_cons (pv 1) (pa_cons pe_int pa_nil)))) (pa_cons (pe_call GD hr (by rfl) DD.g DD.k DD.b .nil pass0 (pa_cons (pv 1) (pa_cons pe_int pa_nil))) (pa_cons pe_int (pa_cons pe_int (pa_cons (pe_un un_neg pe_int) (pa_cons (pe_op op_add (pe_op op_pow pe_int pe_int) pe_int) pa_nil)))))))))) (pss_cons (ps_set (i := 2) cOd.nd rfl (Or.inl rfl) (pe_op op_cat (pv 2) (pe_lst (pa_cons (pe_op op_sub (pe_un un_neg (pe_op op_pow pe_int pe_int)) pe_int) (pa_cons (pe_op op_add (pe_op op_pow pe_int pe_int) pe_int) (pa_cons (pe_op op_sub (pe_un un_neg (pe_op op_pow pe_int pe_int)) pe_int) (pa_cons pe_bl (pa_cons pe_bl (pa_cons (pe_callTy call_strB (by rfl) N.str (by decide +kernel) (pa_cons (pv 0) pa_nil)) (pa_cons pe_non (pa_cons (pe_tup (pa_cons (pv 0) pa_nil)) (pa_cons pe_int (pa_cons pe_int (pa_cons pe_int pa_nil)))))))))))))) (pss_one (ps_ret (pe_ix ix_list (pv 2) (pe_call GD hr (by rfl) DD.g DD.k DD.b .nil pass0 (pa_cons (pv 1) (pa_cons pe_int pa_nil))) (fun _ _ => rfl)))))) pss_nil) (pss_cons (ps_if (pt_val (pe_callB call_isi (by rfl) N.nI boot_isinstance (pa_cons (pv 0) (pa_cons (pe_bltn (v := .ty "str") rfl N.ns (by decide +kernel) rfl) pa_nil)))) (pss_cons (ps_set (i := 2) cOd.nd rfl (Or.inl rfl) (pe_lst (pa_cons (pe_op op_add_str (pv 0) pe_str) (pa_cons (pe_slice sl_str (pv 0) po_none (po_some (pe_un un_neg pe_int))) (pa_cons (pe_slice sl_str (pv 0) (po_some pe_int) po_none) (pa_cons (pe_bm0 PySem.F.plainAttrs_str PySem.F.slot_str_upper PySem.F.type_str_upper mt_upper (pv 0)) (pa_cons (pe_bm0 PySem.F.plainAttrs_str PySem.F.slot_str_lower PySem.F.type_str_lower mt_lower (pv 0)) (pa_cons pe_str (pa_cons pe_str (pa_cons pe_non (pa_cons pe_int (pa_cons (pe_tup (pa_cons (pv 0) pa_nil)) (pa_cons pe_str pa_nil))))))))))))) (pss_cons (ps_set (i := 2) cOd.nd rfl (Or.inl rfl) (pe_op op_cat (pv 2) (pe_lst (pa_cons pe_str (pa_cons pe_str (pa_cons pe_str (pa_cons pe_str (pa_cons pe_str (pa_cons pe_str (pa_cons pe_str (pa_cons pe_str (pa_cons pe_str (pa_cons pe_str (pa_cons (pe_op op_add_str (pv 0) pe_str) pa_nil)))))))))))))) (pss_cons (ps_set (i := 3) cOd.nd rfl (Or.inl rfl) (pe_call GD hr (by rfl) DD.g DD.k DD.b .nil pass0 (pa_cons (pv 1) (pa_cons (pe_op op_add (pe_callB call_len (by rfl) N.len PySem.boot_len (pa_cons (pv 0) pa_nil)) pe_int) pa_nil)))) (pss_cons (ps_set (i := 4) cOd.nd rfl (Or.inl rfl) (pe_ix ix_str pe_str (pe_call GD hr (by rfl) DD.g DD.k DD.b .nil pass0 (pa_cons (pv 1) (pa_cons pe_int pa_nil))) (fun _ _ => rfl))) (pss_one (ps_ret (pe_ix ix_list (pe_op op_cat (pv 2) (pe_lst (pa_cons (pe_op op_add_str (pe_op op_add_str (pe_slice sl_str (pv 0) po_none (po_some (pv 3))) (pv 4)) (pe_slice sl_str (pv 0) (po_some (pv 3)) po_none)) (pa_cons (pe_op op_add_str (pe_op op_add_str (pe_slice sl_str (pv 0) po_none (po_some (pv 3))) (pv 4)) (pe_slice sl_str (pv 0) (po_some (pe_op op_add (pv 3) pe_int)) po_none)) pa_nil)))) (pe_call GD hr (by rfl) DD.g DD.k DD.b .nil pass0 (pa_cons (pv 1) (pa_cons pe_int pa_nil))) (fun _ _ => rfl)))))))) pss_nil) (pss_cons (ps_if (pt_not (pt_val (pe_callB call_isi (by rfl) N.nI boot_isinstance (pa_cons (pv 0) (pa_cons (pe_bltn (v := .ty "tuple") rfl N.nt (by decide +kernel) rfl) pa_nil))))) (pss_one (ps_ret (pe_ix ix_list (pe_lst (pa_cons pe_non (pa_cons pe_int (pa_cons (pe_tup pa_nil) (pa_cons pe_str (pa_cons (pe_tup (pa_cons pe_str (pa_cons pe_int (pa_cons pe_int pa_nil)))) pa_nil)))))) (pe_call GD hr (by rfl) DD.g DD.k DD.b .nil pass0 (pa_cons (pv 1) (pa_cons pe_int pa_nil))) (fun _ _ => rfl)))) pss_nil) (pss_cons (ps_set (i := 2) cOd.nd rfl (Or.inl rfl) (pe_lst (pa_cons (pe_callTy call_list_of (by rfl) N.list (by decide +kernel) (pa_cons (pv 0) pa_nil)) (pa_cons (pe_slice sl_tupA (pv 0) po_none (po_some (pe_un un_neg pe_int))) (pa_cons (pe_slice sl_tupA (pv 0) (po_some pe_int) po_none) (pa_cons (pe_op op_catA (pv 0) (pe_slice sl_tupA (pv 0) po_none (po_some pe_int))) (pa_cons (pe_revT (pv 0)) (pa_cons (pe_tup pa_nil) (pa_cons pe_non (pa_cons pe_int (pa_cons pe_str (pa_cons pe_bl (pa_cons (pe_op op_catA (pe_slice sl_tupA (pv 0) po_none (po_some pe_int)) (pv 0)) pa_nil))))))))))))) (C8.pss_cut (ps_if (pt_cmpR op_gt (pe_callB call_len (by rfl) N.len PySem.boot_len (pa_cons (pv 0) pa_nil)) pe_int (nomark _)) (pss_cons (ps_set (i := 3) cOd.nd rfl (Or.inl rfl) (pe_call GD hr (by rfl) DD.g DD.k DD.b .nil pass0 (pa_cons (pv 1) (pa_cons (pe_op op_sub (pe_callB call_len (by rfl) N.len PySem.boot_len (pa_cons (pv 0) pa_nil)) pe_int) pa_nil)))) (pss_cons (ps_expr (pe_bm PySem.F.plainAttrs_list PySem.F.slot_list_append PySem.F.type_list_append mt_append (pv 2) (pa_cons (pe_op op_catA (pe_op op_catA (pe_slice sl_tupA (pv 0) po_none (po_some (pv 3))) (pe_tup (pa_cons (pe_ix ix_tup (pv 0) (pe_op op_add (pv 3) pe_int) (fun _ _ => rfl)) (pa_cons (pe_ix ix_tup (pv 0) (pv 3) (fun _ _ => rfl)) pa_nil)))) (pe_slice sl_tupA (pv 0) (po_some (pe_op op_add (pv 3) pe_int)) po_none)) pa_nil))) (pss_one (ps_expr (pe_bm PySem.F.plainAttrs_list PySem.F.slot_list_append PySem.F.type_list_append mt_append (pv 2) (pa_cons (pe_op op_catA (pe_slice sl_tupA (pv 0) po_none (po_some (pv 3))) (pe_slice sl_tupA (pv 0) (po_some (pe_op op_add (pv 3) pe_int)) po_none)) pa_nil)))))) pss_nil) (pss_one (ps_ret (pe_ix ix_list (pv 2) (pe_call GD hr (by rfl) DD.g DD.k DD.b .nil pass0 (pa_cons (pv 1) (pa_cons (pe_callB call_len_seq (by rfl) N.len PySem.boot_len (pa_cons (pv 2) pa_nil)) pa_nil))) (fun _ _ => rfl))))))))), ?_⟩
    refine ⟨_, rfl, _, _, _, _, _, rfl, .ty "int", en.ty, kit_ty kI, _, rfl, ?_⟩
    have ndp : ∀ {q : Addr} {H' : Hp}, Wl H' p l ns n → H' q = Option.none → q ≠ p := fun W h => (W.np h).1
    cases hbI : bI d with
    | true =>
      refine iteT ?_
      obtain ⟨v, hv, hv2⟩ : ∃ v : Int, numD x = some v ∧ v.natAbs ≤ 10000000000000 + c := by
        cases en with
        | int i => exact ⟨i, rfl, bd⟩
        | bl b => exact ⟨_, rfl, by cases b <;> simp <;> omega⟩
        | _ => cases hbI
      refine ⟨_, rfl, _, _, hv, rfl, _, rfl, _, _, hv, rfl, _, rfl, _, rfl, p, l, ns, n, 9, rfl, by decide, cdw (by decide) (by decide), W, by omega, fun r1 H1 a1 b1 W1 u1 => ?_⟩
      refine ⟨_, _, hv, rfl, _, rfl, p, l, ns, n + 1, 40, rfl, by decide, cdw (by decide) (by decide), W1, by omega, fun r2 H2 a2 b2 W2 u2 => ?_⟩
      refine ⟨_, rfl, _, _, rfl, rfl, ⟨by decide, by decide, by decide⟩, _, _, rfl, rfl, (by show 8 ≤ sizeLine; decide), fun D1 hD1 => ?_⟩
      have g1 := Grow.new (o := .lst [.int (v + 1), .int (v - 1), .int (v + r1), .int r2, .int 399, .int 400, .int (-1), .int (10 ^ Int.toNat 12 + 1)]) hD1
      refine ⟨_, rfl, _, _, rfl, rfl, ⟨by decide, by decide, by decide⟩, _, rfl, _, _, rfl, rfl, _, _, rfl, rfl, ⟨by decide, by decide, by decide⟩, _, _, rfl, rfl, _, _, rfl, rfl, ⟨by decide, by decide, by decide⟩, _, rfl, _, _, rfl, rfl, _, rfl, x, v, rfl, hv, log_of (by omega) hv2, fun sx hsx => ?_⟩
      have nsx : NOk 1921 sx := by
        rcases hsx with ⟨k, rfl, rfl⟩ | ⟨b, rfl, rfl⟩
        · cases hv
          exact nok_int (log_of (by omega) hv2)
        · cases b
          · exact nk (by decide +kernel)
          · exact nk (by decide +kernel)
      refine ⟨_, rfl, (by show 1 ≤ sizeLine; decide), fun t1 ht1 => ⟨(by show 11 ≤ sizeLine; decide), fun D2 hD2 => ?_⟩⟩
      have u12 := u1.trans' u2
      obtain ⟨yw, hyw⟩ := W.pl
      have en2 := en.gb nB u12 hyw
      have W3 := W2.grow g1
      have en3 := en2.grow g1
      have hDs : upd H2 D1 (.lst [.int (v + 1), .int (v - 1), .int (v + r1), .int r2, .int 399, .int 400, .int (-1), .int (10 ^ Int.toNat 12 + 1)]) D1 = some (.lst [.int (v + 1), .int (v - 1), .int (v + r1), .int r2, .int 399, .int 400, .int (-1), .int (10 ^ Int.toNat 12 + 1)]) := upd_same
      generalize upd H2 D1 (.lst [.int (v + 1), .int (v - 1), .int (v + r1), .int r2, .int 399, .int 400, .int (-1), .int (10 ^ Int.toNat 12 + 1)]) = H3 at g1 W3 en3 hDs ht1 hD2 ⊢
      have g2 := Grow.new (o := .tup [x]) ht1
      have g3 := Grow.new (o := .lst [.int (-(10 ^ Int.toNat 12) - 1), .int (10 ^ Int.toNat 6 + 1), .int (-(10 ^ Int.toNat 6) - 1), .bl true, .bl false, .str sx, .non, .ref t1, .int 0, .int 239, .int 240]) hD2
      refine ⟨D1, D2, _, _, rfl, rfl, (g2.trans g3).lst hDs, upd_same, (by rw [sizeLine_eq]; show 8 + 11 ≤ 16777216; decide), fun R hR => ?_⟩
      have eT : EncB B _ (.tup [d]) (.ref t1) := .tup (upd_same (H := H3) (a := t1) (o := .tup [x])) (.cons (en3.grow g2) .nil)
      have g4 := Grow.new (o := .lst ([V.int (v + 1), .int (v - 1), .int (v + r1), .int r2, .int 399, .int 400, .int (-1), .int (10 ^ Int.toNat 12 + 1)] ++ [.int (-(10 ^ Int.toNat 12) - 1), .int (10 ^ Int.toNat 6 + 1), .int (-(10 ^ Int.toNat 6) - 1), .bl true, .bl false, .str sx, .non, .ref t1, .int 0, .int 239, .int 240])) hR
      have eT := (eT.grow g3).grow g4
      have W4 := ((W3.grow g2).grow g3).grow g4
      have hRs : upd _ R _ R = some _ := upd_same (H := upd (upd H3 t1 (.tup [x])) D2 (.lst [.int (-(10 ^ Int.toNat 12) - 1), .int (10 ^ Int.toNat 6 + 1), .int (-(10 ^ Int.toNat 6) - 1), .bl true, .bl false, .str sx, .non, .ref t1, .int 0, .int 239, .int 240])) (a := R) (o := .lst ([V.int (v + 1), .int (v - 1), .int (v + r1), .int r2, .int 399, .int 400, .int (-1), .int (10 ^ Int.toNat 12 + 1)] ++ [.int (-(10 ^ Int.toNat 12) - 1), .int (10 ^ Int.toNat 6 + 1), .int (-(10 ^ Int.toNat 6) - 1), .bl true, .bl false, .str sx, .non, .ref t1, .int 0, .int 239, .int 240]))
      have hRp : R ≠ p := (((W3.grow g2).grow g3).np hR).1
      have u3 := u12.trans' ((((g1.trans g2).trans g3).trans g4).w (w := p))
      have ns' : SOk sx := nsx.s (by decide)
      have eL : EncsB B _ [.int (v + 1), .int (v - 1), .int (v + r1), .int r2, .int 399, .int 400, .int (-1), .int (10 ^ Int.toNat 12 + 1), .int (-(10 ^ Int.toNat 12) - 1), .int (10 ^ Int.toNat 6 + 1), .int (-(10 ^ Int.toNat 6) - 1), .bl true, .bl false, .str sx, .non, .tup [d], .int 0, .int 239, .int 240] _ :=
        .cons (.int _) (.cons (.int _) (.cons (.int _) (.cons (.int _) (.cons (.int _) (.cons (.int _) (.cons (.int _) (.cons (.int _) (.cons (.int _) (.cons (.int _) (.cons (.int _) (.cons (.bl _) (.cons (.bl _) (.cons (.str _ ns') (.cons .non (.cons eT (.cons (.int _) (.cons (.int _) (.cons (.int _) .nil))))))))))))))))))
      have bi : ∀ {i : Int}, i.natAbs ≤ 10000000000000 + c + 50 → Bd (3 * c + 1940) (.int i) := fun h => Nat.le_trans h (by omega)
      have bL : Bds (3 * c + 1940) [.int (v + 1), .int (v - 1), .int (v + r1), .int r2, .int 399, .int 400, .int (-1), .int (10 ^ Int.toNat 12 + 1), .int (-(10 ^ Int.toNat 12) - 1), .int (10 ^ Int.toNat 6 + 1), .int (-(10 ^ Int.toNat 6) - 1), .bl true, .bl false, .str sx, .non, .tup [d], .int 0, .int 239, .int 240] :=
        ⟨bi (by omega), bi (by omega), bi (by omega), bi (by omega), bi (by omega), bi (by omega), bi (by omega), bi (Nat.le_trans (by decide : (10 ^ Int.toNat 12 + 1 : Int).natAbs ≤ 10000000000000) (by omega)), bi (Nat.le_trans (by decide : (-(10 ^ Int.toNat 12) - 1 : Int).natAbs ≤ 10000000000000) (by omega)), bi (Nat.le_trans (by decide : (10 ^ Int.toNat 6 + 1 : Int).natAbs ≤ 10000000000000) (by omega)), bi (Nat.le_trans (by decide : (-(10 ^ Int.toNat 6) - 1 : Int).natAbs ≤ 10000000000000) (by omega)), trivial, trivial, nok_le nsx (by omega), trivial, ⟨(by show 1 ≤ 3 * c + 1940; omega), bd_le (by omega) bd, trivial⟩, bi (by omega), bi (by omega), bi (by omega), trivial⟩
      refine ⟨_, rfl, _, rfl, p, l, ns, n + 2, 19, rfl, by decide, cdw (by decide) (by decide), W4, by omega, fun r Hf ra rb Wf gf => ?_⟩
      obtain ⟨y4, hy4⟩ := W4.pl
      obtain ⟨dn, xn, hat, een, bn⟩ := pick_b (eL.gb nB gf hy4) bL ra (by show r < 19; exact rb)
      exact ⟨R, _, _, _, rfl, rfl, SqL.of (gf.lst hRp hRs), hat, kq dn xn _ een bn (Wf.more (by omega)) (u3.trans' gf)⟩
    | false =>
      refine iteF ⟨_, rfl, _, _, _, _, _, rfl, .ty "str", en.ty, kit_ty kS, _, rfl, ?_⟩
      cases hbS : bS d with
      | true =>
        cases en with
        | str z hz =>
          have bz : NOk c z := bd
          have hzl : z.length ≤ sizeLine := by have := bz.len; rw [sizeLine_eq]; omega
          refine iteT ?_
          have lx : z.length + ("x" : Str).length ≤ sizeLine := by have := bz.len; show z.length + 1 ≤ _; rw [sizeLine_eq]; omega
          have l9 : z.length + ("0123456789" : Str).length ≤ sizeLine := by have := bz.len; show z.length + 10 ≤ _; rw [sizeLine_eq]; omega
          have l5 : z.length ≤ 5592405 := by have := bz.len; omega
          refine ⟨_, rfl, _, _, rfl, rfl, lx, _, rfl, _, rfl, _, rfl, z, rfl, hzl, _, rfl, _, rfl, z, rfl, hzl, _, rfl, rfl, _, rfl, rfl, l5, _, rfl, rfl, _, rfl, rfl, l5, _, rfl, (by show 1 ≤ sizeLine; decide), fun t1 ht1 => ⟨(by show 11 ≤ sizeLine; decide), fun D1 hD1 => ?_⟩⟩
          have g1 := Grow.new (o := .tup [.str z]) ht1
          have e1 : EncB B _ (.tup [.str z]) (.ref t1) := .tup (upd_same (H := H) (a := t1) (o := .tup [.str z])) (.cons (.str z hz) .nil)
          have g2 := Grow.new (o := .lst [.str (z ++ "x"), .str (cutS z Option.none (some (-1))), .str (cutS z (some 1) Option.none), .str (Txt.upper z), .str (Txt.lower z), .str "whole", .str "", .non, .int 0, .ref t1, .str "let"]) hD1
          refine ⟨_, rfl, _, rfl, _, _, rfl, rfl, l9, (by show 11 ≤ sizeLine; decide), fun D2 hD2 => ?_⟩
          have g3 := Grow.new (o := .lst [.str "num", .str "add", .str "sub", .str "times", .str "make", .str "call", .str "less", .str "match", .str "give", .str "go", .str (z ++ "0123456789")]) hD2
          have q2 : upd (upd (upd H t1 (.tup [.str z])) D1 (.lst [.str (z ++ "x"), .str (cutS z Option.none (some (-1))), .str (cutS z (some 1) Option.none), .str (Txt.upper z), .str (Txt.lower z), .str "whole", .str "", .non, .int 0, .ref t1, .str "let"])) D2 (.lst [.str "num", .str "add", .str "sub", .str "times", .str "make", .str "call", .str "less", .str "match", .str "give", .str "go", .str (z ++ "0123456789")]) D1 = some (.lst [.str (z ++ "x"), .str (cutS z Option.none (some (-1))), .str (cutS z (some 1) Option.none), .str (Txt.upper z), .str (Txt.lower z), .str "whole", .str "", .non, .int 0, .ref t1, .str "let"]) := g3.lst upd_same
          refine ⟨D1, D2, _, _, rfl, rfl, q2, upd_same, (by rw [sizeLine_eq]; show 11 + 11 ≤ 16777216; decide), fun R hR => ?_⟩
          have g4 := Grow.new (o := .lst ([V.str (z ++ "x"), .str (cutS z Option.none (some (-1))), .str (cutS z (some 1) Option.none), .str (Txt.upper z), .str (Txt.lower z), .str "whole", .str "", .non, .int 0, .ref t1, .str "let"] ++ [.str "num", .str "add", .str "sub", .str "times", .str "make", .str "call", .str "less", .str "match", .str "give", .str "go", .str (z ++ "0123456789")])) hR
          have gg := ((g1.trans g2).trans g3).trans g4
          have e1 := (((e1.grow g2).grow g3).grow g4)
          have W4 := W.grow gg
          have hRp : R ≠ p := ((W.grow ((g1.trans g2).trans g3)).np hR).1
          have hRs := upd_same (H := upd (upd (upd H t1 (.tup [.str z])) D1 (.lst [.str (z ++ "x"), .str (cutS z Option.none (some (-1))), .str (cutS z (some 1) Option.none), .str (Txt.upper z), .str (Txt.lower z), .str "whole", .str "", .non, .int 0, .ref t1, .str "let"])) D2 (.lst [.str "num", .str "add", .str "sub", .str "times", .str "make", .str "call", .str "less", .str "match", .str "give", .str "go", .str (z ++ "0123456789")])) (a := R) (o := .lst ([V.str (z ++ "x"), .str (cutS z Option.none (some (-1))), .str (cutS z (some 1) Option.none), .str (Txt.upper z), .str (Txt.lower z), .str "whole", .str "", .non, .int 0, .ref t1, .str "let"] ++ [.str "num", .str "add", .str "sub", .str "times", .str "make", .str "call", .str "less", .str "match", .str "give", .str "go", .str (z ++ "0123456789")]))
          generalize upd (upd (upd (upd H t1 (.tup [.str z])) D1 (.lst [.str (z ++ "x"), .str (cutS z Option.none (some (-1))), .str (cutS z (some 1) Option.none), .str (Txt.upper z), .str (Txt.lower z), .str "whole", .str "", .non, .int 0, .ref t1, .str "let"])) D2 (.lst [.str "num", .str "add", .str "sub", .str "times", .str "make", .str "call", .str "less", .str "match", .str "give", .str "go", .str (z ++ "0123456789")])) R (.lst ([V.str (z ++ "x"), .str (cutS z Option.none (some (-1))), .str (cutS z (some 1) Option.none), .str (Txt.upper z), .str (Txt.lower z), .str "whole", .str "", .non, .int 0, .ref t1, .str "let"] ++ [.str "num", .str "add", .str "sub", .str "times", .str "make", .str "call", .str "less", .str "match", .str "give", .str "go", .str (z ++ "0123456789")])) = H4 at e1 W4 hRs gg ⊢
          clear g1 g2 g3 g4 q2
          refine ⟨_, rfl, _, rfl, _, _, rfl, ⟨hzl, rfl⟩, _, _, rfl, rfl, p, l, ns, n, ((z.length : Nat) : Int) + 1, rfl, by omega, cdw (by omega) (Nat.lt_of_le_of_lt (by have := bz.len; omega : (((z.length : Nat) : Int) + 1).natAbs ≤ 2501) (Nat.lt_of_lt_of_le (by decide : 2501 < 2 ^ 12) (Nat.pow_le_pow_right (by decide) (by decide)))), W4, by omega, fun ai H5 a5 b5 W5 g5 => ?_⟩
          refine ⟨_, rfl, p, l, ns, n + 1, 7, rfl, by decide, cdw (by decide) (by decide), W5, by omega, fun si H6 a6 b6 W6 g6 => ?_⟩
          obtain ⟨sg, hsg, hsg2⟩ : ∃ sg : Nat, atI ("_ -(.+~" : Str).cps.toList si = some sg ∧ sg < 128 := by
            have hl7 : ("_ -(.+~" : Str).cps.toList.length = 7 := by decide +kernel
            have ha7 : (("_ -(.+~" : Str).cps.toList.all fun k => decide (k < 128)) = true := by decide +kernel
            have hj : si.toNat < ("_ -(.+~" : Str).cps.toList.length := by omega
            exact ⟨_, at_g (j := si.toNat) (v := ("_ -(.+~" : Str).cps.toList[si.toNat]) (by omega) (List.getElem?_eq_getElem hj), of_decide_eq_true (List.all_eq_true.mp ha7 _ (List.getElem_mem hj))⟩
          refine ⟨_, _, sg, rfl, rfl, (by show 7 ≤ sizeLine; decide), hsg, ?_⟩
          have nsg : NOk 1 ⟨#[sg]⟩ := nok_one hsg2
          have nc1 : NOk c (cutS z Option.none (some ai)) := nok_cut bz
          have nc2 : NOk c (cutS z (some ai) Option.none) := nok_cut bz
          have nc3 : NOk c (cutS z (some (ai + 1)) Option.none) := nok_cut bz
          have na := nok_app nc1 nsg
          have n1 := nok_app na nc2
          have n2 := nok_app na nc3
          have z1 : (cutS z Option.none (some ai)).length + (⟨#[sg]⟩ : Str).length ≤ sizeLine := by have h1 := nc1.len; have h2 := nsg.len; rw [sizeLine_eq]; omega
          have z2 : (cutS z Option.none (some ai) ++ ⟨#[sg]⟩).length + (cutS z (some ai) Option.none).length ≤ sizeLine := by have h1 := na.len; have h2 := nc2.len; rw [sizeLine_eq]; omega
          have z3 : (cutS z Option.none (some ai) ++ ⟨#[sg]⟩).length + (cutS z (some (ai + 1)) Option.none).length ≤ sizeLine := by have h1 := na.len; have h2 := nc3.len; rw [sizeLine_eq]; omega
          have g56 := g5.trans' g6
          obtain ⟨y4, hy4⟩ := W4.pl
          have e6 := e1.gb nB g56 hy4
          have hR6 := g56.lst hRp hRs
          refine ⟨_, rfl, _, rfl, _, rfl, _, rfl, z, rfl, hzl, _, rfl, _, _, rfl, rfl, z1, _, rfl, _, rfl, _, rfl, z, rfl, hzl, _, _, rfl, rfl, z2, _, rfl, _, rfl, _, rfl, z, rfl, hzl, _, rfl, _, _, rfl, rfl, z1, _, rfl, _, rfl, _, _, rfl, rfl, _, rfl, z, rfl, hzl, _, _, rfl, rfl, z3, (by show 2 ≤ sizeLine; decide), fun D3 hD3 => ?_⟩
          have g7 := Grow.new (o := .lst [V.str (cutS z Option.none (some ai) ++ ⟨#[sg]⟩ ++ cutS z (some ai) Option.none), V.str (cutS z Option.none (some ai) ++ ⟨#[sg]⟩ ++ cutS z (some (ai + 1)) Option.none)]) hD3
          refine ⟨R, D3, _, _, rfl, rfl, g7.lst hR6, upd_same, (by rw [sizeLine_eq]; show 22 + 2 ≤ 16777216; decide), fun R2 hR2 => ?_⟩
          have g8 := Grow.new (o := .lst (([V.str (z ++ "x"), .str (cutS z Option.none (some (-1))), .str (cutS z (some 1) Option.none), .str (Txt.upper z), .str (Txt.lower z), .str "whole", .str "", .non, .int 0, .ref t1, .str "let"] ++ [.str "num", .str "add", .str "sub", .str "times", .str "make", .str "call", .str "less", .str "match", .str "give", .str "go", .str (z ++ "0123456789")]) ++ [V.str (cutS z Option.none (some ai) ++ ⟨#[sg]⟩ ++ cutS z (some ai) Option.none), V.str (cutS z Option.none (some ai) ++ ⟨#[sg]⟩ ++ cutS z (some (ai + 1)) Option.none)])) hR2
          have e8 := (e6.grow g7).grow g8
          have W8 := (W6.grow g7).grow g8
          have hR2p : R2 ≠ p := ((W6.grow g7).np hR2).1
          have lits : NOk 20 "let" ∧ NOk 20 "add" ∧ NOk 20 "sub" ∧ NOk 20 "less" ∧ NOk 20 "go" ∧ NOk 20 "" ∧ NOk 10 "0123456789" := ⟨nk_let, nk (by decide +kernel), nk (by decide +kernel), nk (by decide +kernel), nk (by decide +kernel), nk (by decide +kernel), nk (by decide +kernel)⟩
          obtain ⟨qlet, qadd, qsub, qless, qgo, qem, qdig⟩ := lits
          have nzx := nok_app bz (nk (by decide +kernel) : NOk 1 "x")
          have nz9 := nok_app bz qdig
          have enc : ∀ {k : Nat} {w : Str}, NOk k w → k ≤ 10000 → EncB B (upd (upd H6 D3 (.lst [V.str (cutS z Option.none (some ai) ++ ⟨#[sg]⟩ ++ cutS z (some ai) Option.none), V.str (cutS z Option.none (some ai) ++ ⟨#[sg]⟩ ++ cutS z (some (ai + 1)) Option.none)])) R2 (.lst (([V.str (z ++ "x"), .str (cutS z Option.none (some (-1))), .str (cutS z (some 1) Option.none), .str (Txt.upper z), .str (Txt.lower z), .str "whole", .str "", .non, .int 0, .ref t1, .str "let"] ++ [.str "num", .str "add", .str "sub", .str "times", .str "make", .str "call", .str "less", .str "match", .str "give", .str "go", .str (z ++ "0123456789")]) ++ [V.str (cutS z Option.none (some ai) ++ ⟨#[sg]⟩ ++ cutS z (some ai) Option.none), V.str (cutS z Option.none (some ai) ++ ⟨#[sg]⟩ ++ cutS z (some (ai + 1)) Option.none)]))) (.str w) (.str w) := fun h hk => .str _ (h.s hk)
          have eL : EncsB B _ ([.str (z ++ "x"), .str (cutS z Option.none (some (-1))), .str (cutS z (some 1) Option.none), .str (Txt.upper z), .str (Txt.lower z), .str "whole", .str "", .non, .int 0, .tup [.str z], .str "let"] ++ [.str "num", .str "add", .str "sub", .str "times", .str "make", .str "call", .str "less", .str "match", .str "give", .str "go", .str (z ++ "0123456789")] ++ [.str (cutS z Option.none (some ai) ++ ⟨#[sg]⟩ ++ cutS z (some ai) Option.none), .str (cutS z Option.none (some ai) ++ ⟨#[sg]⟩ ++ cutS z (some (ai + 1)) Option.none)]) (([V.str (z ++ "x"), .str (cutS z Option.none (some (-1))), .str (cutS z (some 1) Option.none), .str (Txt.upper z), .str (Txt.lower z), .str "whole", .str "", .non, .int 0, .ref t1, .str "let"] ++ [.str "num", .str "add", .str "sub", .str "times", .str "make", .str "call", .str "less", .str "match", .str "give", .str "go", .str (z ++ "0123456789")]) ++ [V.str (cutS z Option.none (some ai) ++ ⟨#[sg]⟩ ++ cutS z (some ai) Option.none), V.str (cutS z Option.none (some ai) ++ ⟨#[sg]⟩ ++ cutS z (some (ai + 1)) Option.none)]) :=
            .cons (enc nzx (by omega)) (.cons (enc (nok_cut bz) (by omega)) (.cons (enc (nok_cut bz) (by omega)) (.cons (enc (nok_upper bz) (by omega)) (.cons (enc (nok_lower bz) (by omega)) (.cons (enc nk_whole (by omega)) (.cons (enc qem (by omega)) (.cons .non (.cons (.int 0) (.cons e8 (.cons (enc qlet (by omega))
            (.cons (enc nk_num (by omega)) (.cons (enc qadd (by omega)) (.cons (enc qsub (by omega)) (.cons (enc nk_times (by omega)) (.cons (enc nk_make (by omega)) (.cons (enc nk_call (by omega)) (.cons (enc qless (by omega)) (.cons (enc nk_match (by omega)) (.cons (enc nk_give (by omega)) (.cons (enc qgo (by omega)) (.cons (enc nz9 (by omega))
            (.cons (enc n1 (by omega)) (.cons (enc n2 (by omega)) .nil)))))))))))))))))))))))
          have bL : Bds (3 * c + 1940) ([.str (z ++ "x"), .str (cutS z Option.none (some (-1))), .str (cutS z (some 1) Option.none), .str (Txt.upper z), .str (Txt.lower z), .str "whole", .str "", .non, .int 0, .tup [.str z], .str "let"] ++ [.str "num", .str "add", .str "sub", .str "times", .str "make", .str "call", .str "less", .str "match", .str "give", .str "go", .str (z ++ "0123456789")] ++ [.str (cutS z Option.none (some ai) ++ ⟨#[sg]⟩ ++ cutS z (some ai) Option.none), .str (cutS z Option.none (some ai) ++ ⟨#[sg]⟩ ++ cutS z (some (ai + 1)) Option.none)]) :=
            ⟨nok_le nzx (by omega), nok_le (nok_cut bz) (by omega), nok_le (nok_cut bz) (by omega), nok_le (nok_upper bz) (by omega), nok_le (nok_lower bz) (by omega), nok_le nk_whole (by omega), nok_le qem (by omega), trivial, (by show (0 : Int).natAbs ≤ _; exact Nat.zero_le _), ⟨(by show 1 ≤ 3 * c + 1940; omega), nok_le bz (by omega), trivial⟩, nok_le qlet (by omega),
            nok_le nk_num (by omega), nok_le qadd (by omega), nok_le qsub (by omega), nok_le nk_times (by omega), nok_le nk_make (by omega), nok_le nk_call (by omega), nok_le qless (by omega), nok_le nk_match (by omega), nok_le nk_give (by omega), nok_le qgo (by omega), nok_le nz9 (by omega), nok_le n1 (by omega), nok_le n2 (by omega), trivial⟩
          have hR2s := upd_same (H := upd H6 D3 (.lst [V.str (cutS z Option.none (some ai) ++ ⟨#[sg]⟩ ++ cutS z (some ai) Option.none), V.str (cutS z Option.none (some ai) ++ ⟨#[sg]⟩ ++ cutS z (some (ai + 1)) Option.none)])) (a := R2) (o := .lst (([V.str (z ++ "x"), .str (cutS z Option.none (some (-1))), .str (cutS z (some 1) Option.none), .str (Txt.upper z), .str (Txt.lower z), .str "whole", .str "", .non, .int 0, .ref t1, .str "let"] ++ [.str "num", .str "add", .str "sub", .str "times", .str "make", .str "call", .str "less", .str "match", .str "give", .str "go", .str (z ++ "0123456789")]) ++ [V.str (cutS z Option.none (some ai) ++ ⟨#[sg]⟩ ++ cutS z (some ai) Option.none), V.str (cutS z Option.none (some ai) ++ ⟨#[sg]⟩ ++ cutS z (some (ai + 1)) Option.none)]))
          have u8 := ((gg.w (w := p)).trans' g56).trans' ((g7.trans g8).w (w := p))
          generalize upd (upd H6 D3 (.lst [V.str (cutS z Option.none (some ai) ++ ⟨#[sg]⟩ ++ cutS z (some ai) Option.none), V.str (cutS z Option.none (some ai) ++ ⟨#[sg]⟩ ++ cutS z (some (ai + 1)) Option.none)])) R2 (.lst (([V.str (z ++ "x"), .str (cutS z Option.none (some (-1))), .str (cutS z (some 1) Option.none), .str (Txt.upper z), .str (Txt.lower z), .str "whole", .str "", .non, .int 0, .ref t1, .str "let"] ++ [.str "num", .str "add", .str "sub", .str "times", .str "make", .str "call", .str "less", .str "match", .str "give", .str "go", .str (z ++ "0123456789")]) ++ [V.str (cutS z Option.none (some ai) ++ ⟨#[sg]⟩ ++ cutS z (some ai) Option.none), V.str (cutS z Option.none (some ai) ++ ⟨#[sg]⟩ ++ cutS z (some (ai + 1)) Option.none)])) = H8 at eL W8 hR2s u8 ⊢
          refine ⟨_, rfl, p, l, ns, n + 2, 24, rfl, by decide, cdw (by decide) (by decide), W8, by omega, fun r Hf ra rb Wf gf => ?_⟩
          obtain ⟨y8, hy8⟩ := W8.pl
          obtain ⟨dn, xn, hat, een, bn⟩ := pick_b (eL.gb nB gf hy8) bL ra (by show r < 24; exact rb)
          exact ⟨R2, _, _, _, rfl, rfl, SqL.of (gf.lst hR2p hR2s), hat, kq dn xn _ een bn (Wf.more (by omega)) (u8.trans' gf)⟩
        | _ => cases hbS
      | false =>
        refine iteF ⟨_, rfl, _, _, _, _, _, rfl, .ty "tuple", en.ty, kit_ty kT, _, rfl, ?_⟩
        cases hbT : bT d with
        | false =>
          refine iteT ?_
          refine ⟨Nat.zero_le _, fun t1 h1 => ⟨(by show 3 ≤ sizeLine; decide), fun t2 h2 => ⟨(by show 5 ≤ sizeLine; decide), fun D hD => ?_⟩⟩⟩
          have g1 := Grow.new (o := .tup []) h1
          have g2 := Grow.new (o := .tup [.str "num", .int 0, .int 1]) h2
          have g3 := Grow.new (o := .lst [.non, .int 0, .ref t1, .str "x", .ref t2]) hD
          have e1 : EncB B _ (.tup []) (.ref t1) := .tup (upd_same (H := H) (a := t1) (o := .tup [])) .nil
          have e2 : EncB B _ (.tup [.str "num", .int 0, .int 1]) (.ref t2) := .tup (upd_same (H := upd H t1 (.tup [])) (a := t2) (o := .tup [.str "num", .int 0, .int 1])) (.cons (.str _ (nk_num.s (by decide))) (.cons (.int 0) (.cons (.int 1) .nil)))
          have eL : EncsB B _ [.non, .int 0, .tup [], .str "x", .tup [.str "num", .int 0, .int 1]] [.non, .int 0, .ref t1, .str "x", .ref t2] := .cons .non (.cons (.int 0) (.cons ((e1.grow g2).grow g3) (.cons (.str _ (nk_x.s (by decide))) (.cons (e2.grow g3) .nil))))
          have bL : Bds (3 * c + 1940) [.non, .int 0, .tup [], .str "x", .tup [.str "num", .int 0, .int 1]] := ⟨trivial, (by show (0 : Int).natAbs ≤ _; exact Nat.zero_le _), ⟨Nat.zero_le _, trivial⟩, nok_le nk_x (by omega), ⟨(by show 3 ≤ 3 * c + 1940; omega), nok_le nk_num (by omega), (by show (0 : Int).natAbs ≤ _; exact Nat.zero_le _), (by show 1 ≤ 10000000000000 + _; omega), trivial⟩, trivial⟩
          have gg := (g1.trans g2).trans g3
          have W4 := W.grow gg
          have hDp : D ≠ p := ((W.grow (g1.trans g2)).np hD).1
          have hDs := upd_same (H := upd (upd H t1 (.tup [])) t2 (.tup [.str "num", .int 0, .int 1])) (a := D) (o := .lst [.non, .int 0, .ref t1, .str "x", .ref t2])
          refine ⟨_, rfl, p, l, ns, n, 5, rfl, by decide, cdw (by decide) (by decide), W4, by omega, fun r Hf ra rb Wf gf => ?_⟩
          obtain ⟨y4, hy4⟩ := W4.pl
          obtain ⟨dn, xn, hat, een, bn⟩ := pick_b (eL.gb nB gf hy4) bL ra (by show r < 5; exact rb)
          exact ⟨D, _, _, _, rfl, rfl, SqL.of (gf.lst hDp hDs), hat, kq dn xn _ een bn (Wf.more (by omega)) ((gg.w (w := p)).trans' gf)⟩
        | true =>
          refine iteF ?_
          cases en with
          | @tup a xs l0 hA en0 =>
            obtain ⟨bl0, bds0⟩ : l0.length ≤ c ∧ Bds c l0 := bd
            refine ⟨_, rfl, _, _, rfl, .inr (SqT.of hA), fun q0 hq0 => ?_⟩
            have g0 := Grow.new (o := .lst xs) hq0
            have x0 : EncB B (upd H q0 (.lst xs)) (.lst l0) (.ref q0) := .lst upd_same (en0.grow g0) (young _ hq0)
            have hA0 := g0.tup hA
            have en1 := en0.grow g0
            generalize upd H q0 (.lst xs) = H0 at g0 x0 hA0 en1 ⊢
            refine ⟨_, rfl, _, rfl, _, rfl, rd_sl hA0 en1 bds0 fun q1 y1 l1 H1 g1 a1 e1 b1 n1 => ?_⟩
            refine ⟨_, rfl, _, rfl, ?_⟩
            dsimp only [tNoPart]
            refine rd_sl (g1.tup hA0) (en1.grow g1) bds0 fun q2 y2 l2 H2 g2 a2 e2 b2 n2 => ?_
            have g12 := g1.trans g2
            refine ⟨_, rfl, _, rfl, _, rfl, rd_sl (g12.tup hA0) (en1.grow g12) bds0 fun q3 y3 l3 H3 g3 a3 e3 b3 n3 => ?_⟩
            have g13 := g12.trans g3
            refine rd_cat (g13.tup hA0) a3 (en1.grow g13) e3 bds0 b3 (by omega) fun q4 y4 H4 g4 a4 e4 b4 => ?_
            have g14 := g13.trans g4
            refine ⟨_, rfl, a, xs, rfl, SqT.of (g14.tup hA0), fun q5 hq5 => ?_⟩
            have g5 := Grow.new (o := .tup xs.reverse) hq5
            have a5 : upd H4 q5 (.tup xs.reverse) q5 = some (.tup xs.reverse) := upd_same
            generalize upd H4 q5 (.tup xs.reverse) = H5 at g5 a5 ⊢
            refine ⟨Nat.zero_le _, fun q6 hq6 => ?_⟩
            have g6 := Grow.new (o := .tup []) hq6
            have a6 : upd H5 q6 (.tup []) q6 = some (.tup []) := upd_same
            generalize upd H5 q6 (.tup []) = H6 at g6 a6 ⊢
            have g16 := (g14.trans g5).trans g6
            refine ⟨_, rfl, _, rfl, rd_sl (g16.tup hA0) (en1.grow g16) bds0 fun q7 y7 l7 H7 g7 a7 e7 b7 n7 => ?_⟩
            have g17 := g16.trans g7
            refine ⟨_, rfl, rd_cat a7 (g17.tup hA0) e7 (en1.grow g17) b7 bds0 (by omega) fun q8 y8 H8 g8 a8 e8 b8 => ?_⟩
            refine ⟨(by show 11 ≤ sizeLine; decide), fun D hD => ?_⟩
            have g78 := g7.trans g8
            have g68 := g6.trans g78
            have g58 := g5.trans g68
            have g48 := g4.trans (g5.trans g68)
            have g38 := g3.trans g48
            have g28 := g2.trans g38
            have g18 := g1.trans g28
            have u8 := g0.trans g18
            have W8 := W.grow u8
            have hDp : D ≠ p := (W8.np hD).1
            have hDl : D ≠ l := (W8.np hD).2
            have eL : EncsB B H8 [.lst l0, .tup l1, .tup l2, .tup (l0 ++ l3), .tup l0.reverse, .tup [], .non, .int 0, .str "", .bl true, .tup (l7 ++ l0)] [.ref q0, .ref q1, .ref q2, .ref q4, .ref q5, .ref q6, .non, .int 0, .str "", .bl true, .ref q8] :=
              .cons (x0.grow g18) (.cons (.tup (g28.tup a1) (e1.grow g28)) (.cons (.tup (g38.tup a2) (e2.grow g38)) (.cons (.tup (g58.tup a4) (e4.grow g58)) (.cons (.tup (g68.tup a5) ((encs_rev en1).grow g18)) (.cons (.tup (g78.tup a6) .nil) (.cons .non (.cons (.int 0) (.cons (.str _ ((nk (by decide +kernel) : NOk 20 "").s (by decide))) (.cons (.bl true) (.cons (.tup a8 e8) .nil))))))))))
            have bL : Bds (3 * c + 1940) [.lst l0, .tup l1, .tup l2, .tup (l0 ++ l3), .tup l0.reverse, .tup [], .non, .int 0, .str "", .bl true, .tup (l7 ++ l0)] :=
              ⟨⟨by omega, bds_le (by omega) bds0⟩, ⟨by omega, bds_le (by omega) b1⟩, ⟨by omega, bds_le (by omega) b2⟩, ⟨by rw [List.length_append]; omega, bds_le (by omega) b4⟩, ⟨by rw [List.length_reverse]; omega, bds_le (by omega) (bds_sub bds0 fun d hd => List.mem_reverse.mp hd)⟩, ⟨Nat.zero_le _, trivial⟩, trivial, (by show (0 : Int).natAbs ≤ _; exact Nat.zero_le _), nok_le (nk (by decide +kernel) : NOk 20 "") (by omega), trivial, ⟨by rw [List.length_append]; omega, bds_le (by omega) b8⟩, trivial⟩
            have eL := eL.but hD
            have gD := Grow.new (o := .lst [.ref q0, .ref q1, .ref q2, .ref q4, .ref q5, .ref q6, .non, .int 0, .str "", .bl true, .ref q8]) hD
            have eL := eL.grow gD
            have hDs := upd_same (H := H8) (a := D) (o := .lst [.ref q0, .ref q1, .ref q2, .ref q4, .ref q5, .ref q6, .non, .int 0, .str "", .bl true, .ref q8])
            have W9 := W8.grow gD
            have hA9 := (g18.trans gD).tup hA0
            have en9 := (en0.but (none_of u8 hD)).grow (u8.trans gD)
            have u9 := u8.trans gD
            have hDn := none_of u8 hD
            have nB' : ¬ (B p ∧ p ≠ D) := fun z => nB z.1
            generalize upd H8 D (.lst [.ref q0, .ref q1, .ref q2, .ref q4, .ref q5, .ref q6, .non, .int 0, .str "", .bl true, .ref q8]) = H9 at eL hDs W9 hA9 en9 u9 ⊢
            generalize hz0 : ([.ref q0, .ref q1, .ref q2, .ref q4, .ref q5, .ref q6, .non, .int 0, .str "", .bl true, .ref q8] : List V) = z0 at eL hDs
            have hzl0 : z0.length = 11 := by rw [← hz0]; rfl
            clear g0 g1 g2 g3 g4 g5 g6 g7 g8 gD g12 g13 g14 g16 g17 g78 g68 g58 g48 g38 g28 g18
            refine ⟨fun σ' H' => ∃ zs ds, σ'[1]? = some (some (.ref p)) ∧ σ'[2]? = some (some (.ref D)) ∧ EncsB (fun a => B a ∧ a ≠ D) H' ds zs ∧ Bds (3 * c + 1940) ds ∧ H' D = some (.lst zs) ∧ zs.length ≤ 13 ∧ 1 ≤ zs.length ∧ Wl H' p l ns (n + 1) ∧ GrowW p H H', ?_, ?_⟩
            · refine ⟨_, rfl, _, _, rfl, .inr ⟨_, SqT.of hA9, rfl⟩, _, _, rfl, rfl, _, rfl, ?_⟩
              generalize hb : decide ((1 : Int) < ((xs.length : Nat) : Int)) = bb
              cases bb with
              | true =>
                have h1 := of_decide_eq_true hb
                refine iteT ?_
                refine ⟨_, rfl, _, rfl, _, _, rfl, .inr ⟨_, SqT.of hA9, rfl⟩, _, _, rfl, rfl, p, l, ns, n, (((xs.length : Nat) : Int) - 1), rfl, by omega, cdw (by omega) (Nat.lt_of_le_of_lt (by have := en0.length; omega : (((xs.length : Nat) : Int) - 1).natAbs ≤ 2501) (Nat.lt_of_lt_of_le (by decide : 2501 < 2 ^ 12) (Nat.pow_le_pow_right (by decide) (by decide)))), W9, by omega, fun ai Ha aa ab Wa ga => ?_⟩
                obtain ⟨y9, hy9⟩ := W9.pl
                have ena := en9.gb nB' ga hy9
                have eLa := eL.gb nB' ga hy9
                have hDa := ga.lst hDp hDs
                have hAa := ga.tup (fun ys z => by rw [hy9] at z; cases z) hA9
                have ua := u9.w.trans' ga
                clear hA9 eL hDs W9 en9 u9 ga
                have ex1 : ∃ v d, atI xs (ai + 1) = some v ∧ EncB (fun a => B a ∧ a ≠ D) Ha d v ∧ Bd c d := by
                  obtain ⟨d, v, h1, h2, h3⟩ := pick_b (r := ai + 1) ena bds0 (by omega) (by omega)
                  exact ⟨v, d, h1, h2, h3⟩
                have ex0 : ∃ v d, atI xs ai = some v ∧ EncB (fun a => B a ∧ a ≠ D) Ha d v ∧ Bd c d := by
                  obtain ⟨d, v, h1, h2, h3⟩ := pick_b (r := ai) ena bds0 (by omega) (by omega)
                  exact ⟨v, d, h1, h2, h3⟩
                obtain ⟨v1, d1, hv1, ed1, bd1⟩ := ex1
                obtain ⟨v0, d0, hv0, ed0, bd0⟩ := ex0
                refine ⟨_, rfl, .inl ⟨rfl, _, SqL.of hDa⟩, _, rfl, _, rfl, _, rfl, rd_sl hAa ena bds0 fun q1 y1 l1 H1 g1 a1 e1 b1 n1 => ?_⟩
                refine ⟨_, rfl, _, rfl, _, _, rfl, rfl, a, xs, _, _, rfl, rfl, SqT.of (g1.tup hAa), hv1, _, rfl, _, rfl, a, xs, _, _, rfl, rfl, SqT.of (g1.tup hAa), hv0, (by show 2 ≤ sizeLine; decide), fun q2 hq2 => ?_⟩
                have g2 := Grow.new (o := .tup [v1, v0]) hq2
                have a2 : upd H1 q2 (.tup [v1, v0]) q2 = some (.tup [v1, v0]) := upd_same
                generalize upd H1 q2 (.tup [v1, v0]) = H2 at g2 a2 ⊢
                have g12 := g1.trans g2
                refine rd_cat (g2.tup a1) a2 (e1.grow g2) (.cons (ed1.grow g12) (.cons (ed0.grow g12) .nil)) b1 (⟨bd1, bd0, trivial⟩ : Bds c [d1, d0]) (by show _ + 2 ≤ 20000; omega) fun q3 y3 H3 g3 a3 e3 b3 => ?_
                have g13 := g12.trans g3
                refine ⟨_, rfl, _, rfl, _, _, rfl, rfl, _, rfl, ?_⟩
                dsimp only [tNoPart]
                refine rd_sl (g13.tup hAa) (ena.grow g13) bds0 fun q4 y4 l4 H4 g4 a4 e4 b4 n4 => ?_
                have g14 := g13.trans g4
                refine rd_cat (g4.tup a3) a4 (e3.grow g4) e4 b3 b4 (by rw [List.length_append]; show _ + 2 + _ ≤ 20000; omega) fun q9 y5 H5 g5 a5 e5 b5 => ?_
                have g15 := g14.trans g5
                refine ⟨D, _, _, rfl, rfl, g15.lst hDa, (by rw [hzl0]; decide), ?_⟩
                have hD5 := g15.lst hDa
                have n5 : (l1 ++ [d1, d0] ++ l4).length ≤ 3 * c + 1940 := by rw [List.length_append, List.length_append]; show _ + 2 + _ ≤ _; omega
                have e5 : EncB (fun a => B a ∧ a ≠ D) H5 (.tup (l1 ++ [d1, d0] ++ l4)) (.ref q9) := .tup a5 e5
                have b5 : Bd (3 * c + 1940) (.tup (l1 ++ [d1, d0] ++ l4)) := ⟨n5, bds_le (by omega) b5⟩
                have eL5 := encs_push (eLa.grow g15) e5
                have bN5 : Bds (3 * c + 1940) [.tup (l1 ++ [d1, d0] ++ l4)] := ⟨b5, trivial⟩
                have bL5 := bds_app bL bN5
                have ena5 := ena.grow g15
                have hA5 := g15.tup hAa
                have W5 := Wa.grow g15
                have u5 := ua.trans' g15.w
                have nT5 : ∀ xs, H5 D ≠ some (.tup xs) := fun ys z => by rw [hD5] at z; cases z
                have nD : ¬ (B D ∧ D ≠ D) := fun z => z.2 rfl
                have hzl : (z0 ++ [V.ref q9]).length = 12 := by rw [List.length_append, hzl0]; rfl
                have eL6 := eL5.growW (GrowW.upd (o := .lst (z0 ++ [V.ref q9]))) nD nT5
                have ena6 := ena5.growW (GrowW.upd (o := .lst (z0 ++ [V.ref q9]))) nD nT5
                have hA6 := (GrowW.upd (w := D) (o := .lst (z0 ++ [V.ref q9]))).tup nT5 hA5
                have W6 := W5.upd (o := .lst (z0 ++ [V.ref q9])) hDp hDl
                have u6 := u5.but (o := .lst (z0 ++ [V.ref q9])) hDn
                have hD6 := upd_same (H := H5) (a := D) (o := .lst (z0 ++ [V.ref q9]))
                clear eL5 ena5 hA5 W5 u5 nT5 hD5 eLa ena hAa Wa ua hDa g1 g2 g3 g4 g5 g12 g13 g14 g15 e1 e3 e4 e5 a1 a2 a3 a4 a5
                generalize upd H5 D (.lst (z0 ++ [V.ref q9])) = H6 at eL6 ena6 hA6 W6 u6 hD6 ⊢
                refine ⟨_, rfl, .inl ⟨rfl, _, SqL.of hD6⟩, _, rfl, _, rfl, _, rfl, rd_sl hA6 ena6 bds0 fun q1 y1 l1 H7 g1 a1 e1 b1 n1 => ?_⟩
                refine ⟨_, rfl, _, rfl, _, _, rfl, rfl, _, rfl, ?_⟩
                dsimp only [tNoPart]
                refine rd_sl (g1.tup hA6) (ena6.grow g1) bds0 fun q2 y2 l2 H8 g2 a2 e2 b2 n2 => ?_
                have g12 := g1.trans g2
                refine rd_cat (g2.tup a1) a2 (e1.grow g2) e2 b1 b2 (by omega) fun q3 y3 H9 g3 a3 e3 b3 => ?_
                have g13 := g12.trans g3
                have hD9 := g13.lst hD6
                refine ⟨D, _, _, rfl, rfl, hD9, (by rw [sizeLine_eq]; omega), ?_⟩
                have n9 : (l1 ++ l2).length ≤ 3 * c + 1940 := by rw [List.length_append]; omega
                have e9 : EncB (fun a => B a ∧ a ≠ D) H9 (.tup (l1 ++ l2)) (.ref q3) := .tup a3 e3
                have bN9 : Bds (3 * c + 1940) [.tup (l1 ++ l2)] := ⟨⟨n9, bds_le (by omega) b3⟩, trivial⟩
                have eL9 := encs_push (eL6.grow g13) e9
                have nT9 : ∀ xs, H9 D ≠ some (.tup xs) := fun ys z => by rw [hD9] at z; cases z
                exact ⟨_, _, rfl, rfl, eL9.growW (GrowW.upd (o := .lst (z0 ++ [V.ref q9] ++ [.ref q3]))) nD nT9, bds_app bL5 bN9, upd_same, (by rw [List.length_append, hzl]; show 12 + 1 ≤ 13; decide), (by rw [List.length_append]; show 1 ≤ _ + 1; omega), (W6.grow g13).upd hDp hDl, (u6.trans' g13.w).but hDn⟩
              | false =>
                refine iteF ?_
                exact ⟨_, _, rfl, rfl, eL, bL, hDs, (by rw [hzl0]; decide), (by rw [hzl0]; decide), W9.more (by omega), u9.w⟩
            · intro σ' H' ⟨zs, ds, s1, s2, ee, bb, hDz, z13, z1, W', u'⟩
              refine ⟨_, s2, _, s1, _, s2, _, _, rfl, .inl (SqL.of hDz), p, l, ns, n + 1, ((zs.length : Nat) : Int), rfl, by omega, cdw (by omega) (Nat.lt_of_le_of_lt (by omega : (((zs.length : Nat) : Int)).natAbs ≤ 2501) (Nat.lt_of_lt_of_le (by decide : 2501 < 2 ^ 12) (Nat.pow_le_pow_right (by decide) (by decide)))), W', by omega, fun r Hf ra rb Wf gf => ?_⟩
              obtain ⟨y8, hy8⟩ := W'.pl
              obtain ⟨dn, xn, hat, een, bn⟩ := pick_b (ee.gb nB' gf hy8) bb ra rb
              exact ⟨D, _, _, _, rfl, rfl, SqL.of (gf.lst hDp hDz), hat, kq dn xn _ (een.mono fun a z => z.1) bn (Wf.more (by omega)) (u'.trans' gf)⟩
          | _ => cases hbT
end
end J1
set_option Elab.async false
set_option linter.all false
set_option maxRecDepth 100000
set_option maxHeartbeats 8000000
namespace J1
open PySem PySem.Spec PyProof.Rows L2 GxR GA
abbrev lBn : Stmt := top 66
theorem cBn : FnScope ["_law_thing", "_law_well_here", "_law_parts", "_law_turn", "_law_at", "_law_found", "_law_ahead", "_law_behind"] ["_law_thing", "_law_well_here"] (defScope lBn) := ⟨rfl, rfl, rfl, by decide +kernel, rfl, by decide +kernel, by decide +kernel⟩
def spBn : Sp := fun vs H Q _ => ∃ (B : Addr → Prop) (c : Nat) (p l : Addr) (ns : List Int) (n : Nat) (d : Da) (x : V), vs = [x, .ref p] ∧ EncB B H d x ∧ Bd c d ∧ c ≤ 2500 ∧ ¬ B p ∧ (∀ a, H a = Option.none → B a) ∧ Wl H p l ns n ∧ n + 28 ≤ 1000000000000000000000000000000000000000000000000000000000000 ∧
  ∀ d' x' H', EncB B H' d' x' → Bd (3 * c + 1940) d' → Wl H' p l ns (n + 28) → GrowW p H H' → Q x' H'
/-- a part of the way down: what stands ahead and behind -/
def PartOk (c : Nat) (e : Da) : Prop := ∃ la lb, e = .tup [.tup la, .tup lb] ∧ Bds c la ∧ Bds c lb ∧ la.length ≤ c ∧ lb.length ≤ c
section
variable {P : Program} {w : World} {K : PySem.W.Frag} {mg : Str → Option Value} {base : Heap}
theorem ok_bn {f fD fO : Addr} {fd fdD fdO : FuncData} (F : Fun K "_law_bent" "_law_bent" lBn f fd) (N : Gd5 mg) (nR : mg "range" = Option.none) (GD : FnOk P w K mg base CX0 1 fD fdD ["_law_well_here", "_law_many"] spDr) (DD : Df K mg "_law_draw" ["_law_well_here", "_law_many"] fD fdD)
    (GO : FnOk P w K mg base CX0 2 fO fdO ["_law_thing", "_law_well_here"] spOd) (DO : Df K mg "_law_odd" ["_law_thing", "_law_well_here"] fO fdO) :
    FnOk P w K mg base CX0 3 f fd ["_law_thing", "_law_well_here"] spBn := by
  refine F.ok (k := 2) cBn (fun vs H Q E h => ?_) (fun cdv A outer s H vs Q E hr h => ?_)
  · obtain ⟨B, c, p, l, ns, n, d, x, rfl, _⟩ := h
    rfl
  · obtain ⟨B, c, p, l, ns, n, d, x, rfl, en, bd, hc, nB, young, W, hn, kq⟩ := h
    refine ⟨_, (pss_cons (ps_set (i := 2) cBn.nd rfl (Or.inl rfl) (pe_lst pa_nil)) (C8.pss_cut (ps_for PassesOwn.never rfl (pi_range1 (by rfl) nR (pa_cons pe_int pa_nil)) (pg_name (i := 3) cBn.nd rfl (Or.inl rfl)) (pss_cons (ps_if (PW.pt (pw_or (pt_not (pt_val (pe_callB call_isi (by rfl) N.nI boot_isinstance (pa_cons (pv 0) (pa_cons (pe_bltn (v := .ty "tuple") rfl N.nt (by decide +kernel) rfl) pa_nil))))) (pw_or (pt_cmpR (op_eqNilT (Nat.lt_of_le_of_lt (Nat.le_add_right _ 64) hr.units)) (pv 0) (pe_tup pa_nil) (nomark _)) (pw_or1 (pt_cmpR op_eq (pe_call (GD.mono (by decide)) hr (by rfl) DD.g DD.k DD.b .nil pass0 (pa_cons (pv 1) (pa_cons pe_int pa_nil))) pe_int (nomark _)))))) (pss_one ps_break) pss_nil) (pss_cons (ps_set (i := 4) cBn.nd rfl (Or.inl rfl) (pe_call (GD.mono (by decide)) hr (by rfl) DD.g DD.k DD.b .nil pass0 (pa_cons (pv 1) (pa_cons (pe_callB call_len (by rfl) N.len PySem.boot_len (pa_cons (pv 0) pa_nil)) pa_nil)))) (pss_cons (ps_expr (pe_bm PySem.F.plainAttrs_list PySem.F.slot_list_append PySem.F.type_list_append mt_append (pv 2) (pa_cons (pe_tup (pa_cons (pe_slice sl_tupA (pv 0) po_none (po_some (pv 4))) (pa_cons (pe_slice sl_tupA (pv 0) (po_some (pe_op op_add (pv 4) pe_int)) po_none) pa_nil))) pa_nil))) (pss_one (ps_set (i := 0) cBn.nd rfl (Or.inl rfl) (pe_ix ix_tup (pv 0) (pv 4) (fun _ _ => rfl)))))))) (pss_cons (ps_set (i := 5) cBn.nd rfl (Or.inl rfl) (pe_call GO hr (by rfl) DO.g DO.k DO.b .nil pass0 (pa_cons (pv 0) (pa_cons (pv 1) pa_nil)))) (C8.pss_cut (ps_for PassesOwn.never rfl (pi_list (pe_revL (pv 2))) (pg_tup (by rfl) (pgs_cons (pg_name (i := 6) cBn.nd rfl (Or.inl rfl)) (pgs_cons (pg_name (i := 7) cBn.nd rfl (Or.inl rfl)) pgs_nil))) (pss_one (ps_set (i := 5) cBn.nd rfl (Or.inl rfl) (pe_op op_catA (pe_op op_catA (pv 6) (pe_tup (pa_cons (pv 5) pa_nil))) (pv 7))))) (pss_one (ps_ret (pv 5))))))), ?_⟩
    refine ⟨Nat.zero_le _, fun lp hlp => ?_⟩
    have g0 := Grow.new (o := .lst []) hlp
    have en0 := (en.but hlp).grow g0
    have W0 := W.grow g0
    have hlpp : lp ≠ p := (W.np hlp).1
    have hlpl : lp ≠ l := (W.np hlp).2
    have h0 := upd_same (H := H) (a := lp) (o := .lst [])
    have nB' : ¬ (B p ∧ p ≠ lp) := fun z => nB z.1
    have nL : ¬ (B lp ∧ lp ≠ lp) := fun z => z.2 rfl
    have u0 := g0.w (w := p)
    generalize upd H lp (.lst []) = H0 at en0 W0 h0 u0 ⊢
    clear g0
    refine ⟨fun σ' Hc => ∃ (d : Da) (x : V) (v3 v4 : Option V) (pl : List Da) (xs : List V), σ' = [some x, some (.ref p), some (.ref lp), v3, v4, Option.none, Option.none, Option.none] ∧ EncB (fun a => B a ∧ a ≠ lp) Hc d x ∧ Bd c d ∧ EncsB (fun a => B a ∧ a ≠ lp) Hc pl xs ∧ (∀ e ∈ pl, PartOk c e) ∧ Hc lp = some (.lst xs) ∧ xs.length ≤ 12 ∧ Wl Hc p l ns (n + 24) ∧ GrowW p H Hc, ?_, ?_⟩
    · refine ⟨12, rfl, by decide, by decide, ?_⟩
      refine for_range (n := 12) (fun i σ' Hc => ∃ (d : Da) (x : V) (v3 v4 : Option V) (pl : List Da) (xs : List V), σ' = [some x, some (.ref p), some (.ref lp), v3, v4, Option.none, Option.none, Option.none] ∧ EncB (fun a => B a ∧ a ≠ lp) Hc d x ∧ Bd c d ∧ EncsB (fun a => B a ∧ a ≠ lp) Hc pl xs ∧ (∀ e ∈ pl, PartOk c e) ∧ Hc lp = some (.lst xs) ∧ xs.length ≤ i ∧ Wl Hc p l ns (n + 2 * i) ∧ GrowW p H Hc)
        ⟨_, _, _, _, [], [], rfl, en0, bd, .nil, (fun e he => absurd he (by simp)), h0, Nat.zero_le _, W0, u0⟩ (fun i σ' Hc hi hp => ?_) (fun σ' Hc hp => ?_)
      · obtain ⟨d, x, v3, v4, pl, xs, rfl, e, b, ep, op, hL, hxl, W', g⟩ := hp
        obtain ⟨kI, kB, kS, kT⟩ := kitD d
        have brk : ∀ {H2 : Hp} {σ2 : L2.St} {n2 : Nat} {v3 : Option V}, GrowW p Hc H2 → Wl H2 p l ns n2 → n2 ≤ n + 24 → σ2 = [some x, some (.ref p), some (.ref lp), v3, v4, Option.none, Option.none, Option.none] → (∃ (d : Da) (x : V) (v3 v4 : Option V) (pl : List Da) (xs : List V), σ2 = [some x, some (.ref p), some (.ref lp), v3, v4, Option.none, Option.none, Option.none] ∧ EncB (fun a => B a ∧ a ≠ lp) H2 d x ∧ Bd c d ∧ EncsB (fun a => B a ∧ a ≠ lp) H2 pl xs ∧ (∀ e ∈ pl, PartOk c e) ∧ H2 lp = some (.lst xs) ∧ xs.length ≤ 12 ∧ Wl H2 p l ns (n + 24) ∧ GrowW p H H2) := fun g2 W2 hn2 hs => by
          obtain ⟨yp, hyp⟩ := W'.pl
          exact ⟨d, x, _, v4, pl, xs, hs, e.gb nB' g2 hyp, b, ep.gb nB' g2 hyp, op, g2.lst hlpp hL, by omega, W2.more hn2, g.trans' g2⟩
        refine ⟨_, rfl, _, _, _, _, _, rfl, .ty "tuple", e.ty, kit_ty kT, _, rfl, ?_⟩
        cases hbT : bT d with
        | false =>
          refine iteT (iteT ?_)
          exact brk (GrowW.refl' p Hc) W' (by omega) rfl
        | true =>
          refine iteF ?_
          cases e with
          | @tup a xs0 l0 hA en0 =>
            obtain ⟨bl0, bds0⟩ : l0.length ≤ c ∧ Bds c l0 := b
            refine ⟨_, rfl, Nat.zero_le _, fun q hq => ?_⟩
            have g1 := Grow.new (o := .tup []) hq
            have hqs := upd_same (H := Hc) (a := q) (o := .tup [])
            refine ⟨_, _, xs0, rfl, rfl, SqT.of (g1.tup hA), SqT.of hqs, _, rfl, ?_⟩
            cases hem : xs0.isEmpty with
            | true =>
              refine iteT (iteT ?_)
              exact brk g1.w (W'.grow g1) (by omega) rfl
            | false =>
              refine iteF ?_
              have hx0 : 0 < xs0.length := by
                cases xs0 with
                | nil => cases hem
                | cons => show 0 < _ + 1; omega
              have W1 := W'.grow g1
              obtain ⟨yp, hyp⟩ := W'.pl
              generalize upd Hc q (.tup []) = H1 at g1 W1 ⊢
              clear hqs
              refine ⟨_, rfl, p, l, ns, n + 2 * i, 7, rfl, by decide, cdw (by decide) (by decide), W1, by omega, fun r H2 ra rb W2 g2 => ?_⟩
              refine ⟨rfl, _, rfl, ite2 (fun _ => ?_) (fun _ => ?_)⟩
              · exact brk (g1.w.trans' g2) W2 (by omega) rfl
              have gw2 := (g1.w (w := p)).trans' g2
              have nTp : ∀ zs, Hc p ≠ some (.tup zs) := fun ys z => by rw [hyp] at z; cases z
              have hA2 := gw2.tup nTp hA
              refine ⟨_, rfl, _, rfl, _, _, rfl, .inr ⟨_, SqT.of hA2, rfl⟩, p, l, ns, n + 2 * i + 1, ((xs0.length : Nat) : Int), rfl, by omega, cdw (by omega) (Nat.lt_of_le_of_lt (by have := en0.length; omega : (((xs0.length : Nat) : Int)).natAbs ≤ 2501) (Nat.lt_of_lt_of_le (by decide : 2501 < 2 ^ 12) (Nat.pow_le_pow_right (by decide) (by decide)))), W2, by omega, fun ai H3 aa ab W3 g3 => ?_⟩
              have gw3 := gw2.trans' g3
              have hA3 := gw3.tup nTp hA
              have en3 := en0.gb nB' gw3 hyp
              have ep3 := ep.gb nB' gw3 hyp
              have hL3 := gw3.lst hlpp hL
              have u3 := g.trans' gw3
              clear g1 g2 g3 gw2 gw3 W1 W2 hA2 en0 hA hyp nTp hL ep g brk W'
              refine ⟨_, rfl, .inl ⟨rfl, _, SqL.of hL3⟩, _, rfl, _, rfl, _, rfl, rd_sl hA3 en3 bds0 fun q1 y1 l1 H4 g1 a1 e1 b1 n1 => ?_⟩
              refine ⟨_, rfl, _, rfl, _, _, rfl, rfl, _, rfl, ?_⟩
              dsimp only [tNoPart]
              refine rd_sl (g1.tup hA3) (en3.grow g1) bds0 fun q2 y2 l2 H5 g2 a2 e2 b2 n2 => ?_
              have g12 := g1.trans g2
              refine ⟨(by show 2 ≤ sizeLine; decide), fun q3 hq3 => ?_⟩
              have g3 := Grow.new (o := .tup [.ref q1, .ref q2]) hq3
              have g13 := g12.trans g3
              have a3 := upd_same (H := H5) (a := q3) (o := .tup [.ref q1, .ref q2])
              have hL6 := g13.lst hL3
              refine ⟨lp, _, _, rfl, rfl, hL6, (by rw [sizeLine_eq]; omega), ?_⟩
              have e3 : EncB (fun a => B a ∧ a ≠ lp) (upd H5 q3 (.tup [.ref q1, .ref q2])) (.tup [.tup l1, .tup l2]) (.ref q3) := .tup a3 (.cons (.tup ((g2.trans g3).tup a1) (e1.grow (g2.trans g3))) (.cons (.tup (g3.tup a2) (e2.grow g3)) .nil))
              have ep6 := encs_push (ep3.grow g13) e3
              have en6 := en3.grow g13
              have hA6 := g13.tup hA3
              have W6 := W3.grow g13
              have u6 := u3.trans' g13.w
              have nT6 : ∀ zs, upd H5 q3 (.tup [.ref q1, .ref q2]) lp ≠ some (.tup zs) := fun ys z => by rw [hL6] at z; cases z
              have hA7 := (GrowW.upd (w := lp) (o := .lst (xs ++ [.ref q3]))).tup nT6 hA6
              obtain ⟨dn, xn, hat, een, bn⟩ := pick_b (r := ai) en6 bds0 aa ab
              refine ⟨_, rfl, _, rfl, a, xs0, _, _, rfl, rfl, SqT.of hA7, hat, ?_⟩
              refine ⟨dn, xn, _, _, pl ++ [.tup [.tup l1, .tup l2]], xs ++ [.ref q3], rfl, een.growW GrowW.upd nL nT6, bn, ep6.growW GrowW.upd nL nT6, ?_, upd_same, (by rw [List.length_append]; show _ + 1 ≤ _; omega), (W6.upd hlpp hlpl).more (by omega), u6.but hlp⟩
              intro z hz
              rcases List.mem_append.mp hz with hz | hz
              · exact op z hz
              · rw [List.mem_singleton] at hz
                exact ⟨l1, l2, hz, b1, b2, by omega, by omega⟩
          | _ => cases hbT
      · obtain ⟨d, x, v3, v4, pl, xs, rfl, e, b, ep, op, hL, hxl, W', g⟩ := hp
        exact ⟨d, x, v3, v4, pl, xs, rfl, e, b, ep, op, hL, hxl, W', g⟩
    · intro σ' Hc ⟨d, x, v3, v4, pl, xs, e1, e, b, ep, op, hL, hxl, W', g'⟩
      subst e1
      have young' : ∀ a, Hc a = Option.none → (B a ∧ a ≠ lp) := fun a ha => by
        obtain ⟨yp, hyp⟩ := W'.pl
        have n1 : a ≠ p := fun z => by rw [z, hyp] at ha; cases ha
        exact ⟨young a (g'.none' n1 ha), fun z => by rw [z, hL] at ha; cases ha⟩
      refine ⟨_, rfl, _, rfl, _, c, p, l, ns, n + 24, d, x, rfl, e, b, hc, nB', young', W', by omega, fun d2 x2 H2 en2 b2 W2 g2 => ?_⟩
      have hL2 := g2.lst hlpp hL
      have u2 := g'.trans' g2
      obtain ⟨yp, hyp⟩ := W'.pl
      have ep2 := ep.gb nB' g2 hyp
      refine ⟨fun σ' Hc => ∃ (d : Da) (x1 : V) (v6 v7 : Option V), σ' = [some x, some (.ref p), some (.ref lp), v3, v4, some x1, v6, v7] ∧ EncB (fun a => B a ∧ a ≠ lp) Hc d x1 ∧ Bd (3 * c + 1940) d ∧ Wl Hc p l ns (n + 28) ∧ GrowW p H Hc, ?_, ?_⟩
      · refine ⟨_, rfl, lp, xs, rfl, SqL.of hL2, fun rp hrp => ?_⟩
        have g3 := Grow.new (o := .lst xs.reverse) hrp
        have hR := upd_same (H := H2) (a := rp) (o := .lst xs.reverse)
        have ep3 := encs_rev (ep2.grow g3)
        have en3 := en2.grow g3
        have W3 := W2.grow g3
        have u3 := u2.trans' g3.w
        have op3 : ∀ e ∈ pl.reverse, PartOk c e := fun e he => op e (List.mem_reverse.mp he)
        generalize upd H2 rp (.lst xs.reverse) = H3 at ep3 en3 W3 u3 hR ⊢
        generalize xs.reverse = ys at ep3 hR ⊢
        generalize pl.reverse = ql at ep3 op3
        refine ⟨rp, rfl, ⟨_, SqL.of hR⟩, ?_⟩
        refine for_list (xs := ys) (fun i σ' Hc => ∃ (d : Da) (x1 : V) (v6 v7 : Option V), σ' = [some x, some (.ref p), some (.ref lp), v3, v4, some x1, v6, v7] ∧ EncB (fun a => B a ∧ a ≠ lp) Hc d x1 ∧ Bd (3 * c + 1940) d ∧ Grow H3 Hc)
          ⟨d2, x2, _, _, rfl, en3, b2, Grow.refl H3⟩ (fun i σ' Hc hi hp => ?_) (fun i y σ' Hc hy hp => ?_) (fun σ' Hc hp => ?_)
        · obtain ⟨d, x1, v6, v7, rfl, e, b, g⟩ := hp
          exact SqL.of (g.lst hR)
        · obtain ⟨d, x1, v6, v7, rfl, e, b, g⟩ := hp
          obtain ⟨z, hz, ez⟩ := ep3.get hy
          obtain ⟨la, lb, rfl, bla, blb, nla, nlb⟩ := op3 z (List.mem_of_getElem? hz)
          obtain ⟨q, qs, rfl, hq, eqs⟩ := enc_tup (ez.grow g)
          cases eqs with
          | cons ea eqs =>
            cases eqs with
            | cons eb eqs =>
              cases eqs with
              | nil =>
                obtain ⟨aa, as, rfl, haa, ea1⟩ := enc_tup ea
                obtain ⟨ab, bs, rfl, hab, eb1⟩ := enc_tup eb
                refine ⟨q, _, rfl, SqT.of hq, rfl, _, _, rfl, _, _, rfl, rfl, ?_⟩
                refine ⟨_, rfl, _, rfl, (by show 1 ≤ sizeLine; decide), fun t1 ht1 => ?_⟩
                have g1 := Grow.new (o := .tup [x1]) ht1
                have h1 := upd_same (H := Hc) (a := t1) (o := .tup [x1])
                have bd1 : Bds (3 * c + 1940) [d] := ⟨b, trivial⟩
                refine rd_cat (g1.tup haa) h1 (ea1.grow g1) (.cons (e.grow g1) .nil) (bds_le (by omega) bla) bd1 (by show _ + 1 ≤ 20000; omega) fun q4 y4 H4 g4 a4 e4 b4 => ?_
                have g14 := g1.trans g4
                refine ⟨_, rfl, rd_cat a4 (g14.tup hab) e4 (eb1.grow g14) b4 (bds_le (by omega) blb) (by rw [List.length_append]; show _ + 1 + _ ≤ 20000; omega) fun q5 y5 H5 g5 a5 e5 b5 => ?_⟩
                have n5 : (la ++ [d] ++ lb).length ≤ 3 * c + 1940 := by rw [List.length_append, List.length_append]; show _ + 1 + _ ≤ _; omega
                exact ⟨.tup (la ++ [d] ++ lb), .ref q5, _, _, rfl, .tup a5 e5, ⟨n5, b5⟩, (g.trans g14).trans g5⟩
        · obtain ⟨d, x1, v6, v7, rfl, e, b, g⟩ := hp
          exact ⟨d, x1, v6, v7, rfl, e, b, (W3.grow g).more (by omega), u3.trans' g.w⟩
      · intro σ' Hc ⟨d, x1, v6, v7, e1, e, b, W', g'⟩
        subst e1
        exact ⟨_, rfl, kq d x1 Hc (e.mono fun a z => z.1) b W' g'⟩
end
end J1
set_option Elab.async false
set_option linter.all false
set_option maxRecDepth 100000
set_option maxHeartbeats 4000000
namespace J1
open PySem PySem.Spec PyProof.Rows L2 GxR GA
/-! ### what is_program says of chains and counts -/
mutual
/-- a part at a place of its chain, and how many parts it has -/
inductive Ok : Nat → Da → Bool → Nat → Prop
  | mk {n nm c1 c2 : Nat} {d : Da} {b : Bool} {ts bs : List Da} (h : innerP d b = some (nm, ts, bs)) (hn : n ≤ 30) (k1 : OkL (n + 1) false ts c1) (k2 : OkL (n + 1) true bs c2) : Ok n d b (1 + nm + (c1 + c2))
inductive OkL : Nat → Bool → List Da → Nat → Prop
  | nil {n : Nat} {b : Bool} : OkL n b [] 0
  | cons {n c c' : Nat} {b : Bool} {d : Da} {l : List Da} (h : Ok n d b c) (t : OkL n b l c') : OkL n b (d :: l) (c + c')
end
inductive OkI : List It → Nat → Prop
  | nil : OkI [] 0
  | cons {n c c' : Nat} {b : Bool} {d : Da} {l : List It} (h : Ok n d b c) (t : OkI l c') : OkI ((d, b, n) :: l) (c + c')
theorem OkI.split : ∀ {l m : List It} {c : Nat}, OkI (l ++ m) c → ∃ c1 c2, OkI l c1 ∧ OkI m c2 ∧ c = c1 + c2
  | [], m, c, h => ⟨0, c, .nil, h, (Nat.zero_add c).symm⟩
  | (d, b, n) :: l, m, c, h => by
    cases h with
    | cons h t =>
      obtain ⟨c1, c2, h1, h2, e⟩ := OkI.split t
      exact ⟨_, c2, .cons h h1, h2, by omega⟩
theorem OkI.app : ∀ {l m : List It} {c1 c2 : Nat}, OkI l c1 → OkI m c2 → OkI (l ++ m) (c1 + c2)
  | [], m, c1, c2, h, k => by
    cases h
    rw [Nat.zero_add]
    exact k
  | (d, b, n) :: l, m, c1, c2, h, k => by
    cases h with
    | cons h t =>
      rw [Nat.add_assoc]
      exact .cons h (OkI.app t k)
theorem OkI.toL {n : Nat} {b : Bool} : ∀ {l : List Da} {c : Nat}, OkI (l.map fun d => (d, b, n)) c → OkL n b l c
  | [], c, h => by
    cases h
    exact .nil
  | d :: l, c, h => by
    cases h with
    | cons h t => exact .cons h (OkI.toL t)
theorem runW_ok : ∀ (k : Nat) (ws : List It) (found : Nat), found ≤ 100 → runW k ws found = true → ∃ c, OkI ws c ∧ found + c ≤ 100
  | 0, _, _, _, h => by cases h
  | k + 1, ws, found, hf, h => by
    unfold runW at h
    generalize hr : ws.reverse = r at h
    match r, hr, h with
    | [], hr, _ =>
      rw [List.reverse_eq_nil_iff] at hr
      exact ⟨0, hr ▸ .nil, hf⟩
    | (d, b, n) :: rest, hr, h =>
      have hw : ws = rest.reverse ++ [(d, b, n)] := by
        have := congrArg List.reverse hr
        rw [List.reverse_reverse, List.reverse_cons] at this
        exact this
      dsimp only at h
      cases hi : innerP d b with
      | none => rw [hi] at h; cases h
      | some q =>
        obtain ⟨nm, ts, bs⟩ := q
        rw [hi] at h
        dsimp only at h
        by_cases hc : 100 < found + (1 + nm) ∨ 30 < n
        · rw [if_pos hc] at h; cases h
        · rw [if_neg hc] at h
          obtain ⟨c, hk, hle⟩ := runW_ok k _ _ (by omega) h
          obtain ⟨cr, cn, h1, h2, e⟩ := hk.split
          obtain ⟨c1, c2, h3, h4, e2⟩ := h2.split
          refine ⟨cr + (1 + nm + (c1 + c2) + 0), ?_, by omega⟩
          rw [hw]
          exact h1.app (.cons (.mk hi (by omega) h3.toL h4.toL) .nil)
theorem whole_ok {d : Da} (h : wholeB d = true) : ∃ c, Ok 1 d true c ∧ c ≤ 100 := by
  obtain ⟨c, h1, h2⟩ := runW_ok 102 _ 0 (by omega) h
  cases h1 with
  | cons h t =>
    cases t
    exact ⟨_, h, by omega⟩
/-! ### rows of words -/
def wt (ss : List Str) : Nat := (ss.map fun s => s.length + 1).sum
theorem wt_app (a b : List Str) : wt (a ++ b) = wt a + wt b := by
  unfold wt
  rw [List.map_append, List.sum_append]
theorem wt_len (a : List Str) : a.length ≤ wt a := by
  induction a with
  | nil => exact Nat.zero_le _
  | cons x a ih =>
    show a.length + 1 ≤ (x.length + 1) + wt a
    omega
/-- a list of words at a place of N, and a bound of their signs and blanks -/
def WL (N : Addr → Prop) (H : Hp) (x : V) (m : Nat) : Prop := ∃ (a : Addr) (ss : List Str), x = .ref a ∧ N a ∧ H a = some (.lst (ss.map V.str)) ∧ wt ss ≤ m
theorem WL.grow {N : Addr → Prop} {H H' : Hp} {x : V} {m : Nat} (h : WL N H x m) (g : Grow H H') : WL N H' x m := by
  obtain ⟨a, ss, e, na, ha, hm⟩ := h
  exact ⟨a, ss, e, na, g.lst ha, hm⟩
theorem WL.le {N : Addr → Prop} {H : Hp} {x : V} {m k : Nat} (h : WL N H x m) (hk : m ≤ k) : WL N H x k := by
  obtain ⟨a, ss, e, na, ha, hm⟩ := h
  exact ⟨a, ss, e, na, ha, Nat.le_trans hm hk⟩
theorem WL.imp {N N' : Addr → Prop} {H : Hp} {x : V} {m : Nat} (h : WL N H x m) (hn : ∀ a, N a → N' a) : WL N' H x m := by
  obtain ⟨a, ss, e, na, ha, hm⟩ := h
  exact ⟨a, ss, e, hn a na, ha, hm⟩
theorem WL.updD {D : Addr} {H : Hp} {o : HO} {x : V} {m : Nat} (h : WL (fun a => a ≠ D) H x m) : WL (fun a => a ≠ D) (L2.upd H D o) x m := by
  obtain ⟨a, ss, e, na, ha, hm⟩ := h
  exact ⟨a, ss, e, na, by rw [upd_ne na]; exact ha, hm⟩
inductive WLs (N : Addr → Prop) (H : Hp) : List V → Nat → Prop
  | nil : WLs N H [] 0
  | cons {x : V} {xs : List V} {m k : Nat} (h : WL N H x m) (t : WLs N H xs k) : WLs N H (x :: xs) (m + k)
theorem WLs.grow {N : Addr → Prop} {H H' : Hp} (g : Grow H H') : ∀ {xs : List V} {m : Nat}, WLs N H xs m → WLs N H' xs m
  | _, _, .nil => .nil
  | _, _, .cons h t => .cons (h.grow g) (t.grow g)
theorem WLs.updD {D : Addr} {H : Hp} {o : HO} : ∀ {xs : List V} {m : Nat}, WLs (fun a => a ≠ D) H xs m → WLs (fun a => a ≠ D) (L2.upd H D o) xs m
  | _, _, .nil => .nil
  | _, _, .cons h t => .cons h.updD t.updD
theorem WLs.push {N : Addr → Prop} {H : Hp} : ∀ {xs : List V} {m k : Nat} {x : V}, WLs N H xs m → WL N H x k → WLs N H (xs ++ [x]) (m + k)
  | _, _, k, _, .nil, h => by
    rw [Nat.zero_add]
    exact .cons h .nil
  | _, _, _, _, .cons h t, k => by
    rw [Nat.add_assoc]
    exact .cons h (t.push k)
theorem Grow.butN {H0 H : Hp} {q : Addr} {o : HO} (g : Grow H0 H) (hq : H0 q = Option.none) : Grow H0 (L2.upd H q o) := fun a u h => by
  have n : a ≠ q := fun z => by rw [z, hq] at h; cases h
  rw [upd_ne n]
  rcases g a u h with z | ⟨z, ps, z1, z2⟩
  · exact .inl z
  · exact .inr ⟨z, ps, by rw [upd_ne n]; exact z1, z2⟩
/-- xs + ys of words -/
theorem rd_catW {N1 N2 : Addr → Prop} {H : Hp} {x y : V} {m k : Nat} {Q : VK} (hx : WL N1 H x m) (hy : WL N2 H y k) (hz : m + k ≤ 4000000) (q : ∀ z H', Grow H H' → WL (fun a => H a = Option.none) H' z (m + k) → Q z H') : rCat x y H Q := by
  obtain ⟨a, ss, rfl, _, ha, hm⟩ := hx
  obtain ⟨b, ts, rfl, _, hb, hk⟩ := hy
  have h1 := wt_len ss
  have h2 := wt_len ts
  refine ⟨a, b, _, _, rfl, rfl, ha, hb, by rw [List.length_map, List.length_map, sizeLine_eq]; omega, fun p hp => ?_⟩
  refine q _ _ (Grow.new hp) ⟨p, ss ++ ts, rfl, hp, ?_, by rw [wt_app]; omega⟩
  rw [List.map_append]
  exact upd_same
theorem wl_new {H : Hp} {p : Addr} (hp : H p = Option.none) (ss : List Str) : WL (fun a => H a = Option.none) (L2.upd H p (.lst (ss.map V.str))) (.ref p) (wt ss) := ⟨p, ss, rfl, hp, upd_same, Nat.le_refl _⟩
theorem nam10 {s : Str} (h : isNamS s = true) : s.length ≤ 10 := by
  unfold isNamS at h
  rw [Bool.and_eq_true, Bool.and_eq_true] at h
  have := of_decide_eq_true h.2.1
  omega
theorem low_str {d : Da} (h : isLow d = true) : ∃ s, d = .str s ∧ s.length ≤ 10 := by
  cases d with
  | str s =>
    have h : (isNamS s && Txt.islower (head1 s)) = true := h
    rw [Bool.and_eq_true] at h
    exact ⟨s, rfl, nam10 h.1⟩
  | _ => cases h
theorem hig_str {d : Da} (h : isHig d = true) : ∃ s, d = .str s ∧ s.length ≤ 10 := by
  cases d with
  | str s =>
    have h : (isNamS s && Txt.isupper (head1 s)) = true := h
    rw [Bool.and_eq_true] at h
    exact ⟨s, rfl, nam10 h.1⟩
  | _ => cases h
theorem kin_str {d : Da} (h : isKin d = true) : ∃ s, d = .str s ∧ s.length ≤ 10 := by
  cases d with
  | str s =>
    have h : (decide (s = "whole") || isHig (.str s)) = true := h
    rw [Bool.or_eq_true] at h
    rcases h with h | h
    · rw [of_decide_eq_true h]
      exact ⟨_, rfl, by decide⟩
    · obtain ⟨s', e, hs⟩ := hig_str h
      cases e
      exact ⟨s, rfl, hs⟩
  | _ => cases h
theorem bet_int {lo hi : Int} {d : Da} (h : isBet lo hi d = true) : ∃ i, d = .int i ∧ lo ≤ i ∧ i ≤ hi := by
  cases d with
  | int i =>
    have h : (decide (lo ≤ i) && decide (i ≤ hi)) = true := h
    rw [Bool.and_eq_true] at h
    exact ⟨i, rfl, of_decide_eq_true h.1, of_decide_eq_true h.2⟩
  | _ => cases h
end J1
set_option Elab.async false
set_option linter.all false
set_option maxRecDepth 100000
set_option maxHeartbeats 8000000
namespace J1
open PySem PySem.Spec PyProof.Rows L2 GxR GA
abbrev lBr : Stmt := top 30
theorem cBr : FnScope ["parts", "words", "at", "part"] ["parts"] (defScope lBr) := ⟨rfl, rfl, rfl, by decide +kernel, rfl, by decide +kernel, by decide +kernel⟩
abbrev lBb : Stmt := top 31
theorem cBb : FnScope ["body"] ["body"] (defScope lBb) := ⟨rfl, rfl, rfl, by decide +kernel, rfl, by decide +kernel, by decide +kernel⟩
abbrev lTw : Stmt := top 33
theorem cTw : FnScope ["term", "word", "part"] ["term"] (defScope lTw) := ⟨rfl, rfl, rfl, by decide +kernel, rfl, by decide +kernel, by decide +kernel⟩
theorem ifS {s W : Str} {A B : Prop} (h : s = W) (a : A) : if decide (V.str s = V.str W) = true then A else B := by
  subst h
  rw [if_pos (decide_eq_true rfl)]
  exact a
theorem ifN {s W : Str} {A B : Prop} (h : s ≠ W) (b : B) : if decide (V.str s = V.str W) = true then A else B := by
  rw [if_neg (by rw [eqS, decide_eq_false h]; decide)]
  exact b
theorem two_of2 {l : List Da} (h : lenIs l 2 = true) : ∃ x y, l = [x, y] := by
  have e : l.length = 2 := of_decide_eq_true h
  match l, e with
  | [x, y], _ => exact ⟨x, y, rfl⟩
theorem three_of {l : List Da} (h : lenIs l 3 = true) : ∃ x y z, l = [x, y, z] := by
  have e : l.length = 3 := of_decide_eq_true h
  match l, e with
  | [x, y, z], _ => exact ⟨x, y, z, rfl⟩
theorem four_of {l : List Da} (h : lenIs l 4 = true) : ∃ x y z u, l = [x, y, z, u] := by
  have e : l.length = 4 := of_decide_eq_true h
  match l, e with
  | [x, y, z, u], _ => exact ⟨x, y, z, u, rfl⟩
theorem five_of {l : List Da} (h : lenIs l 5 = true) : ∃ x y z u v, l = [x, y, z, u, v] := by
  have e : l.length = 5 := of_decide_eq_true h
  match l, e with
  | [x, y, z, u, v], _ => exact ⟨x, y, z, u, v, rfl⟩
theorem fst_of {x : Da} {l : List Da} {W : Str} (h : firstW (.tup (x :: l)) = W) (hW : W ≠ "") : x = .str W := by
  cases x with
  | str s => exact congrArg Da.str h
  | _ => exact absurd h.symm hW
theorem sgn_str {d : Da} (h : isSign d = true) : ∃ s, d = .str s ∧ s.length ≤ 10 := by
  cases d with
  | str s =>
    have h : inV (.str s) [.str "+", .str "-"] = true := h
    refine ⟨s, rfl, ?_⟩
    unfold inV at h
    rw [List.any_eq_true] at h
    obtain ⟨y, hy, h⟩ := h
    simp at hy
    rcases hy with rfl | rfl
    · have : ("+" : Str) = s := by simpa [eqV] using h
      rw [← this]; decide
    · have : ("-" : Str) = s := by simpa [eqV] using h
      rw [← this]; decide
  | _ => cases h
theorem tu_le {lo hi : Int} {n : Nat} {d : Da} (h : isTu lo hi d = true) (hn : hi ≤ n) : ∃ l, d = .tup l ∧ l.length ≤ n := by
  cases d with
  | tup l =>
    have h : (decide (lo ≤ (l.length : Int)) && decide ((l.length : Int) ≤ hi)) = true := h
    rw [Bool.and_eq_true] at h
    have := of_decide_eq_true h.2
    exact ⟨l, rfl, by omega⟩
  | _ => cases h
inductive TermK : Da → List Da → Prop
  | num {i : Int} (h : i.natAbs ≤ 1000000000000) : TermK (.tup [.str "num", .int i]) []
  | name {s : Str} (h : s.length ≤ 10) : TermK (.tup [.str "name", .str s]) []
  | op {s : Str} {a b : Da} (h : s.length ≤ 10) : TermK (.tup [.str "op", .str s, a, b]) [a, b]
  | times {i : Int} {a : Da} (h : i.natAbs ≤ 1000000000000) : TermK (.tup [.str "times", .int i, a]) [a]
  | make {w s : Str} {l : List Da} (hw : w = "make" ∨ w = "call") (h : s.length ≤ 10) (hl : l.length ≤ 6) : TermK (.tup [.str w, .str s, .tup l]) l
theorem term_k {d : Da} {ts : List Da} (h : termP d = some ts) : TermK d ts := by
  unfold termP termL at h
  by_cases c1 : k1 (firstW d) (parts d) = true
  · rw [if_pos c1] at h
    cases h
    unfold k1 at c1
    rw [Bool.and_eq_true, Bool.and_eq_true] at c1
    obtain ⟨e1, e2, e3⟩ := c1
    obtain ⟨l, rfl⟩ := wtup rfl e1 (by decide)
    obtain ⟨x, y, rfl⟩ := two_of2 (l := l) e2
    obtain rfl := fst_of (of_decide_eq_true e1) (by decide)
    obtain ⟨i, rfl, h1, h2⟩ := bet_int (d := y) e3
    exact .num (by omega)
  rw [if_neg c1] at h
  by_cases c2 : k2 (firstW d) (parts d) = true
  · rw [if_pos c2] at h
    cases h
    unfold k2 at c2
    rw [Bool.and_eq_true, Bool.and_eq_true] at c2
    obtain ⟨e1, e2, e3⟩ := c2
    obtain ⟨l, rfl⟩ := wtup rfl e1 (by decide)
    obtain ⟨x, y, rfl⟩ := two_of2 (l := l) e2
    obtain rfl := fst_of (of_decide_eq_true e1) (by decide)
    obtain ⟨s, rfl, h1⟩ := low_str (d := y) e3
    exact .name h1
  rw [if_neg c2] at h
  by_cases c3 : k3 (firstW d) (parts d) = true
  · rw [if_pos c3] at h
    cases h
    unfold k3 at c3
    rw [Bool.and_eq_true, Bool.and_eq_true] at c3
    obtain ⟨e1, e2, e3⟩ := c3
    obtain ⟨l, rfl⟩ := wtup rfl e1 (by decide)
    obtain ⟨x, y, z, u, rfl⟩ := four_of (l := l) e2
    obtain rfl := fst_of (of_decide_eq_true e1) (by decide)
    obtain ⟨s, rfl, h1⟩ := sgn_str (d := y) e3
    exact .op h1
  rw [if_neg c3] at h
  by_cases c4 : k4 (firstW d) (parts d) = true
  · rw [if_pos c4] at h
    cases h
    unfold k4 at c4
    rw [Bool.and_eq_true, Bool.and_eq_true] at c4
    obtain ⟨e1, e2, e3⟩ := c4
    obtain ⟨l, rfl⟩ := wtup rfl e1 (by decide)
    obtain ⟨x, y, z, rfl⟩ := three_of (l := l) e2
    obtain rfl := fst_of (of_decide_eq_true e1) (by decide)
    obtain ⟨i, rfl, h1, h2⟩ := bet_int (d := y) e3
    exact .times (by omega)
  rw [if_neg c4] at h
  by_cases c5 : k5 (firstW d) (parts d) = true
  · rw [if_pos c5] at h
    cases h
    unfold k5 at c5
    rw [Bool.and_eq_true, Bool.and_eq_true, Bool.and_eq_true] at c5
    obtain ⟨e1, e2, e3, e4⟩ := c5
    obtain ⟨l, rfl⟩ := wtup rfl e1 (by decide)
    obtain ⟨x, y, z, rfl⟩ := three_of (l := l) e2
    obtain rfl := fst_of (of_decide_eq_true e1) (by decide)
    obtain ⟨s, rfl, h1⟩ := hig_str (d := y) e3
    obtain ⟨l, rfl, h2⟩ := tu_le (d := z) (n := 6) e4 (by decide)
    exact .make (.inl rfl) h1 h2
  rw [if_neg c5] at h
  by_cases c6 : k6 (firstW d) (parts d) = true
  · rw [if_pos c6] at h
    cases h
    unfold k6 at c6
    rw [Bool.and_eq_true, Bool.and_eq_true, Bool.and_eq_true] at c6
    obtain ⟨e1, e2, e3, e4⟩ := c6
    obtain ⟨l, rfl⟩ := wtup rfl e1 (by decide)
    obtain ⟨x, y, z, rfl⟩ := three_of (l := l) e2
    obtain rfl := fst_of (of_decide_eq_true e1) (by decide)
    obtain ⟨s, rfl, h1⟩ := low_str (d := y) e3
    obtain ⟨l, rfl, h2⟩ := tu_le (d := z) (n := 6) e4 (by decide)
    exact .make (.inr rfl) h1 h2
  rw [if_neg c6] at h
  cases h
def spBr : Sp := fun vs H Q _ => ∃ (N : Addr → Prop) (a : Addr) (ps : List V) (m : Nat), vs = [.ref a] ∧ H a = some (.lst ps) ∧ WLs N H ps m ∧ ps.length ≤ 20 ∧ m ≤ 2000000 ∧ ∀ x' H', Grow H H' → WL (fun a => H a = Option.none) H' x' (m + 2 * ps.length + 4) → Q x' H'
def spTw (j : Nat) : Sp := fun vs H Q _ => ∃ (d : Da) (x : V) (n c : Nat), vs = [x] ∧ Enc H d x ∧ Ok n d false c ∧ 31 ≤ n + j ∧ c ≤ 100 ∧ ∀ x' H', Grow H H' → WL (fun a => H a = Option.none) H' x' (3000 * c) → Q x' H'
structure Gw (K : PySem.W.Frag) (mg : Str → Option Value) : Prop where
  en : mg "enumerate" = Option.none
  str : mg "str" = Option.none
section
variable {P : Program} {w : World} {K : PySem.W.Frag} {mg : Str → Option Value} {base : Heap}
theorem ok_br {f : Addr} {fd : FuncData} (F : Fun K "_in_brackets" "_in_brackets" lBr f fd) (N : Gw K mg) : FnOk P w K mg base CX0 1 f fd ["parts"] spBr := by
  refine F.ok (k := 0) cBr (fun vs H Q E h => ?_) (fun cdv A outer s H vs Q E hr h => ?_)
  · obtain ⟨NN, a, ps, m, rfl, _⟩ := h
    rfl
  · obtain ⟨NN, a, ps, m, rfl, ha, hw, hl, hm, kq⟩ := h
    refine ⟨_, (pss_cons (ps_set (i := 1) cBr.nd rfl (Or.inl rfl) (pe_lst (pa_cons pe_str pa_nil))) (pss_cons (ps_for PassesOwn.never rfl (pi_enum (by rfl) N.en (pa_cons (pv 0) pa_nil)) (pg_tup (by rfl) (pgs_cons (pg_name (i := 2) cBr.nd rfl (Or.inl rfl)) (pgs_cons (pg_name (i := 3) cBr.nd rfl (Or.inl rfl)) pgs_nil))) (C8.pss_cut (ps_if (pt_cmpR op_gt (pv 2) pe_int (nomark _)) (pss_one (ps_expr (pe_bm PySem.F.plainAttrs_list PySem.F.slot_list_append PySem.F.type_list_append mt_append (pv 1) (pa_cons pe_str pa_nil)))) pss_nil) (pss_one (ps_expr (pe_bm PySem.F.plainAttrs_list PySem.F.slot_list_extend PySem.F.type_list_extend mt_extend (pv 1) (pa_cons (pv 3) pa_nil)))))) (pss_cons (ps_expr (pe_bm PySem.F.plainAttrs_list PySem.F.slot_list_append PySem.F.type_list_append mt_append (pv 1) (pa_cons pe_str pa_nil))) (pss_one (ps_ret (pv 1)))))), ?_⟩
    refine ⟨(by show 1 ≤ sizeLine; decide), fun D hD => ?_⟩
    have g0 := Grow.new (o := .lst [.str "("]) hD
    have h0 := upd_same (H := H) (a := D) (o := .lst [.str "("])
    generalize upd H D (.lst [.str "("]) = H0 at g0 h0 ⊢
    refine ⟨_, rfl, a, ps, rfl, SqL.of (g0.lst ha), ?_⟩
    refine for_it (walk_enum (a := a) (xs := ps)) (fun i σ Hc => ∃ (v2 v3 : Option V) (ss : List Str) (k : Nat), σ = [some (.ref a), some (.ref D), v2, v3] ∧ Hc D = some (.lst (ss.map V.str)) ∧ Grow H Hc ∧ WLs NN H (ps.drop i) k ∧ wt ss + k ≤ m + 2 + 2 * i)
      ⟨_, _, ["("], m, rfl, h0, g0, hw, (by show 1 + 1 + 0 + m ≤ _; omega)⟩ (fun i σ Hc hi hp => ?_) (fun i y σ Hc Hn hi hp hy => ?_) (fun σ Hc hp => ?_)
    · obtain ⟨v2, v3, ss, k, rfl, hDs, g, hk, hle⟩ := hp
      exact SqL.of (g.lst ha)
    · obtain ⟨v2, v3, ss, k, rfl, hDs, g, hk, hle⟩ := hp
      obtain ⟨T, y1, y2, rfl, hT, rfl, e1, e2⟩ := hy
      cases e1
      have e2 : ps[i]? = some y2 := e2
      obtain ⟨hlt, he⟩ := List.getElem?_eq_some_iff.mp e2
      rw [List.drop_eq_getElem_cons hlt, he] at hk
      cases hk with
      | @cons _ _ m1 m2 hx ht =>
        have gT := Grow.new (o := .tup [.int ((i : Nat) : Int), y2]) hT
        have hTs := upd_same (H := Hc) (a := T) (o := .tup [.int ((i : Nat) : Int), y2])
        have hD1 := gT.lst hDs
        have g1 := g.trans gT
        refine ⟨T, _, rfl, SqT.of hTs, rfl, _, _, rfl, _, _, rfl, rfl, ?_⟩
        generalize upd Hc T (.tup [.int ((i : Nat) : Int), y2]) = H1 at hD1 g1 ⊢
        clear hTs gT hDs g
        refine ⟨fun σ H2 => ∃ ss2 : List Str, σ = [some (.ref a), some (.ref D), some (.int ((i : Nat) : Int)), some y2] ∧ H2 D = some (.lst (ss2.map V.str)) ∧ Grow H H2 ∧ wt ss2 ≤ wt ss + 2, ?_, ?_⟩
        · refine ⟨_, rfl, _, _, rfl, rfl, _, rfl, ?_⟩
          generalize hb : decide ((0 : Int) < ((i : Nat) : Int)) = bb
          cases bb with
          | true =>
            refine iteT ⟨_, rfl, .inl ⟨rfl, _, SqL.of hD1⟩, D, _, _, rfl, rfl, hD1, ?_, ?_⟩
            · have := wt_len ss
              rw [List.length_map, sizeLine_eq]
              omega
            · refine ⟨ss ++ [("," : Str)], rfl, ?_, g1.butN hD, ?_⟩
              · rw [List.map_append]
                exact upd_same
              · rw [wt_app]
                exact Nat.le_refl _
          | false => exact iteF ⟨ss, rfl, hD1, g1, by omega⟩
        · intro σ H2 ⟨ss2, e, hD2, g2, hle2⟩
          subst e
          obtain ⟨b, ts, rfl, _, hb, hm1⟩ := hx
          refine ⟨_, rfl, .inl ⟨rfl, _, SqL.of hD2⟩, _, rfl, D, b, _, _, rfl, rfl, hD2, g2.lst hb, ?_, ?_⟩
          · have h1 := wt_len ss2
            have h2 := wt_len ts
            rw [List.length_map, List.length_map, sizeLine_eq]
            omega
          · refine ⟨_, _, ss2 ++ ts, m2, rfl, ?_, g2.butN hD, ht, ?_⟩
            · rw [List.map_append]
              exact upd_same
            · rw [wt_app]
              omega
    · obtain ⟨v2, v3, ss, k, rfl, hDs, g, hk, hle⟩ := hp
      have := wt_len ss
      refine ⟨_, rfl, .inl ⟨rfl, _, SqL.of hDs⟩, D, _, _, rfl, rfl, hDs, (by rw [List.length_map, sizeLine_eq]; omega), ?_⟩
      refine ⟨_, rfl, kq _ _ (g.butN hD) ⟨D, ss ++ [(")" : Str)], rfl, hD, ?_, ?_⟩⟩
      · rw [List.map_append]
        exact upd_same
      · rw [wt_app]
        show wt ss + 2 ≤ _
        omega
end
end J1
set_option Elab.async false
set_option linter.all false
set_option maxRecDepth 100000
set_option maxHeartbeats 8000000
namespace J1
open PySem PySem.Spec PyProof.Rows L2 GxR GA
theorem ok_in {n : Nat} {d : Da} {c : Nat} (h : Ok n d false c) : ∃ ts c1, termP d = some ts ∧ n ≤ 30 ∧ OkL (n + 1) false ts c1 ∧ c = 1 + c1 := by
  cases h with
  | mk h hn k1 k2 =>
    have h : (termP d).map (fun l => ((0 : Nat), l, ([] : List Da))) = _ := h
    cases ht : termP d with
    | none => rw [ht] at h; cases h
    | some l =>
      rw [ht] at h
      cases h
      cases k2
      exact ⟨_, _, rfl, hn, k1, by omega⟩
section
variable {P : Program} {w : World} {K : PySem.W.Frag} {mg : Str → Option Value} {base : Heap}
theorem none_tw {f : Addr} {fd : FuncData} {k : Nat} : FnOk P w K mg base CX0 k f fd ["term"] (spTw 0) := by
  have no : ∀ vs H Q E, ¬ spTw 0 vs H Q E := fun vs H Q E h => by
    obtain ⟨d, x, n, c, _, _, h1, h2, _⟩ := h
    obtain ⟨_, _, _, h3, _⟩ := ok_in h1
    omega
  exact ⟨fun vs H Q E h => absurd h (no vs H Q E), fun A outer s H args us vs Q E _ _ _ _ h => absurd h (no vs H Q E)⟩
theorem nn {H H' : Hp} (g : Grow H H') : ∀ a : Addr, H' a = Option.none → H a = Option.none := fun a h => none_of g h
theorem ok_tw {j : Nat} {f fT fR : Addr} {fd fdT fdR : FuncData} (F : Fun K "_term_words" "_term_words" lTw f fd) (N : Gw K mg) (GT : FnOk P w K mg base CX0 (2 + j) fT fdT ["term"] (spTw j)) (DT : Df K mg "_term_words" ["term"] fT fdT)
    (GR : FnOk P w K mg base CX0 1 fR fdR ["parts"] spBr) (DR : Df K mg "_in_brackets" ["parts"] fR fdR) : FnOk P w K mg base CX0 (2 + (j + 1)) f fd ["term"] (spTw (j + 1)) := by
  refine F.ok (k := 2 + j) cTw (fun vs H Q E h => ?_) (fun cdv A outer s H vs Q E hr h => ?_)
  · obtain ⟨d, x, n, c, rfl, _⟩ := h
    rfl
  · obtain ⟨d, x, n, c, rfl, en, hok, hj, hc, kq⟩ := h
    obtain ⟨ts, c1, hP, hn, hL, rfl⟩ := ok_in hok
    refine ⟨_, (pss_cons (ps_set (i := 1) cTw.nd rfl (Or.inl rfl) (pe_ix ix_tup (pv 0) pe_int (fun _ _ => rfl))) (pss_cons (ps_if (pt_cmpR op_eq (pv 1) pe_str (nomark _)) (pss_one (ps_ret (pe_lst (pa_cons (pe_callTy call_strB (by rfl) N.str (by decide +kernel) (pa_cons (pe_ix ix_tup (pv 0) pe_int (fun _ _ => rfl)) pa_nil)) pa_nil)))) pss_nil) (pss_cons (ps_if (pt_cmpR op_eq (pv 1) pe_str (nomark _)) (pss_one (ps_ret (pe_lst (pa_cons (pe_ix ix_tup (pv 0) pe_int (fun _ _ => rfl)) pa_nil)))) pss_nil) (pss_cons (ps_if (pt_cmpR op_eq (pv 1) pe_str (nomark _)) (pss_one (ps_ret (pe_op op_cat (pe_op op_cat (pe_op op_cat (pe_op op_cat (pe_lst (pa_cons pe_str pa_nil)) (pe_call GT hr (by rfl) DT.g DT.k DT.b .nil pass0 (pa_cons (pe_ix ix_tup (pv 0) pe_int (fun _ _ => rfl)) pa_nil))) (pe_lst (pa_cons (pe_ix ix_tup (pv 0) pe_int (fun _ _ => rfl)) pa_nil))) (pe_call GT hr (by rfl) DT.g DT.k DT.b .nil pass0 (pa_cons (pe_ix ix_tup (pv 0) pe_int (fun _ _ => rfl)) pa_nil))) (pe_lst (pa_cons pe_str pa_nil))))) pss_nil) (pss_cons (ps_if (pt_cmpR op_eq (pv 1) pe_str (nomark _)) (pss_one (ps_ret (pe_op op_cat (pe_op op_cat (pe_lst (pa_cons pe_str (pa_cons (pe_callTy call_strB (by rfl) N.str (by decide +kernel) (pa_cons (pe_ix ix_tup (pv 0) pe_int (fun _ _ => rfl)) pa_nil)) (pa_cons pe_str pa_nil)))) (pe_call GT hr (by rfl) DT.g DT.k DT.b .nil pass0 (pa_cons (pe_ix ix_tup (pv 0) pe_int (fun _ _ => rfl)) pa_nil))) (pe_lst (pa_cons pe_str pa_nil))))) pss_nil) (pss_one (ps_ret (pe_op op_cat (pe_lst (pa_cons (pe_ix ix_tup (pv 0) pe_int (fun _ _ => rfl)) pa_nil)) (pe_call (GR.mono (by omega)) hr (by rfl) DR.g DR.k DR.b .nil pass0 (pa_cons (pe_lc (own := [("part", 2)]) (g := gName 2) (tt := tYes) (by rfl) cTw.nd (pi_tup (pe_ix ix_tup (pv 0) pe_int (fun _ _ => rfl))) (blkOk_by (own := [("part", 2)]) (N := ["term", "word", "part"]) (sc := defScope lTw) (by decide +kernel)) (fun _ _ _ _ _ => (pg_name (i := 2) cTw.nd rfl (Or.inl rfl))) (fun _ _ _ _ _ => pts_nil) (fun _ _ _ _ _ => (pe_call GT hr (by rfl) DT.g DT.k DT.b .nil pass0 (pa_cons (pv 2) pa_nil)))) pa_nil)))))))))), ?_⟩
    have hk := term_k hP
    cases hk with
    | @num i hi =>
      obtain ⟨t, xs, rfl, ht, el⟩ := enc_tup en
      obtain ⟨x1, x2, rfl, e1, e2⟩ := encs2 el
      cases e1; cases e2
      have S := SqT.of (K := K) ht
      refine ⟨_, rfl, t, _, 0, _, rfl, rfl, SqT.of ht, rfl, ?_⟩
      refine ⟨_, rfl, rfl, _, rfl, ifS rfl ?_⟩
      have hl := log_of (c := 0) (i := i) (by omega) (by omega)
      refine ⟨_, rfl, t, _, 1, _, rfl, rfl, SqT.of ht, rfl, _, i, rfl, rfl, hl, fun z hz => ⟨(by show 1 ≤ sizeLine; decide), fun p hp => ?_⟩⟩
      have hz2 : z.length ≤ 1921 := by
        rcases hz with ⟨k, e, rfl⟩ | ⟨b, e, _⟩
        · cases e
          exact int_text_len_1921 hl
        · cases e
      exact kq _ _ (Grow.new hp) ((wl_new hp [z]).le (by show z.length + 1 + 0 ≤ _; omega))
    | @name z hz =>
      obtain ⟨t, xs, rfl, ht, el⟩ := enc_tup en
      obtain ⟨x1, x2, rfl, e1, e2⟩ := encs2 el
      cases e1; cases e2
      refine ⟨_, rfl, t, _, 0, _, rfl, rfl, SqT.of ht, rfl, ?_⟩
      refine ⟨_, rfl, rfl, _, rfl, ifN (by decide) ⟨_, rfl, rfl, _, rfl, ifS rfl ?_⟩⟩
      refine ⟨_, rfl, t, _, 1, _, rfl, rfl, SqT.of ht, rfl, (by show 1 ≤ sizeLine; decide), fun p hp => ?_⟩
      exact kq _ _ (Grow.new hp) ((wl_new hp [z]).le (by show z.length + 1 + 0 ≤ _; omega))
    | @op z a b hz =>
      obtain ⟨t, xs, rfl, ht, el⟩ := enc_tup en
      obtain ⟨x1, x2, x3, x4, rfl, e1, e2, e3, e4⟩ := encs4 el
      cases e1; cases e2
      cases hL with
      | @cons _ ca _ _ _ _ oa t1 =>
        cases t1 with
        | @cons _ cb _ _ _ _ ob t2 =>
          cases t2
          refine ⟨_, rfl, t, _, 0, _, rfl, rfl, SqT.of ht, rfl, ?_⟩
          refine ⟨_, rfl, rfl, _, rfl, ifN (by decide) ⟨_, rfl, rfl, _, rfl, ifN (by decide) ⟨_, rfl, rfl, _, rfl, ifS rfl ?_⟩⟩⟩
          refine ⟨(by show 1 ≤ sizeLine; decide), fun p1 hp1 => ?_⟩
          have w1 : WL _ (upd H p1 (.lst [V.str "("])) (.ref p1) 2 := (wl_new hp1 ["("]).le (by decide)
          have g1 := Grow.new (o := .lst [V.str "("]) hp1
          generalize upd H p1 (.lst [V.str "("]) = H1 at w1 g1 ⊢
          refine ⟨_, rfl, t, _, 2, _, rfl, rfl, SqT.of (g1.tup ht), rfl, a, x3, n + 1, ca, rfl, e3.grow g1, oa, by omega, by omega, fun z1 H2 g2 w2 => ?_⟩
          refine rd_catW (w1.grow g2) w2 (by omega) fun z2 H3 g3 w3 => ?_
          have g13 := (g1.trans g2).trans g3
          refine ⟨_, rfl, t, _, 1, _, rfl, rfl, SqT.of (g13.tup ht), rfl, (by show 1 ≤ sizeLine; decide), fun p4 hp4 => ?_⟩
          have w4 : WL _ (upd H3 p4 (.lst [V.str z])) (.ref p4) 11 := (wl_new hp4 [z]).le (by show z.length + 1 + 0 ≤ _; omega)
          have g4 := Grow.new (o := .lst [V.str z]) hp4
          generalize upd H3 p4 (.lst [V.str z]) = H4 at w4 g4 ⊢
          refine rd_catW (w3.grow g4) w4 (by omega) fun z5 H5 g5 w5 => ?_
          have g15 := (g13.trans g4).trans g5
          refine ⟨_, rfl, t, _, 3, _, rfl, rfl, SqT.of (g15.tup ht), rfl, b, x4, n + 1, cb, rfl, e4.grow g15, ob, by omega, by omega, fun z6 H6 g6 w6 => ?_⟩
          refine rd_catW (w5.grow g6) w6 (by omega) fun z7 H7 g7 w7 => ?_
          have g17 := (g15.trans g6).trans g7
          refine ⟨(by show 1 ≤ sizeLine; decide), fun p8 hp8 => ?_⟩
          have w8 : WL _ (upd H7 p8 (.lst [V.str ")"])) (.ref p8) 2 := (wl_new hp8 [")"]).le (by decide)
          have g8 := Grow.new (o := .lst [V.str ")"]) hp8
          generalize upd H7 p8 (.lst [V.str ")"]) = H8 at w8 g8 ⊢
          have g18 := g17.trans g8
          refine rd_catW (w7.grow g8) w8 (by omega) fun z9 H9 g9 w9 => ?_
          exact kq _ _ (g18.trans g9) ((w9.imp (nn g18)).le (by omega))
    | @times i a hi =>
      obtain ⟨t, xs, rfl, ht, el⟩ := enc_tup en
      obtain ⟨x1, x2, x3, rfl, e1, e2, e3⟩ := encs3 el
      cases e1; cases e2
      cases hL with
      | @cons _ ca _ _ _ _ oa t1 =>
        cases t1
        refine ⟨_, rfl, t, _, 0, _, rfl, rfl, SqT.of ht, rfl, ?_⟩
        refine ⟨_, rfl, rfl, _, rfl, ifN (by decide) ⟨_, rfl, rfl, _, rfl, ifN (by decide) ⟨_, rfl, rfl, _, rfl, ifN (by decide) ⟨_, rfl, rfl, _, rfl, ifS rfl ?_⟩⟩⟩⟩
        have hl := log_of (c := 0) (i := i) (by omega) (by omega)
        refine ⟨_, rfl, t, _, 1, _, rfl, rfl, SqT.of ht, rfl, _, i, rfl, rfl, hl, fun z hz => ⟨(by show 3 ≤ sizeLine; decide), fun p1 hp1 => ?_⟩⟩
        have hz2 : z.length ≤ 1921 := by
          rcases hz with ⟨k, e, rfl⟩ | ⟨b, e, _⟩
          · cases e
            exact int_text_len_1921 hl
          · cases e
        have w1 : WL _ (upd H p1 (.lst [V.str "(", V.str z, V.str "*"])) (.ref p1) 1926 := (wl_new hp1 ["(", z, "*"]).le (by show (1 + 1) + (z.length + 1 + (1 + 1 + 0)) ≤ _; omega)
        have g1 := Grow.new (o := .lst [V.str "(", V.str z, V.str "*"]) hp1
        generalize upd H p1 (.lst [V.str "(", V.str z, V.str "*"]) = H1 at w1 g1 ⊢
        refine ⟨_, rfl, t, _, 2, _, rfl, rfl, SqT.of (g1.tup ht), rfl, a, x3, n + 1, ca, rfl, e3.grow g1, oa, by omega, by omega, fun z1 H2 g2 w2 => ?_⟩
        refine rd_catW (w1.grow g2) w2 (by omega) fun z7 H7 g7 w7 => ?_
        have g17 := (g1.trans g2).trans g7
        refine ⟨(by show 1 ≤ sizeLine; decide), fun p8 hp8 => ?_⟩
        have w8 : WL _ (upd H7 p8 (.lst [V.str ")"])) (.ref p8) 2 := (wl_new hp8 [")"]).le (by decide)
        have g8 := Grow.new (o := .lst [V.str ")"]) hp8
        generalize upd H7 p8 (.lst [V.str ")"]) = H8 at w8 g8 ⊢
        have g18 := g17.trans g8
        refine rd_catW (w7.grow g8) w8 (by omega) fun z9 H9 g9 w9 => ?_
        exact kq _ _ (g18.trans g9) ((w9.imp (nn g18)).le (by omega))
    | @make ww z l hw hz hl =>
      obtain ⟨t, xs, rfl, ht, el⟩ := enc_tup en
      obtain ⟨x1, x2, x3, rfl, e1, e2, e3⟩ := encs3 el
      cases e1; cases e2
      obtain ⟨ta, us, rfl, hta, eus⟩ := enc_tup e3
      refine ⟨_, rfl, t, _, 0, _, rfl, rfl, SqT.of ht, rfl, ?_⟩
      have d1 : ww ≠ "num" := by rcases hw with rfl | rfl <;> decide
      have d2 : ww ≠ "name" := by rcases hw with rfl | rfl <;> decide
      have d3 : ww ≠ "op" := by rcases hw with rfl | rfl <;> decide
      have d4 : ww ≠ "times" := by rcases hw with rfl | rfl <;> decide
      refine ⟨_, rfl, rfl, _, rfl, ifN d1 ⟨_, rfl, rfl, _, rfl, ifN d2 ⟨_, rfl, rfl, _, rfl, ifN d3 ⟨_, rfl, rfl, _, rfl, ifN d4 ?_⟩⟩⟩⟩
      refine ⟨_, rfl, t, _, 1, _, rfl, rfl, SqT.of ht, rfl, (by show 1 ≤ sizeLine; decide), fun p1 hp1 => ?_⟩
      have w1 : WL _ (upd H p1 (.lst [V.str z])) (.ref p1) 11 := (wl_new hp1 [z]).le (by show z.length + 1 + 0 ≤ _; omega)
      have g1 := Grow.new (o := .lst [V.str z]) hp1
      generalize upd H p1 (.lst [V.str z]) = H1 at w1 g1 ⊢
      refine ⟨_, rfl, t, _, 2, _, rfl, rfl, SqT.of (g1.tup ht), rfl, ta, rfl, ⟨us, SqT.of (g1.tup hta)⟩, fun D hD => ?_⟩
      refine lc_tup (xs := us) (fun i Hc => ∃ (acc : List V) (cd kr : Nat), Hc D = some (.lst acc) ∧ acc.length = i ∧ OkL (n + 1) false (ts.drop i) kr ∧ cd + kr = c1 ∧ WLs (fun a => a ≠ D) Hc acc (3000 * cd) ∧ Grow H1 Hc) ⟨[], 0, c1, upd_same, rfl, hL, by omega, .nil, Grow.new hD⟩ (fun i Hc _ hp => ?_) (fun i y Hc hy hp => ?_) (fun Hd hp => ?_)
      · obtain ⟨acc, cd, kr, _, _, _, _, _, g⟩ := hp
        exact SqT.of ((g1.trans g).tup hta)
      · obtain ⟨acc, cd, kr, hDs, hlen, ho, hsum, hw, g⟩ := hp
        obtain ⟨dd, hdd, ed⟩ := (eus.grow (g1.trans g)).get hy
        obtain ⟨hlt, he⟩ := List.getElem?_eq_some_iff.mp hdd
        rw [List.drop_eq_getElem_cons hlt, he] at ho
        cases ho with
        | @cons _ ca cr _ _ _ oa t1 =>
          refine ⟨wipe_set, ?_⟩
          unfold tYes
          refine iteT ⟨_, rfl, dd, y, n + 1, ca, rfl, ed, oa, by omega, by omega, fun z1 H2 g2 w2 => ?_⟩
          refine ⟨acc, g2.lst hDs, (by rw [sizeLine_eq]; omega), acc ++ [z1], cd + ca, cr, upd_same, (by rw [List.length_append, hlen]; rfl), t1, by omega, ?_, (g.trans g2).but hD⟩
          have e3 : 3000 * (cd + ca) = 3000 * cd + 3000 * ca := by omega
          rw [e3]
          exact ((hw.grow g2).push (w2.imp fun a ha z => by rw [z, hDs] at ha; cases ha)).updD
      · obtain ⟨acc, cd, kr, hDs, hlen, ho, hsum, hw, g⟩ := hp
        have hul := eus.length
        refine ⟨_, D, acc, 3000 * cd, rfl, hDs, hw, by omega, by omega, fun z3 H3 g3 w3 => ?_⟩
        have g13 := (g1.trans g).trans g3
        refine rd_catW (w1.grow (g.trans g3)) w3 (by omega) fun z4 H4 g4 w4 => ?_
        exact kq _ _ (g13.trans g4) ((w4.imp (nn g13)).le (by omega))
theorem all_tw {f fR : Addr} {fd fdR : FuncData} (F : Fun K "_term_words" "_term_words" lTw f fd) (N : Gw K mg) (DT : Df K mg "_term_words" ["term"] f fd)
    (GR : FnOk P w K mg base CX0 1 fR fdR ["parts"] spBr) (DR : Df K mg "_in_brackets" ["parts"] fR fdR) : ∀ j : Nat, FnOk P w K mg base CX0 (2 + j) f fd ["term"] (spTw j)
  | 0 => none_tw
  | j + 1 => ok_tw F N (all_tw F N DT GR DR j) DT GR DR
end
end J1
set_option Elab.async false
set_option linter.all false
set_option maxRecDepth 100000
set_option maxHeartbeats 8000000
namespace J1
open PySem PySem.Spec PyProof.Rows L2 GxR GA
abbrev lBw : Stmt := top 32
theorem cBw : FnScope ["body", "word", "ahead", "words", "maker", "names", "inner", "name"] ["body"] (defScope lBw) := ⟨rfl, rfl, rfl, by decide +kernel, rfl, by decide +kernel, by decide +kernel⟩
inductive BodyK : Da → Nat → List Da → List Da → Prop
  | let' {s : Str} {e b : Da} (h : s.length ≤ 10) : BodyK (.tup [.str "let", .str s, e, b]) 1 [e] [b]
  | if' {e1 e2 b1 b2 : Da} : BodyK (.tup [.str "if", e1, e2, b1, b2]) 0 [e1, e2] [b1, b2]
  | give {e : Da} : BodyK (.tup [.str "give", e]) 0 [e] []
  | match' {e : Da} {brs : List Da} {nm : Nat} (h : brs.length ≤ 8) (ha : brs.all isBranch = true) : BodyK (.tup [.str "match", e, .tup brs]) nm [e] (brs.map bodyOf)
theorem body_k {d : Da} {nm : Nat} {ts bs : List Da} (h : bodyP d = some (nm, ts, bs)) : BodyK d nm ts bs := by
  unfold bodyP bodyL at h
  by_cases c1 : b1 (firstW d) (parts d) = true
  · rw [if_pos c1] at h
    cases h
    unfold b1 at c1
    rw [Bool.and_eq_true, Bool.and_eq_true] at c1
    obtain ⟨e1, e2, e3⟩ := c1
    obtain ⟨l, rfl⟩ := wtup rfl e1 (by decide)
    obtain ⟨x, y, z, u, rfl⟩ := four_of (l := l) e2
    obtain rfl := fst_of (of_decide_eq_true e1) (by decide)
    obtain ⟨s, rfl, h1⟩ := low_str (d := y) e3
    exact .let' h1
  rw [if_neg c1] at h
  by_cases c2 : b2 (firstW d) (parts d) = true
  · rw [if_pos c2] at h
    cases h
    unfold b2 at c2
    rw [Bool.and_eq_true] at c2
    obtain ⟨e1, e2⟩ := c2
    obtain ⟨l, rfl⟩ := wtup rfl e1 (by decide)
    obtain ⟨x, y, z, u, v, rfl⟩ := five_of (l := l) e2
    obtain rfl := fst_of (of_decide_eq_true e1) (by decide)
    exact .if'
  rw [if_neg c2] at h
  by_cases c3 : b3 (firstW d) (parts d) = true
  · rw [if_pos c3] at h
    cases h
    unfold b3 at c3
    rw [Bool.and_eq_true] at c3
    obtain ⟨e1, e2⟩ := c3
    obtain ⟨l, rfl⟩ := wtup rfl e1 (by decide)
    obtain ⟨x, y, rfl⟩ := two_of2 (l := l) e2
    obtain rfl := fst_of (of_decide_eq_true e1) (by decide)
    exact .give
  rw [if_neg c3] at h
  by_cases c4 : b4 (firstW d) (parts d) = true
  · rw [if_pos c4] at h
    unfold b4 at c4
    rw [Bool.and_eq_true, Bool.and_eq_true] at c4
    obtain ⟨e1, e2, e3⟩ := c4
    obtain ⟨l, rfl⟩ := wtup rfl e1 (by decide)
    obtain ⟨x, y, z, rfl⟩ := three_of (l := l) e2
    obtain rfl := fst_of (of_decide_eq_true e1) (by decide)
    obtain ⟨brs, rfl, h1⟩ := tu_le (d := z) (n := 8) e3 (by decide)
    by_cases c5 : (parts (g2 (parts (.tup [.str "match", y, .tup brs])))).all isBranch = true
    · rw [if_pos c5] at h
      cases h
      exact .match' h1 c5
    · rw [if_neg c5] at h
      cases h
  rw [if_neg c4] at h
  cases h
theorem branch_k {d : Da} (h : isBranch d = true) : ∃ s ns b, d = .tup [.str s, .tup ns, b] ∧ s.length ≤ 10 ∧ ns.length ≤ 5 ∧ ns.all isLow = true := by
  cases d with
  | tup l =>
    match l, h with
    | [m, .tup ns, b], h =>
      have h : (isHig m && (decide (ns.length ≤ 5) && ns.all isLow)) = true := h
      rw [Bool.and_eq_true, Bool.and_eq_true] at h
      obtain ⟨s, rfl, hs⟩ := hig_str h.1
      exact ⟨s, ns, b, rfl, hs, of_decide_eq_true h.2.1, h.2.2⟩
  | _ => cases h
def spBw (j : Nat) : Sp := fun vs H Q _ => ∃ (d : Da) (x : V) (n c : Nat), vs = [x] ∧ Enc H d x ∧ Ok n d true c ∧ 31 ≤ n + j ∧ c ≤ 100 ∧ ∀ x' H', Grow H H' → WL (fun a => H a = Option.none) H' x' (3000 * c) → Q x' H'
def spBB (j : Nat) : Sp := fun vs H Q _ => ∃ (d : Da) (x : V) (n c : Nat), vs = [x] ∧ Enc H d x ∧ Ok n d true c ∧ 31 ≤ n + j ∧ c ≤ 100 ∧ ∀ x' H', Grow H H' → WL (fun a => H a = Option.none) H' x' (3000 * c + 4) → Q x' H'
theorem ok_bo_in {n : Nat} {d : Da} {c : Nat} (h : Ok n d true c) : ∃ nm ts bs c1 c2, bodyP d = some (nm, ts, bs) ∧ n ≤ 30 ∧ OkL (n + 1) false ts c1 ∧ OkL (n + 1) true bs c2 ∧ c = 1 + nm + (c1 + c2) := by
  cases h with
  | mk h hn k1 k2 => exact ⟨_, _, _, _, _, h, hn, k1, k2, rfl⟩
section
variable {P : Program} {w : World} {K : PySem.W.Frag} {mg : Str → Option Value} {base : Heap}
theorem none_bw {f : Addr} {fd : FuncData} {k : Nat} : FnOk P w K mg base CX0 k f fd ["body"] (spBw 0) := by
  have no : ∀ vs H Q E, ¬ spBw 0 vs H Q E := fun vs H Q E h => by
    obtain ⟨d, x, n, c, _, _, h1, h2, _⟩ := h
    obtain ⟨_, _, _, _, _, _, h3, _⟩ := ok_bo_in h1
    omega
  exact ⟨fun vs H Q E h => absurd h (no vs H Q E), fun A outer s H args us vs Q E _ _ _ _ h => absurd h (no vs H Q E)⟩
theorem ok_bb {j : Nat} {f fB : Addr} {fd fdB : FuncData} (F : Fun K "_in_braces" "_in_braces" lBb f fd) (GB : FnOk P w K mg base CX0 (2 * j + 40) fB fdB ["body"] (spBw j)) (DB : Df K mg "_body_words" ["body"] fB fdB) :
    FnOk P w K mg base CX0 (2 * j + 41) f fd ["body"] (spBB j) := by
  refine F.ok (k := 2 * j + 40) cBb (fun vs H Q E h => ?_) (fun cdv A outer s H vs Q E hr h => ?_)
  · obtain ⟨d, x, n, c, rfl, _⟩ := h
    rfl
  · obtain ⟨d, x, n, c, rfl, en, hok, hj, hc, kq⟩ := h
    refine ⟨_, (pss_one (ps_ret (pe_op op_cat (pe_op op_cat (pe_lst (pa_cons pe_str pa_nil)) (pe_call GB hr (by rfl) DB.g DB.k DB.b .nil pass0 (pa_cons (pv 0) pa_nil))) (pe_lst (pa_cons pe_str pa_nil))))), ?_⟩
    refine ⟨(by show 1 ≤ sizeLine; decide), fun p1 hp1 => ?_⟩
    have w1 : WL _ (upd H p1 (.lst [V.str "{"])) (.ref p1) 2 := (wl_new hp1 ["{"]).le (by decide)
    have g1 := Grow.new (o := .lst [V.str "{"]) hp1
    generalize upd H p1 (.lst [V.str "{"]) = H1 at w1 g1 ⊢
    refine ⟨_, rfl, d, x, n, c, rfl, en.grow g1, hok, hj, hc, fun z1 H2 g2 w2 => ?_⟩
    refine rd_catW (w1.grow g2) w2 (by omega) fun z7 H7 g7 w7 => ?_
    have g17 := (g1.trans g2).trans g7
    refine ⟨(by show 1 ≤ sizeLine; decide), fun p8 hp8 => ?_⟩
    have w8 : WL _ (upd H7 p8 (.lst [V.str "}"])) (.ref p8) 2 := (wl_new hp8 ["}"]).le (by decide)
    have g8 := Grow.new (o := .lst [V.str "}"]) hp8
    generalize upd H7 p8 (.lst [V.str "}"]) = H8 at w8 g8 ⊢
    have g18 := g17.trans g8
    refine rd_catW (w7.grow g8) w8 (by omega) fun z9 H9 g9 w9 => ?_
    exact kq _ _ (g18.trans g9) ((w9.imp (nn g18)).le (by omega))
theorem ok_bw {j : Nat} {f fT fR fC fB : Addr} {fd fdT fdR fdC fdB : FuncData} (F : Fun K "_body_words" "_body_words" lBw f fd) (GT : FnOk P w K mg base CX0 (2 + 31) fT fdT ["term"] (spTw 31)) (DT : Df K mg "_term_words" ["term"] fT fdT)
    (GR : FnOk P w K mg base CX0 1 fR fdR ["parts"] spBr) (DR : Df K mg "_in_brackets" ["parts"] fR fdR)
    (GB : FnOk P w K mg base CX0 (2 * j + 40) fB fdB ["body"] (spBw j)) (DB : Df K mg "_body_words" ["body"] fB fdB)
    (GC : FnOk P w K mg base CX0 (2 * j + 41) fC fdC ["body"] (spBB j)) (DC : Df K mg "_in_braces" ["body"] fC fdC) : FnOk P w K mg base CX0 (2 * (j + 1) + 40) f fd ["body"] (spBw (j + 1)) := by
  refine F.ok (k := 2 * j + 41) cBw (fun vs H Q E h => ?_) (fun cdv A outer s H vs Q E hr h => ?_)
  · obtain ⟨d, x, n, c, rfl, _⟩ := h
    rfl
  · obtain ⟨d, x, n, c, rfl, en, hok, hj, hc, kq⟩ := h
    obtain ⟨nm, ts, bs, c1, c2, hP, hn, hL, hB, rfl⟩ := ok_bo_in hok
    refine ⟨_, (pss_cons (ps_set (i := 1) cBw.nd rfl (Or.inl rfl) (pe_ix ix_tup (pv 0) pe_int (fun _ _ => rfl))) (pss_cons (ps_if (pt_cmpR op_eq (pv 1) pe_str (nomark _)) (pss_one (ps_ret (pe_op op_cat (pe_op op_cat (pe_op op_cat (pe_lst (pa_cons pe_str (pa_cons (pe_ix ix_tup (pv 0) pe_int (fun _ _ => rfl)) (pa_cons pe_str pa_nil)))) (pe_call (GT.mono (by omega)) hr (by rfl) DT.g DT.k DT.b .nil pass0 (pa_cons (pe_ix ix_tup (pv 0) pe_int (fun _ _ => rfl)) pa_nil))) (pe_lst (pa_cons pe_str pa_nil))) (pe_call (GB.mono (by omega)) hr (by rfl) DB.g DB.k DB.b .nil pass0 (pa_cons (pe_ix ix_tup (pv 0) pe_int (fun _ _ => rfl)) pa_nil))))) pss_nil) (pss_cons (ps_if (pt_cmpR op_eq (pv 1) pe_str (nomark _)) (pss_cons (ps_set (i := 2) cBw.nd rfl (Or.inl rfl) (pe_op op_cat (pe_op op_cat (pe_op op_cat (pe_lst (pa_cons pe_str pa_nil)) (pe_call (GT.mono (by omega)) hr (by rfl) DT.g DT.k DT.b .nil pass0 (pa_cons (pe_ix ix_tup (pv 0) pe_int (fun _ _ => rfl)) pa_nil))) (pe_lst (pa_cons pe_str pa_nil))) (pe_call (GT.mono (by omega)) hr (by rfl) DT.g DT.k DT.b .nil pass0 (pa_cons (pe_ix ix_tup (pv 0) pe_int (fun _ _ => rfl)) pa_nil)))) (pss_one (ps_ret (pe_op op_cat (pe_op op_cat (pe_op op_cat (pv 2) (pe_call GC hr (by rfl) DC.g DC.k DC.b .nil pass0 (pa_cons (pe_ix ix_tup (pv 0) pe_int (fun _ _ => rfl)) pa_nil))) (pe_lst (pa_cons pe_str pa_nil))) (pe_call GC hr (by rfl) DC.g DC.k DC.b .nil pass0 (pa_cons (pe_ix ix_tup (pv 0) pe_int (fun _ _ => rfl)) pa_nil)))))) pss_nil) (pss_cons (ps_if (pt_cmpR op_eq (pv 1) pe_str (nomark _)) (pss_one (ps_ret (pe_op op_cat (pe_lst (pa_cons pe_str pa_nil)) (pe_call (GT.mono (by omega)) hr (by rfl) DT.g DT.k DT.b .nil pass0 (pa_cons (pe_ix ix_tup (pv 0) pe_int (fun _ _ => rfl)) pa_nil))))) pss_nil) (pss_cons (ps_set (i := 3) cBw.nd rfl (Or.inl rfl) (pe_op op_cat (pe_op op_cat (pe_lst (pa_cons pe_str pa_nil)) (pe_call (GT.mono (by omega)) hr (by rfl) DT.g DT.k DT.b .nil pass0 (pa_cons (pe_ix ix_tup (pv 0) pe_int (fun _ _ => rfl)) pa_nil))) (pe_lst (pa_cons pe_str pa_nil)))) (C8.pss_cut (ps_for PassesOwn.never rfl (pi_tup (pe_ix ix_tup (pv 0) pe_int (fun _ _ => rfl))) (pg_tup (by rfl) (pgs_cons (pg_name (i := 4) cBw.nd rfl (Or.inl rfl)) (pgs_cons (pg_name (i := 5) cBw.nd rfl (Or.inl rfl)) (pgs_cons (pg_name (i := 6) cBw.nd rfl (Or.inl rfl)) pgs_nil)))) (pss_one (ps_expr (pe_bm PySem.F.plainAttrs_list PySem.F.slot_list_extend PySem.F.type_list_extend mt_extend (pv 3) (pa_cons (pe_op op_cat (pe_op op_cat (pe_lst (pa_cons (pv 4) pa_nil)) (pe_call (GR.mono (by omega)) hr (by rfl) DR.g DR.k DR.b .nil pass0 (pa_cons (pe_lc (own := [("name", 7)]) (g := gName 7) (tt := tYes) (by rfl) cBw.nd (pi_tup (pv 5)) (blkOk_by (own := [("name", 7)]) (N := ["body", "word", "ahead", "words", "maker", "names", "inner", "name"]) (sc := defScope lBw) (by decide +kernel)) (fun _ _ _ _ _ => (pg_name (i := 7) cBw.nd rfl (Or.inl rfl))) (fun _ _ _ _ _ => pts_nil) (fun _ _ _ _ _ => (pe_lst (pa_cons (pv 7) pa_nil)))) pa_nil))) (pe_call GC hr (by rfl) DC.g DC.k DC.b .nil pass0 (pa_cons (pv 6) pa_nil))) pa_nil))))) (pss_cons (ps_expr (pe_bm PySem.F.plainAttrs_list PySem.F.slot_list_append PySem.F.type_list_append mt_append (pv 3) (pa_cons pe_str pa_nil))) (pss_one (ps_ret (pv 3)))))))))), ?_⟩
    have hk := body_k hP
    cases hk with
    | @let' s e b hz =>
      obtain ⟨t, xs, rfl, ht, el⟩ := enc_tup en
      obtain ⟨x1, x2, x3, x4, rfl, e1, e2, e3, e4⟩ := encs4 el
      cases e1; cases e2
      cases hL with
      | @cons _ ca _ _ _ _ oa t1 =>
        cases t1
        cases hB with
        | @cons _ cb _ _ _ _ ob t2 =>
          cases t2
          refine ⟨_, rfl, t, _, 0, _, rfl, rfl, SqT.of ht, rfl, ?_⟩
          refine ⟨_, rfl, rfl, _, rfl, ifS rfl ?_⟩
          refine ⟨_, rfl, t, _, 1, _, rfl, rfl, SqT.of ht, rfl, (by show 3 ≤ sizeLine; decide), fun p1 hp1 => ?_⟩
          have w1 : WL _ (upd H p1 (.lst [V.str "let", V.str s, V.str "="])) (.ref p1) 30 := (wl_new hp1 ["let", s, "="]).le (by show (3 + 1) + (s.length + 1 + (1 + 1 + 0)) ≤ _; omega)
          have g1 := Grow.new (o := .lst [V.str "let", V.str s, V.str "="]) hp1
          generalize upd H p1 (.lst [V.str "let", V.str s, V.str "="]) = H1 at w1 g1 ⊢
          refine ⟨_, rfl, t, _, 2, _, rfl, rfl, SqT.of (g1.tup ht), rfl, e, x3, n + 1, ca, rfl, e3.grow g1, oa, by omega, by omega, fun z1 H2 g2 w2 => ?_⟩
          refine rd_catW (w1.grow g2) w2 (by omega) fun z2 H3 g3 w3 => ?_
          have g13 := (g1.trans g2).trans g3
          refine ⟨(by show 1 ≤ sizeLine; decide), fun p4 hp4 => ?_⟩
          have w4 : WL _ (upd H3 p4 (.lst [V.str ";"])) (.ref p4) 2 := (wl_new hp4 [";"]).le (by decide)
          have g4 := Grow.new (o := .lst [V.str ";"]) hp4
          generalize upd H3 p4 (.lst [V.str ";"]) = H4 at w4 g4 ⊢
          refine rd_catW (w3.grow g4) w4 (by omega) fun z5 H5 g5 w5 => ?_
          have g15 := (g13.trans g4).trans g5
          refine ⟨_, rfl, t, _, 3, _, rfl, rfl, SqT.of (g15.tup ht), rfl, b, x4, n + 1, cb, rfl, e4.grow g15, ob, by omega, by omega, fun z6 H6 g6 w6 => ?_⟩
          refine rd_catW (w5.grow g6) w6 (by omega) fun z7 H7 g7 w7 => ?_
          have g16 := g15.trans g6
          exact kq _ _ (g16.trans g7) ((w7.imp (nn g16)).le (by omega))
    | @if' ea eb b1 b2 =>
      obtain ⟨t, xs, rfl, ht, el⟩ := enc_tup en
      cases el with
      | @cons _ x1 _ xs e1 el =>
        obtain ⟨x2, x3, x4, x5, rfl, e2, e3, e4, e5⟩ := encs4 el
        cases e1
        cases hL with
        | @cons _ ca _ _ _ _ oa t1 =>
          cases t1 with
          | @cons _ cb _ _ _ _ ob t1 =>
            cases t1
            cases hB with
            | @cons _ cc _ _ _ _ oc t2 =>
              cases t2 with
              | @cons _ cd _ _ _ _ od t2 =>
                cases t2
                refine ⟨_, rfl, t, _, 0, _, rfl, rfl, SqT.of ht, rfl, ?_⟩
                refine ⟨_, rfl, rfl, _, rfl, ifN (by decide) ⟨_, rfl, rfl, _, rfl, ifS rfl ?_⟩⟩
                refine ⟨(by show 1 ≤ sizeLine; decide), fun p1 hp1 => ?_⟩
                have w1 : WL _ (upd H p1 (.lst [V.str "if"])) (.ref p1) 3 := (wl_new hp1 ["if"]).le (by decide)
                have g1 := Grow.new (o := .lst [V.str "if"]) hp1
                generalize upd H p1 (.lst [V.str "if"]) = H1 at w1 g1 ⊢
                refine ⟨_, rfl, t, _, 1, _, rfl, rfl, SqT.of (g1.tup ht), rfl, ea, x2, n + 1, ca, rfl, e2.grow g1, oa, by omega, by omega, fun z1 H2 g2 w2 => ?_⟩
                refine rd_catW (w1.grow g2) w2 (by omega) fun z2 H3 g3 w3 => ?_
                have g13 := (g1.trans g2).trans g3
                refine ⟨(by show 1 ≤ sizeLine; decide), fun p4 hp4 => ?_⟩
                have w4 : WL _ (upd H3 p4 (.lst [V.str "<"])) (.ref p4) 2 := (wl_new hp4 ["<"]).le (by decide)
                have g4 := Grow.new (o := .lst [V.str "<"]) hp4
                generalize upd H3 p4 (.lst [V.str "<"]) = H4 at w4 g4 ⊢
                refine rd_catW (w3.grow g4) w4 (by omega) fun z5 H5 g5 w5 => ?_
                have g15 := (g13.trans g4).trans g5
                refine ⟨_, rfl, t, _, 2, _, rfl, rfl, SqT.of (g15.tup ht), rfl, eb, x3, n + 1, cb, rfl, e3.grow g15, ob, by omega, by omega, fun z6 H6 g6 w6 => ?_⟩
                refine rd_catW (w5.grow g6) w6 (by omega) fun z7 H7 g7 w7 => ?_
                have g17 := (g15.trans g6).trans g7
                refine ⟨_, rfl, _, rfl, t, _, 3, _, rfl, rfl, SqT.of (g17.tup ht), rfl, b1, x4, n + 1, cc, rfl, e4.grow g17, oc, by omega, by omega, fun z8 H8 g8 w8 => ?_⟩
                refine rd_catW (w7.grow g8) w8 (by omega) fun z9 H9 g9 w9 => ?_
                have g19 := (g17.trans g8).trans g9
                refine ⟨(by show 1 ≤ sizeLine; decide), fun p10 hp10 => ?_⟩
                have w10 : WL _ (upd H9 p10 (.lst [V.str "else"])) (.ref p10) 5 := (wl_new hp10 ["else"]).le (by decide)
                have g10 := Grow.new (o := .lst [V.str "else"]) hp10
                generalize upd H9 p10 (.lst [V.str "else"]) = H10 at w10 g10 ⊢
                refine rd_catW (w9.grow g10) w10 (by omega) fun z11 H11 g11 w11 => ?_
                have g1b := (g19.trans g10).trans g11
                refine ⟨_, rfl, t, _, 4, _, rfl, rfl, SqT.of (g1b.tup ht), rfl, b2, x5, n + 1, cd, rfl, e5.grow g1b, od, by omega, by omega, fun z12 H12 g12 w12 => ?_⟩
                refine rd_catW (w11.grow g12) w12 (by omega) fun z13 Hd gd w13 => ?_
                have g1c := g1b.trans g12
                exact kq _ _ (g1c.trans gd) ((w13.imp (nn g1c)).le (by omega))
    | @give e =>
      obtain ⟨t, xs, rfl, ht, el⟩ := enc_tup en
      obtain ⟨x1, x2, rfl, e1, e2⟩ := encs2 el
      cases e1
      cases hB
      cases hL with
      | @cons _ ca _ _ _ _ oa t1 =>
        cases t1
        refine ⟨_, rfl, t, _, 0, _, rfl, rfl, SqT.of ht, rfl, ?_⟩
        refine ⟨_, rfl, rfl, _, rfl, ifN (by decide) ⟨_, rfl, rfl, _, rfl, ifN (by decide) ⟨_, rfl, rfl, _, rfl, ifS rfl ?_⟩⟩⟩
        refine ⟨(by show 1 ≤ sizeLine; decide), fun p1 hp1 => ?_⟩
        have w1 : WL _ (upd H p1 (.lst [V.str "give"])) (.ref p1) 5 := (wl_new hp1 ["give"]).le (by decide)
        have g1 := Grow.new (o := .lst [V.str "give"]) hp1
        generalize upd H p1 (.lst [V.str "give"]) = H1 at w1 g1 ⊢
        refine ⟨_, rfl, t, _, 1, _, rfl, rfl, SqT.of (g1.tup ht), rfl, e, x2, n + 1, ca, rfl, e2.grow g1, oa, by omega, by omega, fun z1 H2 g2 w2 => ?_⟩
        refine rd_catW (w1.grow g2) w2 (by omega) fun z2 H3 g3 w3 => ?_
        have g12 := g1.trans g2
        exact kq _ _ (g12.trans g3) ((w3.imp (nn g12)).le (by omega))
    | @match' e brs nm hb ha =>
      obtain ⟨t, xs, rfl, ht, el⟩ := enc_tup en
      obtain ⟨x1, x2, x3, rfl, e1, e2, e3⟩ := encs3 el
      cases e1
      obtain ⟨tb, us, rfl, htb, eus⟩ := enc_tup e3
      cases hL with
      | @cons _ ca _ _ _ _ oa t1 =>
        cases t1
        refine ⟨_, rfl, t, _, 0, _, rfl, rfl, SqT.of ht, rfl, ?_⟩
        refine ⟨_, rfl, rfl, _, rfl, ifN (by decide) ⟨_, rfl, rfl, _, rfl, ifN (by decide) ⟨_, rfl, rfl, _, rfl, ifN (by decide) ?_⟩⟩⟩
        refine ⟨(by show 1 ≤ sizeLine; decide), fun p1 hp1 => ?_⟩
        have w1 : WL _ (upd H p1 (.lst [V.str "match"])) (.ref p1) 6 := (wl_new hp1 ["match"]).le (by decide)
        have g1 := Grow.new (o := .lst [V.str "match"]) hp1
        generalize upd H p1 (.lst [V.str "match"]) = H1 at w1 g1 ⊢
        refine ⟨_, rfl, t, _, 1, _, rfl, rfl, SqT.of (g1.tup ht), rfl, e, x2, n + 1, ca, rfl, e2.grow g1, oa, by omega, by omega, fun z1 H2 g2 w2 => ?_⟩
        refine rd_catW (w1.grow g2) w2 (by omega) fun z2 H3 g3 w3 => ?_
        have g13 := (g1.trans g2).trans g3
        refine ⟨(by show 1 ≤ sizeLine; decide), fun p4 hp4 => ?_⟩
        have w4 : WL _ (upd H3 p4 (.lst [V.str "{"])) (.ref p4) 2 := (wl_new hp4 ["{"]).le (by decide)
        have g4 := Grow.new (o := .lst [V.str "{"]) hp4
        generalize upd H3 p4 (.lst [V.str "{"]) = H4 at w4 g4 ⊢
        have g14 := g13.trans g4
        refine rd_catW (w3.grow g4) w4 (by omega) fun z5 H5 g5 w5 => ?_
        have g15 := g14.trans g5
        have w5 := w5.imp (nn g14)
        obtain ⟨D, ss0, rfl, hD, hDs, hle0⟩ := w5
        have hlb := eus.length
        refine ⟨fun σ Hc => ∃ (ss : List Str) (v4 v5 v6 v7 : Option V), σ = [some (.ref t), some (.str "match"), Option.none, some (.ref D), v4, v5, v6, v7] ∧ Hc D = some (.lst (ss.map V.str)) ∧ Grow H Hc ∧ wt ss ≤ 3000 * ca + 3000 * c2 + 1000, ?_, ?_⟩
        · refine ⟨_, rfl, t, _, 2, _, rfl, rfl, SqT.of (g15.tup ht), rfl, tb, rfl, ⟨us, SqT.of (g15.tup htb)⟩, ?_⟩
          refine for_tup (xs := us) (fun i σ Hc => ∃ (ss : List Str) (v4 v5 v6 v7 : Option V) (kr : Nat), σ = [some (.ref t), some (.str "match"), Option.none, some (.ref D), v4, v5, v6, v7] ∧ Hc D = some (.lst (ss.map V.str)) ∧ Grow H Hc ∧ OkL (n + 1) true ((brs.map bodyOf).drop i) kr ∧ kr ≤ c2 ∧ wt ss + 3000 * kr ≤ 3000 * ca + 3000 * c2 + 20 + 100 * i)
            ⟨ss0, _, _, _, _, c2, rfl, hDs, g15, hB, Nat.le_refl _, by omega⟩ (fun i σ Hc _ hp => ?_) (fun i y σ Hc hy hp => ?_) (fun σ Hc hp => ?_)
          · obtain ⟨ss, v4, v5, v6, v7, kr, rfl, _, g, _⟩ := hp
            exact SqT.of (g.tup htb)
          · obtain ⟨ss, v4, v5, v6, v7, kr, rfl, hDs, g, ho, hkr, hle⟩ := hp
            obtain ⟨dd, hdd, ed⟩ := (eus.grow g).get hy
            obtain ⟨hlt, he⟩ := List.getElem?_eq_some_iff.mp hdd
            obtain ⟨sm, ns, b, rfl, hsm, hns, hal⟩ := branch_k (List.all_eq_true.mp ha dd (he ▸ List.getElem_mem hlt))
            have hlt2 : i < (brs.map bodyOf).length := by rw [List.length_map]; exact hlt
            rw [List.drop_eq_getElem_cons hlt2, List.getElem_map, he] at ho
            cases ho with
            | @cons _ cb cr _ _ _ ob t1 =>
              have ob : Ok (n + 1) b true cb := ob
              obtain ⟨tq, qs, rfl, htq, eqs⟩ := enc_tup ed
              obtain ⟨y1, y2, y3, rfl, f1, f2, f3⟩ := encs3 eqs
              cases f1
              obtain ⟨tn, vs, rfl, htn, evs⟩ := enc_tup f2
              refine ⟨tq, _, rfl, SqT.of htq, rfl, _, _, rfl, _, _, rfl, _, _, rfl, rfl, ?_⟩
              refine ⟨_, rfl, .inl ⟨rfl, _, SqL.of hDs⟩, _, rfl, (by show 1 ≤ sizeLine; decide), fun p1 hp1 => ?_⟩
              have w1 : WL _ (upd Hc p1 (.lst [V.str sm])) (.ref p1) 11 := (wl_new hp1 [sm]).le (by show sm.length + 1 + 0 ≤ _; omega)
              have q1 := Grow.new (o := .lst [V.str sm]) hp1
              generalize upd Hc p1 (.lst [V.str sm]) = H1 at w1 q1 ⊢
              refine ⟨_, rfl, tn, rfl, ⟨vs, SqT.of (q1.tup htn)⟩, fun L hL => ?_⟩
              refine lc_tup (xs := vs) (fun i Hx => ∃ (acc : List V), Hx L = some (.lst acc) ∧ acc.length = i ∧ WLs (fun a => a ≠ L) Hx acc (11 * i) ∧ Grow H1 Hx) ⟨[], upd_same, rfl, .nil, Grow.new hL⟩ (fun i Hx _ hp => ?_) (fun i z Hx hz hp => ?_) (fun Hx hp => ?_)
              · obtain ⟨acc, _, _, _, gx⟩ := hp
                exact SqT.of ((q1.trans gx).tup htn)
              · obtain ⟨acc, hLs, hlen, hw, gx⟩ := hp
                obtain ⟨dz, hdz, ez⟩ := evs.get hz
                obtain ⟨sz, rfl, hsz⟩ := low_str (List.all_eq_true.mp hal dz (List.mem_of_getElem? hdz))
                cases ez
                have hzl : i < vs.length := (List.getElem?_eq_some_iff.mp hz).1
                have hvl := evs.length
                refine ⟨wipe_set, ?_⟩
                unfold tYes
                refine iteT ⟨_, rfl, (by show 1 ≤ sizeLine; decide), fun p2 hp2 => ?_⟩
                have w2 : WL _ (upd Hx p2 (.lst [V.str sz])) (.ref p2) 11 := (wl_new hp2 [sz]).le (by show sz.length + 1 + 0 ≤ _; omega)
                have q2 := Grow.new (o := .lst [V.str sz]) hp2
                refine ⟨acc, q2.lst hLs, (by rw [sizeLine_eq]; omega), acc ++ [.ref p2], upd_same, (by rw [List.length_append, hlen]; rfl), ?_, (gx.trans q2).but hL⟩
                have e3 : 11 * (i + 1) = 11 * i + 11 := by omega
                rw [e3]
                exact ((hw.grow q2).push (w2.imp fun a ha z => by rw [z, hLs] at ha; cases ha)).updD
              · obtain ⟨acc, hLs, hlen, hw, gx⟩ := hp
                have hvl := evs.length
                refine ⟨_, L, acc, 11 * vs.length, rfl, hLs, hw, by omega, by omega, fun z3 H3 q3 w3 => ?_⟩
                refine rd_catW (w1.grow (gx.trans q3)) w3 (by omega) fun z4 H4 q4 w4 => ?_
                have q14 := ((q1.trans gx).trans q3).trans q4
                refine ⟨_, rfl, b, y3, n + 1, cb, rfl, f3.grow q14, ob, by omega, by omega, fun z5 H6 q5 w5 => ?_⟩
                refine rd_catW (w4.grow q5) w5 (by omega) fun z6 H7 q6 w6 => ?_
                have q16 := (q14.trans q5).trans q6
                obtain ⟨pw, ws, rfl, hpw, hpws, hlew⟩ := w6
                have hD7 := q16.lst hDs
                have h1 := wt_len ss
                have h2 := wt_len ws
                refine ⟨D, pw, _, _, rfl, rfl, hD7, hpws, (by rw [List.length_map, List.length_map, sizeLine_eq]; omega), ?_⟩
                refine ⟨ss ++ ws, _, _, _, _, cr, rfl, ?_, (g.trans q16).butN hD, t1, by omega, ?_⟩
                · rw [List.map_append]
                  exact upd_same
                · rw [wt_app]
                  omega
          · obtain ⟨ss, v4, v5, v6, v7, kr, rfl, hDs, g, ho, hkr, hle⟩ := hp
            exact ⟨ss, v4, v5, v6, v7, rfl, hDs, g, by omega⟩
        · intro σ Hc ⟨ss, v4, v5, v6, v7, e, hDs, g, hle⟩
          subst e
          have h1 := wt_len ss
          refine ⟨_, rfl, .inl ⟨rfl, _, SqL.of hDs⟩, D, _, _, rfl, rfl, hDs, (by rw [List.length_map, sizeLine_eq]; omega), ?_⟩
          refine ⟨_, rfl, kq _ _ (g.butN hD) ⟨D, ss ++ [("}" : Str)], rfl, hD, ?_, ?_⟩⟩
          · rw [List.map_append]
            exact upd_same
          · rw [wt_app]
            show wt ss + 2 ≤ _
            omega
theorem all_bw {f fT fR fC : Addr} {fd fdT fdR fdC : FuncData} (F : Fun K "_body_words" "_body_words" lBw f fd) (FC : Fun K "_in_braces" "_in_braces" lBb fC fdC) (GT : FnOk P w K mg base CX0 (2 + 31) fT fdT ["term"] (spTw 31)) (DT : Df K mg "_term_words" ["term"] fT fdT)
    (GR : FnOk P w K mg base CX0 1 fR fdR ["parts"] spBr) (DR : Df K mg "_in_brackets" ["parts"] fR fdR) (DB : Df K mg "_body_words" ["body"] f fd) (DC : Df K mg "_in_braces" ["body"] fC fdC) : ∀ j : Nat, FnOk P w K mg base CX0 (2 * j + 40) f fd ["body"] (spBw j)
  | 0 => none_bw
  | j + 1 => ok_bw F GT DT GR DR (all_bw F FC GT DT GR DR DB DC j) DB (ok_bb FC (all_bw F FC GT DT GR DR DB DC j) DB) DC
end
end J1
set_option Elab.async false
set_option linter.all false
set_option maxRecDepth 100000
set_option maxHeartbeats 8000000
namespace J1
open PySem PySem.Spec PyProof.Rows L2 GxR GA
abbrev lPw : Stmt := top 29
theorem cPw : FnScope ["program", "kinds", "functions", "words", "name", "makers", "maker", "fields", "field", "params", "result", "body", "heads", "param", "kind"] ["program"] (defScope lPw) := ⟨rfl, rfl, rfl, by decide +kernel, rfl, by decide +kernel, by decide +kernel⟩
theorem prog_k {d : Da} (h : isProg d = true) : ∃ es fs, d = .tup [.tup es, .tup fs] ∧ es.length ≤ 8 ∧ es.all isEntry = true ∧ fs.length ≤ 12 ∧ fs.all isFunc = true := by
  cases d with
  | tup l =>
    match l, h with
    | [k, fs], h =>
      have h : (areKinds k && (isTu 0 12 fs && partsAll isFunc fs)) = true := h
      rw [Bool.and_eq_true, Bool.and_eq_true] at h
      obtain ⟨h1, h2, h3⟩ := h
      obtain ⟨fl, rfl, h4⟩ := tu_le (n := 12) h2 (by decide)
      cases k with
      | tup es =>
        have h1 : (decide (es.length ≤ 8) && es.all isEntry) = true := h1
        rw [Bool.and_eq_true] at h1
        exact ⟨es, fl, rfl, of_decide_eq_true h1.1, h1.2, h4, h3⟩
      | _ => cases h1
  | _ => cases h
theorem entry_k {d : Da} (h : isEntry d = true) : ∃ s ms, d = .tup [.str s, .tup ms] ∧ s.length ≤ 10 ∧ ms.length ≤ 8 ∧ ms.all isMaker = true := by
  cases d with
  | tup l =>
    match l, h with
    | [n, .tup ms], h =>
      have h : (isHig n && (decide (1 ≤ ms.length) && (decide (ms.length ≤ 8) && ms.all isMaker))) = true := h
      rw [Bool.and_eq_true, Bool.and_eq_true, Bool.and_eq_true] at h
      obtain ⟨s, rfl, hs⟩ := hig_str h.1
      exact ⟨s, ms, rfl, hs, of_decide_eq_true h.2.2.1, h.2.2.2⟩
  | _ => cases h
theorem maker_k {d : Da} (h : isMaker d = true) : ∃ s fs, d = .tup [.str s, .tup fs] ∧ s.length ≤ 10 ∧ fs.length ≤ 5 ∧ fs.all isKin = true := by
  cases d with
  | tup l =>
    match l, h with
    | [n, .tup fs], h =>
      have h : (isHig n && (decide (fs.length ≤ 5) && fs.all isKin)) = true := h
      rw [Bool.and_eq_true, Bool.and_eq_true] at h
      obtain ⟨s, rfl, hs⟩ := hig_str h.1
      exact ⟨s, fs, rfl, hs, of_decide_eq_true h.2.1, h.2.2⟩
  | _ => cases h
theorem func_k {d : Da} (h : isFunc d = true) : ∃ s ps r b, d = .tup [.str s, .tup ps, .str r, b] ∧ s.length ≤ 10 ∧ ps.length ≤ 6 ∧ ps.all isParam = true ∧ r.length ≤ 10 ∧ wholeB b = true := by
  cases d with
  | tup l =>
    match l, h with
    | [n, ps, r, b], h =>
      have h : (isLow n && (isTu 0 6 ps && (isKin r && (partsAll isParam ps && wholeB b)))) = true := h
      rw [Bool.and_eq_true, Bool.and_eq_true, Bool.and_eq_true, Bool.and_eq_true] at h
      obtain ⟨h1, h2, h3, h4, h5⟩ := h
      obtain ⟨s, rfl, hs⟩ := low_str h1
      obtain ⟨pl, rfl, hp⟩ := tu_le (n := 6) h2 (by decide)
      obtain ⟨r, rfl, hr⟩ := kin_str h3
      exact ⟨s, pl, r, b, rfl, hs, hp, h4, hr, h5⟩
  | _ => cases h
theorem param_k {d : Da} (h : isParam d = true) : ∃ s k, d = .tup [.str s, .str k] ∧ s.length ≤ 10 ∧ k.length ≤ 10 := by
  cases d with
  | tup l =>
    match l, h with
    | [n, k], h =>
      have h : (isLow n && isKin k) = true := h
      rw [Bool.and_eq_true] at h
      obtain ⟨s, rfl, hs⟩ := low_str h.1
      obtain ⟨k, rfl, hk⟩ := kin_str h.2
      exact ⟨s, k, rfl, hs, hk⟩
  | _ => cases h
def spPw : Sp := fun vs H Q _ => ∃ (d : Da) (x : V), vs = [x] ∧ Enc H d x ∧ isProg d = true ∧ ∀ x' H', Grow H H' → WL (fun a => H a = Option.none) H' x' 4000000 → Q x' H'
section
variable {P : Program} {w : World} {K : PySem.W.Frag} {mg : Str → Option Value} {base : Heap}
theorem ok_pw {f fR fC : Addr} {fd fdR fdC : FuncData} (F : Fun K "program_words" "program_words" lPw f fd)
    (GR : FnOk P w K mg base CX0 1 fR fdR ["parts"] spBr) (DR : Df K mg "_in_brackets" ["parts"] fR fdR)
    (GC : FnOk P w K mg base CX0 (2 * 30 + 41) fC fdC ["body"] (spBB 30)) (DC : Df K mg "_in_braces" ["body"] fC fdC) : FnOk P w K mg base CX0 102 f fd ["program"] spPw := by
  refine F.ok (k := 101) cPw (fun vs H Q E h => ?_) (fun cdv A outer s H vs Q E hr h => ?_)
  · obtain ⟨d, x, rfl, _⟩ := h
    rfl
  · obtain ⟨d, x, rfl, en, hpr, kq⟩ := h
    obtain ⟨es, fs, rfl, hes, hea, hfs, hfa⟩ := prog_k hpr
    obtain ⟨t, xs, rfl, ht, el⟩ := enc_tup en
    obtain ⟨x1, x2, rfl, e1, e2⟩ := encs2 el
    obtain ⟨te, us, rfl, hte, eus⟩ := enc_tup e1
    obtain ⟨tf, vs, rfl, htf, evs⟩ := enc_tup e2
    have hul := eus.length
    have hvl := evs.length
    refine ⟨_, (pss_cons (ps_asg (pv 0) (pg_tup (by rfl) (pgs_cons (pg_name (i := 1) cPw.nd rfl (Or.inl rfl)) (pgs_cons (pg_name (i := 2) cPw.nd rfl (Or.inl rfl)) pgs_nil)))) (pss_cons (ps_set (i := 3) cPw.nd rfl (Or.inl rfl) (pe_lst pa_nil)) (C8.pss_cut (ps_for PassesOwn.never rfl (pi_tup (pv 1)) (pg_tup (by rfl) (pgs_cons (pg_name (i := 4) cPw.nd rfl (Or.inl rfl)) (pgs_cons (pg_name (i := 5) cPw.nd rfl (Or.inl rfl)) pgs_nil))) (pss_cons (ps_expr (pe_bm PySem.F.plainAttrs_list PySem.F.slot_list_extend PySem.F.type_list_extend mt_extend (pv 3) (pa_cons (pe_lst (pa_cons pe_str (pa_cons (pv 4) (pa_cons pe_str pa_nil)))) pa_nil))) (C8.pss_cut (ps_for PassesOwn.never rfl (pi_tup (pv 5)) (pg_tup (by rfl) (pgs_cons (pg_name (i := 6) cPw.nd rfl (Or.inl rfl)) (pgs_cons (pg_name (i := 7) cPw.nd rfl (Or.inl rfl)) pgs_nil))) (pss_one (ps_expr (pe_bm PySem.F.plainAttrs_list PySem.F.slot_list_extend PySem.F.type_list_extend mt_extend (pv 3) (pa_cons (pe_op op_cat (pe_lst (pa_cons (pv 6) pa_nil)) (pe_call (GR.mono (by decide)) hr (by rfl) DR.g DR.k DR.b .nil pass0 (pa_cons (pe_lc (own := [("field", 8)]) (g := gName 8) (tt := tYes) (by rfl) cPw.nd (pi_tup (pv 7)) (blkOk_by (own := [("field", 8)]) (N := ["program", "kinds", "functions", "words", "name", "makers", "maker", "fields", "field", "params", "result", "body", "heads", "param", "kind"]) (sc := defScope lPw) (by decide +kernel)) (fun _ _ _ _ _ => (pg_name (i := 8) cPw.nd rfl (Or.inl rfl))) (fun _ _ _ _ _ => pts_nil) (fun _ _ _ _ _ => (pe_lst (pa_cons (pv 8) pa_nil)))) pa_nil))) pa_nil))))) (pss_one (ps_expr (pe_bm PySem.F.plainAttrs_list PySem.F.slot_list_append PySem.F.type_list_append mt_append (pv 3) (pa_cons pe_str pa_nil))))))) (C8.pss_cut (ps_for PassesOwn.never rfl (pi_tup (pv 2)) (pg_tup (by rfl) (pgs_cons (pg_name (i := 4) cPw.nd rfl (Or.inl rfl)) (pgs_cons (pg_name (i := 9) cPw.nd rfl (Or.inl rfl)) (pgs_cons (pg_name (i := 10) cPw.nd rfl (Or.inl rfl)) (pgs_cons (pg_name (i := 11) cPw.nd rfl (Or.inl rfl)) pgs_nil))))) (pss_cons (ps_set (i := 12) cPw.nd rfl (Or.inl rfl) (pe_call (GR.mono (by decide)) hr (by rfl) DR.g DR.k DR.b .nil pass0 (pa_cons (pe_lc (own := [("param", 13), ("kind", 14)]) (g := gTup K 2 (gCons (gName 13) (gCons (gName 14) gNil))) (tt := tYes) (by rfl) cPw.nd (pi_tup (pv 9)) (blkOk_by (own := [("param", 13), ("kind", 14)]) (N := ["program", "kinds", "functions", "words", "name", "makers", "maker", "fields", "field", "params", "result", "body", "heads", "param", "kind"]) (sc := defScope lPw) (by decide +kernel)) (fun _ _ _ _ _ => (pg_tup (by rfl) (pgs_cons (pg_name (i := 13) cPw.nd rfl (Or.inl rfl)) (pgs_cons (pg_name (i := 14) cPw.nd rfl (Or.inl rfl)) pgs_nil)))) (fun _ _ _ _ _ => pts_nil) (fun _ _ _ _ _ => (pe_lst (pa_cons (pv 14) (pa_cons (pv 13) pa_nil))))) pa_nil))) (pss_one (ps_expr (pe_bm PySem.F.plainAttrs_list PySem.F.slot_list_extend PySem.F.type_list_extend mt_extend (pv 3) (pa_cons (pe_op op_cat (pe_op op_cat (pe_op op_cat (pe_lst (pa_cons pe_str (pa_cons (pv 4) pa_nil))) (pv 12)) (pe_lst (pa_cons pe_str (pa_cons (pv 10) pa_nil)))) (pe_call GC hr (by rfl) DC.g DC.k DC.b .nil pass0 (pa_cons (pv 11) pa_nil))) pa_nil)))))) (pss_one (ps_ret (pv 3))))))), ?_⟩
    refine ⟨_, rfl, t, _, rfl, SqT.of ht, rfl, _, _, rfl, _, _, rfl, rfl, ?_⟩
    refine ⟨Nat.zero_le _, fun D hD => ?_⟩
    have g0 := Grow.new (o := .lst []) hD
    have h0 := upd_same (H := H) (a := D) (o := .lst [])
    generalize upd H D (.lst []) = H0 at g0 h0 ⊢
    refine ⟨fun σ Hc => ∃ (ss : List Str) (v4 v5 v6 v7 v8 : Option V), σ = [some (.ref t), some (.ref te), some (.ref tf), some (.ref D), v4, v5, v6, v7, v8, Option.none, Option.none, Option.none, Option.none, Option.none, Option.none] ∧ Hc D = some (.lst (ss.map V.str)) ∧ Grow H Hc ∧ wt ss ≤ 8000, ?_, ?_⟩
    · refine ⟨_, rfl, te, rfl, ⟨us, SqT.of (g0.tup hte)⟩, ?_⟩
      refine for_tup (xs := us) (fun i σ Hc => ∃ (ss : List Str) (v4 v5 v6 v7 v8 : Option V), σ = [some (.ref t), some (.ref te), some (.ref tf), some (.ref D), v4, v5, v6, v7, v8, Option.none, Option.none, Option.none, Option.none, Option.none, Option.none] ∧ Hc D = some (.lst (ss.map V.str)) ∧ Grow H Hc ∧ wt ss ≤ 1000 * i)
        ⟨[], _, _, _, _, _, rfl, h0, g0, Nat.le_refl _⟩ (fun i σ Hc _ hp => ?_) (fun i y σ Hc hy hp => ?_) (fun σ Hc hp => ?_)
      · obtain ⟨ss, v4, v5, v6, v7, v8, rfl, _, g, _⟩ := hp
        exact SqT.of (g.tup hte)
      · obtain ⟨ss, v4, v5, v6, v7, v8, rfl, hDs, g, hle⟩ := hp
        obtain ⟨dd, hdd, ed⟩ := eus.get hy
        obtain ⟨hlt, he⟩ := List.getElem?_eq_some_iff.mp hdd
        obtain ⟨sn, ms, rfl, hsn, hms, hma⟩ := entry_k (List.all_eq_true.mp hea dd (he ▸ List.getElem_mem hlt))
        obtain ⟨tq, qs, rfl, htq, eqs⟩ := enc_tup ed
        obtain ⟨y1, y2, rfl, f1, f2⟩ := encs2 eqs
        cases f1
        obtain ⟨tm, ws, rfl, htm, ews⟩ := enc_tup f2
        have hwl := ews.length
        refine ⟨tq, _, rfl, SqT.of (g.tup htq), rfl, _, _, rfl, _, _, rfl, rfl, ?_⟩
        refine ⟨_, rfl, .inl ⟨rfl, _, SqL.of hDs⟩, _, rfl, (by show 3 ≤ sizeLine; decide), fun p1 hp1 => ?_⟩
        have q1 := Grow.new (o := .lst [V.str "kind", V.str sn, V.str "{"]) hp1
        have h1 := upd_same (H := Hc) (a := p1) (o := .lst [V.str "kind", V.str sn, V.str "{"])
        have hsl := wt_len ss
        have hD1 := q1.lst hDs
        refine ⟨D, p1, _, _, rfl, rfl, hD1, h1, (by rw [List.length_map, sizeLine_eq]; show _ + 3 ≤ _; omega), ?_⟩
        have g1 := (g.trans q1).butN (o := .lst (ss.map V.str ++ [V.str "kind", V.str sn, V.str "{"])) hD
        have e1 : ss.map V.str ++ [V.str "kind", V.str sn, V.str "{"] = (ss ++ [("kind" : Str), sn, "{"]).map V.str := by rw [List.map_append]; rfl
        have hD2 := upd_same (H := upd Hc p1 (.lst [V.str "kind", V.str sn, V.str "{"])) (a := D) (o := .lst (ss.map V.str ++ [V.str "kind", V.str sn, V.str "{"]))
        have wss : wt (ss ++ [("kind" : Str), sn, "{"]) ≤ 1000 * i + 18 := by
          rw [wt_app]
          show wt ss + ((4 + 1) + ((sn.length + 1) + (1 + 1 + 0))) ≤ _
          omega
        generalize upd (upd Hc p1 (.lst [V.str "kind", V.str sn, V.str "{"])) D (.lst (ss.map V.str ++ [V.str "kind", V.str sn, V.str "{"])) = H2 at g1 hD2 ⊢
        rw [e1] at hD2
        generalize ss ++ [("kind" : Str), sn, "{"] = ss2 at hD2 wss
        refine ⟨fun σ Hc => ∃ (ss : List Str) (v6 v7 v8 : Option V), σ = [some (.ref t), some (.ref te), some (.ref tf), some (.ref D), some (.str sn), some (.ref tm), v6, v7, v8, Option.none, Option.none, Option.none, Option.none, Option.none, Option.none] ∧ Hc D = some (.lst (ss.map V.str)) ∧ Grow H Hc ∧ wt ss ≤ 1000 * i + 900, ?_, ?_⟩
        · refine ⟨_, rfl, tm, rfl, ⟨ws, SqT.of (g1.tup htm)⟩, ?_⟩
          refine for_tup (xs := ws) (fun k σ Hc => ∃ (ss : List Str) (v6 v7 v8 : Option V), σ = [some (.ref t), some (.ref te), some (.ref tf), some (.ref D), some (.str sn), some (.ref tm), v6, v7, v8, Option.none, Option.none, Option.none, Option.none, Option.none, Option.none] ∧ Hc D = some (.lst (ss.map V.str)) ∧ Grow H Hc ∧ wt ss ≤ 1000 * i + 18 + 100 * k)
            ⟨ss2, _, _, _, rfl, hD2, g1, wss⟩ (fun k σ Hc _ hp => ?_) (fun k y σ Hc hy hp => ?_) (fun σ Hc hp => ?_)
          · obtain ⟨ss, v6, v7, v8, rfl, _, g, _⟩ := hp
            exact SqT.of (g.tup htm)
          · obtain ⟨ss, v6, v7, v8, rfl, hDs, g, hle⟩ := hp
            obtain ⟨dm, hdm, edm⟩ := ews.get hy
            obtain ⟨hltm, hem⟩ := List.getElem?_eq_some_iff.mp hdm
            obtain ⟨sm, fl, rfl, hsm, hfl, hfla⟩ := maker_k (List.all_eq_true.mp hma dm (hem ▸ List.getElem_mem hltm))
            obtain ⟨tq2, qs2, rfl, htq2, eqs2⟩ := enc_tup edm
            obtain ⟨z1, z2, rfl, k1, k2⟩ := encs2 eqs2
            cases k1
            obtain ⟨tn, ns, rfl, htn, ens⟩ := enc_tup k2
            have hnl := ens.length
            refine ⟨tq2, _, rfl, SqT.of (g.tup htq2), rfl, _, _, rfl, _, _, rfl, rfl, ?_⟩
            refine ⟨_, rfl, .inl ⟨rfl, _, SqL.of hDs⟩, _, rfl, (by show 1 ≤ sizeLine; decide), fun p1 hp1 => ?_⟩
            have w1 : WL _ (upd Hc p1 (.lst [V.str sm])) (.ref p1) 11 := (wl_new hp1 [sm]).le (by show sm.length + 1 + 0 ≤ _; omega)
            have q1 := Grow.new (o := .lst [V.str sm]) hp1
            generalize upd Hc p1 (.lst [V.str sm]) = H1 at w1 q1 ⊢
            have gq1 := g.trans q1
            refine ⟨_, rfl, tn, rfl, ⟨ns, SqT.of (gq1.tup htn)⟩, fun L hL => ?_⟩
            refine lc_tup (xs := ns) (fun i Hx => ∃ (acc : List V), Hx L = some (.lst acc) ∧ acc.length = i ∧ WLs (fun a => a ≠ L) Hx acc (11 * i) ∧ Grow H1 Hx) ⟨[], upd_same, rfl, .nil, Grow.new hL⟩ (fun i Hx _ hp => ?_) (fun i z Hx hz hp => ?_) (fun Hx hp => ?_)
            · obtain ⟨acc, _, _, _, gx⟩ := hp
              exact SqT.of ((gq1.trans gx).tup htn)
            · obtain ⟨acc, hLs, hlen, hw, gx⟩ := hp
              obtain ⟨dz, hdz, ez⟩ := ens.get hz
              obtain ⟨sz, rfl, hsz⟩ := kin_str (List.all_eq_true.mp hfla dz (List.mem_of_getElem? hdz))
              cases ez
              have hzl : i < ns.length := (List.getElem?_eq_some_iff.mp hz).1
              refine ⟨wipe_set, ?_⟩
              unfold tYes
              refine iteT ⟨_, rfl, (by show 1 ≤ sizeLine; decide), fun p2 hp2 => ?_⟩
              have w2 : WL _ (upd Hx p2 (.lst [V.str sz])) (.ref p2) 11 := (wl_new hp2 [sz]).le (by show sz.length + 1 + 0 ≤ _; omega)
              have q2 := Grow.new (o := .lst [V.str sz]) hp2
              refine ⟨acc, q2.lst hLs, (by rw [sizeLine_eq]; omega), acc ++ [.ref p2], upd_same, (by rw [List.length_append, hlen]; rfl), ?_, (gx.trans q2).but hL⟩
              have e3 : 11 * (i + 1) = 11 * i + 11 := by omega
              rw [e3]
              exact ((hw.grow q2).push (w2.imp fun a ha z => by rw [z, hLs] at ha; cases ha)).updD
            · obtain ⟨acc, hLs, hlen, hw, gx⟩ := hp
              refine ⟨_, L, acc, 11 * ns.length, rfl, hLs, hw, by omega, by omega, fun z3 H3 q3 w3 => ?_⟩
              refine rd_catW (w1.grow (gx.trans q3)) w3 (by omega) fun z4 H4 q4 w4 => ?_
              have q14 := ((q1.trans gx).trans q3).trans q4
              obtain ⟨pw, ws2, rfl, hpw, hpws, hlew⟩ := w4
              have hD7 := q14.lst hDs
              have h1 := wt_len ss
              have h2 := wt_len ws2
              refine ⟨D, pw, _, _, rfl, rfl, hD7, hpws, (by rw [List.length_map, List.length_map, sizeLine_eq]; omega), ?_⟩
              refine ⟨ss ++ ws2, _, _, _, rfl, ?_, (g.trans q14).butN hD, ?_⟩
              · rw [List.map_append]
                exact upd_same
              · rw [wt_app]
                omega
          · obtain ⟨ss, v6, v7, v8, rfl, hDs, g, hle⟩ := hp
            exact ⟨ss, v6, v7, v8, rfl, hDs, g, by omega⟩
        · intro σ Hc ⟨ss, v6, v7, v8, e, hDs, g, hle⟩
          subst e
          have h1 := wt_len ss
          refine ⟨_, rfl, .inl ⟨rfl, _, SqL.of hDs⟩, D, _, _, rfl, rfl, hDs, (by rw [List.length_map, sizeLine_eq]; omega), ?_⟩
          refine ⟨ss ++ [("}" : Str)], _, _, _, _, _, rfl, ?_, g.butN hD, ?_⟩
          · rw [List.map_append]
            exact upd_same
          · rw [wt_app]
            show wt ss + 2 ≤ _
            omega
      · obtain ⟨ss, v4, v5, v6, v7, v8, rfl, hDs, g, hle⟩ := hp
        exact ⟨ss, _, _, _, _, _, rfl, hDs, g, by omega⟩
    · intro σ Hc ⟨ss, v4, v5, v6, v7, v8, e, hDs, g, hle⟩
      subst e
      refine ⟨fun σ Hc => ∃ (ss : List Str), σ[3]? = some (some (.ref D)) ∧ Hc D = some (.lst (ss.map V.str)) ∧ Grow H Hc ∧ wt ss ≤ 3900000, ?_, ?_⟩
      · refine ⟨_, rfl, tf, rfl, ⟨vs, SqT.of (g.tup htf)⟩, ?_⟩
        refine for_tup (xs := vs) (fun i σ Hc => ∃ (ss : List Str) (v4 v9 v10 v11 v12 v13 v14 : Option V), σ = [some (.ref t), some (.ref te), some (.ref tf), some (.ref D), v4, v5, v6, v7, v8, v9, v10, v11, v12, v13, v14] ∧ Hc D = some (.lst (ss.map V.str)) ∧ Grow H Hc ∧ wt ss ≤ 8000 + 301000 * i)
          ⟨ss, _, _, _, _, _, _, _, rfl, hDs, g, by omega⟩ (fun i σ Hc _ hp => ?_) (fun i y σ Hc hy hp => ?_) (fun σ Hc hp => ?_)
        · obtain ⟨ss, v4, v9, v10, v11, v12, v13, v14, rfl, _, g, _⟩ := hp
          exact SqT.of (g.tup htf)
        · obtain ⟨ss, v4, v9, v10, v11, v12, v13, v14, rfl, hDs, g, hle⟩ := hp
          obtain ⟨dd, hdd, ed⟩ := evs.get hy
          obtain ⟨hlt, he⟩ := List.getElem?_eq_some_iff.mp hdd
          obtain ⟨sn, ps, r, b, rfl, hsn, hps, hpa, hrl, hwb⟩ := func_k (List.all_eq_true.mp hfa dd (he ▸ List.getElem_mem hlt))
          obtain ⟨c, hok, hc⟩ := whole_ok hwb
          obtain ⟨tq, qs, rfl, htq, eqs⟩ := enc_tup ed
          obtain ⟨y1, y2, y3, y4, rfl, f1, f2, f3, f4⟩ := encs4 eqs
          cases f1
          cases f3
          obtain ⟨tp, ns, rfl, htp, ens⟩ := enc_tup f2
          have hnl := ens.length
          refine ⟨tq, _, rfl, SqT.of (g.tup htq), rfl, _, _, rfl, _, _, rfl, _, _, rfl, _, _, rfl, rfl, ?_⟩
          refine ⟨_, rfl, tp, rfl, ⟨ns, SqT.of (g.tup htp)⟩, fun L hL => ?_⟩
          refine lc_tup (xs := ns) (fun i Hx => ∃ (acc : List V), Hx L = some (.lst acc) ∧ acc.length = i ∧ WLs (fun a => a ≠ L) Hx acc (22 * i) ∧ Grow Hc Hx) ⟨[], upd_same, rfl, .nil, Grow.new hL⟩ (fun i Hx _ hp => ?_) (fun i z Hx hz hp => ?_) (fun Hx hp => ?_)
          · obtain ⟨acc, _, _, _, gx⟩ := hp
            exact SqT.of ((g.trans gx).tup htp)
          · obtain ⟨acc, hLs, hlen, hw, gx⟩ := hp
            obtain ⟨dz, hdz, ez⟩ := ens.get hz
            obtain ⟨sz, sk, rfl, hsz, hsk⟩ := param_k (List.all_eq_true.mp hpa dz (List.mem_of_getElem? hdz))
            obtain ⟨tz, zs, rfl, htz, ezs⟩ := enc_tup ez
            obtain ⟨z1, z2, rfl, m1, m2⟩ := encs2 ezs
            cases m1
            cases m2
            have hzl : i < ns.length := (List.getElem?_eq_some_iff.mp hz).1
            refine ⟨tz, _, rfl, SqT.of ((g.trans gx).tup htz), rfl, _, _, rfl, _, _, rfl, rfl, ?_⟩
            refine ⟨rfl, ?_⟩
            unfold tYes
            refine iteT ⟨_, rfl, _, rfl, (by show 2 ≤ sizeLine; decide), fun p2 hp2 => ?_⟩
            have w2 : WL _ (upd Hx p2 (.lst [V.str sk, V.str sz])) (.ref p2) 22 := (wl_new hp2 [sk, sz]).le (by show sk.length + 1 + (sz.length + 1 + 0) ≤ _; omega)
            have q2 := Grow.new (o := .lst [V.str sk, V.str sz]) hp2
            refine ⟨acc, q2.lst hLs, (by rw [sizeLine_eq]; omega), acc ++ [.ref p2], upd_same, (by rw [List.length_append, hlen]; rfl), ?_, (gx.trans q2).but hL⟩
            have e3 : 22 * (i + 1) = 22 * i + 22 := by omega
            rw [e3]
            exact ((hw.grow q2).push (w2.imp fun a ha z => by rw [z, hLs] at ha; cases ha)).updD
          · obtain ⟨acc, hLs, hlen, hw, gx⟩ := hp
            refine ⟨_, L, acc, 22 * ns.length, rfl, hLs, hw, by omega, by omega, fun z3 H3 q3 w3 => ?_⟩
            have q13 := gx.trans q3
            refine ⟨_, rfl, .inl ⟨rfl, _, SqL.of (q13.lst hDs)⟩, _, rfl, (by show 2 ≤ sizeLine; decide), fun p4 hp4 => ?_⟩
            have w4 : WL _ (upd H3 p4 (.lst [V.str "def", V.str sn])) (.ref p4) 15 := (wl_new hp4 ["def", sn]).le (by show 3 + 1 + (sn.length + 1 + 0) ≤ _; omega)
            have q4 := Grow.new (o := .lst [V.str "def", V.str sn]) hp4
            generalize upd H3 p4 (.lst [V.str "def", V.str sn]) = H4 at w4 q4 ⊢
            refine ⟨_, rfl, rd_catW w4 (w3.grow q4) (by omega) fun z5 H5 q5 w5 => ?_⟩
            refine ⟨_, rfl, (by show 2 ≤ sizeLine; decide), fun p6 hp6 => ?_⟩
            have w6 : WL _ (upd H5 p6 (.lst [V.str ":", V.str r])) (.ref p6) 13 := (wl_new hp6 [":", r]).le (by show 1 + 1 + (r.length + 1 + 0) ≤ _; omega)
            have q6 := Grow.new (o := .lst [V.str ":", V.str r]) hp6
            generalize upd H5 p6 (.lst [V.str ":", V.str r]) = H6 at w6 q6 ⊢
            refine rd_catW (w5.grow q6) w6 (by omega) fun z7 H7 q7 w7 => ?_
            have q17 := (((q13.trans q4).trans q5).trans q6).trans q7
            refine ⟨_, rfl, b, y4, 1, c, rfl, f4.grow (g.trans q17), hok, by decide, hc, fun z8 H8 q8 w8 => ?_⟩
            refine rd_catW (w7.grow q8) w8 (by omega) fun z9 H9 q9 w9 => ?_
            have q19 := (q17.trans q8).trans q9
            obtain ⟨pw, ws2, rfl, hpw, hpws, hlew⟩ := w9
            have hD7 := q19.lst hDs
            have h1 := wt_len ss
            have h2 := wt_len ws2
            refine ⟨D, pw, _, _, rfl, rfl, hD7, hpws, (by rw [List.length_map, List.length_map, sizeLine_eq]; omega), ?_⟩
            refine ⟨ss ++ ws2, _, _, _, _, _, _, _, rfl, ?_, (g.trans q19).butN hD, ?_⟩
            · rw [List.map_append]
              exact upd_same
            · rw [wt_app]
              omega
        · obtain ⟨ss, v4, v9, v10, v11, v12, v13, v14, rfl, hDs, g, hle⟩ := hp
          exact ⟨ss, rfl, hDs, g, by omega⟩
      · intro σ Hc ⟨ss, e, hDs, g, hle⟩
        exact ⟨_, e, kq _ _ g ⟨D, ss, rfl, hD, hDs, by omega⟩⟩
end
end J1
set_option Elab.async false
set_option linter.all false
set_option maxRecDepth 100000
set_option maxHeartbeats 8000000
namespace J1
open PySem PySem.Spec PyProof.Rows L2 GxR GA
abbrev lWp : Stmt := top 38
theorem cWp : FnScope ["program"] ["program"] (defScope lWp) := ⟨rfl, rfl, rfl, by decide +kernel, rfl, by decide +kernel, by decide +kernel⟩
abbrev lRf : Stmt := top 74
theorem cRf : FnScope ["_law_thing", "_law_refused_here"] ["_law_thing"] (defScope lRf) := ⟨rfl, rfl, rfl, by decide +kernel, rfl, by decide +kernel, by decide +kernel⟩
structure Exn (K : PySem.W.Frag) (mg : Str → Option Value) (nm : Str) (C : Addr) : Prop where
  x : PySem.W.excIn K C [.type "ValueError", .type "Exception", .type "BaseException", .type "object"] "ValueError.__new__" = true
  g : mg nm = some (.ref C)
  k : PySem.W.keepIn K (.ref C) = true
  b : PySem.W.subIn K (.ref C) (.type "BaseException") = some true
  t : PySem.W.typeIn K (.ref C) = some (.type "type")
def spWp (T : Hp → Prop) (CB : Addr) : Sp := fun vs H Q E => ∃ (d : Da) (x : V), vs = [x] ∧ Enc H d x ∧ T H ∧ (isProg d = true → ∀ z H', Grow H H' → Q z H') ∧ (isProg d = false → ∀ H', Grow H H' → E (.ref CB) Option.none H')
def spRf (T : Hp → Prop) : Sp := fun vs H Q _ => ∃ (d : Da) (x : V), vs = [x] ∧ Enc H d x ∧ T H ∧ ∀ H', Grow H H' → Q (.bl (!isProg d)) H'
theorem join_le (ss : List Str) : (ss.map (·.length)).sum + ss.length * (" " : Str).length = wt ss := by
  have h1 : (" " : Str).length = 1 := by decide
  rw [h1, Nat.mul_one]
  induction ss with
  | nil => rfl
  | cons x l ih =>
    show x.length + (l.map (·.length)).sum + (l.length + 1) = x.length + 1 + wt l
    omega
section
variable {P : Program} {w : World} {K : PySem.W.Frag} {mg : Str → Option Value} {base : Heap}
theorem ok_wp {f fP fW CB : Addr} {fd fdP fdW : FuncData} {T : Hp → Prop} (F : Fun K "write_program" "write_program" lWp f fd) (B : Exn K mg "BadProgram" CB)
    (GP : FnOk P w K mg base CX0 11 fP fdP ["thing"] (spG T isProg)) (DP : Df K mg "is_program" ["thing"] fP fdP)
    (GW : FnOk P w K mg base CX0 102 fW fdW ["program"] spPw) (DW : Df K mg "program_words" ["program"] fW fdW) : FnOk P w K mg base (L2.CX P w) 103 f fd ["program"] (spWp T CB) := by
  refine F.okX (k := 102) cWp (fun vs H Q E h => ?_) (fun cdv A outer s H vs Q E hr h => ?_)
  · obtain ⟨d, x, rfl, _⟩ := h
    rfl
  · obtain ⟨d, x, rfl, en, hT, kq, ke⟩ := h
    refine ⟨_, (pss_cons (ps_if (pt_not (pt_val (pe_call (GP.mono (by decide)) hr (by rfl) DP.g DP.k DP.b .nil pass0 (pa_cons (pv 0) pa_nil)))) (pss_one (ps_raise rfl (takes_of rfl rfl rfl rfl) (pmk_own PySem.F.excBase_ValueError B.x B.g B.k (raises_own B.b B.t) rfl))) pss_nil) (pss_one (ps_ret (pe_join pe_str (pe_call GW hr (by rfl) DW.g DW.k DW.b .nil pass0 (pa_cons (pv 0) pa_nil)))))), ?_⟩
    refine ⟨_, rfl, x, d, rfl, en, hT, fun H1 g1 => ⟨_, rfl, ?_⟩⟩
    cases hp : isProg d with
    | false => exact iteT (ke hp H1 g1)
    | true =>
      refine iteF ?_
      refine ⟨⟨_, rfl⟩, _, rfl, d, x, rfl, en.grow g1, hp, fun x' H2 g2 hw => ?_⟩
      obtain ⟨a, ss, rfl, _, ha, hle⟩ := hw
      refine ⟨_, a, ss, rfl, rfl, .inl (SqL.of ha), ?_, ?_⟩
      · rw [join_le]
        omega
      · exact kq hp _ H2 (g1.trans g2)
theorem spWp_mono {T : Hp → Prop} {CB : Addr} {vs : List V} {H : Hp} {Q Q' : VK} {E E' : XK} (hq : ∀ v H', Q v H' → Q' v H') (he : ∀ c d H', E c d H' → E' c d H') (h : spWp T CB vs H Q E) : spWp T CB vs H Q' E' := by
  obtain ⟨d, x, e, en, hT, k1, k2⟩ := h
  exact ⟨d, x, e, en, hT, fun hp z H' g => hq _ _ (k1 hp z H' g), fun hp H' g => he _ _ _ (k2 hp H' g)⟩
theorem ok_rf {f fW CB : Addr} {fd fdW : FuncData} {T : Hp → Prop} (F : Fun K "_law_refused" "_law_refused" lRf f fd) (B : Exn K mg "BadProgram" CB) (eBB : PySem.W.exmOne K (.ref CB) (.ref CB) = some true)
    (GW : FnOk P w K mg base (L2.CX P w) 103 fW fdW ["program"] (spWp T CB)) (DW : Df K mg "write_program" ["program"] fW fdW) : FnOk P w K mg base CX0 104 f fd ["_law_thing"] (spRf T) := by
  refine F.ok (k := 103) cRf (fun vs H Q E h => ?_) (fun cdv A outer s H vs Q E hr h => ?_)
  · obtain ⟨d, x, rfl, _⟩ := h
    rfl
  · obtain ⟨d, x, rfl, en, hT, kq⟩ := h
    refine ⟨_, (pss_cons (ps_set (i := 1) cRf.nd rfl (Or.inl rfl) pe_bl) (C8.pss_cut (ps_try_only (c := .ref CB) (tb := fun W => tDrop (tCallS (spWp T CB) (WE W) (tCons (tVar 0) tNil))) (ts := fun a cls d => tAsg (tC (.bl true)) (gName 1)) (Wout := fun _ _ _ _ => False) rfl rfl ⟨rfl, by decide, .inl B.g⟩ takes0 (fun W pn xe tk _ => pss_one (ps_expr (by exact (pe_callS GW hr rfl DW.g DW.k DW.b (fun σ => passAt tk σ) (by exact (pa_cons (pv 0) pa_nil)))))) (fun a oe cls d pn hz hf => pss_one (ps_set (i := 1) cRf.nd rfl (Or.inl rfl) pe_bl))) (pss_one (ps_ret (pv 1))))), ?_⟩
    refine ⟨fun σ' H' => ∃ b : Bool, σ' = [some x, some (.bl b)] ∧ b = !isProg d ∧ Grow H H', ?_, ?_⟩
    · refine ⟨_, rfl, d, x, rfl, en, hT, fun hp z H' g => ?_, fun hp H' g => ?_⟩
      · exact ⟨false, rfl, by rw [hp]; rfl, g⟩
      · exact ⟨true, eBB, fun _ a na => ⟨true, rfl, by rw [hp]; rfl, g⟩, fun z => Bool.noConfusion z⟩
    · intro σ' H' ⟨b, e, hb, g⟩
      subst e
      subst hb
      exact ⟨_, rfl, kq H' g⟩
end
end J1
set_option Elab.async false
set_option linter.all false
set_option maxRecDepth 100000
set_option maxHeartbeats 8000000
namespace J1
open PySem PySem.Spec PyProof.Rows L2 GxR GA
abbrev lWl : Stmt := top 47
theorem cWl : FnScope ["_law_script"] ["_law_script"] (defScope lWl) := ⟨rfl, rfl, rfl, by decide +kernel, rfl, by decide +kernel, by decide +kernel⟩
abbrev lLw : Stmt := top 75
theorem cLw : FnScope ["_law_script", "_law_well_here", "_law_program", "_law_things", "_law_k", "_law_turn", "_law_thing", "_law_due", "_law_found"] ["_law_script"] (defScope lLw) := ⟨rfl, rfl, rfl, by decide +kernel, rfl, by decide +kernel, by decide +kernel⟩
/-! ### f(k = v): keywords alone -/
def tKws (n : Nat) (sp : Sp) (gV : List V → List V → List V) (W : XK) (tk : TA) : TE := fun σ H Q => tk σ H fun zs H1 => zs.length = n ∧ sp (gV [] zs) H1 Q W
theorem pe_kws {X : Cx} {CX : CXT} {j : Nat} {fa : Addr} {fdt : FuncData} {prs kns : List Str} {sp : Sp} {W : XK} {nm : Str} {p0 p1 : Pos} {kv : List Keyword} {tk : TA} {g : List Value → List Value → List Value} {gV : List V → List V → List V}
    (G : FnOk X.prog X.w X.K X.mg X.base CX j fa fdt prs sp) (room : Room j X.A) (gl : Gl X nm) (at_ : X.mg nm = some (.ref fa)) (kp : PySem.W.keepIn X.K (.ref fa) = true) (bnd : KBn X.K fdt prs 0 kns g gV) (out : Passes CX X W) (pk : PK X kv tk)
    (h1 : (backToKw p1 (keywordEach kv X.env)).all (·.1.isSome) = true := by rfl) (h2 : (backToKw p1 (keywordEach kv X.env)).filterMap (·.1) = kns := by rfl)
    (h3 : (nm == ("__debug__" : Str)) = false := by decide) (h4 : ((backTo p1 (starEach [] X.env)).any (·.1) || (backToKw p1 (keywordEach kv X.env)).any (·.1.isNone)) = false := by rfl) :
    PE X (.Call (.Name nm p0) [] kv p1) (tKws kns.length sp gV W tk) := by
  constructor
  intro pins s σ H Q I h
  apply wpAny_Call_Name_kw
  refine ld_glob I gl at_ (PySem.W.callWith_KW0 (h₀ := X.base) I.ok.mod.kin kp h1 ?_ h4) h3
  refine thn (pk.run p1 pins s σ H _ I h) fun ws s2 got => ?_
  obtain ⟨zs, H2, I2, rz, len, want⟩ := got
  refine ⟨I2.kIn, ?_⟩
  rw [h2]
  exact run_fnN (us := []) (vs := []) G room bnd out I2 .nil rz rfl len want
theorem db24 : Db 24 ≤ 10000000000000000000000000000000000000000000000000000000 := by decide +kernel
def spWell (K : PySem.W.Frag) : Sp := fun vs H Q _ => ∃ (a : Addr) (ns : List Int), vs = [.ref a] ∧ SqL K H a (ns.map V.int) ∧ ∀ p l H', Wl H' p l ns 0 → Grow H H' → Q (.ref p) H'
def spLaw (K : PySem.W.Frag) (T : Hp → Prop) : Sp := fun vs H Q _ => ∃ (a : Addr) (ns : List Int), vs = [.ref a] ∧ SqL K H a (ns.map V.int) ∧ T H ∧ ∀ H', Q (.bl true) H'
structure Gd6 (mg : Str → Option Value) : Prop where
  nI : mg "isinstance" = Option.none
  nb : mg "bool" = Option.none
  list : mg "list" = Option.none
  range : mg "range" = Option.none
/-- T stands, whatever list is written -/
def StaysW (T : Hp → Prop) : Prop := ∀ w H H', (∃ ys, H w = some (.lst ys)) → GrowW w H H' → T H → T H'
theorem iteNe {x : V} {A B : Prop} (h : B) : if (!decide (x = x)) = true then A else B := by
  rw [decide_eq_true rfl]
  exact iteF h
theorem iteNot {b : Bool} {A B : Prop} (h : B) : if decide (V.bl (!b) = V.bl b) = true then A else B := by
  have e : decide (V.bl (!b) = V.bl b) = false := by
    cases b <;> decide
  rw [e]
  exact iteF h
theorem atI_last {α : Type} {xs : List α} (h : 0 < xs.length) : atI xs (-1) = some (xs[xs.length - 1]'(by omega)) := by
  have e : ixN xs.length (-1) = some (xs.length - 1) := by
    unfold ixN
    rw [if_neg (by decide)]
    simp
    omega
  unfold atI
  rw [e]
  exact List.getElem?_eq_getElem (by omega)
section
variable {P : Program} {w : World} {K : PySem.W.Frag} {mg : Str → Option Value} {base : Heap}
theorem ok_wl {f : Addr} {fd : FuncData} (F : Fun K "_law_well" "_law_well" lWl f fd) (N : Gd6 mg) : FnOk P w K mg base CX0 1 f fd ["_law_script"] (spWell K) := by
  refine F.ok (k := 0) cWl (fun vs H Q E h => ?_) (fun cdv A outer s H vs Q E hr h => ?_)
  · obtain ⟨a, ns, rfl, _⟩ := h
    rfl
  · obtain ⟨a, ns, rfl, hS, k⟩ := h
    refine ⟨_, (pss_one (ps_ret (pe_lst (pa_cons pe_int (pa_cons pe_int (pa_cons (pe_callTy call_list_of (by rfl) N.list (by decide +kernel) (pa_cons (pv 0) pa_nil)) pa_nil)))))), ?_⟩
    refine ⟨_, rfl, a, _, rfl, .inl hS, fun l hl => ⟨(by show 3 ≤ sizeLine; decide), fun p hp => ?_⟩⟩
    have npl : l ≠ p := ne_of_none upd_same hp
    exact k p l _ ⟨⟨0, 0, upd_same, by decide, by decide, by decide⟩, by rw [upd_ne npl]; exact upd_same⟩ ((Grow.new hl).trans (Grow.new hp))
theorem ok_law {f fWl fD fL fE fB fJ fP fR : Addr} {fd fdWl fdD fdL fdE fdB fdJ fdP fdR : FuncData} {T : Hp → Prop} {g : List Value → List Value → List Value} (F : Fun K "law" "law" lLw f fd) (N : Gd6 mg) (hT : Stays T) (hTW : StaysW T)
    (GWl : FnOk P w K mg base CX0 1 fWl fdWl ["_law_script"] (spWell K)) (DWl : Df K mg "_law_well" ["_law_script"] fWl fdWl)
    (GD : FnOk P w K mg base CX0 1 fD fdD ["_law_well_here", "_law_many"] spDr) (DD : Df K mg "_law_draw" ["_law_well_here", "_law_many"] fD fdD)
    (GL : FnOk P w K mg base CX0 83 fL fdL ["_law_well_here", "_law_many", "_law_budgets"] spLoose) (DL : Df K mg "_law_loose" ["_law_well_here", "_law_many", "_law_budgets"] fL fdL)
    (GE : FnOk P w K mg base CX0 9 fE fdE ["_law_well_here"] spEd) (DE : Df K mg "_law_edge" ["_law_well_here"] fE fdE)
    (GB : FnOk P w K mg base CX0 3 fB fdB ["_law_thing", "_law_well_here"] spBn) (DB : Df K mg "_law_bent" ["_law_thing", "_law_well_here"] fB fdB)
    (GJ : FnOk P w K mg base CX0 6 fJ fdJ ["_law_thing"] (spG (fun _ => True) isProg)) (DJ : Df K mg "_law_is_program" ["_law_thing"] fJ fdJ)
    (GP : FnOk P w K mg base CX0 11 fP fdP ["thing"] (spG T isProg)) (DP : Df K mg "is_program" ["thing"] fP fdP) (KP : KBn K fdP ["thing"] 0 ["thing"] g (fun _ zs => zs))
    (GR : FnOk P w K mg base CX0 104 fR fdR ["_law_thing"] (spRf T)) (DR : Df K mg "_law_refused" ["_law_thing"] fR fdR) : FnOk P w K mg base CX0 105 f fd ["_law_script"] (spLaw K T) := by
  refine F.ok (k := 104) cLw (fun vs H Q E h => ?_) (fun cdv A outer s H vs Q E hr h => ?_)
  · obtain ⟨a, ns, rfl, _⟩ := h
    rfl
  · obtain ⟨a, ns, rfl, hS, hTH, kq⟩ := h
    refine ⟨_, (pss_cons (ps_set (i := 1) cLw.nd rfl (Or.inr rfl) (pe_call (GWl.mono (by decide)) hr (by rfl) DWl.g DWl.k DWl.b .nil pass0 (pa_cons (pv 0) pa_nil))) (pss_cons (ps_set (i := 2) cLw.nd rfl (Or.inl rfl) (pe_call (GL.mono (by decide)) hr (by rfl) DL.g DL.k DL.b .nil pass0 (pa_cons (pv 1) (pa_cons (pe_call (GD.mono (by decide)) hr (by rfl) DD.g DD.k DD.b .nil pass0 (pa_cons (pv 1) (pa_cons pe_int pa_nil))) (pa_cons (pe_lst (pa_cons pe_int (pa_cons pe_int (pa_cons pe_int pa_nil)))) pa_nil))))) (pss_cons (ps_set (i := 3) cLw.nd rfl (Or.inl rfl) (pe_lst (pa_cons (pv 2) (pa_cons (pe_tup (pa_cons (pe_tup pa_nil) (pa_cons (pe_tup pa_nil) pa_nil))) (pa_cons (pe_tup pa_nil) (pa_cons pe_non (pa_cons pe_int (pa_cons pe_str (pa_cons (pe_lst (pa_cons (pe_tup pa_nil) (pa_cons (pe_tup pa_nil) pa_nil))) (pa_cons (pe_tup (pa_cons (pe_tup pa_nil) (pa_cons (pe_tup pa_nil) (pa_cons (pe_tup pa_nil) pa_nil)))) (pa_cons (pe_tup (pa_cons (pe_tup pa_nil) (pa_cons pe_non pa_nil))) (pa_cons (pe_tup (pa_cons (pe_ix ix_tup (pv 2) pe_int (fun _ _ => rfl)) (pa_cons (pe_callTy call_list_of (by rfl) N.list (by decide +kernel) (pa_cons (pe_ix ix_tup (pv 2) pe_int (fun _ _ => rfl)) pa_nil)) pa_nil))) pa_nil)))))))))))) (pss_cons (ps_set (i := 3) cLw.nd rfl (Or.inl rfl) (pe_op op_cat (pv 3) (pe_lc (own := [("_law_k", 4)]) (g := gName 4) (tt := tYes) (by rfl) cLw.nd (pi_range1 (by rfl) N.range (pa_cons pe_int pa_nil)) (blkOk_by (own := [("_law_k", 4)]) (N := ["_law_script", "_law_well_here", "_law_program", "_law_things", "_law_k", "_law_turn", "_law_thing", "_law_due", "_law_found"]) (sc := defScope lLw) (by decide +kernel)) (fun _ _ _ _ _ => (pg_name (i := 4) cLw.nd rfl (Or.inl rfl))) (fun _ _ _ _ _ => pts_nil) (fun _ _ _ _ _ => (pe_call (GE.mono (by decide)) hr (by rfl) DE.g DE.k DE.b .nil pass0 (pa_cons (pv 1) pa_nil)))))) (C8.pss_cut (ps_for PassesOwn.never rfl (pi_range1 (by rfl) N.range (pa_cons pe_int pa_nil)) (pg_name (i := 5) cLw.nd rfl (Or.inl rfl)) (pss_one (ps_expr (pe_bm PySem.F.plainAttrs_list PySem.F.slot_list_append PySem.F.type_list_append mt_append (pv 3) (pa_cons (pe_call (GB.mono (by decide)) hr (by rfl) DB.g DB.k DB.b .nil pass0 (pa_cons (pv 2) (pa_cons (pv 1) pa_nil))) pa_nil))))) (pss_cons (ps_expr (pe_bm PySem.F.plainAttrs_list PySem.F.slot_list_append PySem.F.type_list_append mt_append (pv 3) (pa_cons (pe_call (GB.mono (by decide)) hr (by rfl) DB.g DB.k DB.b .nil pass0 (pa_cons (pe_ix ix_list (pv 3) (pe_un un_neg pe_int) (fun _ _ => rfl)) (pa_cons (pv 1) pa_nil))) pa_nil))) (C8.pss_cut (ps_for PassesOwn.never rfl (pi_list (pv 3)) (pg_name (i := 6) cLw.nd rfl (Or.inl rfl)) (pss_cons (ps_set (i := 7) cLw.nd rfl (Or.inl rfl) (pe_call (GJ.mono (by decide)) hr (by rfl) DJ.g DJ.k DJ.b .nil pass0 (pa_cons (pv 6) pa_nil))) (pss_cons (ps_set (i := 8) cLw.nd rfl (Or.inl rfl) (pe_call (GP.mono (by decide)) hr (by rfl) DP.g DP.k DP.b .nil pass0 (pa_cons (pv 6) pa_nil))) (pss_one (ps_if (PW.pt (pw_or (pt_not (pt_val (pe_callB call_isi (by rfl) N.nI boot_isinstance (pa_cons (pv 8) (pa_cons (pe_bltn (v := .ty "bool") rfl N.nb (by decide +kernel) rfl) pa_nil))))) (pw_or (pt_cmpR op_ne (pv 8) (pv 7) (nomark _)) (pw_or1 (pt_cmpR op_eq (pe_call GR hr (by rfl) DR.g DR.k DR.b .nil pass0 (pa_cons (pv 6) pa_nil)) (pv 7) (nomark _)))))) (pss_one (ps_ret pe_bl)) pss_nil))))) (pss_cons (ps_set (i := 8) cLw.nd rfl (Or.inl rfl) (pe_kws (GP.mono (by decide)) hr (by rfl) DP.g DP.k KP pass0 (pk_cons (pv 2) pk_nil))) (pss_one (ps_ret (pe_and (pe_callB call_isi (by rfl) N.nI boot_isinstance (pa_cons (pv 8) (pa_cons (pe_bltn (v := .ty "bool") rfl N.nb (by decide +kernel) rfl) pa_nil))) (pe_one (pe_cmpR op_eq (pv 8) (pe_call (GJ.mono (by decide)) hr (by rfl) DJ.g DJ.k DJ.b .nil pass0 (pa_cons (pv 2) pa_nil)) (nomark _)))))))))))))), ?_⟩
    obtain ⟨d24, hd24⟩ : ∃ d, d = Db 24 := ⟨_, rfl⟩
    have hdb := db24
    rw [← hd24] at hdb
    refine ⟨_, rfl, a, ns, rfl, hS, fun p l H1 W1 g1 => ?_⟩
    have T1 := hT _ _ g1 hTH
    refine ⟨_, rfl, _, rfl, p, l, ns, 0, 3, rfl, by decide, cdw (by decide) (by decide), W1, by decide, fun m H2 m0 m1 W2 u2 => ⟨(by show 3 ≤ sizeLine; decide), fun bl hbl => ?_⟩⟩
    have T2 := hTW _ _ _ W1.pl u2 T1
    have gb := Grow.new (o := .lst [.int 8, .int 20, .int 60]) hbl
    have T3 := hT _ _ gb T2
    have W3 := W2.grow gb
    refine ⟨p, l, bl, ns, 0 + 1, m, rfl, W3, m0, by omega, (W2.np hbl).1, upd_same, (by rw [← hd24]; omega), fun ks fs x n' H4 en0 bd hn W4 u4 => ?_⟩
    rw [← hd24] at hn
    have T4 := hTW _ _ _ W3.pl u4 T3
    clear gb W3 T3 hbl T2 u2 T1 g1 hTH hS
    obtain ⟨t0, xs0, rfl, ht0, el0⟩ := enc_tup en0
    obtain ⟨xk, xf, rfl, ek, ef⟩ := encs2 el0
    obtain ⟨tf, us, rfl, htf, efs⟩ := enc_tup ef
    obtain ⟨bd1, ⟨bk, ⟨bfl, bfs⟩, _⟩⟩ : 2 ≤ 20 ∧ Bd 20 (.tup ks) ∧ (fs.length ≤ 20 ∧ Bds 20 fs) ∧ True := bd
    have toP : ∀ {d : Da} {y : V} {H : Hp}, EncT H d y → EncB (fun a => a ≠ p) H d y := fun h => h.mono fun _ z => z.elim
    obtain ⟨yp, hyp⟩ := W4.pl
    have hWp : ∀ {q : Addr} {Hx : Hp}, Grow H4 Hx → Hx q = Option.none → q ≠ p := fun gx hq => ((W4.grow gx).np hq).1
    refine ⟨_, rfl, ?_⟩
    refine ⟨Nat.zero_le _, fun q1 h1 => ?_⟩
    have g1 := Grow.new (o := .tup []) h1
    have gg1 : Grow H4 _ := g1
    have e1 : EncB (fun a => a ≠ p) (upd H4 q1 (.tup [])) (.tup []) (.ref q1) := .tup upd_same .nil
    generalize upd H4 q1 (.tup []) = A1 at g1 gg1 e1 ⊢
    refine ⟨Nat.zero_le _, fun q2 h2 => ?_⟩
    have g2 := Grow.new (o := .tup []) h2
    have gg2 : Grow H4 _ := gg1.trans g2
    have e2 : EncB (fun a => a ≠ p) (upd A1 q2 (.tup [])) (.tup []) (.ref q2) := .tup upd_same .nil
    generalize upd A1 q2 (.tup []) = A2 at g2 gg2 e2 ⊢
    refine ⟨(by show 2 ≤ sizeLine; decide), fun q3 h3 => ?_⟩
    have g3 := Grow.new (o := .tup [.ref q1, .ref q2]) h3
    have gg3 : Grow H4 _ := gg2.trans g3
    have e3 : EncB (fun a => a ≠ p) (upd A2 q3 (.tup [.ref q1, .ref q2])) (.tup [.tup [], .tup []]) (.ref q3) := .tup upd_same (.cons ((e1.grow g2).grow g3) (.cons (e2.grow g3) .nil))
    generalize upd A2 q3 (.tup [.ref q1, .ref q2]) = A3 at g3 gg3 e3 ⊢
    refine ⟨Nat.zero_le _, fun q4 h4 => ?_⟩
    have g4 := Grow.new (o := .tup []) h4
    have gg4 : Grow H4 _ := gg3.trans g4
    have e4 : EncB (fun a => a ≠ p) (upd A3 q4 (.tup [])) (.tup []) (.ref q4) := .tup upd_same .nil
    generalize upd A3 q4 (.tup []) = A4 at g4 gg4 e4 ⊢
    refine ⟨Nat.zero_le _, fun q5 h5 => ?_⟩
    have g5 := Grow.new (o := .tup []) h5
    have gg5 : Grow H4 _ := gg4.trans g5
    have e5 : EncB (fun a => a ≠ p) (upd A4 q5 (.tup [])) (.tup []) (.ref q5) := .tup upd_same .nil
    generalize upd A4 q5 (.tup []) = A5 at g5 gg5 e5 ⊢
    refine ⟨Nat.zero_le _, fun q6 h6 => ?_⟩
    have g6 := Grow.new (o := .tup []) h6
    have gg6 : Grow H4 _ := gg5.trans g6
    have e6 : EncB (fun a => a ≠ p) (upd A5 q6 (.tup [])) (.tup []) (.ref q6) := .tup upd_same .nil
    generalize upd A5 q6 (.tup []) = A6 at g6 gg6 e6 ⊢
    refine ⟨(by show 2 ≤ sizeLine; decide), fun q7 h7 => ?_⟩
    have g7 := Grow.new (o := .lst [.ref q5, .ref q6]) h7
    have gg7 : Grow H4 _ := gg6.trans g7
    have e7 : EncB (fun a => a ≠ p) (upd A6 q7 (.lst [.ref q5, .ref q6])) (.lst [.tup [], .tup []]) (.ref q7) := .lst upd_same (.cons ((e5.grow g6).grow g7) (.cons (e6.grow g7) .nil)) (hWp gg6 h7)
    generalize upd A6 q7 (.lst [.ref q5, .ref q6]) = A7 at g7 gg7 e7 ⊢
    refine ⟨Nat.zero_le _, fun q8 h8 => ?_⟩
    have g8 := Grow.new (o := .tup []) h8
    have gg8 : Grow H4 _ := gg7.trans g8
    have e8 : EncB (fun a => a ≠ p) (upd A7 q8 (.tup [])) (.tup []) (.ref q8) := .tup upd_same .nil
    generalize upd A7 q8 (.tup []) = A8 at g8 gg8 e8 ⊢
    refine ⟨Nat.zero_le _, fun q9 h9 => ?_⟩
    have g9 := Grow.new (o := .tup []) h9
    have gg9 : Grow H4 _ := gg8.trans g9
    have e9 : EncB (fun a => a ≠ p) (upd A8 q9 (.tup [])) (.tup []) (.ref q9) := .tup upd_same .nil
    generalize upd A8 q9 (.tup []) = A9 at g9 gg9 e9 ⊢
    refine ⟨Nat.zero_le _, fun q10 h10 => ?_⟩
    have g10 := Grow.new (o := .tup []) h10
    have gg10 : Grow H4 _ := gg9.trans g10
    have e10 : EncB (fun a => a ≠ p) (upd A9 q10 (.tup [])) (.tup []) (.ref q10) := .tup upd_same .nil
    generalize upd A9 q10 (.tup []) = A10 at g10 gg10 e10 ⊢
    refine ⟨(by show 3 ≤ sizeLine; decide), fun q11 h11 => ?_⟩
    have g11 := Grow.new (o := .tup [.ref q8, .ref q9, .ref q10]) h11
    have gg11 : Grow H4 _ := gg10.trans g11
    have e11 : EncB (fun a => a ≠ p) (upd A10 q11 (.tup [.ref q8, .ref q9, .ref q10])) (.tup [.tup [], .tup [], .tup []]) (.ref q11) := .tup upd_same (.cons (((e8.grow g9).grow g10).grow g11) (.cons ((e9.grow g10).grow g11) (.cons (e10.grow g11) .nil)))
    generalize upd A10 q11 (.tup [.ref q8, .ref q9, .ref q10]) = A11 at g11 gg11 e11 ⊢
    refine ⟨Nat.zero_le _, fun q12 h12 => ?_⟩
    have g12 := Grow.new (o := .tup []) h12
    have gg12 : Grow H4 _ := gg11.trans g12
    have e12 : EncB (fun a => a ≠ p) (upd A11 q12 (.tup [])) (.tup []) (.ref q12) := .tup upd_same .nil
    generalize upd A11 q12 (.tup []) = A12 at g12 gg12 e12 ⊢
    refine ⟨(by show 2 ≤ sizeLine; decide), fun q13 h13 => ?_⟩
    have g13 := Grow.new (o := .tup [.ref q12, V.non]) h13
    have gg13 : Grow H4 _ := gg12.trans g13
    have e13 : EncB (fun a => a ≠ p) (upd A12 q13 (.tup [.ref q12, V.non])) (.tup [.tup [], .non]) (.ref q13) := .tup upd_same (.cons (e12.grow g13) (.cons .non .nil))
    generalize upd A12 q13 (.tup [.ref q12, V.non]) = A13 at g13 gg13 e13 ⊢
    refine ⟨_, rfl, t0, _, 0, _, rfl, rfl, SqT.of (gg13.tup ht0), rfl, _, rfl, t0, _, 1, _, rfl, rfl, SqT.of (gg13.tup ht0), rfl, tf, us, rfl, .inr (SqT.of (gg13.tup htf)), fun q14 h14 => ?_⟩
    have g14 := Grow.new (o := .lst us) h14
    have gg14 : Grow H4 _ := gg13.trans g14
    have e14 : EncB (fun a => a ≠ p) (upd A13 q14 (.lst us)) (.lst fs) (.ref q14) := .lst upd_same (((EncsB.mono (fun _ z => z.elim) efs).grow gg13).grow g14) (hWp gg13 h14)
    generalize upd A13 q14 (.lst us) = A14 at g14 gg14 e14 ⊢
    refine ⟨(by show 2 ≤ sizeLine; decide), fun q15 h15 => ?_⟩
    have g15 := Grow.new (o := .tup [xk, .ref q14]) h15
    have gg15 : Grow H4 _ := gg14.trans g15
    have e15 : EncB (fun a => a ≠ p) (upd A14 q15 (.tup [xk, .ref q14])) (.tup [.tup ks, .lst fs]) (.ref q15) := .tup upd_same (.cons ((toP ek).grow (gg14.trans g15)) (.cons (e14.grow g15) .nil))
    generalize upd A14 q15 (.tup [xk, .ref q14]) = A15 at g15 gg15 e15 ⊢
    have eL : EncsB (fun a => a ≠ p) A15 [.tup [.tup ks, .tup fs], .tup [.tup [], .tup []], .tup [], .non, .int 7, .str "program", .lst [.tup [], .tup []], .tup [.tup [], .tup [], .tup []], .tup [.tup [], .non], .tup [.tup ks, .lst fs]] [.ref t0, .ref q3, .ref q4, .non, .int 7, .str "program", .ref q7, .ref q11, .ref q13, .ref q15] := (.cons ((toP en0).grow gg15) (.cons ((((((((((((e3.grow g4).grow g5).grow g6).grow g7).grow g8).grow g9).grow g10).grow g11).grow g12).grow g13).grow g14).grow g15) (.cons (((((((((((e4.grow g5).grow g6).grow g7).grow g8).grow g9).grow g10).grow g11).grow g12).grow g13).grow g14).grow g15) (.cons .non (.cons (.int 7) (.cons (.str _ ((nk (by decide +kernel) : NOk 20 "program").s (by decide))) (.cons ((((((((e7.grow g8).grow g9).grow g10).grow g11).grow g12).grow g13).grow g14).grow g15) (.cons ((((e11.grow g12).grow g13).grow g14).grow g15) (.cons ((e13.grow g14).grow g15) (.cons e15 .nil))))))))))
    have bL : Bds 2000 [.tup [.tup ks, .tup fs], .tup [.tup [], .tup []], .tup [], .non, .int 7, .str "program", .lst [.tup [], .tup []], .tup [.tup [], .tup [], .tup []], .tup [.tup [], .non], .tup [.tup ks, .lst fs]] := ⟨⟨(by show 2 ≤ 2000; decide), bd_le (by decide) bk, ⟨Nat.le_trans bfl (by decide), bds_le (by decide) bfs⟩, trivial⟩, ⟨(by show 2 ≤ 2000; decide), ⟨Nat.zero_le _, trivial⟩, ⟨Nat.zero_le _, trivial⟩, trivial⟩, ⟨Nat.zero_le _, trivial⟩, trivial, (by show (7 : Int).natAbs ≤ _; decide), nok_le (nk (by decide +kernel) : NOk 20 "program") (by decide), ⟨(by show 2 ≤ 2000; decide), ⟨Nat.zero_le _, trivial⟩, ⟨Nat.zero_le _, trivial⟩, trivial⟩, ⟨(by show 3 ≤ 2000; decide), ⟨Nat.zero_le _, trivial⟩, ⟨Nat.zero_le _, trivial⟩, ⟨Nat.zero_le _, trivial⟩, trivial⟩, ⟨(by show 2 ≤ 2000; decide), ⟨Nat.zero_le _, trivial⟩, trivial, trivial⟩, ⟨(by show 2 ≤ 2000; decide), bd_le (by decide) bk, ⟨Nat.le_trans bfl (by decide), bds_le (by decide) bfs⟩, trivial⟩, trivial⟩
    refine ⟨(by show 10 ≤ sizeLine; decide), fun D0 hD0 => ?_⟩
    have gD := Grow.new (o := .lst [.ref t0, .ref q3, .ref q4, .non, .int 7, .str "program", .ref q7, .ref q11, .ref q13, .ref q15]) hD0
    have hD0s := upd_same (H := A15) (a := D0) (o := .lst [.ref t0, .ref q3, .ref q4, .non, .int 7, .str "program", .ref q7, .ref q11, .ref q13, .ref q15])
    have eL := eL.grow gD
    have gF := gg15.trans gD
    generalize upd A15 D0 (.lst [.ref t0, .ref q3, .ref q4, .non, .int 7, .str "program", .ref q7, .ref q11, .ref q13, .ref q15]) = H5 at gF hD0s eL ⊢
    generalize hxs : ([.ref t0, .ref q3, .ref q4, .non, .int 7, .str "program", .ref q7, .ref q11, .ref q13, .ref q15] : List V) = xs at hD0s eL
    have hxl : xs.length = 10 := by rw [← hxs]; rfl
    generalize ([.tup [.tup ks, .tup fs], .tup [.tup [], .tup []], .tup [], .non, .int 7, .str "program", .lst [.tup [], .tup []], .tup [.tup [], .tup [], .tup []], .tup [.tup [], .non], .tup [.tup ks, .lst fs]] : List Da) = ds at eL bL
    have hD0p : D0 ≠ p := hWp gg15 hD0
    have W5 := W4.grow gF
    have T5 := hT _ _ gF T4
    have en5 := en0.grow gF
    clear gD hD0 e1 e2 e3 e4 e5 e6 e7 e8 e9 e10 e11 e12 e13 e14 e15 h1 h2 h3 h4 h5 h6 h7 h8 h9 h10 h11 h12 h13 h14 h15
    clear gg1 gg2 gg3 gg4 gg5 gg6 gg7 gg8 gg9 gg10 gg11 gg12 gg13 gg14 gg15
    clear g1 g2 g3 g4 g5 g6 g7 g8 g9 g10 g11 g12 g13 g14 g15
    refine ⟨_, rfl, 3, rfl, by decide, by decide, fun L hL => ?_⟩
    obtain ⟨hLp, hLl⟩ := W5.np hL
    obtain ⟨y5, hy5⟩ := W5.pl
    refine lc_range (n := 3) (fun i Hc => ∃ (acc : List V) (es : List Da), Hc L = some (.lst acc) ∧ EncsT Hc es acc ∧ Bds 20 es ∧ acc.length = i ∧ Wl Hc p l ns (n' + 100 * i) ∧ GrowW p H5 Hc) ⟨[], [], upd_same, .nil, trivial, rfl, W5.upd hLp hLl, GrowW.new hL⟩ (fun i Hc hi hp => ?_) (fun Hc hp => ?_)
    · obtain ⟨acc, es, hacc, ee, be, hlen, W', g⟩ := hp
      refine ⟨wipe_set, ?_⟩
      unfold tYes
      refine iteT ⟨_, rfl, p, l, ns, n' + 100 * i, rfl, W', by omega, fun d x H' u en bd W2 => ?_⟩
      obtain ⟨yy, hyy⟩ := W'.pl
      have hL' := u.lst hLp hacc
      have nT : ∀ zs, H' L ≠ some (.tup zs) := fun ys z => by rw [hL'] at z; cases z
      have bn : Bds 20 [d] := ⟨bd, trivial⟩
      exact ⟨acc, hL', (by rw [sizeLine_eq]; omega), acc ++ [x], es ++ [d], upd_same, (encs_push (ee.gw u hyy) en).growW GrowW.upd (fun z => z) nT, bds_app be bn, (by rw [List.length_append, hlen]; rfl), (W2.upd hLp hLl).more (by omega), (g.trans' u).but hL⟩
    obtain ⟨acc, es, hacc, ee, be, hlen, W6, g6⟩ := hp
    have T6 := hTW _ _ _ ⟨_, hy5⟩ g6 T5
    have hD06 := g6.lst hD0p hD0s
    have eL6 := eL.gb (fun z => z rfl) g6 hy5
    have en6 := en5.gw g6 hy5
    refine ⟨D0, L, xs, acc, rfl, rfl, hD06, hacc, (by rw [sizeLine_eq]; omega), fun D hD => ?_⟩
    have hDp := (W6.np hD).1
    have hDl := (W6.np hD).2
    have gD := Grow.new (o := .lst (xs ++ acc)) hD
    have eA := ((encs_app eL6 (EncsB.mono (fun _ z => z.elim) ee)).but hD).grow gD
    have bA := bds_app bL (bds_le (by decide : 20 ≤ 2000) be)
    have hDs := upd_same (H := Hc) (a := D) (o := .lst (xs ++ acc))
    have T7 := hT _ _ gD T6
    have W7 := W6.grow gD
    have en7 := en6.grow gD
    have hzl : (xs ++ acc).length = 13 := by rw [List.length_append, hxl, hlen]
    generalize upd Hc D (.lst (xs ++ acc)) = H7 at eA hDs T7 W7 en7 ⊢
    generalize xs ++ acc = zs at eA hDs hzl ⊢
    generalize ds ++ es = dz at eA bA
    clear gD eL6 hD06 ee hacc en6 T6 W6 g6 hD be eL bL hD0s T5 W5 en5 hy5 en0 el0 ek ef efs W4 T4
    have nP : ¬ (p ≠ p ∧ p ≠ D) := fun z => z.1 rfl
    have nL : ¬ (D ≠ p ∧ D ≠ D) := fun z => z.2 rfl
    refine ⟨fun σ Hc => ∃ (dz : List Da) (zs : List V) (v5 : Option V), σ = [some (.ref a), some (.ref p), some (.ref t0), some (.ref D), Option.none, v5, Option.none, Option.none, Option.none] ∧ Hc D = some (.lst zs) ∧ EncsB (fun a => a ≠ p ∧ a ≠ D) Hc dz zs ∧ Bds 2000 dz ∧ 1 ≤ zs.length ∧ zs.length ≤ 19 ∧ EncT Hc (.tup [.tup ks, .tup fs]) (.ref t0) ∧ Wl Hc p l ns (n' + 1000) ∧ T Hc, ?_, ?_⟩
    · refine ⟨6, rfl, by decide, by decide, ?_⟩
      refine for_range (n := 6) (fun i σ Hc => ∃ (dz : List Da) (zs : List V) (v5 : Option V), σ = [some (.ref a), some (.ref p), some (.ref t0), some (.ref D), Option.none, v5, Option.none, Option.none, Option.none] ∧ Hc D = some (.lst zs) ∧ EncsB (fun a => a ≠ p ∧ a ≠ D) Hc dz zs ∧ Bds 2000 dz ∧ 1 ≤ zs.length ∧ zs.length ≤ 13 + i ∧ EncT Hc (.tup [.tup ks, .tup fs]) (.ref t0) ∧ Wl Hc p l ns (n' + 300 + 28 * i) ∧ T Hc)
        ⟨dz, zs, _, rfl, hDs, eA, bA, by omega, by omega, en7, W7, T7⟩ (fun i σ Hc hi hp => ?_) (fun σ Hc hp => ?_)
      · obtain ⟨dz, zs, v5, rfl, hDs, eA, bA, z1, z2, en, W', T'⟩ := hp
        obtain ⟨yy, hyy⟩ := W'.pl
        have young : ∀ q, Hc q = Option.none → (q ≠ p ∧ q ≠ D) := fun q hq => ⟨fun z => (by rw [z, hyy] at hq; cases hq), fun z => (by rw [z, hDs] at hq; cases hq)⟩
        have bd20 : Bd 20 (.tup [.tup ks, .tup fs]) := ⟨(by show 2 ≤ 20; decide), bk, ⟨bfl, bfs⟩, trivial⟩
        refine ⟨_, rfl, .inl ⟨rfl, _, SqL.of hDs⟩, _, rfl, _, rfl, _, 20, p, l, ns, _, .tup [.tup ks, .tup fs], .ref t0, rfl, en.mono (fun _ z => z.elim), bd20, by decide, nP, young, W', by omega, fun d' x' H' en' bd' W2 u => ?_⟩
        have hD' := u.lst hDp hDs
        have nT : ∀ zs, H' D ≠ some (.tup zs) := fun ys z => by rw [hD'] at z; cases z
        have bn : Bds 2000 [d'] := ⟨bd', trivial⟩
        refine ⟨D, zs, x', rfl, rfl, hD', (by rw [sizeLine_eq]; omega), ?_⟩
        exact ⟨dz ++ [d'], zs ++ [x'], _, rfl, upd_same, (encs_push (eA.gb nP u hyy) en').growW GrowW.upd nL nT, bds_app bA bn, (by rw [List.length_append]; omega), (by rw [List.length_append]; show _ + 1 ≤ _; omega), (en.gw u hyy).growW GrowW.upd (fun z => z) nT, (W2.upd hDp hDl).more (by omega), hTW D _ _ ⟨_, hD'⟩ GrowW.upd (hTW _ _ _ ⟨_, hyy⟩ u T')⟩
      · obtain ⟨dz, zs, v5, rfl, hDs, eA, bA, z1, z2, en, W', T'⟩ := hp
        exact ⟨dz, zs, v5, rfl, hDs, eA, bA, z1, by omega, en, W'.more (by omega), T'⟩
    · intro σ Hc ⟨dz, zs, v5, e, hDs, eA, bA, z1, z2, en, W', T'⟩
      subst e
      obtain ⟨yy, hyy⟩ := W'.pl
      have young : ∀ q, Hc q = Option.none → (q ≠ p ∧ q ≠ D) := fun q hq => ⟨fun z => (by rw [z, hyy] at hq; cases hq), fun z => (by rw [z, hDs] at hq; cases hq)⟩
      have hjl : zs.length - 1 < zs.length := by omega
      obtain ⟨dl, hdl, edl⟩ := eA.get (List.getElem?_eq_getElem hjl)
      have bdl := bds_all.mp bA dl (List.mem_of_getElem? hdl)
      refine ⟨_, rfl, .inl ⟨rfl, _, SqL.of hDs⟩, _, rfl, _, rfl, D, zs, _, _, rfl, rfl, SqL.of hDs, atI_last (by omega), _, rfl, _, 2000, p, l, ns, _, dl, _, rfl, edl, bdl, by decide, nP, young, W', by omega, fun d' x' H' en' bd' W2 u => ?_⟩
      have hD' := u.lst hDp hDs
      have nT : ∀ zs, H' D ≠ some (.tup zs) := fun ys z => by rw [hD'] at z; cases z
      refine ⟨D, zs, x', rfl, rfl, hD', (by rw [sizeLine_eq]; omega), ?_⟩
      have eZ := (encs_push (eA.gb nP u hyy) en').growW (GrowW.upd (o := .lst (zs ++ [x']))) nL nT
      have en9 := (en.gw u hyy).growW (GrowW.upd (o := .lst (zs ++ [x']))) (fun z => z) nT
      have T9 := hTW D _ _ ⟨_, hD'⟩ (GrowW.upd (o := .lst (zs ++ [x']))) (hTW _ _ _ ⟨_, hyy⟩ u T')
      have hD9 := upd_same (H := H') (a := D) (o := .lst (zs ++ [x']))
      generalize upd H' D (.lst (zs ++ [x'])) = H9 at eZ en9 T9 hD9 ⊢
      generalize zs ++ [x'] = zs at eZ hD9
      generalize dz ++ [d'] = dz at eZ
      refine ⟨fun σ Hc => ∃ (v5 v6 v7 v8 : Option V), σ = [some (.ref a), some (.ref p), some (.ref t0), some (.ref D), Option.none, v5, v6, v7, v8] ∧ Grow H9 Hc, ?_, ?_⟩
      · refine ⟨_, rfl, D, rfl, ⟨_, SqL.of hD9⟩, ?_⟩
        refine for_list (xs := zs) (fun i σ Hc => ∃ (v5 v6 v7 v8 : Option V), σ = [some (.ref a), some (.ref p), some (.ref t0), some (.ref D), Option.none, v5, v6, v7, v8] ∧ Grow H9 Hc) ⟨_, _, _, _, rfl, Grow.refl H9⟩ (fun i σ Hc _ hp => ?_) (fun i y σ Hc hy hp => ?_) (fun σ Hc hp => hp)
        · obtain ⟨v5, v6, v7, v8, rfl, g⟩ := hp
          exact SqL.of (g.lst hD9)
        · obtain ⟨v5, v6, v7, v8, rfl, g⟩ := hp
          obtain ⟨dd, hdd, ed⟩ := eZ.get hy
          have ed : Enc H9 dd y := ed.any
          refine ⟨_, rfl, y, dd, rfl, ed.grow g, trivial, fun Ha ga => ?_⟩
          have gA := g.trans ga
          refine ⟨_, rfl, y, dd, rfl, ed.grow gA, hT _ _ gA T9, fun Hb gb => ?_⟩
          have gB := gA.trans gb
          refine ⟨_, rfl, _, _, _, _, true, rfl, .ty "bool", .base (.bl _), kit_ty (by decide +kernel), true, rfl, iteF ?_⟩
          refine ⟨_, rfl, _, rfl, rfl, _, rfl, iteNe ?_⟩
          refine ⟨_, rfl, dd, y, rfl, ed.grow gB, hT _ _ gB T9, fun Hd gd => ⟨_, rfl, rfl, _, rfl, iteNot ?_⟩⟩
          exact ⟨_, _, _, _, rfl, gB.trans gd⟩
      · intro σ Hc ⟨v5, v6, v7, v8, e, g⟩
        subst e
        refine ⟨_, rfl, rfl, .ref t0, .tup [.tup ks, .tup fs], rfl, (EncB.any en9).grow g, hT _ _ g T9, fun Ha ga => ?_⟩
        refine ⟨_, rfl, _, _, _, _, true, rfl, .ty "bool", .base (.bl _), kit_ty (by decide +kernel), true, rfl, iteT ?_⟩
        refine ⟨_, rfl, _, rfl, .ref t0, .tup [.tup ks, .tup fs], rfl, (EncB.any en9).grow (g.trans ga), trivial, fun Hb gb => ⟨rfl, ?_⟩⟩
        dsimp only
        rw [decide_eq_true rfl]
        exact kq Hb
end
end J1
set_option Elab.async false
set_option linter.all false
set_option maxRecDepth 100000
set_option maxHeartbeats 8000000
namespace J1
open PySem PySem.Spec PyProof.Rows L2 GxR GA
theorem tabsW {w P : Addr} {H H' : Hp} (hw : ∃ ys, H w = some (.lst ys)) (g : GrowW w H H') (t : TabG H P) : TabG H' P := by
  obtain ⟨ps, h, z⟩ := t
  obtain ⟨ys, hy⟩ := hw
  have n : P ≠ w := fun e => by rw [e, hy] at h; cases h
  rcases g P _ n h with q | ⟨_, q⟩
  · exact ⟨ps, q, z⟩
  · exact q
theorem tb_of {base : Heap} {mg : Str → Option Value} {c P : Addr} (t : LamX.TabB base mg c P) : TabB base mg c P := ⟨t.code, t.bm, t.gP⟩
theorem trip0 : TriplesOk (#[] : Array Value).toList := by trivial
theorem all_mk {l : PySem.W.OpenLaw} {w : World} {K : PySem.W.Frag} {h : Heap} {mg : Str → Option Value} {fa CB CW : Addr} (X : K.In h) (G : h.Ns mainGlobals mg) (hfa : mg "law" = some (.ref fa))
    {f0 : Addr} {od0 an0 : Option Addr} {sl0 : Array (Option Value)} {oc0 kV0 dc0 pm0 cd0 ct0 : Value}
    (a0 : PySem.W.nsIn K mainGlobals "is_integer" = some (some (.ref f0))) (l0 : K.lookup f0 = some ⟨oc0, od0, .func (PySem.W.fnOf "is_integer" "is_integer" (defArgs (top 11)) (defBody (top 11)) (defScope (top 11)) .none kV0 dc0 pm0 an0 cd0 ct0), sl0⟩) (c0 : PySem.W.codeIn K cd0 "is_integer" = true) (k0 : PySem.W.keepIn K (.ref f0) = true)
    {f1 : Addr} {od1 an1 : Option Addr} {sl1 : Array (Option Value)} {oc1 kV1 dc1 pm1 cd1 ct1 : Value}
    (a1 : PySem.W.nsIn K mainGlobals "is_between" = some (some (.ref f1))) (l1 : K.lookup f1 = some ⟨oc1, od1, .func (PySem.W.fnOf "is_between" "is_between" (defArgs (top 12)) (defBody (top 12)) (defScope (top 12)) .none kV1 dc1 pm1 an1 cd1 ct1), sl1⟩) (c1 : PySem.W.codeIn K cd1 "is_between" = true) (k1 : PySem.W.keepIn K (.ref f1) = true)
    {f2 : Addr} {od2 an2 : Option Addr} {sl2 : Array (Option Value)} {oc2 kV2 dc2 pm2 cd2 ct2 : Value}
    (a2 : PySem.W.nsIn K mainGlobals "is_number" = some (some (.ref f2))) (l2 : K.lookup f2 = some ⟨oc2, od2, .func (PySem.W.fnOf "is_number" "is_number" (defArgs (top 13)) (defBody (top 13)) (defScope (top 13)) .none kV2 dc2 pm2 an2 cd2 ct2), sl2⟩) (c2 : PySem.W.codeIn K cd2 "is_number" = true) (k2 : PySem.W.keepIn K (.ref f2) = true)
    {f3 : Addr} {od3 an3 : Option Addr} {sl3 : Array (Option Value)} {oc3 kV3 dc3 pm3 cd3 ct3 : Value}
    (a3 : PySem.W.nsIn K mainGlobals "is_factor" = some (some (.ref f3))) (l3 : K.lookup f3 = some ⟨oc3, od3, .func (PySem.W.fnOf "is_factor" "is_factor" (defArgs (top 14)) (defBody (top 14)) (defScope (top 14)) .none kV3 dc3 pm3 an3 cd3 ct3), sl3⟩) (c3 : PySem.W.codeIn K cd3 "is_factor" = true) (k3 : PySem.W.keepIn K (.ref f3) = true)
    {f4 : Addr} {od4 an4 : Option Addr} {sl4 : Array (Option Value)} {oc4 kV4 dc4 pm4 cd4 ct4 : Value}
    (a4 : PySem.W.nsIn K mainGlobals "is_tuple" = some (some (.ref f4))) (l4 : K.lookup f4 = some ⟨oc4, od4, .func (PySem.W.fnOf "is_tuple" "is_tuple" (defArgs (top 15)) (defBody (top 15)) (defScope (top 15)) .none kV4 dc4 pm4 an4 cd4 ct4), sl4⟩) (c4 : PySem.W.codeIn K cd4 "is_tuple" = true) (k4 : PySem.W.keepIn K (.ref f4) = true)
    {f5 : Addr} {od5 an5 : Option Addr} {sl5 : Array (Option Value)} {oc5 kV5 dc5 pm5 cd5 ct5 : Value}
    (a5 : PySem.W.nsIn K mainGlobals "is_name" = some (some (.ref f5))) (l5 : K.lookup f5 = some ⟨oc5, od5, .func (PySem.W.fnOf "is_name" "is_name" (defArgs (top 16)) (defBody (top 16)) (defScope (top 16)) .none kV5 dc5 pm5 an5 cd5 ct5), sl5⟩) (c5 : PySem.W.codeIn K cd5 "is_name" = true) (k5 : PySem.W.keepIn K (.ref f5) = true)
    {f6 : Addr} {od6 an6 : Option Addr} {sl6 : Array (Option Value)} {oc6 kV6 dc6 pm6 cd6 ct6 : Value}
    (a6 : PySem.W.nsIn K mainGlobals "is_low" = some (some (.ref f6))) (l6 : K.lookup f6 = some ⟨oc6, od6, .func (PySem.W.fnOf "is_low" "is_low" (defArgs (top 17)) (defBody (top 17)) (defScope (top 17)) .none kV6 dc6 pm6 an6 cd6 ct6), sl6⟩) (c6 : PySem.W.codeIn K cd6 "is_low" = true) (k6 : PySem.W.keepIn K (.ref f6) = true)
    {f7 : Addr} {od7 an7 : Option Addr} {sl7 : Array (Option Value)} {oc7 kV7 dc7 pm7 cd7 ct7 : Value}
    (a7 : PySem.W.nsIn K mainGlobals "is_high" = some (some (.ref f7))) (l7 : K.lookup f7 = some ⟨oc7, od7, .func (PySem.W.fnOf "is_high" "is_high" (defArgs (top 18)) (defBody (top 18)) (defScope (top 18)) .none kV7 dc7 pm7 an7 cd7 ct7), sl7⟩) (c7 : PySem.W.codeIn K cd7 "is_high" = true) (k7 : PySem.W.keepIn K (.ref f7) = true)
    {f8 : Addr} {od8 an8 : Option Addr} {sl8 : Array (Option Value)} {oc8 kV8 dc8 pm8 cd8 ct8 : Value}
    (a8 : PySem.W.nsIn K mainGlobals "is_kind" = some (some (.ref f8))) (l8 : K.lookup f8 = some ⟨oc8, od8, .func (PySem.W.fnOf "is_kind" "is_kind" (defArgs (top 19)) (defBody (top 19)) (defScope (top 19)) .none kV8 dc8 pm8 an8 cd8 ct8), sl8⟩) (c8 : PySem.W.codeIn K cd8 "is_kind" = true) (k8 : PySem.W.keepIn K (.ref f8) = true)
    {f9 : Addr} {od9 an9 : Option Addr} {sl9 : Array (Option Value)} {oc9 kV9 dc9 pm9 cd9 ct9 : Value}
    (a9 : PySem.W.nsIn K mainGlobals "first_word" = some (some (.ref f9))) (l9 : K.lookup f9 = some ⟨oc9, od9, .func (PySem.W.fnOf "first_word" "first_word" (defArgs (top 20)) (defBody (top 20)) (defScope (top 20)) .none kV9 dc9 pm9 an9 cd9 ct9), sl9⟩) (c9 : PySem.W.codeIn K cd9 "first_word" = true) (k9 : PySem.W.keepIn K (.ref f9) = true)
    {f10 cr10 : Addr} {od10 an10 : Option Addr} {sl10 : Array (Option Value)} {oc10 kV10 dc10 pm10 ct10 : Value}
    (a10 : PySem.W.nsIn K mainGlobals "are_kinds" = some (some (.ref f10))) (l10 : K.lookup f10 = some ⟨oc10, od10, .func (PySem.W.fnOf "are_kinds" "are_kinds" (defArgs (top 25)) (defBody (top 25)) (defScope (top 25)) .none kV10 dc10 pm10 an10 (.ref cr10) ct10), sl10⟩) (c10 : PySem.W.codeIn K (.ref cr10) "are_kinds" = true) (k10 : PySem.W.keepIn K (.ref f10) = true)
    {f11 cr11 : Addr} {od11 an11 : Option Addr} {sl11 : Array (Option Value)} {oc11 kV11 dc11 pm11 ct11 : Value}
    (a11 : PySem.W.nsIn K mainGlobals "_is_entry" = some (some (.ref f11))) (l11 : K.lookup f11 = some ⟨oc11, od11, .func (PySem.W.fnOf "_is_entry" "_is_entry" (defArgs (top 26)) (defBody (top 26)) (defScope (top 26)) .none kV11 dc11 pm11 an11 (.ref cr11) ct11), sl11⟩) (c11 : PySem.W.codeIn K (.ref cr11) "_is_entry" = true) (k11 : PySem.W.keepIn K (.ref f11) = true)
    {f12 cr12 : Addr} {od12 an12 : Option Addr} {sl12 : Array (Option Value)} {oc12 kV12 dc12 pm12 ct12 : Value}
    (a12 : PySem.W.nsIn K mainGlobals "_is_maker" = some (some (.ref f12))) (l12 : K.lookup f12 = some ⟨oc12, od12, .func (PySem.W.fnOf "_is_maker" "_is_maker" (defArgs (top 27)) (defBody (top 27)) (defScope (top 27)) .none kV12 dc12 pm12 an12 (.ref cr12) ct12), sl12⟩) (c12 : PySem.W.codeIn K (.ref cr12) "_is_maker" = true) (k12 : PySem.W.keepIn K (.ref f12) = true)
    {f13 : Addr} {od13 an13 : Option Addr} {sl13 : Array (Option Value)} {oc13 kV13 dc13 pm13 cd13 ct13 : Value}
    (a13 : PySem.W.nsIn K mainGlobals "program_words" = some (some (.ref f13))) (l13 : K.lookup f13 = some ⟨oc13, od13, .func (PySem.W.fnOf "program_words" "program_words" (defArgs (top 29)) (defBody (top 29)) (defScope (top 29)) .none kV13 dc13 pm13 an13 cd13 ct13), sl13⟩) (c13 : PySem.W.codeIn K cd13 "program_words" = true) (k13 : PySem.W.keepIn K (.ref f13) = true)
    {f14 : Addr} {od14 an14 : Option Addr} {sl14 : Array (Option Value)} {oc14 kV14 dc14 pm14 cd14 ct14 : Value}
    (a14 : PySem.W.nsIn K mainGlobals "_in_brackets" = some (some (.ref f14))) (l14 : K.lookup f14 = some ⟨oc14, od14, .func (PySem.W.fnOf "_in_brackets" "_in_brackets" (defArgs (top 30)) (defBody (top 30)) (defScope (top 30)) .none kV14 dc14 pm14 an14 cd14 ct14), sl14⟩) (c14 : PySem.W.codeIn K cd14 "_in_brackets" = true) (k14 : PySem.W.keepIn K (.ref f14) = true)
    {f15 : Addr} {od15 an15 : Option Addr} {sl15 : Array (Option Value)} {oc15 kV15 dc15 pm15 cd15 ct15 : Value}
    (a15 : PySem.W.nsIn K mainGlobals "_in_braces" = some (some (.ref f15))) (l15 : K.lookup f15 = some ⟨oc15, od15, .func (PySem.W.fnOf "_in_braces" "_in_braces" (defArgs (top 31)) (defBody (top 31)) (defScope (top 31)) .none kV15 dc15 pm15 an15 cd15 ct15), sl15⟩) (c15 : PySem.W.codeIn K cd15 "_in_braces" = true) (k15 : PySem.W.keepIn K (.ref f15) = true)
    {f16 : Addr} {od16 an16 : Option Addr} {sl16 : Array (Option Value)} {oc16 kV16 dc16 pm16 cd16 ct16 : Value}
    (a16 : PySem.W.nsIn K mainGlobals "_body_words" = some (some (.ref f16))) (l16 : K.lookup f16 = some ⟨oc16, od16, .func (PySem.W.fnOf "_body_words" "_body_words" (defArgs (top 32)) (defBody (top 32)) (defScope (top 32)) .none kV16 dc16 pm16 an16 cd16 ct16), sl16⟩) (c16 : PySem.W.codeIn K cd16 "_body_words" = true) (k16 : PySem.W.keepIn K (.ref f16) = true)
    {f17 : Addr} {od17 an17 : Option Addr} {sl17 : Array (Option Value)} {oc17 kV17 dc17 pm17 cd17 ct17 : Value}
    (a17 : PySem.W.nsIn K mainGlobals "_term_words" = some (some (.ref f17))) (l17 : K.lookup f17 = some ⟨oc17, od17, .func (PySem.W.fnOf "_term_words" "_term_words" (defArgs (top 33)) (defBody (top 33)) (defScope (top 33)) .none kV17 dc17 pm17 an17 cd17 ct17), sl17⟩) (c17 : PySem.W.codeIn K cd17 "_term_words" = true) (k17 : PySem.W.keepIn K (.ref f17) = true)
    {f18 cr18 : Addr} {od18 an18 : Option Addr} {sl18 : Array (Option Value)} {oc18 kV18 dc18 pm18 ct18 : Value}
    (a18 : PySem.W.nsIn K mainGlobals "is_program" = some (some (.ref f18))) (l18 : K.lookup f18 = some ⟨oc18, od18, .func (PySem.W.fnOf "is_program" "is_program" (defArgs (top 37)) (defBody (top 37)) (defScope (top 37)) .none kV18 dc18 pm18 an18 (.ref cr18) ct18), sl18⟩) (c18 : PySem.W.codeIn K (.ref cr18) "is_program" = true) (k18 : PySem.W.keepIn K (.ref f18) = true)
    {f19 : Addr} {od19 an19 : Option Addr} {sl19 : Array (Option Value)} {oc19 kV19 dc19 pm19 cd19 ct19 : Value}
    (a19 : PySem.W.nsIn K mainGlobals "write_program" = some (some (.ref f19))) (l19 : K.lookup f19 = some ⟨oc19, od19, .func (PySem.W.fnOf "write_program" "write_program" (defArgs (top 38)) (defBody (top 38)) (defScope (top 38)) .none kV19 dc19 pm19 an19 cd19 ct19), sl19⟩) (c19 : PySem.W.codeIn K cd19 "write_program" = true) (k19 : PySem.W.keepIn K (.ref f19) = true)
    {f20 cr20 : Addr} {od20 an20 : Option Addr} {sl20 : Array (Option Value)} {oc20 kV20 dc20 pm20 ct20 : Value}
    (a20 : PySem.W.nsIn K mainGlobals "_is_function" = some (some (.ref f20))) (l20 : K.lookup f20 = some ⟨oc20, od20, .func (PySem.W.fnOf "_is_function" "_is_function" (defArgs (top 39)) (defBody (top 39)) (defScope (top 39)) .none kV20 dc20 pm20 an20 (.ref cr20) ct20), sl20⟩) (c20 : PySem.W.codeIn K (.ref cr20) "_is_function" = true) (k20 : PySem.W.keepIn K (.ref f20) = true)
    {f21 : Addr} {od21 an21 : Option Addr} {sl21 : Array (Option Value)} {oc21 kV21 dc21 pm21 cd21 ct21 : Value}
    (a21 : PySem.W.nsIn K mainGlobals "_is_param" = some (some (.ref f21))) (l21 : K.lookup f21 = some ⟨oc21, od21, .func (PySem.W.fnOf "_is_param" "_is_param" (defArgs (top 40)) (defBody (top 40)) (defScope (top 40)) .none kV21 dc21 pm21 an21 cd21 ct21), sl21⟩) (c21 : PySem.W.codeIn K cd21 "_is_param" = true) (k21 : PySem.W.keepIn K (.ref f21) = true)
    {f22 : Addr} {od22 an22 : Option Addr} {sl22 : Array (Option Value)} {oc22 kV22 dc22 pm22 cd22 ct22 : Value}
    (a22 : PySem.W.nsIn K mainGlobals "_is_whole_body" = some (some (.ref f22))) (l22 : K.lookup f22 = some ⟨oc22, od22, .func (PySem.W.fnOf "_is_whole_body" "_is_whole_body" (defArgs (top 41)) (defBody (top 41)) (defScope (top 41)) .none kV22 dc22 pm22 an22 cd22 ct22), sl22⟩) (c22 : PySem.W.codeIn K cd22 "_is_whole_body" = true) (k22 : PySem.W.keepIn K (.ref f22) = true)
    {f23 cr23 : Addr} {od23 an23 : Option Addr} {sl23 : Array (Option Value)} {oc23 kV23 dc23 pm23 ct23 : Value}
    (a23 : PySem.W.nsIn K mainGlobals "_body_parts" = some (some (.ref f23))) (l23 : K.lookup f23 = some ⟨oc23, od23, .func (PySem.W.fnOf "_body_parts" "_body_parts" (defArgs (top 42)) (defBody (top 42)) (defScope (top 42)) .none kV23 dc23 pm23 an23 (.ref cr23) ct23), sl23⟩) (c23 : PySem.W.codeIn K (.ref cr23) "_body_parts" = true) (k23 : PySem.W.keepIn K (.ref f23) = true)
    {f24 cr24 : Addr} {od24 an24 : Option Addr} {sl24 : Array (Option Value)} {oc24 kV24 dc24 pm24 ct24 : Value}
    (a24 : PySem.W.nsIn K mainGlobals "_is_branch" = some (some (.ref f24))) (l24 : K.lookup f24 = some ⟨oc24, od24, .func (PySem.W.fnOf "_is_branch" "_is_branch" (defArgs (top 43)) (defBody (top 43)) (defScope (top 43)) .none kV24 dc24 pm24 an24 (.ref cr24) ct24), sl24⟩) (c24 : PySem.W.codeIn K (.ref cr24) "_is_branch" = true) (k24 : PySem.W.keepIn K (.ref f24) = true)
    {f25 : Addr} {od25 an25 : Option Addr} {sl25 : Array (Option Value)} {oc25 kV25 dc25 pm25 cd25 ct25 : Value}
    (a25 : PySem.W.nsIn K mainGlobals "_term_parts" = some (some (.ref f25))) (l25 : K.lookup f25 = some ⟨oc25, od25, .func (PySem.W.fnOf "_term_parts" "_term_parts" (defArgs (top 44)) (defBody (top 44)) (defScope (top 44)) .none kV25 dc25 pm25 an25 cd25 ct25), sl25⟩) (c25 : PySem.W.codeIn K cd25 "_term_parts" = true) (k25 : PySem.W.keepIn K (.ref f25) = true)
    {f26 : Addr} {od26 an26 : Option Addr} {sl26 : Array (Option Value)} {oc26 kV26 dc26 pm26 cd26 ct26 : Value}
    (a26 : PySem.W.nsIn K mainGlobals "_is_sign" = some (some (.ref f26))) (l26 : K.lookup f26 = some ⟨oc26, od26, .func (PySem.W.fnOf "_is_sign" "_is_sign" (defArgs (top 45)) (defBody (top 45)) (defScope (top 45)) .none kV26 dc26 pm26 an26 cd26 ct26), sl26⟩) (c26 : PySem.W.codeIn K cd26 "_is_sign" = true) (k26 : PySem.W.keepIn K (.ref f26) = true)
    {f27 : Addr} {od27 an27 : Option Addr} {sl27 : Array (Option Value)} {oc27 kV27 dc27 pm27 cd27 ct27 : Value}
    (a27 : PySem.W.nsIn K mainGlobals "_law_well" = some (some (.ref f27))) (l27 : K.lookup f27 = some ⟨oc27, od27, .func (PySem.W.fnOf "_law_well" "_law_well" (defArgs (top 47)) (defBody (top 47)) (defScope (top 47)) .none kV27 dc27 pm27 an27 cd27 ct27), sl27⟩) (c27 : PySem.W.codeIn K cd27 "_law_well" = true) (k27 : PySem.W.keepIn K (.ref f27) = true)
    {f28 : Addr} {od28 an28 : Option Addr} {sl28 : Array (Option Value)} {oc28 kV28 dc28 pm28 cd28 ct28 : Value}
    (a28 : PySem.W.nsIn K mainGlobals "_law_draw" = some (some (.ref f28))) (l28 : K.lookup f28 = some ⟨oc28, od28, .func (PySem.W.fnOf "_law_draw" "_law_draw" (defArgs (top 48)) (defBody (top 48)) (defScope (top 48)) .none kV28 dc28 pm28 an28 cd28 ct28), sl28⟩) (c28 : PySem.W.codeIn K cd28 "_law_draw" = true) (k28 : PySem.W.keepIn K (.ref f28) = true)
    {f29 : Addr} {od29 an29 : Option Addr} {sl29 : Array (Option Value)} {oc29 kV29 dc29 pm29 cd29 ct29 : Value}
    (a29 : PySem.W.nsIn K mainGlobals "_law_number" = some (some (.ref f29))) (l29 : K.lookup f29 = some ⟨oc29, od29, .func (PySem.W.fnOf "_law_number" "_law_number" (defArgs (top 49)) (defBody (top 49)) (defScope (top 49)) .none kV29 dc29 pm29 an29 cd29 ct29), sl29⟩) (c29 : PySem.W.codeIn K cd29 "_law_number" = true) (k29 : PySem.W.keepIn K (.ref f29) = true)
    {f30 : Addr} {od30 an30 : Option Addr} {sl30 : Array (Option Value)} {oc30 kV30 dc30 pm30 cd30 ct30 : Value}
    (a30 : PySem.W.nsIn K mainGlobals "_law_factor" = some (some (.ref f30))) (l30 : K.lookup f30 = some ⟨oc30, od30, .func (PySem.W.fnOf "_law_factor" "_law_factor" (defArgs (top 50)) (defBody (top 50)) (defScope (top 50)) .none kV30 dc30 pm30 an30 cd30 ct30), sl30⟩) (c30 : PySem.W.codeIn K cd30 "_law_factor" = true) (k30 : PySem.W.keepIn K (.ref f30) = true)
    {f31 : Addr} {od31 an31 : Option Addr} {sl31 : Array (Option Value)} {oc31 kV31 dc31 pm31 cd31 ct31 : Value}
    (a31 : PySem.W.nsIn K mainGlobals "_law_word" = some (some (.ref f31))) (l31 : K.lookup f31 = some ⟨oc31, od31, .func (PySem.W.fnOf "_law_word" "_law_word" (defArgs (top 51)) (defBody (top 51)) (defScope (top 51)) .none kV31 dc31 pm31 an31 cd31 ct31), sl31⟩) (c31 : PySem.W.codeIn K cd31 "_law_word" = true) (k31 : PySem.W.keepIn K (.ref f31) = true)
    {f32 : Addr} {od32 an32 : Option Addr} {sl32 : Array (Option Value)} {oc32 kV32 dc32 pm32 cd32 ct32 : Value}
    (a32 : PySem.W.nsIn K mainGlobals "_law_loose_args" = some (some (.ref f32))) (l32 : K.lookup f32 = some ⟨oc32, od32, .func (PySem.W.fnOf "_law_loose_args" "_law_loose_args" (defArgs (top 52)) (defBody (top 52)) (defScope (top 52)) .none kV32 dc32 pm32 an32 cd32 ct32), sl32⟩) (c32 : PySem.W.codeIn K cd32 "_law_loose_args" = true) (k32 : PySem.W.keepIn K (.ref f32) = true)
    {f33 : Addr} {od33 an33 : Option Addr} {sl33 : Array (Option Value)} {oc33 kV33 dc33 pm33 cd33 ct33 : Value}
    (a33 : PySem.W.nsIn K mainGlobals "_law_loose_e" = some (some (.ref f33))) (l33 : K.lookup f33 = some ⟨oc33, od33, .func (PySem.W.fnOf "_law_loose_e" "_law_loose_e" (defArgs (top 53)) (defBody (top 53)) (defScope (top 53)) .none kV33 dc33 pm33 an33 cd33 ct33), sl33⟩) (c33 : PySem.W.codeIn K cd33 "_law_loose_e" = true) (k33 : PySem.W.keepIn K (.ref f33) = true)
    {f34 : Addr} {od34 an34 : Option Addr} {sl34 : Array (Option Value)} {oc34 kV34 dc34 pm34 cd34 ct34 : Value}
    (a34 : PySem.W.nsIn K mainGlobals "_law_loose_body" = some (some (.ref f34))) (l34 : K.lookup f34 = some ⟨oc34, od34, .func (PySem.W.fnOf "_law_loose_body" "_law_loose_body" (defArgs (top 54)) (defBody (top 54)) (defScope (top 54)) .none kV34 dc34 pm34 an34 cd34 ct34), sl34⟩) (c34 : PySem.W.codeIn K cd34 "_law_loose_body" = true) (k34 : PySem.W.keepIn K (.ref f34) = true)
    {f35 : Addr} {od35 an35 : Option Addr} {sl35 : Array (Option Value)} {oc35 kV35 dc35 pm35 cd35 ct35 : Value}
    (a35 : PySem.W.nsIn K mainGlobals "_law_loose" = some (some (.ref f35))) (l35 : K.lookup f35 = some ⟨oc35, od35, .func (PySem.W.fnOf "_law_loose" "_law_loose" (defArgs (top 55)) (defBody (top 55)) (defScope (top 55)) .none kV35 dc35 pm35 an35 cd35 ct35), sl35⟩) (c35 : PySem.W.codeIn K cd35 "_law_loose" = true) (k35 : PySem.W.keepIn K (.ref f35) = true)
    {f36 : Addr} {od36 an36 : Option Addr} {sl36 : Array (Option Value)} {oc36 kV36 dc36 pm36 cd36 ct36 : Value}
    (a36 : PySem.W.nsIn K mainGlobals "_law_is_int" = some (some (.ref f36))) (l36 : K.lookup f36 = some ⟨oc36, od36, .func (PySem.W.fnOf "_law_is_int" "_law_is_int" (defArgs (top 56)) (defBody (top 56)) (defScope (top 56)) .none kV36 dc36 pm36 an36 cd36 ct36), sl36⟩) (c36 : PySem.W.codeIn K cd36 "_law_is_int" = true) (k36 : PySem.W.keepIn K (.ref f36) = true)
    {f37 : Addr} {od37 an37 : Option Addr} {sl37 : Array (Option Value)} {oc37 kV37 dc37 pm37 cd37 ct37 : Value}
    (a37 : PySem.W.nsIn K mainGlobals "_law_is_tuple" = some (some (.ref f37))) (l37 : K.lookup f37 = some ⟨oc37, od37, .func (PySem.W.fnOf "_law_is_tuple" "_law_is_tuple" (defArgs (top 57)) (defBody (top 57)) (defScope (top 57)) .none kV37 dc37 pm37 an37 cd37 ct37), sl37⟩) (c37 : PySem.W.codeIn K cd37 "_law_is_tuple" = true) (k37 : PySem.W.keepIn K (.ref f37) = true)
    {f38 : Addr} {od38 an38 : Option Addr} {sl38 : Array (Option Value)} {oc38 kV38 dc38 pm38 cd38 ct38 : Value}
    (a38 : PySem.W.nsIn K mainGlobals "_law_is_name" = some (some (.ref f38))) (l38 : K.lookup f38 = some ⟨oc38, od38, .func (PySem.W.fnOf "_law_is_name" "_law_is_name" (defArgs (top 58)) (defBody (top 58)) (defScope (top 58)) .none kV38 dc38 pm38 an38 cd38 ct38), sl38⟩) (c38 : PySem.W.codeIn K cd38 "_law_is_name" = true) (k38 : PySem.W.keepIn K (.ref f38) = true)
    {f39 : Addr} {od39 an39 : Option Addr} {sl39 : Array (Option Value)} {oc39 kV39 dc39 pm39 cd39 ct39 : Value}
    (a39 : PySem.W.nsIn K mainGlobals "_law_is_kind" = some (some (.ref f39))) (l39 : K.lookup f39 = some ⟨oc39, od39, .func (PySem.W.fnOf "_law_is_kind" "_law_is_kind" (defArgs (top 59)) (defBody (top 59)) (defScope (top 59)) .none kV39 dc39 pm39 an39 cd39 ct39), sl39⟩) (c39 : PySem.W.codeIn K cd39 "_law_is_kind" = true) (k39 : PySem.W.keepIn K (.ref f39) = true)
    {f40 : Addr} {od40 an40 : Option Addr} {sl40 : Array (Option Value)} {oc40 kV40 dc40 pm40 cd40 ct40 : Value}
    (a40 : PySem.W.nsIn K mainGlobals "_law_are_kinds" = some (some (.ref f40))) (l40 : K.lookup f40 = some ⟨oc40, od40, .func (PySem.W.fnOf "_law_are_kinds" "_law_are_kinds" (defArgs (top 60)) (defBody (top 60)) (defScope (top 60)) .none kV40 dc40 pm40 an40 cd40 ct40), sl40⟩) (c40 : PySem.W.codeIn K cd40 "_law_are_kinds" = true) (k40 : PySem.W.keepIn K (.ref f40) = true)
    {f41 : Addr} {od41 an41 : Option Addr} {sl41 : Array (Option Value)} {oc41 kV41 dc41 pm41 cd41 ct41 : Value}
    (a41 : PySem.W.nsIn K mainGlobals "_law_step" = some (some (.ref f41))) (l41 : K.lookup f41 = some ⟨oc41, od41, .func (PySem.W.fnOf "_law_step" "_law_step" (defArgs (top 61)) (defBody (top 61)) (defScope (top 61)) .none kV41 dc41 pm41 an41 cd41 ct41), sl41⟩) (c41 : PySem.W.codeIn K cd41 "_law_step" = true) (k41 : PySem.W.keepIn K (.ref f41) = true)
    {f42 : Addr} {od42 an42 : Option Addr} {sl42 : Array (Option Value)} {oc42 kV42 dc42 pm42 cd42 ct42 : Value}
    (a42 : PySem.W.nsIn K mainGlobals "_law_step_body" = some (some (.ref f42))) (l42 : K.lookup f42 = some ⟨oc42, od42, .func (PySem.W.fnOf "_law_step_body" "_law_step_body" (defArgs (top 62)) (defBody (top 62)) (defScope (top 62)) .none kV42 dc42 pm42 an42 cd42 ct42), sl42⟩) (c42 : PySem.W.codeIn K cd42 "_law_step_body" = true) (k42 : PySem.W.keepIn K (.ref f42) = true)
    {f43 : Addr} {od43 an43 : Option Addr} {sl43 : Array (Option Value)} {oc43 kV43 dc43 pm43 cd43 ct43 : Value}
    (a43 : PySem.W.nsIn K mainGlobals "_law_is_function" = some (some (.ref f43))) (l43 : K.lookup f43 = some ⟨oc43, od43, .func (PySem.W.fnOf "_law_is_function" "_law_is_function" (defArgs (top 63)) (defBody (top 63)) (defScope (top 63)) .none kV43 dc43 pm43 an43 cd43 ct43), sl43⟩) (c43 : PySem.W.codeIn K cd43 "_law_is_function" = true) (k43 : PySem.W.keepIn K (.ref f43) = true)
    {f44 : Addr} {od44 an44 : Option Addr} {sl44 : Array (Option Value)} {oc44 kV44 dc44 pm44 cd44 ct44 : Value}
    (a44 : PySem.W.nsIn K mainGlobals "_law_is_program" = some (some (.ref f44))) (l44 : K.lookup f44 = some ⟨oc44, od44, .func (PySem.W.fnOf "_law_is_program" "_law_is_program" (defArgs (top 64)) (defBody (top 64)) (defScope (top 64)) .none kV44 dc44 pm44 an44 cd44 ct44), sl44⟩) (c44 : PySem.W.codeIn K cd44 "_law_is_program" = true) (k44 : PySem.W.keepIn K (.ref f44) = true)
    {f45 : Addr} {od45 an45 : Option Addr} {sl45 : Array (Option Value)} {oc45 kV45 dc45 pm45 cd45 ct45 : Value}
    (a45 : PySem.W.nsIn K mainGlobals "_law_odd" = some (some (.ref f45))) (l45 : K.lookup f45 = some ⟨oc45, od45, .func (PySem.W.fnOf "_law_odd" "_law_odd" (defArgs (top 65)) (defBody (top 65)) (defScope (top 65)) .none kV45 dc45 pm45 an45 cd45 ct45), sl45⟩) (c45 : PySem.W.codeIn K cd45 "_law_odd" = true) (k45 : PySem.W.keepIn K (.ref f45) = true)
    {f46 : Addr} {od46 an46 : Option Addr} {sl46 : Array (Option Value)} {oc46 kV46 dc46 pm46 cd46 ct46 : Value}
    (a46 : PySem.W.nsIn K mainGlobals "_law_bent" = some (some (.ref f46))) (l46 : K.lookup f46 = some ⟨oc46, od46, .func (PySem.W.fnOf "_law_bent" "_law_bent" (defArgs (top 66)) (defBody (top 66)) (defScope (top 66)) .none kV46 dc46 pm46 an46 cd46 ct46), sl46⟩) (c46 : PySem.W.codeIn K cd46 "_law_bent" = true) (k46 : PySem.W.keepIn K (.ref f46) = true)
    {f47 : Addr} {od47 an47 : Option Addr} {sl47 : Array (Option Value)} {oc47 kV47 dc47 pm47 cd47 ct47 : Value}
    (a47 : PySem.W.nsIn K mainGlobals "_law_exact" = some (some (.ref f47))) (l47 : K.lookup f47 = some ⟨oc47, od47, .func (PySem.W.fnOf "_law_exact" "_law_exact" (defArgs (top 67)) (defBody (top 67)) (defScope (top 67)) .none kV47 dc47 pm47 an47 cd47 ct47), sl47⟩) (c47 : PySem.W.codeIn K cd47 "_law_exact" = true) (k47 : PySem.W.keepIn K (.ref f47) = true)
    {f48 : Addr} {od48 an48 : Option Addr} {sl48 : Array (Option Value)} {oc48 kV48 dc48 pm48 cd48 ct48 : Value}
    (a48 : PySem.W.nsIn K mainGlobals "_law_chain" = some (some (.ref f48))) (l48 : K.lookup f48 = some ⟨oc48, od48, .func (PySem.W.fnOf "_law_chain" "_law_chain" (defArgs (top 68)) (defBody (top 68)) (defScope (top 68)) .none kV48 dc48 pm48 an48 cd48 ct48), sl48⟩) (c48 : PySem.W.codeIn K cd48 "_law_chain" = true) (k48 : PySem.W.keepIn K (.ref f48) = true)
    {f49 : Addr} {od49 an49 : Option Addr} {sl49 : Array (Option Value)} {oc49 kV49 dc49 pm49 cd49 ct49 : Value}
    (a49 : PySem.W.nsIn K mainGlobals "_law_lets" = some (some (.ref f49))) (l49 : K.lookup f49 = some ⟨oc49, od49, .func (PySem.W.fnOf "_law_lets" "_law_lets" (defArgs (top 69)) (defBody (top 69)) (defScope (top 69)) .none kV49 dc49 pm49 an49 cd49 ct49), sl49⟩) (c49 : PySem.W.codeIn K cd49 "_law_lets" = true) (k49 : PySem.W.keepIn K (.ref f49) = true)
    {f50 : Addr} {od50 an50 : Option Addr} {sl50 : Array (Option Value)} {oc50 kV50 dc50 pm50 cd50 ct50 : Value}
    (a50 : PySem.W.nsIn K mainGlobals "_law_steps" = some (some (.ref f50))) (l50 : K.lookup f50 = some ⟨oc50, od50, .func (PySem.W.fnOf "_law_steps" "_law_steps" (defArgs (top 70)) (defBody (top 70)) (defScope (top 70)) .none kV50 dc50 pm50 an50 cd50 ct50), sl50⟩) (c50 : PySem.W.codeIn K cd50 "_law_steps" = true) (k50 : PySem.W.keepIn K (.ref f50) = true)
    {f51 : Addr} {od51 an51 : Option Addr} {sl51 : Array (Option Value)} {oc51 kV51 dc51 pm51 cd51 ct51 : Value}
    (a51 : PySem.W.nsIn K mainGlobals "_law_bodies" = some (some (.ref f51))) (l51 : K.lookup f51 = some ⟨oc51, od51, .func (PySem.W.fnOf "_law_bodies" "_law_bodies" (defArgs (top 71)) (defBody (top 71)) (defScope (top 71)) .none kV51 dc51 pm51 an51 cd51 ct51), sl51⟩) (c51 : PySem.W.codeIn K cd51 "_law_bodies" = true) (k51 : PySem.W.keepIn K (.ref f51) = true)
    {f52 : Addr} {od52 an52 : Option Addr} {sl52 : Array (Option Value)} {oc52 kV52 dc52 pm52 cd52 ct52 : Value}
    (a52 : PySem.W.nsIn K mainGlobals "_law_given" = some (some (.ref f52))) (l52 : K.lookup f52 = some ⟨oc52, od52, .func (PySem.W.fnOf "_law_given" "_law_given" (defArgs (top 72)) (defBody (top 72)) (defScope (top 72)) .none kV52 dc52 pm52 an52 cd52 ct52), sl52⟩) (c52 : PySem.W.codeIn K cd52 "_law_given" = true) (k52 : PySem.W.keepIn K (.ref f52) = true)
    {f53 : Addr} {od53 an53 : Option Addr} {sl53 : Array (Option Value)} {oc53 kV53 dc53 pm53 cd53 ct53 : Value}
    (a53 : PySem.W.nsIn K mainGlobals "_law_edge" = some (some (.ref f53))) (l53 : K.lookup f53 = some ⟨oc53, od53, .func (PySem.W.fnOf "_law_edge" "_law_edge" (defArgs (top 73)) (defBody (top 73)) (defScope (top 73)) .none kV53 dc53 pm53 an53 cd53 ct53), sl53⟩) (c53 : PySem.W.codeIn K cd53 "_law_edge" = true) (k53 : PySem.W.keepIn K (.ref f53) = true)
    {f54 : Addr} {od54 an54 : Option Addr} {sl54 : Array (Option Value)} {oc54 kV54 dc54 pm54 cd54 ct54 : Value}
    (a54 : PySem.W.nsIn K mainGlobals "_law_refused" = some (some (.ref f54))) (l54 : K.lookup f54 = some ⟨oc54, od54, .func (PySem.W.fnOf "_law_refused" "_law_refused" (defArgs (top 74)) (defBody (top 74)) (defScope (top 74)) .none kV54 dc54 pm54 an54 cd54 ct54), sl54⟩) (c54 : PySem.W.codeIn K cd54 "_law_refused" = true) (k54 : PySem.W.keepIn K (.ref f54) = true)
    {f55 : Addr} {od55 an55 : Option Addr} {sl55 : Array (Option Value)} {oc55 kV55 dc55 pm55 cd55 ct55 : Value}
    (a55 : PySem.W.nsIn K mainGlobals "law" = some (some (.ref f55))) (l55 : K.lookup f55 = some ⟨oc55, od55, .func (PySem.W.fnOf "law" "law" (defArgs (top 75)) (defBody (top 75)) (defScope (top 75)) .none kV55 dc55 pm55 an55 cd55 ct55), sl55⟩) (c55 : PySem.W.codeIn K cd55 "law" = true) (k55 : PySem.W.keepIn K (.ref f55) = true)
    (zisinstance : PySem.W.nsIn K mainGlobals "isinstance" = some none)
    (zint : PySem.W.nsIn K mainGlobals "int" = some none)
    (zbool : PySem.W.nsIn K mainGlobals "bool" = some none)
    (ztuple : PySem.W.nsIn K mainGlobals "tuple" = some none)
    (zstr : PySem.W.nsIn K mainGlobals "str" = some none)
    (zlen : PySem.W.nsIn K mainGlobals "len" = some none)
    (zall : PySem.W.nsIn K mainGlobals "all" = some none)
    (zsum : PySem.W.nsIn K mainGlobals "sum" = some none)
    (zlist : PySem.W.nsIn K mainGlobals "list" = some none)
    (zrange : PySem.W.nsIn K mainGlobals "range" = some none)
    (zabs : PySem.W.nsIn K mainGlobals "abs" = some none)
    (zmin : PySem.W.nsIn K mainGlobals "min" = some none)
    (zenumerate : PySem.W.nsIn K mainGlobals "enumerate" = some none)
    {tMOST_SIGNS : _} (mMOST_SIGNS : PySem.W.nsIn K mainGlobals "MOST_SIGNS" = some (some (.int 10 tMOST_SIGNS)))
    {tMOST_NUMBER : _} (mMOST_NUMBER : PySem.W.nsIn K mainGlobals "MOST_NUMBER" = some (some (.int 1000000000000 tMOST_NUMBER)))
    {tMOST_FACTOR : _} (mMOST_FACTOR : PySem.W.nsIn K mainGlobals "MOST_FACTOR" = some (some (.int 1000000 tMOST_FACTOR)))
    {tMOST_KINDS : _} (mMOST_KINDS : PySem.W.nsIn K mainGlobals "MOST_KINDS" = some (some (.int 8 tMOST_KINDS)))
    {tMOST_MAKERS : _} (mMOST_MAKERS : PySem.W.nsIn K mainGlobals "MOST_MAKERS" = some (some (.int 8 tMOST_MAKERS)))
    {tMOST_FIELDS : _} (mMOST_FIELDS : PySem.W.nsIn K mainGlobals "MOST_FIELDS" = some (some (.int 5 tMOST_FIELDS)))
    {tMOST_PARAMS : _} (mMOST_PARAMS : PySem.W.nsIn K mainGlobals "MOST_PARAMS" = some (some (.int 6 tMOST_PARAMS)))
    {tMOST_PARTS : _} (mMOST_PARTS : PySem.W.nsIn K mainGlobals "MOST_PARTS" = some (some (.int 100 tMOST_PARTS)))
    {tMOST_CHAIN : _} (mMOST_CHAIN : PySem.W.nsIn K mainGlobals "MOST_CHAIN" = some (some (.int 30 tMOST_CHAIN)))
    {tMOST_FUNCTIONS : _} (mMOST_FUNCTIONS : PySem.W.nsIn K mainGlobals "MOST_FUNCTIONS" = some (some (.int 12 tMOST_FUNCTIONS)))
    {tWHOLE : _} (mWHOLE : PySem.W.nsIn K mainGlobals "WHOLE" = some (some (.str "whole" tWHOLE)))
    (mWORDS : PySem.W.nsIn K mainGlobals "WORDS" = some (some (.ref CW)))
    {dW : Option Addr} {nW : Nat} {slW : Array (Option Value)} {u0 : _} {u1 : _} {u2 : _} {u3 : _} {u4 : _} {u5 : _} {u6 : _} {u7 : _} (lW : K.lookup CW = some ⟨.type "tuple", dW, .seq #[.str "def" u0, .str "else" u1, .str "give" u2, .str "if" u3, .str "kind" u4, .str "let" u5, .str "match" u6, .str "whole" u7] nW, slW⟩)
    (eB : PySem.W.nsIn K mainGlobals "BadProgram" = some (some (.ref CB)))
    (xB : PySem.W.excIn K CB [.type "ValueError", .type "Exception", .type "BaseException", .type "object"] "ValueError.__new__" = true) (yB : PySem.W.keepIn K (.ref CB) = true) (bB : PySem.W.subIn K (.ref CB) (.type "BaseException") = some true) (tB : PySem.W.typeIn K (.ref CB) = some (.type "type")) (qB3 : PySem.W.hasDictIn K CB = true) (sBB : PySem.W.subIn K (.ref CB) (.ref CB) = some true)
    (n10 : K.lookup 112 = none) (h10 : PySem.W.codeHdIn K cr10 112 = true)
    (n11 : K.lookup 119 = none) (h11 : PySem.W.codeHdIn K cr11 119 = true)
    (n12 : K.lookup 126 = none) (h12 : PySem.W.codeHdIn K cr12 126 = true)
    (n24 : K.lookup 202 = none) (h24 : PySem.W.codeHdIn K cr24 202 = true)
    (n23 : K.lookup 195 = none) (h23 : PySem.W.codeHdIn K cr23 195 = true)
    (n20 : K.lookup 176 = none) (h20 : PySem.W.codeHdIn K cr20 176 = true)
    (n18 : K.lookup 162 = none) (h18 : PySem.W.codeHdIn K cr18 162 = true)
    (hT8 : ∀ P ∈ [112, 119, 126, 202, 195, 176, 162], h.get? P = some (PySem.W.tabObj #[])) :
    LamX.LawAtS l w K CX0 105 63 "_law_script" mg fa h := by
  have e := hfa.symm.trans (PySem.W.mg_of X G a55)
  cases e
  have F0 := fun_mk (st := top 11) l0 c0 k0
  have B0 := F0.binds (ps := ["thing"]) fun _ _ _ _ _ _ us hl => match us, hl with | [_], _ => rfl
  have D0 : Df K mg "is_integer" ["thing"] f0 _ := ⟨PySem.W.mg_of X G a0, k0, B0⟩
  have F1 := fun_mk (st := top 12) l1 c1 k1
  have B1 := F1.binds (ps := ["thing", "least", "most"]) fun _ _ _ _ _ _ us hl => match us, hl with | [_, _, _], _ => rfl
  have D1 : Df K mg "is_between" ["thing", "least", "most"] f1 _ := ⟨PySem.W.mg_of X G a1, k1, B1⟩
  have F2 := fun_mk (st := top 13) l2 c2 k2
  have B2 := F2.binds (ps := ["thing"]) fun _ _ _ _ _ _ us hl => match us, hl with | [_], _ => rfl
  have D2 : Df K mg "is_number" ["thing"] f2 _ := ⟨PySem.W.mg_of X G a2, k2, B2⟩
  have F3 := fun_mk (st := top 14) l3 c3 k3
  have B3 := F3.binds (ps := ["thing"]) fun _ _ _ _ _ _ us hl => match us, hl with | [_], _ => rfl
  have D3 : Df K mg "is_factor" ["thing"] f3 _ := ⟨PySem.W.mg_of X G a3, k3, B3⟩
  have F4 := fun_mk (st := top 15) l4 c4 k4
  have B4 := F4.binds (ps := ["thing", "least", "most"]) fun _ _ _ _ _ _ us hl => match us, hl with | [_, _, _], _ => rfl
  have D4 : Df K mg "is_tuple" ["thing", "least", "most"] f4 _ := ⟨PySem.W.mg_of X G a4, k4, B4⟩
  have F5 := fun_mk (st := top 16) l5 c5 k5
  have B5 := F5.binds (ps := ["thing"]) fun _ _ _ _ _ _ us hl => match us, hl with | [_], _ => rfl
  have D5 : Df K mg "is_name" ["thing"] f5 _ := ⟨PySem.W.mg_of X G a5, k5, B5⟩
  have F6 := fun_mk (st := top 17) l6 c6 k6
  have B6 := F6.binds (ps := ["thing"]) fun _ _ _ _ _ _ us hl => match us, hl with | [_], _ => rfl
  have D6 : Df K mg "is_low" ["thing"] f6 _ := ⟨PySem.W.mg_of X G a6, k6, B6⟩
  have F7 := fun_mk (st := top 18) l7 c7 k7
  have B7 := F7.binds (ps := ["thing"]) fun _ _ _ _ _ _ us hl => match us, hl with | [_], _ => rfl
  have D7 : Df K mg "is_high" ["thing"] f7 _ := ⟨PySem.W.mg_of X G a7, k7, B7⟩
  have F8 := fun_mk (st := top 19) l8 c8 k8
  have B8 := F8.binds (ps := ["thing"]) fun _ _ _ _ _ _ us hl => match us, hl with | [_], _ => rfl
  have D8 : Df K mg "is_kind" ["thing"] f8 _ := ⟨PySem.W.mg_of X G a8, k8, B8⟩
  have F9 := fun_mk (st := top 20) l9 c9 k9
  have B9 := F9.binds (ps := ["thing"]) fun _ _ _ _ _ _ us hl => match us, hl with | [_], _ => rfl
  have D9 : Df K mg "first_word" ["thing"] f9 _ := ⟨PySem.W.mg_of X G a9, k9, B9⟩
  have F10 := fun_mk (st := top 25) l10 c10 k10
  have FC10 : FunC K "are_kinds" "are_kinds" (top 25) f10 _ cr10 := ⟨⟨_, _, _, _, _, _, _, _, rfl, l10, c10⟩, k10⟩
  have B10 := F10.binds (ps := ["thing"]) fun _ _ _ _ _ _ us hl => match us, hl with | [_], _ => rfl
  have D10 : Df K mg "are_kinds" ["thing"] f10 _ := ⟨PySem.W.mg_of X G a10, k10, B10⟩
  have F11 := fun_mk (st := top 26) l11 c11 k11
  have FC11 : FunC K "_is_entry" "_is_entry" (top 26) f11 _ cr11 := ⟨⟨_, _, _, _, _, _, _, _, rfl, l11, c11⟩, k11⟩
  have B11 := F11.binds (ps := ["entry"]) fun _ _ _ _ _ _ us hl => match us, hl with | [_], _ => rfl
  have D11 : Df K mg "_is_entry" ["entry"] f11 _ := ⟨PySem.W.mg_of X G a11, k11, B11⟩
  have F12 := fun_mk (st := top 27) l12 c12 k12
  have FC12 : FunC K "_is_maker" "_is_maker" (top 27) f12 _ cr12 := ⟨⟨_, _, _, _, _, _, _, _, rfl, l12, c12⟩, k12⟩
  have B12 := F12.binds (ps := ["maker"]) fun _ _ _ _ _ _ us hl => match us, hl with | [_], _ => rfl
  have D12 : Df K mg "_is_maker" ["maker"] f12 _ := ⟨PySem.W.mg_of X G a12, k12, B12⟩
  have F13 := fun_mk (st := top 29) l13 c13 k13
  have B13 := F13.binds (ps := ["program"]) fun _ _ _ _ _ _ us hl => match us, hl with | [_], _ => rfl
  have D13 : Df K mg "program_words" ["program"] f13 _ := ⟨PySem.W.mg_of X G a13, k13, B13⟩
  have F14 := fun_mk (st := top 30) l14 c14 k14
  have B14 := F14.binds (ps := ["parts"]) fun _ _ _ _ _ _ us hl => match us, hl with | [_], _ => rfl
  have D14 : Df K mg "_in_brackets" ["parts"] f14 _ := ⟨PySem.W.mg_of X G a14, k14, B14⟩
  have F15 := fun_mk (st := top 31) l15 c15 k15
  have B15 := F15.binds (ps := ["body"]) fun _ _ _ _ _ _ us hl => match us, hl with | [_], _ => rfl
  have D15 : Df K mg "_in_braces" ["body"] f15 _ := ⟨PySem.W.mg_of X G a15, k15, B15⟩
  have F16 := fun_mk (st := top 32) l16 c16 k16
  have B16 := F16.binds (ps := ["body"]) fun _ _ _ _ _ _ us hl => match us, hl with | [_], _ => rfl
  have D16 : Df K mg "_body_words" ["body"] f16 _ := ⟨PySem.W.mg_of X G a16, k16, B16⟩
  have F17 := fun_mk (st := top 33) l17 c17 k17
  have B17 := F17.binds (ps := ["term"]) fun _ _ _ _ _ _ us hl => match us, hl with | [_], _ => rfl
  have D17 : Df K mg "_term_words" ["term"] f17 _ := ⟨PySem.W.mg_of X G a17, k17, B17⟩
  have F18 := fun_mk (st := top 37) l18 c18 k18
  have FC18 : FunC K "is_program" "is_program" (top 37) f18 _ cr18 := ⟨⟨_, _, _, _, _, _, _, _, rfl, l18, c18⟩, k18⟩
  have B18 := F18.binds (ps := ["thing"]) fun _ _ _ _ _ _ us hl => match us, hl with | [_], _ => rfl
  have D18 : Df K mg "is_program" ["thing"] f18 _ := ⟨PySem.W.mg_of X G a18, k18, B18⟩
  have F19 := fun_mk (st := top 38) l19 c19 k19
  have B19 := F19.binds (ps := ["program"]) fun _ _ _ _ _ _ us hl => match us, hl with | [_], _ => rfl
  have D19 : Df K mg "write_program" ["program"] f19 _ := ⟨PySem.W.mg_of X G a19, k19, B19⟩
  have F20 := fun_mk (st := top 39) l20 c20 k20
  have FC20 : FunC K "_is_function" "_is_function" (top 39) f20 _ cr20 := ⟨⟨_, _, _, _, _, _, _, _, rfl, l20, c20⟩, k20⟩
  have B20 := F20.binds (ps := ["thing"]) fun _ _ _ _ _ _ us hl => match us, hl with | [_], _ => rfl
  have D20 : Df K mg "_is_function" ["thing"] f20 _ := ⟨PySem.W.mg_of X G a20, k20, B20⟩
  have F21 := fun_mk (st := top 40) l21 c21 k21
  have B21 := F21.binds (ps := ["thing"]) fun _ _ _ _ _ _ us hl => match us, hl with | [_], _ => rfl
  have D21 : Df K mg "_is_param" ["thing"] f21 _ := ⟨PySem.W.mg_of X G a21, k21, B21⟩
  have F22 := fun_mk (st := top 41) l22 c22 k22
  have B22 := F22.binds (ps := ["thing"]) fun _ _ _ _ _ _ us hl => match us, hl with | [_], _ => rfl
  have D22 : Df K mg "_is_whole_body" ["thing"] f22 _ := ⟨PySem.W.mg_of X G a22, k22, B22⟩
  have F23 := fun_mk (st := top 42) l23 c23 k23
  have FC23 : FunC K "_body_parts" "_body_parts" (top 42) f23 _ cr23 := ⟨⟨_, _, _, _, _, _, _, _, rfl, l23, c23⟩, k23⟩
  have B23 := F23.binds (ps := ["body"]) fun _ _ _ _ _ _ us hl => match us, hl with | [_], _ => rfl
  have D23 : Df K mg "_body_parts" ["body"] f23 _ := ⟨PySem.W.mg_of X G a23, k23, B23⟩
  have F24 := fun_mk (st := top 43) l24 c24 k24
  have FC24 : FunC K "_is_branch" "_is_branch" (top 43) f24 _ cr24 := ⟨⟨_, _, _, _, _, _, _, _, rfl, l24, c24⟩, k24⟩
  have B24 := F24.binds (ps := ["thing"]) fun _ _ _ _ _ _ us hl => match us, hl with | [_], _ => rfl
  have D24 : Df K mg "_is_branch" ["thing"] f24 _ := ⟨PySem.W.mg_of X G a24, k24, B24⟩
  have F25 := fun_mk (st := top 44) l25 c25 k25
  have B25 := F25.binds (ps := ["term"]) fun _ _ _ _ _ _ us hl => match us, hl with | [_], _ => rfl
  have D25 : Df K mg "_term_parts" ["term"] f25 _ := ⟨PySem.W.mg_of X G a25, k25, B25⟩
  have F26 := fun_mk (st := top 45) l26 c26 k26
  have B26 := F26.binds (ps := ["thing"]) fun _ _ _ _ _ _ us hl => match us, hl with | [_], _ => rfl
  have D26 : Df K mg "_is_sign" ["thing"] f26 _ := ⟨PySem.W.mg_of X G a26, k26, B26⟩
  have F27 := fun_mk (st := top 47) l27 c27 k27
  have B27 := F27.binds (ps := ["_law_script"]) fun _ _ _ _ _ _ us hl => match us, hl with | [_], _ => rfl
  have D27 : Df K mg "_law_well" ["_law_script"] f27 _ := ⟨PySem.W.mg_of X G a27, k27, B27⟩
  have F28 := fun_mk (st := top 48) l28 c28 k28
  have B28 := F28.binds (ps := ["_law_well_here", "_law_many"]) fun _ _ _ _ _ _ us hl => match us, hl with | [_, _], _ => rfl
  have D28 : Df K mg "_law_draw" ["_law_well_here", "_law_many"] f28 _ := ⟨PySem.W.mg_of X G a28, k28, B28⟩
  have F29 := fun_mk (st := top 49) l29 c29 k29
  have B29 := F29.binds (ps := ["_law_well_here"]) fun _ _ _ _ _ _ us hl => match us, hl with | [_], _ => rfl
  have D29 : Df K mg "_law_number" ["_law_well_here"] f29 _ := ⟨PySem.W.mg_of X G a29, k29, B29⟩
  have F30 := fun_mk (st := top 50) l30 c30 k30
  have B30 := F30.binds (ps := ["_law_well_here"]) fun _ _ _ _ _ _ us hl => match us, hl with | [_], _ => rfl
  have D30 : Df K mg "_law_factor" ["_law_well_here"] f30 _ := ⟨PySem.W.mg_of X G a30, k30, B30⟩
  have F31 := fun_mk (st := top 51) l31 c31 k31
  have B31 := F31.binds (ps := ["_law_well_here", "_law_capital", "_law_used"]) fun _ _ _ _ _ _ us hl => match us, hl with | [_, _, _], _ => rfl
  have D31 : Df K mg "_law_word" ["_law_well_here", "_law_capital", "_law_used"] f31 _ := ⟨PySem.W.mg_of X G a31, k31, B31⟩
  have F32 := fun_mk (st := top 52) l32 c32 k32
  have B32 := F32.binds (ps := ["_law_well_here", "_law_names", "_law_many", "_law_budget", "_law_deep"]) fun _ _ _ _ _ _ us hl => match us, hl with | [_, _, _, _, _], _ => rfl
  have D32 : Df K mg "_law_loose_args" ["_law_well_here", "_law_names", "_law_many", "_law_budget", "_law_deep"] f32 _ := ⟨PySem.W.mg_of X G a32, k32, B32⟩
  have F33 := fun_mk (st := top 53) l33 c33 k33
  have B33 := F33.binds (ps := ["_law_well_here", "_law_names", "_law_budget", "_law_deep"]) fun _ _ _ _ _ _ us hl => match us, hl with | [_, _, _, _], _ => rfl
  have D33 : Df K mg "_law_loose_e" ["_law_well_here", "_law_names", "_law_budget", "_law_deep"] f33 _ := ⟨PySem.W.mg_of X G a33, k33, B33⟩
  have F34 := fun_mk (st := top 54) l34 c34 k34
  have B34 := F34.binds (ps := ["_law_well_here", "_law_names", "_law_budget", "_law_deep"]) fun _ _ _ _ _ _ us hl => match us, hl with | [_, _, _, _], _ => rfl
  have D34 : Df K mg "_law_loose_body" ["_law_well_here", "_law_names", "_law_budget", "_law_deep"] f34 _ := ⟨PySem.W.mg_of X G a34, k34, B34⟩
  have F35 := fun_mk (st := top 55) l35 c35 k35
  have B35 := F35.binds (ps := ["_law_well_here", "_law_many", "_law_budgets"]) fun _ _ _ _ _ _ us hl => match us, hl with | [_, _, _], _ => rfl
  have D35 : Df K mg "_law_loose" ["_law_well_here", "_law_many", "_law_budgets"] f35 _ := ⟨PySem.W.mg_of X G a35, k35, B35⟩
  have F36 := fun_mk (st := top 56) l36 c36 k36
  have B36 := F36.binds (ps := ["_law_x", "_law_low", "_law_high"]) fun _ _ _ _ _ _ us hl => match us, hl with | [_, _, _], _ => rfl
  have D36 : Df K mg "_law_is_int" ["_law_x", "_law_low", "_law_high"] f36 _ := ⟨PySem.W.mg_of X G a36, k36, B36⟩
  have F37 := fun_mk (st := top 57) l37 c37 k37
  have B37 := F37.binds (ps := ["_law_x", "_law_low", "_law_high"]) fun _ _ _ _ _ _ us hl => match us, hl with | [_, _, _], _ => rfl
  have D37 : Df K mg "_law_is_tuple" ["_law_x", "_law_low", "_law_high"] f37 _ := ⟨PySem.W.mg_of X G a37, k37, B37⟩
  have F38 := fun_mk (st := top 58) l38 c38 k38
  have B38 := F38.binds (ps := ["_law_x", "_law_capital"]) fun _ _ _ _ _ _ us hl => match us, hl with | [_, _], _ => rfl
  have D38 : Df K mg "_law_is_name" ["_law_x", "_law_capital"] f38 _ := ⟨PySem.W.mg_of X G a38, k38, B38⟩
  have F39 := fun_mk (st := top 59) l39 c39 k39
  have B39 := F39.binds (ps := ["_law_x"]) fun _ _ _ _ _ _ us hl => match us, hl with | [_], _ => rfl
  have D39 : Df K mg "_law_is_kind" ["_law_x"] f39 _ := ⟨PySem.W.mg_of X G a39, k39, B39⟩
  have F40 := fun_mk (st := top 60) l40 c40 k40
  have B40 := F40.binds (ps := ["_law_kinds"]) fun _ _ _ _ _ _ us hl => match us, hl with | [_], _ => rfl
  have D40 : Df K mg "_law_are_kinds" ["_law_kinds"] f40 _ := ⟨PySem.W.mg_of X G a40, k40, B40⟩
  have F41 := fun_mk (st := top 61) l41 c41 k41
  have B41 := F41.binds (ps := ["_law_thing", "_law_deep", "_law_todo"]) fun _ _ _ _ _ _ us hl => match us, hl with | [_, _, _], _ => rfl
  have D41 : Df K mg "_law_step" ["_law_thing", "_law_deep", "_law_todo"] f41 _ := ⟨PySem.W.mg_of X G a41, k41, B41⟩
  have F42 := fun_mk (st := top 62) l42 c42 k42
  have B42 := F42.binds (ps := ["_law_thing", "_law_deep", "_law_todo"]) fun _ _ _ _ _ _ us hl => match us, hl with | [_, _, _], _ => rfl
  have D42 : Df K mg "_law_step_body" ["_law_thing", "_law_deep", "_law_todo"] f42 _ := ⟨PySem.W.mg_of X G a42, k42, B42⟩
  have F43 := fun_mk (st := top 63) l43 c43 k43
  have B43 := F43.binds (ps := ["_law_thing"]) fun _ _ _ _ _ _ us hl => match us, hl with | [_], _ => rfl
  have D43 : Df K mg "_law_is_function" ["_law_thing"] f43 _ := ⟨PySem.W.mg_of X G a43, k43, B43⟩
  have F44 := fun_mk (st := top 64) l44 c44 k44
  have B44 := F44.binds (ps := ["_law_thing"]) fun _ _ _ _ _ _ us hl => match us, hl with | [_], _ => rfl
  have D44 : Df K mg "_law_is_program" ["_law_thing"] f44 _ := ⟨PySem.W.mg_of X G a44, k44, B44⟩
  have F45 := fun_mk (st := top 65) l45 c45 k45
  have B45 := F45.binds (ps := ["_law_thing", "_law_well_here"]) fun _ _ _ _ _ _ us hl => match us, hl with | [_, _], _ => rfl
  have D45 : Df K mg "_law_odd" ["_law_thing", "_law_well_here"] f45 _ := ⟨PySem.W.mg_of X G a45, k45, B45⟩
  have F46 := fun_mk (st := top 66) l46 c46 k46
  have B46 := F46.binds (ps := ["_law_thing", "_law_well_here"]) fun _ _ _ _ _ _ us hl => match us, hl with | [_, _], _ => rfl
  have D46 : Df K mg "_law_bent" ["_law_thing", "_law_well_here"] f46 _ := ⟨PySem.W.mg_of X G a46, k46, B46⟩
  have F47 := fun_mk (st := top 67) l47 c47 k47
  have B47 := F47.binds (ps := ["_law_size"]) fun _ _ _ _ _ _ us hl => match us, hl with | [_], _ => rfl
  have D47 : Df K mg "_law_exact" ["_law_size"] f47 _ := ⟨PySem.W.mg_of X G a47, k47, B47⟩
  have F48 := fun_mk (st := top 68) l48 c48 k48
  have B48 := F48.binds (ps := ["_law_size"]) fun _ _ _ _ _ _ us hl => match us, hl with | [_], _ => rfl
  have D48 : Df K mg "_law_chain" ["_law_size"] f48 _ := ⟨PySem.W.mg_of X G a48, k48, B48⟩
  have F49 := fun_mk (st := top 69) l49 c49 k49
  have B49 := F49.binds (ps := ["_law_size", "_law_e"]) fun _ _ _ _ _ _ us hl => match us, hl with | [_, _], _ => rfl
  have D49 : Df K mg "_law_lets" ["_law_size", "_law_e"] f49 _ := ⟨PySem.W.mg_of X G a49, k49, B49⟩
  have F50 := fun_mk (st := top 70) l50 c50 k50
  have B50 := F50.binds (ps := ["_law_well_here", "_law_size"]) fun _ _ _ _ _ _ us hl => match us, hl with | [_, _], _ => rfl
  have D50 : Df K mg "_law_steps" ["_law_well_here", "_law_size"] f50 _ := ⟨PySem.W.mg_of X G a50, k50, B50⟩
  have F51 := fun_mk (st := top 71) l51 c51 k51
  have B51 := F51.binds (ps := ["_law_well_here", "_law_size", "_law_body"]) fun _ _ _ _ _ _ us hl => match us, hl with | [_, _, _], _ => rfl
  have D51 : Df K mg "_law_bodies" ["_law_well_here", "_law_size", "_law_body"] f51 _ := ⟨PySem.W.mg_of X G a51, k51, B51⟩
  have F52 := fun_mk (st := top 72) l52 c52 k52
  have B52 := F52.binds (ps := ["_law_body"]) fun _ _ _ _ _ _ us hl => match us, hl with | [_], _ => rfl
  have D52 : Df K mg "_law_given" ["_law_body"] f52 _ := ⟨PySem.W.mg_of X G a52, k52, B52⟩
  have F53 := fun_mk (st := top 73) l53 c53 k53
  have B53 := F53.binds (ps := ["_law_well_here"]) fun _ _ _ _ _ _ us hl => match us, hl with | [_], _ => rfl
  have D53 : Df K mg "_law_edge" ["_law_well_here"] f53 _ := ⟨PySem.W.mg_of X G a53, k53, B53⟩
  have F54 := fun_mk (st := top 74) l54 c54 k54
  have B54 := F54.binds (ps := ["_law_thing"]) fun _ _ _ _ _ _ us hl => match us, hl with | [_], _ => rfl
  have D54 : Df K mg "_law_refused" ["_law_thing"] f54 _ := ⟨PySem.W.mg_of X G a54, k54, B54⟩
  have F55 := fun_mk (st := top 75) l55 c55 k55
  have gisinstance := PySem.W.mg_none_of X G zisinstance
  have gint := PySem.W.mg_none_of X G zint
  have gbool := PySem.W.mg_none_of X G zbool
  have gtuple := PySem.W.mg_none_of X G ztuple
  have gstr := PySem.W.mg_none_of X G zstr
  have glen := PySem.W.mg_none_of X G zlen
  have gall := PySem.W.mg_none_of X G zall
  have gsum := PySem.W.mg_none_of X G zsum
  have glist := PySem.W.mg_none_of X G zlist
  have grange := PySem.W.mg_none_of X G zrange
  have gabs := PySem.W.mg_none_of X G zabs
  have gmin := PySem.W.mg_none_of X G zmin
  have genumerate := PySem.W.mg_none_of X G zenumerate
  have vMOST_SIGNS : ∃ t, mg "MOST_SIGNS" = some (.int 10 t) := ⟨_, PySem.W.mg_of X G mMOST_SIGNS⟩
  have vMOST_NUMBER : ∃ t, mg "MOST_NUMBER" = some (.int 1000000000000 t) := ⟨_, PySem.W.mg_of X G mMOST_NUMBER⟩
  have vMOST_FACTOR : ∃ t, mg "MOST_FACTOR" = some (.int 1000000 t) := ⟨_, PySem.W.mg_of X G mMOST_FACTOR⟩
  have vMOST_KINDS : ∃ t, mg "MOST_KINDS" = some (.int 8 t) := ⟨_, PySem.W.mg_of X G mMOST_KINDS⟩
  have vMOST_MAKERS : ∃ t, mg "MOST_MAKERS" = some (.int 8 t) := ⟨_, PySem.W.mg_of X G mMOST_MAKERS⟩
  have vMOST_FIELDS : ∃ t, mg "MOST_FIELDS" = some (.int 5 t) := ⟨_, PySem.W.mg_of X G mMOST_FIELDS⟩
  have vMOST_PARAMS : ∃ t, mg "MOST_PARAMS" = some (.int 6 t) := ⟨_, PySem.W.mg_of X G mMOST_PARAMS⟩
  have vMOST_PARTS : ∃ t, mg "MOST_PARTS" = some (.int 100 t) := ⟨_, PySem.W.mg_of X G mMOST_PARTS⟩
  have vMOST_CHAIN : ∃ t, mg "MOST_CHAIN" = some (.int 30 t) := ⟨_, PySem.W.mg_of X G mMOST_CHAIN⟩
  have vMOST_FUNCTIONS : ∃ t, mg "MOST_FUNCTIONS" = some (.int 12 t) := ⟨_, PySem.W.mg_of X G mMOST_FUNCTIONS⟩
  have hWs : ∀ H : Hp, SqT K H CW (wordsL.map V.str) := fun H => .inr ⟨_, _, _, lW, rfl, rfl, (by show 8 ≤ sizeLine; decide), (.cons ⟨_, rfl⟩ (.cons ⟨_, rfl⟩ (.cons ⟨_, rfl⟩ (.cons ⟨_, rfl⟩ (.cons ⟨_, rfl⟩ (.cons ⟨_, rfl⟩ (.cons ⟨_, rfl⟩ (.cons ⟨_, rfl⟩ .nil))))))))⟩
  have N : Gn K mg := ⟨gisinstance, gint, gbool, gtuple, gstr, glen, gall, vMOST_SIGNS, vMOST_NUMBER, vMOST_FACTOR, ⟨_, PySem.W.mg_of X G mWHOLE⟩, ⟨CW, PySem.W.mg_of X G mWORDS, hWs⟩⟩
  have Gk' : Gk mg := ⟨vMOST_KINDS, vMOST_MAKERS, vMOST_FIELDS⟩
  have N1 : Gd mg := ⟨glen, gabs, gint⟩
  have N2 : Gd2 mg := ⟨gmin, gtuple, grange, glen, gint⟩
  have N3 : Gd3 mg := ⟨glen, gint, gstr, grange⟩
  have N4 : Gd4 mg := ⟨glen, gint, gtuple, grange⟩
  have N5 : Gd5 mg := ⟨gisinstance, gint, gstr, gtuple, glen, glist, gstr⟩
  have N6 : Gd6 mg := ⟨gisinstance, gbool, glist, grange⟩
  have Nw : Gw K mg := ⟨genumerate, gstr⟩
  have XB : Exn K mg "BadProgram" CB := ⟨xB, PySem.W.mg_of X G eB, yB, bB, tB⟩
  have eBB : PySem.W.exmOne K (.ref CB) (.ref CB) = some true := PySem.W.exm_ref bB qB3 tB sBB
  let T : Hp → Prop := fun H => ∀ P ∈ [112, 119, 126, 202, 195, 176, 162], TabG H P
  have st : Stays T := fun H H' g t P hP => g.tabs (t P hP)
  have stW : StaysW T := fun w H H' hw g t P hP => tabsW hw g (t P hP)
  have t10 : ∀ H, T H → TabG H 112 := fun H t => t 112 (by decide)
  have t11 : ∀ H, T H → TabG H 119 := fun H t => t 119 (by decide)
  have t12 : ∀ H, T H → TabG H 126 := fun H t => t 126 (by decide)
  have t24 : ∀ H, T H → TabG H 202 := fun H t => t 202 (by decide)
  have t23 : ∀ H, T H → TabG H 195 := fun H t => t 195 (by decide)
  have t20 : ∀ H, T H → TabG H 176 := fun H t => t 176 (by decide)
  have t18 : ∀ H, T H → TabG H 162 := fun H t => t 162 (by decide)
  have mem : ∀ {R : Addr → Addr → Prop}, R cr10 112 → R cr11 119 → R cr12 126 → R cr24 202 → R cr23 195 → R cr20 176 → R cr18 162 → ∀ p ∈ ([(cr10, 112), (cr11, 119), (cr12, 126), (cr24, 202), (cr23, 195), (cr20, 176), (cr18, 162)] : List (Addr × Addr)), R p.1 p.2 := fun r10 r11 r12 r24 r23 r20 r18 => List.forall_mem_cons.mpr ⟨r10, List.forall_mem_cons.mpr ⟨r11, List.forall_mem_cons.mpr ⟨r12, List.forall_mem_cons.mpr ⟨r24, List.forall_mem_cons.mpr ⟨r23, List.forall_mem_cons.mpr ⟨r20, List.forall_mem_cons.mpr ⟨r18, fun _ z => nomatch z⟩⟩⟩⟩⟩⟩⟩
  refine ⟨PySem.W.fnOf "law" "law" (defArgs (top 75)) (defBody (top 75)) (defScope (top 75)) .none kV55 dc55 pm55 an55 cd55 ct55, [(cr10, 112), (cr11, 119), (cr12, 126), (cr24, 202), (cr23, 195), (cr20, 176), (cr18, 162)], spLaw K T, ?_, ?_, ?_, fun s v => .of_eq rfl, ?_, fun base _ _ hB => ?_⟩
  · exact mem (R := fun _ P => h.get? P = some { cls := .none, data := .fields #[] }) (hT8 112 (by decide)) (hT8 119 (by decide)) (hT8 126 (by decide)) (hT8 202 (by decide)) (hT8 195 (by decide)) (hT8 176 (by decide)) (hT8 162 (by decide))
  · exact mem (R := fun _ P => K.lookup P = none) n10 n11 n12 n24 n23 n20 n18
  · exact mem (R := fun c P => PySem.W.CodeHd h c P) (PySem.W.codeHd_of_K X h10) (PySem.W.codeHd_of_K X h11) (PySem.W.codeHd_of_K X h12) (PySem.W.codeHd_of_K X h24) (PySem.W.codeHd_of_K X h23) (PySem.W.codeHd_of_K X h20) (PySem.W.codeHd_of_K X h18)
  · intro H a ns _ _ hH hS
    have hH' : ∀ P ∈ [112, 119, 126, 202, 195, 176, 162], H P = some (.tbl #[]) := List.forall_mem_cons.mpr ⟨hH (cr10, 112) (List.mem_cons_self), List.forall_mem_cons.mpr ⟨hH (cr11, 119) (List.mem_cons_of_mem _ (List.mem_cons_self)), List.forall_mem_cons.mpr ⟨hH (cr12, 126) (List.mem_cons_of_mem _ (List.mem_cons_of_mem _ (List.mem_cons_self))), List.forall_mem_cons.mpr ⟨hH (cr24, 202) (List.mem_cons_of_mem _ (List.mem_cons_of_mem _ (List.mem_cons_of_mem _ (List.mem_cons_self)))), List.forall_mem_cons.mpr ⟨hH (cr23, 195) (List.mem_cons_of_mem _ (List.mem_cons_of_mem _ (List.mem_cons_of_mem _ (List.mem_cons_of_mem _ (List.mem_cons_self))))), List.forall_mem_cons.mpr ⟨hH (cr20, 176) (List.mem_cons_of_mem _ (List.mem_cons_of_mem _ (List.mem_cons_of_mem _ (List.mem_cons_of_mem _ (List.mem_cons_of_mem _ (List.mem_cons_self)))))), List.forall_mem_cons.mpr ⟨hH (cr18, 162) (List.mem_cons_of_mem _ (List.mem_cons_of_mem _ (List.mem_cons_of_mem _ (List.mem_cons_of_mem _ (List.mem_cons_of_mem _ (List.mem_cons_of_mem _ (List.mem_cons_self))))))), fun _ z => nomatch z⟩⟩⟩⟩⟩⟩⟩
    exact ⟨a, ns, rfl, hS, fun P hP => ⟨#[], hH' P hP, trip0⟩, fun _ => rfl⟩
  have TB10 := tb_of (hB (cr10, 112) (List.mem_cons_self))
  have TB11 := tb_of (hB (cr11, 119) (List.mem_cons_of_mem _ (List.mem_cons_self)))
  have TB12 := tb_of (hB (cr12, 126) (List.mem_cons_of_mem _ (List.mem_cons_of_mem _ (List.mem_cons_self))))
  have TB24 := tb_of (hB (cr24, 202) (List.mem_cons_of_mem _ (List.mem_cons_of_mem _ (List.mem_cons_of_mem _ (List.mem_cons_self)))))
  have TB23 := tb_of (hB (cr23, 195) (List.mem_cons_of_mem _ (List.mem_cons_of_mem _ (List.mem_cons_of_mem _ (List.mem_cons_of_mem _ (List.mem_cons_self))))))
  have TB20 := tb_of (hB (cr20, 176) (List.mem_cons_of_mem _ (List.mem_cons_of_mem _ (List.mem_cons_of_mem _ (List.mem_cons_of_mem _ (List.mem_cons_of_mem _ (List.mem_cons_self)))))))
  have TB18 := tb_of (hB (cr18, 162) (List.mem_cons_of_mem _ (List.mem_cons_of_mem _ (List.mem_cons_of_mem _ (List.mem_cons_of_mem _ (List.mem_cons_of_mem _ (List.mem_cons_of_mem _ (List.mem_cons_self))))))))
  have G0 := ok_int (P := l.prog) (w := w) (base := base) (mg := mg) F0 N
  have G1 := ok_bet F1 G0 D0
  have G2 := ok_num F2 N G1 D1
  have G3 := ok_fac F3 N G1 D1
  have G4 := ok_tup (P := l.prog) (w := w) (base := base) (mg := mg) F4 N
  have G5 := ok_nam (P := l.prog) (w := w) (base := base) (mg := mg) F5 N
  have G6 := ok_low F6 G5 D5
  have G7 := ok_hig F7 G5 D5
  have G8 := ok_kin F8 N G7 D7
  have G9 := ok_fir (P := l.prog) (w := w) (base := base) (mg := mg) F9 N
  have G12 := ok_maker FC12 N Gk' TB12 G4 D4 G7 D7 G8 D8
  have G11 := ok_entry (T := T) FC11 N Gk' TB11 st t11 t12 G4 D4 G7 D7 G12 D12
  have G10 := ok_kinds (T := T) FC10 N Gk' TB10 st t10 (fun _ z => z) G4 D4 G11 D11
  have G21 := ok_param F21 G4 D4 G6 D6 G8 D8
  have G26 := ok_sign (P := l.prog) (w := w) (base := base) (mg := mg) F26 N
  have G24 := ok_branch FC24 N Gk' TB24 G4 D4 G7 D7 G6 D6
  have G25 := ok_term F25 N Gk' vMOST_PARAMS G9 D9 G2 D2 G6 D6 G26 D26 G3 D3 G7 D7 G4 D4
  have G23 := ok_body (T := T) FC23 N Gk' gsum TB23 st t23 t24 G9 D9 G6 D6 G4 D4 G24 D24
  have G22 := ok_whole (T := T) F22 vMOST_PARTS vMOST_CHAIN st G23 D23 G25 D25
  have G20 := ok_func (T := T) FC20 N vMOST_PARAMS TB20 st t20 (fun _ z => z) G4 D4 G6 D6 G8 D8 G21 D21 G22 D22
  have G18 := ok_prog (T := T) FC18 N vMOST_FUNCTIONS TB18 st t18 (fun _ z => z) (fun _ z => z) G4 D4 G10 D10 G20 D20
  have G36 := ok_lint (P := l.prog) (w := w) (base := base) (mg := mg) F36 N
  have G37 := ok_ltup (P := l.prog) (w := w) (base := base) (mg := mg) F37 N
  have G38 := ok_lnam (P := l.prog) (w := w) (base := base) (mg := mg) F38 N
  have G39 := ok_lkin F39 N G38 D38
  have G40 := ok_lkinds F40 G37 D37 G38 D38 G39 D39
  have G41 := ok_step F41 N G37 D37 G36 D36 G38 D38
  have G42 := ok_stepb F42 N G37 D37 G38 D38
  have G43 := ok_lfun F43 G37 D37 G38 D38 G39 D39 G42 D42 G41 D41
  have G44 := ok_lprog F44 G37 D37 G40 D40 G43 D43
  have G28 := ok_draw (P := l.prog) (w := w) (base := base) (mg := mg) F28 N1
  have G29 := ok_num2 F29 G28 D28
  have G30 := ok_fac2 F30 G28 D28
  have G33 := all_e F33 F32 N2 D33 D32 G28 D28 G29 D29 G30 D30 28
  have G34 := all_b F34 N2 D34 G33 D33 G28 D28 24
  have G31 := ok_word F31 N3 G28 D28
  have G35 := ok_loose F35 N4 G28 D28 G31 D31 G34 D34
  have G52 := ok_gi (P := l.prog) (w := w) (base := base) (mg := mg) F52
  have G48 := ok_ch (P := l.prog) (w := w) (base := base) (mg := mg) F48 grange
  have G49 := ok_ls (P := l.prog) (w := w) (base := base) (mg := mg) F49 grange
  have G47 := all_x (P := l.prog) (w := w) (base := base) (mg := mg) F47 D47 7
  have G50 := ok_st F50 grange G28 D28
  have G51 := ok_bo F51 grange G28 D28
  have G53 := ok_ed F53 gtuple G28 D28 G52 D52 G47 D47 G49 D49 G48 D48 G51 D51 G50 D50
  have G45 := ok_od F45 N5 G28 D28
  have G46 := ok_bn F46 N5 grange G28 D28 G45 D45
  have G14 := ok_br (P := l.prog) (w := w) (base := base) (mg := mg) F14 Nw
  have G17 := all_tw F17 Nw D17 G14 D14 31
  have G16 := all_bw F16 F15 G17 D17 G14 D14 D16 D15 30
  have G15 := ok_bb F15 G16 D16
  have G13 := ok_pw F13 G14 D14 G15 D15
  have G19 := ok_wp F19 XB G18 D18 G13 D13
  have G54 := ok_rf F54 XB eBB G19 D19
  have G27 := ok_wl (P := l.prog) (w := w) (base := base) (mg := mg) F27 N6
  exact ok_law F55 N6 st stW G27 D27 G28 D28 G35 D35 G53 D53 G46 D46 G44 D44 G18 D18 (g := fun _ ws => ws) ⟨fun s us ws _ h1 h2 => match us, ws, h1, h2 with | [], [_], _, _ => .of_eq rfl, fun _ r => r⟩ G54 D54
theorem walk {l : PySem.W.OpenLaw} {q : Program} {loose : List Str} {XP : (Str → Option Value) → Heap → Prop} {YP : World → Heap → Prop} {d : DefRec} {K : Params → PySem.W.Frag} (hn : l.most = some 63) (hdf : d.params.defaults = [])
    (hY : ∀ (w : World) (h : Heap), YP w h → (K w.params).In h)
    (F : ∀ (w : World) (mg : Str → Option Value) (fa : Addr) (h : Heap), YP w h → (K w.params).In h → h.Ns mainGlobals mg → mg d.name = some (.ref fa) → LamX.LawAtS l w (K w.params) CX0 105 63 "_law_script" mg fa h) :
    PySem.W.WalkO q loose XP YP l.row.toRowW d [] (fun f vs => PySem.call f vs) :=
  LamX.walk_ofTs (n := 63) (k := 105) (x := "_law_script") (CX := fun _ => CX0) hn (by decide) hdf ⟨rfl, by decide, by decide⟩ hY F fun _ _ _ _ _ z => z
end J1
set_option Elab.async false
set_option linter.all false
open PySem PySem.W PyProof.Rows
local macro_rules | `(tactic| o_head ($_ $k $a $e)) => `(tactic| o_head (PySem.W.kmHook $k $a $e [112, 119, 126, 202, 195, 176, 162]))
set_option maxRecDepth 100000 in
set_option maxHeartbeats 0 in
theorem PySem.Challenge.cw_juststeps_k01_programs_judged_holds : PySem.Challenge.rw_juststeps_k01_programs_judged.Holds := by
  w_on; o_law; k_head; (case hw => w_witness2)
  k_fill
  refine J1.walk (l := PySem.Challenge.rw_juststeps_k01_programs_judged) rfl rfl (fun w h Y => PySem.W.km_in_of Y) ?F
  case F =>
    intro w mg fa h Y KX G hmg
    have hT8 := PySem.W.km_tabs_of Y
    refine' J1.all_mk KX G hmg ?a0 ?l0 ?c0 ?k0 ?a1 ?l1 ?c1 ?k1 ?a2 ?l2 ?c2 ?k2 ?a3 ?l3 ?c3 ?k3 ?a4 ?l4 ?c4 ?k4 ?a5 ?l5 ?c5 ?k5 ?a6 ?l6 ?c6 ?k6 ?a7 ?l7 ?c7 ?k7 ?a8 ?l8 ?c8 ?k8 ?a9 ?l9 ?c9 ?k9 ?a10 ?l10 ?c10 ?k10 ?a11 ?l11 ?c11 ?k11 ?a12 ?l12 ?c12 ?k12 ?a13 ?l13 ?c13 ?k13 ?a14 ?l14 ?c14 ?k14 ?a15 ?l15 ?c15 ?k15 ?a16 ?l16 ?c16 ?k16 ?a17 ?l17 ?c17 ?k17 ?a18 ?l18 ?c18 ?k18 ?a19 ?l19 ?c19 ?k19 ?a20 ?l20 ?c20 ?k20 ?a21 ?l21 ?c21 ?k21 ?a22 ?l22 ?c22 ?k22 ?a23 ?l23 ?c23 ?k23 ?a24 ?l24 ?c24 ?k24 ?a25 ?l25 ?c25 ?k25 ?a26 ?l26 ?c26 ?k26 ?a27 ?l27 ?c27 ?k27 ?a28 ?l28 ?c28 ?k28 ?a29 ?l29 ?c29 ?k29 ?a30 ?l30 ?c30 ?k30 ?a31 ?l31 ?c31 ?k31 ?a32 ?l32 ?c32 ?k32 ?a33 ?l33 ?c33 ?k33 ?a34 ?l34 ?c34 ?k34 ?a35 ?l35 ?c35 ?k35 ?a36 ?l36 ?c36 ?k36 ?a37 ?l37 ?c37 ?k37 ?a38 ?l38 ?c38 ?k38 ?a39 ?l39 ?c39 ?k39 ?a40 ?l40 ?c40 ?k40 ?a41 ?l41 ?c41 ?k41 ?a42 ?l42 ?c42 ?k42 ?a43 ?l43 ?c43 ?k43 ?a44 ?l44 ?c44 ?k44 ?a45 ?l45 ?c45 ?k45 ?a46 ?l46 ?c46 ?k46 ?a47 ?l47 ?c47 ?k47 ?a48 ?l48 ?c48 ?k48 ?a49 ?l49 ?c49 ?k49 ?a50 ?l50 ?c50 ?k50 ?a51 ?l51 ?c51 ?k51 ?a52 ?l52 ?c52 ?k52 ?a53 ?l53 ?c53 ?k53 ?a54 ?l54 ?c54 ?k54 ?a55 ?l55 ?c55 ?k55 ?zisinstance ?zint ?zbool ?ztuple ?zstr ?zlen ?zall ?zsum ?zlist ?zrange ?zabs ?zmin ?zenumerate ?mMOST_SIGNS ?mMOST_NUMBER ?mMOST_FACTOR ?mMOST_KINDS ?mMOST_MAKERS ?mMOST_FIELDS ?mMOST_PARAMS ?mMOST_PARTS ?mMOST_CHAIN ?mMOST_FUNCTIONS ?mWHOLE ?mWORDS ?lW ?eB ?xB ?yB ?bB ?tB ?qB3 ?sBB ?n10 ?h10 ?n11 ?h11 ?n12 ?h12 ?n24 ?h24 ?n23 ?h23 ?n20 ?h20 ?n18 ?h18 hT8
    (case a0 => k_is)
    (case l0 => k_is)
    (case c0 => k_is)
    (case k0 => k_is)
    (case a1 => k_is)
    (case l1 => k_is)
    (case c1 => k_is)
    (case k1 => k_is)
    (case a2 => k_is)
    (case l2 => k_is)
    (case c2 => k_is)
    (case k2 => k_is)
    (case a3 => k_is)
    (case l3 => k_is)
    (case c3 => k_is)
    (case k3 => k_is)
    (case a4 => k_is)
    (case l4 => k_is)
    (case c4 => k_is)
    (case k4 => k_is)
    (case a5 => k_is)
    (case l5 => k_is)
    (case c5 => k_is)
    (case k5 => k_is)
    (case a6 => k_is)
    (case l6 => k_is)
    (case c6 => k_is)
    (case k6 => k_is)
    (case a7 => k_is)
    (case l7 => k_is)
    (case c7 => k_is)
    (case k7 => k_is)
    (case a8 => k_is)
    (case l8 => k_is)
    (case c8 => k_is)
    (case k8 => k_is)
    (case a9 => k_is)
    (case l9 => k_is)
    (case c9 => k_is)
    (case k9 => k_is)
    (case a10 => k_is)
    (case l10 => k_is)
    (case c10 => k_is)
    (case k10 => k_is)
    (case a11 => k_is)
    (case l11 => k_is)
    (case c11 => k_is)
    (case k11 => k_is)
    (case a12 => k_is)
    (case l12 => k_is)
    (case c12 => k_is)
    (case k12 => k_is)
    (case a13 => k_is)
    (case l13 => k_is)
    (case c13 => k_is)
    (case k13 => k_is)
    (case a14 => k_is)
    (case l14 => k_is)
    (case c14 => k_is)
    (case k14 => k_is)
    (case a15 => k_is)
    (case l15 => k_is)
    (case c15 => k_is)
    (case k15 => k_is)
    (case a16 => k_is)
    (case l16 => k_is)
    (case c16 => k_is)
    (case k16 => k_is)
    (case a17 => k_is)
    (case l17 => k_is)
    (case c17 => k_is)
    (case k17 => k_is)
    (case a18 => k_is)
    (case l18 => k_is)
    (case c18 => k_is)
    (case k18 => k_is)
    (case a19 => k_is)
    (case l19 => k_is)
    (case c19 => k_is)
    (case k19 => k_is)
    (case a20 => k_is)
    (case l20 => k_is)
    (case c20 => k_is)
    (case k20 => k_is)
    (case a21 => k_is)
    (case l21 => k_is)
    (case c21 => k_is)
    (case k21 => k_is)
    (case a22 => k_is)
    (case l22 => k_is)
    (case c22 => k_is)
    (case k22 => k_is)
    (case a23 => k_is)
    (case l23 => k_is)
    (case c23 => k_is)
    (case k23 => k_is)
    (case a24 => k_is)
    (case l24 => k_is)
    (case c24 => k_is)
    (case k24 => k_is)
    (case a25 => k_is)
    (case l25 => k_is)
    (case c25 => k_is)
    (case k25 => k_is)
    (case a26 => k_is)
    (case l26 => k_is)
    (case c26 => k_is)
    (case k26 => k_is)
    (case a27 => k_is)
    (case l27 => k_is)
    (case c27 => k_is)
    (case k27 => k_is)
    (case a28 => k_is)
    (case l28 => k_is)
    (case c28 => k_is)
    (case k28 => k_is)
    (case a29 => k_is)
    (case l29 => k_is)
    (case c29 => k_is)
    (case k29 => k_is)
    (case a30 => k_is)
    (case l30 => k_is)
    (case c30 => k_is)
    (case k30 => k_is)
    (case a31 => k_is)
    (case l31 => k_is)
    (case c31 => k_is)
    (case k31 => k_is)
    (case a32 => k_is)
    (case l32 => k_is)
    (case c32 => k_is)
    (case k32 => k_is)
    (case a33 => k_is)
    (case l33 => k_is)
    (case c33 => k_is)
    (case k33 => k_is)
    (case a34 => k_is)
    (case l34 => k_is)
    (case c34 => k_is)
    (case k34 => k_is)
    (case a35 => k_is)
    (case l35 => k_is)
    (case c35 => k_is)
    (case k35 => k_is)
    (case a36 => k_is)
    (case l36 => k_is)
    (case c36 => k_is)
    (case k36 => k_is)
    (case a37 => k_is)
    (case l37 => k_is)
    (case c37 => k_is)
    (case k37 => k_is)
    (case a38 => k_is)
    (case l38 => k_is)
    (case c38 => k_is)
    (case k38 => k_is)
    (case a39 => k_is)
    (case l39 => k_is)
    (case c39 => k_is)
    (case k39 => k_is)
    (case a40 => k_is)
    (case l40 => k_is)
    (case c40 => k_is)
    (case k40 => k_is)
    (case a41 => k_is)
    (case l41 => k_is)
    (case c41 => k_is)
    (case k41 => k_is)
    (case a42 => k_is)
    (case l42 => k_is)
    (case c42 => k_is)
    (case k42 => k_is)
    (case a43 => k_is)
    (case l43 => k_is)
    (case c43 => k_is)
    (case k43 => k_is)
    (case a44 => k_is)
    (case l44 => k_is)
    (case c44 => k_is)
    (case k44 => k_is)
    (case a45 => k_is)
    (case l45 => k_is)
    (case c45 => k_is)
    (case k45 => k_is)
    (case a46 => k_is)
    (case l46 => k_is)
    (case c46 => k_is)
    (case k46 => k_is)
    (case a47 => k_is)
    (case l47 => k_is)
    (case c47 => k_is)
    (case k47 => k_is)
    (case a48 => k_is)
    (case l48 => k_is)
    (case c48 => k_is)
    (case k48 => k_is)
    (case a49 => k_is)
    (case l49 => k_is)
    (case c49 => k_is)
    (case k49 => k_is)
    (case a50 => k_is)
    (case l50 => k_is)
    (case c50 => k_is)
    (case k50 => k_is)
    (case a51 => k_is)
    (case l51 => k_is)
    (case c51 => k_is)
    (case k51 => k_is)
    (case a52 => k_is)
    (case l52 => k_is)
    (case c52 => k_is)
    (case k52 => k_is)
    (case a53 => k_is)
    (case l53 => k_is)
    (case c53 => k_is)
    (case k53 => k_is)
    (case a54 => k_is)
    (case l54 => k_is)
    (case c54 => k_is)
    (case k54 => k_is)
    (case a55 => k_is)
    (case l55 => k_is)
    (case c55 => k_is)
    (case k55 => k_is)
    (case zisinstance => k_is)
    (case zint => k_is)
    (case zbool => k_is)
    (case ztuple => k_is)
    (case zstr => k_is)
    (case zlen => k_is)
    (case zall => k_is)
    (case zsum => k_is)
    (case zlist => k_is)
    (case zrange => k_is)
    (case zabs => k_is)
    (case zmin => k_is)
    (case zenumerate => k_is)
    (case mMOST_SIGNS => k_is)
    (case mMOST_NUMBER => k_is)
    (case mMOST_FACTOR => k_is)
    (case mMOST_KINDS => k_is)
    (case mMOST_MAKERS => k_is)
    (case mMOST_FIELDS => k_is)
    (case mMOST_PARAMS => k_is)
    (case mMOST_PARTS => k_is)
    (case mMOST_CHAIN => k_is)
    (case mMOST_FUNCTIONS => k_is)
    (case mWHOLE => k_is)
    (case mWORDS => k_is)
    (case lW => k_is)
    (case eB => k_is)
    (case xB => k_exc)
    (case yB => k_is)
    (case bB => k_is)
    (case tB => k_is)
    (case qB3 => k_is)
    (case sBB => k_is)
    (case n10 => kernel_rfl)
    (case h10 => kernel_rfl)
    (case n11 => kernel_rfl)
    (case h11 => kernel_rfl)
    (case n12 => kernel_rfl)
    (case h12 => kernel_rfl)
    (case n24 => kernel_rfl)
    (case h24 => kernel_rfl)
    (case n23 => kernel_rfl)
    (case h23 => kernel_rfl)
    (case n20 => kernel_rfl)
    (case h20 => kernel_rfl)
    (case n18 => kernel_rfl)
    (case h18 => kernel_rfl)
