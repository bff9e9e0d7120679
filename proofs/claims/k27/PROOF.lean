import PyProof.Rows.All
import Wide.All
import OpenK.AllK
import Wide.FinOn
import HandS.AnyAll
import HandS.GenList
import HandS.Conv
import PyProof.CollectWalk
import PyProof.TupleOfGen
import HandS.ForSpec
import HandS.Wide
import HandS.IsInst
import HandS.ExcIs
import HandS.Codes
import HandS.Defaults
import HandS.Text
import HandS.StrMore
import HandS.Flow
import HandS.TupLen
import HandS.Zip
import HandS.Iter
import HandS.Comp
import KE.GoesZip
import KE.GoesMore
import HandS.Walk
import KE.GoesEnum
import HandS.DictComp
import PyProof.DictCompW
import HandS.More
import HandS.FStr
import HandS.RaiseMore
import HandS.ForDict
import HandS.DictTup
import KE.GoesEnumKw
import HandS.TupSets
import HandS.TupAny
import HandS.Style
import PyProof.AutoSeq1
import HandS.SetKeys
import HandS.Gcd
import PyProof.P3Eq
import HandS.DeepEq
import HandS.EndTab
import KE.KNestM
import PySem.Challenge.RW_juststeps_k27_whole_measures_that_are_ne
set_option Elab.async false
set_option linter.all false
set_option maxRecDepth 100000
set_option maxHeartbeats 2000000
namespace GA
open PySem PySem.Spec PyProof.Rows L2 GxR

/-- the context of a generator expression's frame: it starts at s4, H4; its iterator's objects at fp -/
abbrev gxOf (X : Cx) (s4 : Shared) (H4 : Hp) (cenv : Env) (A' : Around) (fp : List Addr) : Cx :=
  { X with A := A', s_0 := s4, H_0 := H4, env := cenv, outer := X.stack, stack := cenv :: X.stack, ex := fp, fn := fun _ => false, calm := true, pn := [], xe := fun _ _ => False }

theorem over_comp {A : Around} {elt : Expr} {gs : List Comprehension} {scope : Scope} {pos : Pos} {it acc : Value} {env : Env} : A.over (.compLoop (.GeneratorExp elt gs scope pos) 0 it acc env) [] = A.deeper env := by
  first
    | rfl
    | (obtain ⟨hd, d, fr, gs, u⟩ := A; simp [Around.over, Around.deeper, marksOver, frameCount, unitsOf, envsOf, guardsOf, pushEnvs, pushGuards, Code.envs, Code.env?, Code.isFrame, Code.guards, Code.isGuard, Code.weight, Code.frames, Code.isCreation, Code.isCaller, Code.cUnits])
theorem over_start {A : Around} {elt : Expr} {gs : List Comprehension} {scope : Scope} {pos : Pos} {it acc : Value} {env : Env} : A.over (.compStart (.GeneratorExp elt gs scope pos) 0 it acc env) [] = A.deeper env := by
  first
    | rfl
    | (obtain ⟨hd, d, fr, gs, u⟩ := A; simp [Around.over, Around.deeper, marksOver, frameCount, unitsOf, envsOf, guardsOf, pushEnvs, pushGuards, Code.envs, Code.env?, Code.isFrame, Code.guards, Code.isGuard, Code.weight, Code.frames, Code.isCreation, Code.isCaller, Code.cUnits])

section
variable {X : Cx} {pins : List (Addr × Obj)} {σ : L2.St} {H : Hp} {s : Shared}
theorem inv_gens (I : Inv X pins σ H s) {g' : Array GenState} (hg : AllBare g') : Inv X pins σ H { s with gens := g' } :=
  ⟨I.ok, I.os, hg, I.base, I.loc, I.cell, I.free, I.freeC, I.pin, I.hok, I.len⟩
theorem inv_setGen (I : Inv X pins σ H s) {g : Nat} {x : GenState} (hx : x.bare = true) : Inv X pins σ H (s.setGen g x) :=
  inv_gens I (allBare_setGen I.bare hx)

/-- the frame of the generator expression has been made -/
theorem gx_start {scope : Scope} {own : List (Str × Nat)} {fp : List Addr} {A' : Around} {code : Value} {s5 : Shared} {m0 : Str → Option Value} (I : Inv X pins σ H s) (ok : BlkOk X.N X.env.scope scope own) (hcell : ∀ y ∈ scope.names, y.2 ≠ .cell) (hN : X.N.Nodup) (hfp : ∀ b ∈ fp, FpOk X pins H b ∧ b < s.heap.objs.size)
    (hA : A'.handled = none) (hfr : A'.frames = some (genEnv scope (cloFrom X.env.cells scope.names []) s.heap.objs.size code builtinsNs X.env :: X.stack))
    (os : s5.os = s.os) (hb : AllBare s5.gens) (kp : ∀ b o, s.heap.get? b = some o → s5.heap.get? b = some o) (hn : s5.heap.Ns s.heap.objs.size m0) :
    Inv (gxOf X s H (genEnv scope (cloFrom X.env.cells scope.names []) s.heap.objs.size code builtinsNs X.env) A' fp) [] (wipe σ (own.map (·.2))) H s5 := by
  have hfree : ∀ y ∈ scope.names, y.2 = .free → ∃ c, X.env.cells.lookup y.1 = some c := fun y hy e => by
    rcases ok.free y hy e with k | k
    · exact I.ok.has _ (.inl k)
    · exact I.ok.has _ (.inr k)
  generalize hcenv : genEnv scope (cloFrom X.env.cells scope.names []) s.heap.objs.size code builtinsNs X.env = cenv at hfr ⊢
  have hL : cenv.locals = s.heap.objs.size := by rw [← hcenv]; rfl
  have hcl : cenv.cells = cloFrom X.env.cells scope.names [] := by rw [← hcenv]; rfl
  have hsc : cenv.scope = scope := by rw [← hcenv]; rfl
  have hfrm : cenv.frame = some cenv.locals := by rw [← hcenv]; rfl
  have cm : ∀ {y c}, (y, c) ∈ cloFrom X.env.cells scope.names [] → X.env.cells.lookup y = some c ∧ c < s.heap.objs.size := fun {y c} hm => by
    rcases cloFrom_mem hm with hm | ⟨h1, rfl⟩
    · cases hm
    · obtain ⟨c, hc⟩ := hfree _ h1 rfl
      rw [hc]
      obtain ⟨w, z⟩ := I.cell _ _ hc
      exact ⟨rfl, z.lt⟩
  have mem : ∀ {y c}, cenv.cells.lookup y = some c → (X.env.cells.lookup y = some c ∧ c < s.heap.objs.size) := fun {y c} e => by
    rw [hcl] at e
    exact cm (PySem.mem_of_lookup e)
  have look : ∀ {y}, scope.names.lookup y = some .free → ∃ c, cenv.cells.lookup y = some c ∧ X.env.cells.lookup y = some c := fun {y} hl => by
    have hy : (y, NameKind.free) ∈ scope.names := PySem.mem_of_lookup hl
    obtain ⟨c', e'⟩ := mem_lookup (cloFrom_has (cells := X.env.cells) (acc := []) hy)
    rw [← hcl] at e'
    exact ⟨c', e', (mem e').1⟩
  have noCell : ∀ {y}, scope.names.lookup y ≠ some .cell := fun {y} e => hcell _ (PySem.mem_of_lookup e) rfl
  have okB : (gxOf X s H cenv A' fp).Ok := by
    refine ⟨I.ok.mod, by show cenv.scope.kind = _; rw [hsc]; exact ok.kind, by show cenv.globals = _; rw [← hcenv]; exact I.ok.glob, by show cenv.builtins = _; rw [← hcenv]; rfl, by show s.heap.objs.size ≤ cenv.locals; rw [hL]; exact Nat.le_refl _,
      fun y z c e1 e2 => ?_, fun y hy => ?_, fun y c z e => ?_, fun _ => hA, hfr, .inr ⟨rfl, hfrm⟩, fun b hb => ⟨?_, fun y c e z => ?_⟩, I.bs, Nat.le_trans I.ok.bsz I.sz, fun b o e hb => ?_, fun b hb z => ?_, I.stack, I.stkFree⟩
    · have e1 : cenv.cells.lookup y = some c := e1
      have e2 : cenv.cells.lookup z = some c := e2
      exact I.ok.inj y z c (mem e1).1 (mem e2).1
    · show ∃ c, cenv.cells.lookup y = some c
      have hy : cenv.scope.names.lookup y = some .cell ∨ cenv.scope.names.lookup y = some .free := hy
      rw [hsc] at hy
      rcases hy with hy | hy
      · exact absurd hy noCell
      · obtain ⟨c, h1, _⟩ := look hy
        exact ⟨c, h1⟩
    · cases z
    · show b ≠ cenv.locals
      rw [hL]; exact Nat.ne_of_lt (hfp b hb).2
    · have e : cenv.cells.lookup y = some c := e
      exact (hfp b hb).1.2.2.2.2.1 y c (mem e).1 z
    · rcases (hfp b hb).1.2.2.2.1 with z | z
      · exact I.ok.noex b o e z
      · exact absurd (Nat.lt_of_lt_of_le (Heap.lt_size e) (Nat.le_trans I.ok.bsz z)) (Nat.lt_irrefl _)
    · rcases List.mem_cons.mp (I.stkSub b z) with z | z
      · exact (hfp b hb).1.2.1 z
      · exact (hfp b hb).1.2.2.1 z
  refine ⟨okB, os, hb, Un.kept kp, ⟨m0, ?_, fun i y av e1 e2 e3 => ?_⟩, fun y c e => ?_, ?_, fun y c e => ?_, fun p hp => ?_, I.hok.kept kp, by rw [wipe_length]; exact I.len⟩
  · show Heap.Ns _ cenv.locals _
    rw [hL]; exact hn
  · obtain ⟨e2, hne⟩ := wipe_some e2
    have e3 : cenv.scope.names.lookup y = some .local ∨ cenv.scope.names.lookup y = some .cell ∨ cenv.scope.names.lookup y = some .free := e3
    rw [hsc] at e3
    have no : ¬ (scope.names.lookup y = some .local) := fun e => by
      rcases ok.own _ (PySem.mem_of_lookup e) (.inl rfl) with e' | e'
      · obtain ⟨p, hp, hpy⟩ := List.mem_map.mp e'
        have e3 := ok.ix p hp
        have : p.1 = y := hpy
        rw [this] at e3
        exact hne (List.mem_map.mpr ⟨p, hp, nodup_ix hN e3 e1⟩)
      · exact e' (List.mem_of_getElem? e1)
    have hfr2 : scope.names.lookup y = some .free := by
      rcases e3 with e3 | e3 | e3
      · exact absurd e3 no
      · exact absurd e3 noCell
      · exact e3
    obtain ⟨m, hn, hl⟩ := I.loc
    have hvis : Vis X.env.scope y := (ok.free _ (PySem.mem_of_lookup hfr2) rfl).elim (fun k => .inr (.inl k)) (fun k => .inr (.inr k))
    obtain ⟨w, r, q⟩ := hl i y av e1 e2 hvis
    refine ⟨w, r, .inr ⟨.inr (by show cenv.scope.names.lookup y = _; rw [hsc]; exact hfr2), ?_⟩⟩
    obtain ⟨c, h1, h2⟩ := look hfr2
    rcases q with ⟨k, _⟩ | ⟨_, c', e', z⟩
    · have k : X.env.scope.names.lookup y = some .local := k
      rcases ok.free _ (PySem.mem_of_lookup hfr2) rfl with k' | k' <;> rw [show X.env.scope.names.lookup y = _ from k'] at k <;> cases k
    · rw [h2] at e'; cases e'
      exact ⟨c, h1, z.keeps kp⟩
  · have e : cenv.cells.lookup y = some c := e
    obtain ⟨w, z⟩ := I.cell y c (mem e).1
    exact ⟨w, z.keeps kp⟩
  · show H cenv.locals = none
    rw [hL]; exact I.hok.fresh (Nat.le_refl _)
  · have e : cenv.cells.lookup y = some c := e
    exact I.freeC y c (mem e).1
  · exact absurd (show p ∈ ([] : List (Addr × Obj)) ++ [] from hp) (by simp)
end
end GA
set_option Elab.async false
set_option linter.all false
set_option maxRecDepth 100000
set_option maxHeartbeats 2000000
namespace GA
open PySem PySem.Spec PyProof.Rows L2 GxR

/-- between the turns of a generator expression; cp: what its consumer holds -/
def InvG (G : Cx) (fp : List Addr) (tn : Nat → Heap → Prop) (τ : L2.St) (a : Addr) (go : Obj) (i : Nat) (cp : List (Addr × Obj)) (H : Hp) (s : Shared) : Prop :=
  Inv G ((a, go) :: cp) τ H s ∧ tn i s.heap ∧ (∀ b ∈ fp, H b = none) ∧ a ∉ fp ∧ ∀ p ∈ cp, p.1 ∉ fp
/-- what the consumer holds, by what has come so far -/
abbrev TCp := List V → List (Addr × Obj) → Prop
/-- what the consumer does with an item: those before it, it, the heap, how it goes on -/
abbrev TK := List V → V → Hp → (List V → Hp → Prop) → Prop
def YG (G : Cx) (fp : List Addr) (tn : Nat → Heap → Prop) (τ : L2.St) (a : Addr) (go : Obj) (CP : TCp) (K : TK) : Protocol := fun n s₀ v s kap =>
  ∃ (y : V) (H' : Hp) (cp : List (Addr × Obj)) (acc : List V) (i : Nat) (Nx : List V → Hp → Prop), RelV y v ∧ InvG G fp tn τ a go i cp H' s ∧ CP acc cp ∧ (∀ p ∈ cp, s₀.heap.get? p.1 = some p.2) ∧ K acc y H' Nx ∧
    ∀ cp' acc' H'' s'', InvG G fp tn τ a go i cp' H'' s'' → CP acc' cp' → Nx acc' H'' → kap (.send .none) s''
def PGn (G : Cx) (τ : L2.St) (a : Addr) (go : Obj) (CP : TCp) (stop : List V → Hp → Prop) : Nat → Shared → Shared → Prop := fun n s₀ s =>
  ∃ (H' : Hp) (cp : List (Addr × Obj)) (acc : List V), Inv G ((a, go) :: cp) τ H' s ∧ CP acc cp ∧ (∀ p ∈ cp, s₀.heap.get? p.1 = some p.2) ∧ stop acc H'
/-- the turns -/
def Turns (J : It) (g : TG) (tt : TT) (te : TE) (vs : List Nat) (σ : L2.St) (stop : List V → Hp → Prop) (K : TK) (W : Nat → Nat → List V → Hp → Prop) : Prop :=
  ∀ i m acc H, W i m acc H → (J.stop i H ∧ stop acc H) ∨ (J.go i H ∧ ∃ Nx : List V → Hp → Prop, (∀ acc' H', Nx acc' H' → ∃ m', m' < m ∧ W (i + 1) m' acc' H') ∧ ∀ x H', J.yld i H x H' → g x (wipe σ vs) H' fun σ2 H2 => wipe σ2 vs = wipe σ vs ∧ tt σ2 H2 fun b H3 =>
    if b = true then te σ2 H3 fun y H4 => K acc y H4 Nx else Nx acc H3)

section
variable {X : Cx} {s4 : Shared} {H4 : Hp} {cenv : Env} {A' B : Around} {fp : List Addr}
theorem seg_gx {elt tg iter : Expr} {ifs : List Expr} {scope : Scope} {pos : Pos} {it a : Addr} {go : Obj} {J : It} {tn : Nat → Heap → Prop} {g : TG} {tt : TT} {te : TE} {vs : List Nat} {σ : L2.St} {stop : List V → Hp → Prop} {CP : TCp} {K : TK} {W : Nat → Nat → List V → Hp → Prop}
    (hB : B.deeper cenv = A') (hco : cenv.scope.isCoroutine = false) (T : Turn X.prog X.w X.K tg J fp it tn) (pg : PG (gxOf X s4 H4 cenv A' fp) tg g) (pt : PTs (gxOf X s4 H4 cenv A' fp) ifs tt) (pe : PE (gxOf X s4 H4 cenv A' fp) elt te)
    (turn : Turns J g tt te vs σ stop K W) :
    ∀ (m n i : Nat) (acc : List V) (cp : List (Addr × Obj)) (H : Hp) (s₀ s : Shared), m + 1 ≤ n → InvG (gxOf X s4 H4 cenv A' fp) fp tn (wipe σ vs) a go i cp H s → CP acc cp → (∀ p ∈ cp, s₀.heap.get? p.1 = some p.2) → W i m acc H →
      Seg (model X.prog X.w) B (fun n s₀ r s₁ => r = .ok .next ∧ PGn (gxOf X s4 H4 cenv A' fp) (wipe σ vs) a go CP stop n s₀ s₁) (YG (gxOf X s4 H4 cenv A' fp) fp tn (wipe σ vs) a go CP K) n s₀
        (.compLoop (.GeneratorExp elt [⟨tg, iter, ifs, 0⟩] scope pos) 0 (.ref it) .none cenv)
        ((model X.prog X.w).den (.compLoop (.GeneratorExp elt [⟨tg, iter, ifs, 0⟩] scope pos) 0 (.ref it) .none cenv)) [] s := by
  have hov : B.over (.compLoop (.GeneratorExp elt [⟨tg, iter, ifs, 0⟩] scope pos) 0 (.ref it) .none cenv) [] = (gxOf X s4 H4 cenv A' fp).A := over_comp.trans hB
  intro m
  induction m using Nat.strongRecOn with
  | ind m ih =>
    intro n i acc cp H s₀ s hn hI hcp h0 w
    have hI0 := hI
    obtain ⟨I, st, hz, hafp, hcfp⟩ := hI
    have stat : ∀ {pins' : List (Addr × Obj)} {σ' : L2.St} {H' : Hp} {s' : Shared}, (∀ p ∈ pins', p.1 ∉ fp) → Inv (gxOf X s4 H4 cenv A' fp) pins' σ' H' s' → (∀ b ∈ fp, H' b = none) → ∀ b ∈ fp, FpOk (gxOf X s4 H4 cenv A' fp) pins' H' b := fun {pins' σ' H' s'} hp I' hn b hb =>
      ⟨hn b hb, (I'.ok.exf b hb).1, I'.ok.exfs b hb, .inl hb, fun x c e => (I'.ok.exf b hb).2 x c e, fun p hp2 e => by
        have hp2 : p ∈ ([] : List (Addr × Obj)) ++ pins' := hp2
        exact hp p (by simpa using hp2) (e ▸ hb)⟩
    have hpin : ∀ p ∈ (a, go) :: cp, p.1 ∉ fp := fun p hp => by
      rcases List.mem_cons.mp hp with e | e
      · rw [e]; exact hafp
      · exact hcfp p e
    show Seg _ B _ _ _ s₀ _ ((compTurn (.GeneratorExp elt [⟨tg, iter, ifs, 0⟩] scope pos) 0 (.ref it) .none cenv).onRaise (leaving cenv)) [] s
    rw [compTurn_gen, Sem.onRaise_eq_wrap]
    refine seg_bind_wrap (wpAny_standAt ?_)
    refine seg_bind_wrap ?_
    rw [hov]
    rcases turn i m acc H w with ⟨hstop, qq⟩ | ⟨hgo, Nx, hNx, step⟩
    · have td := T.done (gxOf X s4 H4 cenv A' fp) rfl rfl rfl rfl i _ s _ H (fun _ _ => False) I (stat hpin I hz) st hstop
      refine thnF td fun r s6 ⟨hr, I6⟩ => ?_
      subst hr
      exact seg_end (.ok .next) ⟨rfl, H, cp, acc, I6, hcp, h0, qq⟩
    · have ti := T.item (gxOf X s4 H4 cenv A' fp) rfl rfl rfl rfl i _ s _ H (fun _ _ => False) I (stat hpin I hz) st hgo
      refine thnF ti fun r s6 ⟨u, hr, h6⟩ => ?_
      subst hr
      refine seg_bind_wrap ?_
      rw [hov]
      refine thnF h6 fun _ s7 ⟨x, H7, I7, r7, y7, st7, n7⟩ => ?_
      have I7' := I7.pinned (stat hpin I7 n7) (T.obj _ _ st7)
      refine seg_bind_wrap ?_
      rw [hov]
      refine thnF (pg.run _ s7 _ H7 x u _ I7' r7 (step x H7 y7)) fun _ s8 ⟨σ8, H8, I8, hw8, q8⟩ => ?_
      refine seg_bind_wrap ?_
      rw [hov]
      refine thnF (pt.run _ s8 σ8 H8 _ I8 q8) fun b s9 ⟨H9, I9, q9⟩ => ?_
      have fin : ∀ {s' : Shared} {H' : Hp}, Inv (gxOf X s4 H4 cenv A' fp) (((a, go) :: cp) ++ pinsAt fp s7.heap) σ8 H' s' → InvG (gxOf X s4 H4 cenv A' fp) fp tn (wipe σ vs) a go (i + 1) cp H' s' := fun {s' H'} I' => by
        have pin' : ∀ b ∈ fp, ∀ o, s7.heap.get? b = some o → s'.heap.get? b = some o ∧ H' b = none := fun b hb o e =>
          let z := I'.pin (b, o) (List.mem_append_right _ (List.mem_append_right _ (mem_pinsAt hb e)))
          ⟨z.1, z.2.1⟩
        have hl : (wipe σ vs).length = σ8.length := by rw [← hw8, wipe_length]
        refine ⟨(I'.unpinned (pins := (a, go) :: cp)).weak hl (fun j v e => ?_), T.keep _ _ _ st7 fun b hb o e => (pin' b hb o e).1, fun b hb => ?_, hafp, hcfp⟩
        · rw [← hw8] at e
          exact (wipe_some e).1
        · obtain ⟨o, e, _⟩ := T.obj _ _ st7 b hb
          exact (pin' b hb o e).2
      cases b with
      | false =>
        simp only [Bool.false_eq_true, if_false] at q9 ⊢
        obtain ⟨m', hm, w'⟩ := hNx acc H9 q9
        exact seg_again rfl (ih m' hm n (i + 1) acc cp H9 s₀ s9 (by omega) (fin I9) hcp h0 w')
      | true =>
        simp only [if_true] at q9 ⊢
        have hy : ∀ v, yieldOut cenv v = yieldValue v := fun v => by simp only [yieldOut, hco, Bool.false_eq_true, if_false]
        simp only [hy]
        rw [Sem.bind_eq_wrap', Sem.bind_eq_wrap', Sem.wrap_wrap, Sem.wrap_wrap]
        refine seg_wrap ?_
        rw [hov]
        refine thnF (pe.run _ s9 σ8 H9 _ I9 q9) fun z s10 ⟨yv, H10, I10, r10, hK⟩ => ?_
        obtain ⟨k, rfl⟩ : ∃ k, n = k + 1 := ⟨n - 1, by omega⟩
        refine seg_at (seg_yield rfl rfl rfl ⟨yv, H10, cp, acc, i + 1, Nx, r10, fin I10, hcp, h0, hK, fun cp' acc' H'' s'' hI'' hcp'' hnx => ?_⟩)
        obtain ⟨m', hm, w'⟩ := hNx acc' H'' hnx
        exact seg_again rfl (ih m' hm k (i + 1) acc' cp' H'' s'' s'' (by omega) hI'' hcp'' (fun p hp => (hI''.1.pin p (List.mem_append_right _ (List.mem_cons_of_mem _ hp))).1) w')
end
end GA
set_option Elab.async false
set_option linter.all false
set_option maxRecDepth 100000
set_option maxHeartbeats 2000000
namespace GA
open PySem PySem.Spec PyProof.Rows L2 GxR

section
variable {X : Cx} {s4 : Shared} {H4 : Hp} {cenv : Env} {A' B : Around} {fp : List Addr}
theorem seg_gxStart {elt tg iter : Expr} {ifs : List Expr} {scope : Scope} {pos : Pos} {it a : Addr} {go : Obj} {J : It} {tn : Nat → Heap → Prop} {g : TG} {tt : TT} {te : TE} {vs : List Nat} {σ : L2.St} {stop : List V → Hp → Prop} {CP : TCp} {K : TK} {W : Nat → Nat → List V → Hp → Prop}
    (hB : B.deeper cenv = A') (hco : cenv.scope.isCoroutine = false) (T : Turn X.prog X.w X.K tg J fp it tn) (pg : PG (gxOf X s4 H4 cenv A' fp) tg g) (pt : PTs (gxOf X s4 H4 cenv A' fp) ifs tt) (pe : PE (gxOf X s4 H4 cenv A' fp) elt te)
    (turn : Turns J g tt te vs σ stop K W) {m n : Nat} {cp : List (Addr × Obj)} {H : Hp} {s₀ s : Shared} (hn : m + 1 ≤ n) (hI : InvG (gxOf X s4 H4 cenv A' fp) fp tn (wipe σ vs) a go 0 cp H s) (hcp : CP [] cp) (h0 : ∀ p ∈ cp, s₀.heap.get? p.1 = some p.2) (w : W 0 m [] H) :
      Seg (model X.prog X.w) B (fun n s₀ r s₁ => r = .ok .next ∧ PGn (gxOf X s4 H4 cenv A' fp) (wipe σ vs) a go CP stop n s₀ s₁) (YG (gxOf X s4 H4 cenv A' fp) fp tn (wipe σ vs) a go CP K) n s₀
        (.compStart (.GeneratorExp elt [⟨tg, iter, ifs, 0⟩] scope pos) 0 (.ref it) .none cenv)
        ((model X.prog X.w).den (.compStart (.GeneratorExp elt [⟨tg, iter, ifs, 0⟩] scope pos) 0 (.ref it) .none cenv)) [] s := by
  have loop := seg_gx (iter := iter) (scope := scope) (pos := pos) hB hco T pg pt pe turn m n 0 [] cp H s₀ s hn hI hcp h0 w
  have st := hI.2.1
  show Seg _ B _ _ _ s₀ _ ((compStart (.GeneratorExp elt [⟨tg, iter, ifs, 0⟩] scope pos) 0 (.ref it) .none cenv).onRaise (leaving cenv)) [] s
  unfold compStart
  rw [Sem.onRaise_eq_wrap]
  show Seg _ B _ _ _ s₀ _ ((ask >>= _).wrap _ _ _ _) [] s
  refine seg_bind_wrap (wpAny_askSetting ?_)
  split
  · exact seg_again rfl loop
  · first
      | exact seg_bind_wrap (wpAny_rule (seg_bind_wrap (wpAny_standAt (seg_bind_wrap (T.self _ 0 s _ _ st (seg_again rfl loop))))))
      | (refine seg_bind_wrap (wpAny_rule ?_); show Seg _ B _ _ _ s₀ _ ((standAt iter.pos >>= _).wrap _ _ _ _) [] s; exact seg_bind_wrap (wpAny_standAt (seg_bind_wrap (T.self _ 0 s _ _ st (seg_again rfl loop)))))

/-- back in the def's own context -/
theorem gx_back {pins pins' : List (Addr × Obj)} {σ τ : L2.St} {H' : Hp} {s' : Shared} (I : Inv X pins σ H4 s4) (hfp : ∀ b ∈ fp, FpOk X pins H4 b) (J : Inv (gxOf X s4 H4 cenv A' fp) pins' τ H' s') : Inv X pins σ H' s' :=
  I.call' (ch := fp) J.os J.base J.hok J.bare fun b hb => ⟨(hfp b hb).2.2.2.1, (hfp b hb).2.1, (hfp b hb).2.2.2.2.1, (hfp b hb).2.2.2.2.2⟩
end

/-- the reading of a generator expression under a consumer -/
def tGx (P : Addr) (wi : TI) (g : TG) (tt : TT) (te : TE) (vs : List Nat) (stop : List V → Hp → Prop) (K : TK) : L2.St → Hp → Prop := fun σ H => wi σ H fun J H1 => TabG H1 P ∧ ∀ H2, Tabbed P H1 H2 →
  ∃ W : Nat → Nat → List V → Hp → Prop, (∃ m, W 0 m [] H2) ∧ Turns J g tt te vs σ stop K W

/-- the generator at a has not begun; its frame's context hangs on the around in which it is woken -/
def Ready (X : Cx) (pins : List (Addr × Obj)) (σ : L2.St) (stop : List V → Hp → Prop) (K : TK) (k : Nat) (a : Addr) (s5 : Shared) : Prop :=
  ∃ (s4 : Shared) (H4 : Hp) (cenv : Env) (fp : List Addr) (tn : Nat → Heap → Prop) (τ : L2.St) (go : Obj) (gn : Nat) (c : Code),
    Inv X pins σ H4 s4 ∧ (∀ b ∈ fp, FpOk X pins H4 b) ∧ s4.heap.objs.size ≤ a ∧ (∀ b ∈ fp, b < s4.heap.objs.size) ∧ (∀ i h h', tn i h → (∀ b ∈ fp, ∀ o, h.get? b = some o → h'.get? b = some o) → tn i h') ∧ (∀ h : Heap, h.get? a = some go → h.IsGen a gn) ∧ s5.gens[gn]? = some (.fresh c) ∧
    ∀ (B : Around) (CP : TCp), Room k (B.deeper cenv) → B.frames = some X.stack →
      InvG (gxOf X s4 H4 cenv (B.deeper cenv) fp) fp tn τ a go 0 [] H4 s5 ∧
      ∀ (cp : List (Addr × Obj)) (s'' : Shared), InvG (gxOf X s4 H4 cenv (B.deeper cenv) fp) fp tn τ a go 0 cp H4 s'' → CP [] cp → ∃ n,
        Seg (model X.prog X.w) B (fun n s₀ r s₁ => r = .ok .next ∧ PGn (gxOf X s4 H4 cenv (B.deeper cenv) fp) τ a go CP stop n s₀ s₁) (YG (gxOf X s4 H4 cenv (B.deeper cenv) fp) fp tn τ a go CP K) n s'' c ((model X.prog X.w).den c) [] s''

/-- the scope of a generator expression, beside BlkOk -/
structure GxS (scope : Scope) : Prop where
  co : scope.isCoroutine = false
  cell : ∀ y ∈ scope.names, y.2 ≠ .cell
  dot : scope.names.lookup (".0" : Str) = some NameKind.local

section
variable {X : Cx} {pins : List (Addr × Obj)} {σ : L2.St} {H : Hp} {s : Shared}
theorem gx_make {c P : Addr} {elt tg iter : Expr} {ifs : List Expr} {scope : Scope} {own : List (Str × Nat)} {gpos : Pos} {wi : TI} {g : TG} {tt : TT} {te : TE} {stop : List V → Hp → Prop} {K : TK} {k : Nat} {Q' : Value → Shared → Prop}
    (hdp : X.A.depth < recursionLimit) (hN : X.N.Nodup) (TB : TabB X.base X.mg c P) (hcode : X.env.code = .ref c) (S : GxS scope) (ok : BlkOk X.N X.env.scope scope own) (hi : PI X tg iter wi)
    (hg : ∀ (s4 : Shared) (H4 : Hp) (C : Addr) (code : Value) (A' : Around) (fp : List Addr), Room k A' → PG (gxOf X s4 H4 (genEnv scope (cloFrom X.env.cells scope.names []) C code builtinsNs X.env) A' fp) tg g)
    (ht : ∀ (s4 : Shared) (H4 : Hp) (C : Addr) (code : Value) (A' : Around) (fp : List Addr), Room k A' → PTs (gxOf X s4 H4 (genEnv scope (cloFrom X.env.cells scope.names []) C code builtinsNs X.env) A' fp) ifs tt)
    (he : ∀ (s4 : Shared) (H4 : Hp) (C : Addr) (code : Value) (A' : Around) (fp : List Addr), Room k A' → PE (gxOf X s4 H4 (genEnv scope (cloFrom X.env.cells scope.names []) C code builtinsNs X.env) A' fp) elt te)
    (hs : ∀ v, genFold iter X.env v = pure v) (I : Inv X pins σ H s) (h : tGx P wi g tt te (own.map (·.2)) stop K σ H)
    (hQ : ∀ a s5, Ready X pins σ stop K k a s5 → Q' (.ref a) s5) :
    wpAny (model X.prog X.w) X.A (eval (.GeneratorExp elt [⟨tg, iter, ifs, 0⟩] scope gpos) X.env) Q' X.xe s := by
  have hfree : ∀ y ∈ scope.names, y.2 = .free → ∃ c, X.env.cells.lookup y.1 = some c := fun y hy e => by
    rcases ok.free y hy e with k | k
    · exact I.ok.has _ (.inl k)
    · exact I.ok.has _ (.inr k)
  refine wpAny_GeneratorExp_make S.co (closure_ok hfree) S.cell S.dot ok.kind hdp ?_ hs
  refine thn (hi.run pins s σ H _ I h) fun xv s1 hx => thn hx fun itv s2 h2 => ?_
  obtain ⟨it, fp, tn, J, H2, e, I2, T, st2, f2, ⟨ps, hP, hti⟩, q⟩ := h2
  subst e
  refine ⟨I2.nolimit, ?_⟩
  have hPs : s2.heap.get? P = some { cls := .none, data := .fields ps } := I2.hok P _ hP
  have hPlt : P < s2.heap.objs.size := Heap.lt_size hPs
  have cd : PySem.W.CodeHd s2.heap c P := TB.code.keeps I2.bk
  have fpP : ∀ b ∈ fp, b ≠ P := fun b hb z => by
    have := (f2 b hb).1
    rw [z, hP] at this; cases this
  have fplt : ∀ b ∈ fp, b < s2.heap.objs.size := fun b hb => by
    obtain ⟨o, e, _⟩ := T.obj _ _ st2 b hb
    exact Heap.lt_size e
  have cont : ∀ (code : Value) (h3 : Heap) (tk : Nat) (more : Array Value), Heap.ExtBut P s2.heap h3 → s2.heap.objs.size ≤ h3.objs.size → h3.get? P = some { cls := .none, data := .fields (ps ++ more) } → TriplesOk (ps ++ more).toList →
      wpAny (model X.prog X.w) X.A (builtinsFor X.env.globals X.env.builtins) (fun bi s₄ =>
        ∀ h', h'.Ns s₄.heap.objs.size (fun y => if y = ".0" then some (.ref it) else none) → Heap.SameBut s₄.heap.objs.size (s₄.heap.push { cls := .type "frame", data := .dict #[] }) h' →
          Q' (.ref h'.objs.size) { s₄ with
            gens := s₄.gens.push (.fresh (.compStart (.GeneratorExp elt [⟨tg, iter, ifs, 0⟩] scope gpos) 0 (.ref it) .none (genEnv scope (cloFrom X.env.cells scope.names []) s₄.heap.objs.size code bi X.env))),
            toks := s₄.toks + 1 + 1 + 1,
            heap := h'.push { cls := .type "generator", data := .fields #[.int s₄.gens.size 0, .str "<genexpr>" (s₄.toks + 1), .str (X.env.qual ++ "<genexpr>") (s₄.toks + 1 + 1)] } }) X.xe { s2 with heap := h3, toks := tk } := by
    intro code h3 tk more hx hsz hP3 ht3
    obtain ⟨bm, ob, e1, e2, e3, e4, e5, e6, e7, e8⟩ := TB.bm
    have keep3 : ∀ b u, b ≠ P → s2.heap.get? b = some u → h3.get? b = some u := fun b u hb e => hx b u hb e
    refine wpAny_builtinsFor (m := X.mg) (by rw [I2.ok.glob]; exact (I2.mod.glob.keeps I2.bk).extBut hx TB.gP) e1 e2 (keep3 _ _ e4 (I2.bk _ _ e5)) e6 e7 e8 ?_
    have I4 := inv_tab (more := more) (h' := h3) (g' := s2.gens) (d' := s2.drawn) (t' := tk) I2 hP keep3 hP3 I2.bare
    have hT4 : Tabbed P H2 (upd H2 P (.tbl (ps ++ more))) := ⟨⟨ps ++ more, upd_same, ht3⟩, fun b hb => upd_ne hb⟩
    obtain ⟨W, ⟨m0, w0⟩, turn⟩ := q _ hT4
    generalize hH4 : upd H2 P (.tbl (ps ++ more)) = H4 at I4 w0
    have nfp : ∀ b ∈ fp, H4 b = none := fun b hb => by rw [← hH4, upd_ne (fpP b hb)]; exact (f2 b hb).1
    generalize hs4 : ({ s2 with heap := h3, gens := s2.gens, drawn := s2.drawn, toks := tk } : Shared) = s4 at I4
    have st4 : tn 0 s4.heap := by rw [← hs4]; exact T.keep _ _ _ st2 fun b hb o e => keep3 b o (fpP b hb) e
    have f4 : ∀ b ∈ fp, FpOk X pins H4 b := fun b hb => ⟨nfp b hb, (f2 b hb).2⟩
    have lt4 : ∀ b ∈ fp, b < s4.heap.objs.size := fun b hb => by rw [← hs4]; exact Nat.lt_of_lt_of_le (fplt b hb) hsz
    intro h' hn' hs'
    have hsz' : h'.objs.size = s4.heap.objs.size + 1 := by rw [hs'.1, Heap.size_push]
    have keep' : ∀ b o, s4.heap.get? b = some o → h'.get? b = some o := fun b o e => hs'.extBut b o (Nat.ne_of_lt (Heap.lt_size e)) (Heap.get?_push_of_some _ e)
    generalize hcv : genEnv scope (cloFrom X.env.cells scope.names []) s4.heap.objs.size code builtinsNs X.env = cenv
    generalize hgo : ({ cls := .type "generator", data := .fields #[.int s4.gens.size 0, .str "<genexpr>" (s4.toks + 1), .str (X.env.qual ++ "<genexpr>") (s4.toks + 1 + 1)] } : Obj) = go
    have hgen : ∀ h : Heap, h.get? h'.objs.size = some go → h.IsGen h'.objs.size s4.gens.size := fun h e => ⟨go, _, _, e, by rw [← hgo], by rw [← hgo], by rw [← hgo]⟩
    have keep5 : ∀ b o, s4.heap.get? b = some o → (h'.push go).get? b = some o := fun b o e => Heap.get?_push_of_some _ (keep' b o e)
    have hpushed : (h'.push go).get? h'.objs.size = some go := Heap.get?_push_size _ (by rw [← hgo]; rfl)
    have hge4' : s4.heap.objs.size ≤ h'.objs.size := by rw [hsz']; exact Nat.le_succ _
    refine hQ _ _ ⟨s4, H4, cenv, fp, tn, wipe σ (own.map (·.2)), go, s4.gens.size, _, I4, f4, hge4', lt4, T.keep, hgen, Array.getElem?_push_size .., fun B CP hrB hfB => ?_⟩
    have hA : (B.deeper cenv).handled = none := hrB.hd
    have hfr : (B.deeper cenv).frames = some (cenv :: X.stack) := by
      show B.frames.map _ = _
      rw [hfB]; rfl
    have J5 : Inv (gxOf X s4 H4 cenv (B.deeper cenv) fp) [] (wipe σ (own.map (·.2))) H4 { s4 with
            gens := s4.gens.push (.fresh (.compStart (.GeneratorExp elt [⟨tg, iter, ifs, 0⟩] scope gpos) 0 (.ref it) .none cenv)),
            toks := s4.toks + 1 + 1 + 1, heap := h'.push go } := by
      have := gx_start (A' := B.deeper cenv) (code := code) (m0 := fun y => if y = ".0" then some (.ref it) else none) (s5 := { s4 with
            gens := s4.gens.push (.fresh (.compStart (.GeneratorExp elt [⟨tg, iter, ifs, 0⟩] scope gpos) 0 (.ref it) .none cenv)),
            toks := s4.toks + 1 + 1 + 1, heap := h'.push go }) I4 ok S.cell hN (fun b hb => ⟨f4 b hb, lt4 b hb⟩) hA (by rw [hcv]; exact hfr) rfl (AllBare.push I4.bare rfl) keep5 (hn'.push _)
      rw [hcv] at this
      exact this
    have hge4 : s4.heap.objs.size ≤ h'.objs.size := by rw [hsz']; exact Nat.le_succ _
    have hafp : h'.objs.size ∉ fp := fun hb => absurd (lt4 _ hb) (Nat.not_lt.mpr hge4)
    have cL : cenv.locals = s4.heap.objs.size := by rw [← hcv]; rfl
    refine ⟨⟨J5.pins_of fun p hp => ?_, T.keep _ _ _ st4 fun b _ o e => keep5 b o e, nfp, hafp, fun p hp => by simp at hp⟩, fun cp s'' hI hcp => ⟨m0 + 1, ?_⟩⟩
    · rw [List.mem_singleton.mp hp]
      refine ⟨hpushed, I4.hok.fresh (by rw [hsz']; exact Nat.le_succ _), ?_, ?_, fun v q => by rw [← hgo] at q; cases q⟩
      · show h'.objs.size ≠ cenv.locals
        rw [cL, hsz']; exact Nat.succ_ne_self _
      · intro hb
        rcases List.mem_cons.mp (I4.stkSub _ hb) with z | z
        · exact absurd I4.lt (Nat.not_lt.mpr (by rw [← z]; exact hge4))
        · exact I4.nofs (by rw [hsz']; exact Nat.le_succ _) z
    · have hco : cenv.scope.isCoroutine = false := by rw [← hcv]; exact S.co
      refine seg_gxStart (A' := B.deeper cenv) rfl hco T ?_ ?_ ?_ turn (Nat.le_refl _) hI hcp (fun p hp => (hI.1.pin p (List.mem_append_right _ (List.mem_cons_of_mem _ hp))).1) w0
      · rw [← hcv]; exact hg _ _ _ _ _ _ (by rw [hcv]; exact hrB)
      · rw [← hcv]; exact ht _ _ _ _ _ _ (by rw [hcv]; exact hrB)
      · rw [← hcv]; exact he _ _ _ _ _ _ (by rw [hcv]; exact hrB)
  cases hf : codeAmong gpos ps.toList with
  | none =>
    refine wpAny_genexprCodeX hcode (cd.code hPs hti) (cd.tab hPs) hf fun c' h' tk hx hge hlt hco' _ htab' _ => ?_
    obtain ⟨o1, vs, f1, tf, fl, tg, inF, tx, tt, op, _, _, _, _, _, _, _, _, _, htr, _⟩ := hco'
    exact cont _ h' tk _ hx (Nat.le_trans hge (Nat.le_of_lt hlt)) htab'.2 htr
  | some cv =>
    refine wpAny_genexprCode_hit hcode (cd.code hPs hti) hf ?_
    have e0 : ps ++ (#[] : Array Value) = ps := by simp
    exact cont cv s2.heap s2.toks #[] (Heap.ExtBut.refl _ _) (Nat.le_refl _) (by rw [e0]; exact hPs) (by rw [e0]; exact hti)
end
end GA
set_option Elab.async false
set_option linter.all false
set_option maxRecDepth 100000
set_option maxHeartbeats 2000000
namespace GA
open PySem PySem.Spec PyProof.Rows L2 GxR

/-- the generator sleeps, with n items at most to come -/
def Liv (M : Model) (B : Around) (R : GenEnd) (Y : Protocol) (gn : Nat) (n : Nat) (s : Shared) : Prop :=
  ∃ gs, s.gens[gn]? = some gs ∧ gs.Goes M B R Y n (.send .none) (s.setGen gn .running)
section
variable {G : Cx} {fp : List Addr} {tn : Nat → Heap → Prop} {τ : L2.St} {a : Addr} {go : Obj} {gn : Nat} {CP : TCp} {K : TK} {stop : List V → Hp → Prop}
abbrev RG (G : Cx) (τ : L2.St) (a : Addr) (go : Obj) (CP : TCp) (stop : List V → Hp → Prop) : GenEnd := fun n s₀ r s₁ => r = .ok .next ∧ PGn G τ a go CP stop n s₀ s₁
theorem invG_setGen {i : Nat} {cp : List (Addr × Obj)} {H : Hp} {s : Shared} {x : GenState} (h : InvG G fp tn τ a go i cp H s) (hx : x.bare = true) : InvG G fp tn τ a go i cp H (s.setGen gn x) :=
  ⟨inv_setGen h.1 hx, h.2⟩
theorem pin_gen {cp : List (Addr × Obj)} {H : Hp} {s : Shared} (hgo : ∀ h : Heap, h.get? a = some go → h.IsGen a gn) (h : Inv G ((a, go) :: cp) τ H s) : s.heap.IsGen a gn :=
  hgo _ (h.pin (a, go) (List.mem_append_right _ List.mem_cons_self)).1

theorem next_gx {A : Around} {n : Nat} {Q : Option Value → Shared → Prop} {E : Value → Shared → Prop} {s : Shared} (hh : A.handled = none) (hroom : A.depth < recursionLimit) (hgo : ∀ h : Heap, h.get? a = some go → h.IsGen a gn)
    (hg : s.heap.IsGen a gn) (hl : s.heap.NoLimit) (hv : Liv (model G.prog G.w) A.in1 (RG G τ a go CP stop) (YG G fp tn τ a go CP K) gn n s)
    (item : ∀ (v : Value) (y : V) (H' : Hp) (cp : List (Addr × Obj)) (acc : List V) (i : Nat) (Nx : List V → Hp → Prop) (gs' : GenState) (s' : Shared), RelV y v → InvG G fp tn τ a go i cp H' s' → CP acc cp → (∀ p ∈ cp, s.heap.get? p.1 = some p.2) → K acc y H' Nx → s'.gens[gn]? = some gs' →
      (∀ (cp' : List (Addr × Obj)) (acc' : List V) (H'' : Hp) (s'' : Shared), InvG G fp tn τ a go i cp' H'' s'' → CP acc' cp' → Nx acc' H'' → s''.gens[gn]? = some gs' → ∃ m, n = m + 1 ∧ Liv (model G.prog G.w) A.in1 (RG G τ a go CP stop) (YG G fp tn τ a go CP K) gn m s'') → Q (some v) s')
    (done : ∀ (H' : Hp) (cp : List (Addr × Obj)) (acc : List V) (s' : Shared), Inv G ((a, go) :: cp) τ H' s' → CP acc cp → (∀ p ∈ cp, s.heap.get? p.1 = some p.2) → stop acc H' → Q none s') :
    wpAny (model G.prog G.w) A (pyNext (.ref a)) Q E s := by
  obtain ⟨gs, hgs, hgoes⟩ := hv
  refine GenW.wpAny_gsz (Nat.le_refl _) ?_
  have hlt : gn < s.gens.size := by
    rcases Nat.lt_or_ge gn s.gens.size with h' | h'
    · exact h'
    · rw [Array.getElem?_eq_none h'] at hgs; cases hgs
  refine wpAny_mono (wpAny_pyNext_genexpQ (Q := fun o s' => s.gens.size ≤ s'.gens.size → Q o s') (E := fun _ _ => False) (P := PGn G τ a go CP stop) hh hl hroom hg hgs hgoes (fun v s₁ gs' hb hY => ?_) (fun s₁ hP h' hk => ?_)) (fun _ _ e => e) fun _ _ z => False.elim z
  · intro hsz
    obtain ⟨y, H', cp, acc, i, Nx, rv, hI, hcp, h0, hK, kap⟩ := hY
    have hlt1 : gn < s₁.gens.size := by
      have : s.gens.size ≤ (s₁.setGen gn gs').gens.size := hsz
      rw [GenW.setGen_size] at this
      omega
    refine item v y H' cp acc i Nx gs' _ rv (invG_setGen hI hb) hcp h0 hK (setGen_at hlt1) fun cp' acc' H'' s'' hI'' hcp'' hnx hgs'' => ?_
    have k := kap cp' acc' H'' (s''.setGen gn .running) (invG_setGen hI'' rfl) hcp'' hnx
    cases n with
    | zero => exact False.elim k
    | succ m => exact ⟨m, rfl, gs', hgs'', k⟩
  · intro _
    obtain ⟨H', cp, acc, I', hcp, h0, hst⟩ := hP
    refine done H' cp acc _ ?_ hcp h0 hst
    exact (inv_setGen (g := gn) (x := .finished) I' rfl).kept (t' := (s₁.setGen gn .finished).toks) hk
end

section
variable {G : Cx} {fp : List Addr} {tn : Nat → Heap → Prop} {τ : L2.St} {a : Addr} {go : Obj} {gn : Nat}
/-- the consumer «all» -/
def KAll (Q : VK) : TK := fun acc y H' nx => ∃ b, y = .bl b ∧ (b = false → Q (.bl false) H') ∧ (b = true → nx acc H')
def KAny (Q : VK) : TK := fun acc y H' nx => ∃ b, y = .bl b ∧ (b = true → Q (.bl true) H') ∧ (b = false → nx acc H')
theorem all_loop {A : Around} {Q : VK} {R : Result → Shared → Prop} (hh : A.handled = none) (hroom : A.depth < recursionLimit) (hgo : ∀ h : Heap, h.get? a = some go → h.IsGen a gn)
    (hR : ∀ b cp H' s', Inv G ((a, go) :: cp) τ H' s' → Q (.bl b) H' → R (.ok (.ret (.bool b))) s') :
    ∀ (n : Nat) (s : Shared), s.heap.IsGen a gn → s.heap.NoLimit → Liv (model G.prog G.w) A.in1.in1 (RG G τ a go (fun _ cp => cp = []) fun _ H' => Q (.bl true) H') (YG G fp tn τ a go (fun _ cp => cp = []) (KAll Q)) gn n s →
      codeAny (model G.prog G.w) A (.builtin "all.loop" ⟨[.ref a], []⟩) R s := by
  intro n
  induction n with
  | zero =>
    intro s hg hl hv
    refine codeAny_builtin F.entry_all_loop ?_
    rw [Around.under_plainId F.plain_all_loop _]
    show wpAny _ A.in1 (pyNext (.ref a) >>= _) _ _ s
    refine wpAny_bind (next_gx (A := A.in1) hh hroom hgo hg hl hv (fun v y H' cp acc i Nx gs' s' rv hI hcp h0 hK hgs' kont => ?_) (fun H' cp acc s' I' hcp h0 hst => ?_))
    · refine wpAny_bind (wpAny_holding ?_)
      obtain ⟨b, rfl, h1, h2⟩ := hK
      obtain rfl : v = .bool b := rv
      refine wpAny_truthy_bool (wpAny_bind (wpAny_letGo ?_))
      cases b with
      | true =>
        obtain ⟨m, e, _⟩ := kont cp acc H' s' hI hcp (h2 rfl) hgs'
        omega
      | false =>
        simp only [Bool.false_eq_true, if_false]
        exact wpAny_bind (wpAny_rule (wpAny_pure (hR false cp H' s' hI.1 (h1 rfl))))
    · exact wpAny_bind (wpAny_rule (wpAny_pure (hR true cp H' s' I' hst)))
  | succ n ih =>
    intro s hg hl hv
    refine codeAny_builtin F.entry_all_loop ?_
    rw [Around.under_plainId F.plain_all_loop _]
    show wpAny _ A.in1 (pyNext (.ref a) >>= _) _ _ s
    refine wpAny_bind (next_gx (A := A.in1) hh hroom hgo hg hl hv (fun v y H' cp acc i Nx gs' s' rv hI hcp h0 hK hgs' kont => ?_) (fun H' cp acc s' I' hcp h0 hst => ?_))
    · refine wpAny_bind (wpAny_holding ?_)
      obtain ⟨b, rfl, h1, h2⟩ := hK
      obtain rfl : v = .bool b := rv
      refine wpAny_truthy_bool (wpAny_bind (wpAny_letGo ?_))
      cases b with
      | true =>
        obtain ⟨m, e, lv⟩ := kont cp acc H' s' hI hcp (h2 rfl) hgs'
        obtain rfl : n = m := by omega
        simp only [if_true]
        exact wpAny_pure ⟨plainId_quiet F.plain_all_loop _, ih s' (pin_gen hgo hI.1) hI.1.nolimit lv⟩
      | false =>
        simp only [Bool.false_eq_true, if_false]
        exact wpAny_bind (wpAny_rule (wpAny_pure (hR false cp H' s' hI.1 (h1 rfl))))
    · exact wpAny_bind (wpAny_rule (wpAny_pure (hR true cp H' s' I' hst)))
theorem any_loop {A : Around} {Q : VK} {R : Result → Shared → Prop} (hh : A.handled = none) (hroom : A.depth < recursionLimit) (hgo : ∀ h : Heap, h.get? a = some go → h.IsGen a gn)
    (hR : ∀ b cp H' s', Inv G ((a, go) :: cp) τ H' s' → Q (.bl b) H' → R (.ok (.ret (.bool b))) s') :
    ∀ (n : Nat) (s : Shared), s.heap.IsGen a gn → s.heap.NoLimit → Liv (model G.prog G.w) A.in1.in1 (RG G τ a go (fun _ cp => cp = []) fun _ H' => Q (.bl false) H') (YG G fp tn τ a go (fun _ cp => cp = []) (KAny Q)) gn n s →
      codeAny (model G.prog G.w) A (.builtin "any.loop" ⟨[.ref a], []⟩) R s := by
  intro n
  induction n with
  | zero =>
    intro s hg hl hv
    refine codeAny_builtin F.entry_any_loop ?_
    rw [Around.under_plainId F.plain_any_loop _]
    show wpAny _ A.in1 (pyNext (.ref a) >>= _) _ _ s
    refine wpAny_bind (next_gx (A := A.in1) hh hroom hgo hg hl hv (fun v y H' cp acc i Nx gs' s' rv hI hcp h0 hK hgs' kont => ?_) (fun H' cp acc s' I' hcp h0 hst => ?_))
    · refine wpAny_bind (wpAny_holding ?_)
      obtain ⟨b, rfl, h1, h2⟩ := hK
      obtain rfl : v = .bool b := rv
      refine wpAny_truthy_bool (wpAny_bind (wpAny_letGo ?_))
      cases b with
      | false =>
        obtain ⟨m, e, _⟩ := kont cp acc H' s' hI hcp (h2 rfl) hgs'
        omega
      | true =>
        simp only [if_true]
        exact wpAny_bind (wpAny_rule (wpAny_pure (hR true cp H' s' hI.1 (h1 rfl))))
    · exact wpAny_bind (wpAny_rule (wpAny_pure (hR false cp H' s' I' hst)))
  | succ n ih =>
    intro s hg hl hv
    refine codeAny_builtin F.entry_any_loop ?_
    rw [Around.under_plainId F.plain_any_loop _]
    show wpAny _ A.in1 (pyNext (.ref a) >>= _) _ _ s
    refine wpAny_bind (next_gx (A := A.in1) hh hroom hgo hg hl hv (fun v y H' cp acc i Nx gs' s' rv hI hcp h0 hK hgs' kont => ?_) (fun H' cp acc s' I' hcp h0 hst => ?_))
    · refine wpAny_bind (wpAny_holding ?_)
      obtain ⟨b, rfl, h1, h2⟩ := hK
      obtain rfl : v = .bool b := rv
      refine wpAny_truthy_bool (wpAny_bind (wpAny_letGo ?_))
      cases b with
      | false =>
        obtain ⟨m, e, lv⟩ := kont cp acc H' s' hI hcp (h2 rfl) hgs'
        obtain rfl : n = m := by omega
        simp only [Bool.false_eq_true, if_false]
        exact wpAny_pure ⟨plainId_quiet F.plain_any_loop _, ih s' (pin_gen hgo hI.1) hI.1.nolimit lv⟩
      | true =>
        simp only [if_true]
        exact wpAny_bind (wpAny_rule (wpAny_pure (hR true cp H' s' hI.1 (h1 rfl))))
    · exact wpAny_bind (wpAny_rule (wpAny_pure (hR false cp H' s' I' hst)))
end

section
variable {X : Cx} {pins : List (Addr × Obj)} {σ : L2.St}
theorem call_all_gx {Q : VK} {Q' : Value → Shared → Prop} {E : Value → Shared → Prop} {k : Nat} {a : Addr} {s : Shared} (hr : Room (k + 1) X.A) (hf : X.A.frames = some X.stack) (h : Ready X pins σ (fun _ H' => Q (.bl true) H') (KAll Q) k a s)
    (hQ : ∀ b H' s', Inv X pins σ H' s' → Q (.bl b) H' → Q' (.bool b) s') : wpAny (model X.prog X.w) X.A (call (.builtin "all") [.ref a]) Q' E s := by
  obtain ⟨s4, H4, cenv, fp, tn, τ, go, gn, c, I4, f4, ha, lt4, hkeep, hgo, hgs, wake⟩ := h
  have rd : Room k (X.A.in1.in1.deeper cenv) := ⟨hr.hd, by have := hr.dp; show X.A.depth + 1 + 3 * k + 5 < _; omega, by have := hr.un; show X.A.units + 1 + 1 + 3 + 16 * k + 200 < _; omega⟩
  obtain ⟨hI, go0⟩ := wake X.A.in1.in1 (fun _ cp => cp = []) rd hf
  obtain ⟨n, sg⟩ := go0 [] (s.setGen gn .running) (invG_setGen hI rfl) rfl
  refine call_function_tree F.kind_all F.plain_all F.entry_all (F.args_all1 _) ?_
  unfold Builtin.«all»
  refine wpAny_bind (m := oneArg "all" _) (wpAny_pure ?_)
  refine wpAny_bind (wpAny_pyIter_gen (pin_gen hgo hI.1) ?_)
  refine wpAny_pure ⟨plainId_quiet F.plain_all_loop _, ?_⟩
  have hd : X.A.depth < recursionLimit := by have := hr.dp; omega
  refine all_loop (G := gxOf X s4 H4 cenv (X.A.in1.in1.deeper cenv) fp) (fp := fp) (tn := tn) (τ := τ) (gn := gn) (go := go) (Q := Q) hr.hd hd hgo (fun b cp H' s' I' hq => ?_) n s (pin_gen hgo hI.1) hI.1.nolimit ⟨_, hgs, rfl, sg⟩
  exact hQ b H' s' (gx_back I4 f4 I') hq
theorem call_any_gx {Q : VK} {Q' : Value → Shared → Prop} {E : Value → Shared → Prop} {k : Nat} {a : Addr} {s : Shared} (hr : Room (k + 1) X.A) (hf : X.A.frames = some X.stack) (h : Ready X pins σ (fun _ H' => Q (.bl false) H') (KAny Q) k a s)
    (hQ : ∀ b H' s', Inv X pins σ H' s' → Q (.bl b) H' → Q' (.bool b) s') : wpAny (model X.prog X.w) X.A (call (.builtin "any") [.ref a]) Q' E s := by
  obtain ⟨s4, H4, cenv, fp, tn, τ, go, gn, c, I4, f4, ha, lt4, hkeep, hgo, hgs, wake⟩ := h
  have rd : Room k (X.A.in1.in1.deeper cenv) := ⟨hr.hd, by have := hr.dp; show X.A.depth + 1 + 3 * k + 5 < _; omega, by have := hr.un; show X.A.units + 1 + 1 + 3 + 16 * k + 200 < _; omega⟩
  obtain ⟨hI, go0⟩ := wake X.A.in1.in1 (fun _ cp => cp = []) rd hf
  obtain ⟨n, sg⟩ := go0 [] (s.setGen gn .running) (invG_setGen hI rfl) rfl
  refine call_function_tree F.kind_any F.plain_any F.entry_any (F.args_any1 _) ?_
  unfold Builtin.«any»
  refine wpAny_bind (m := oneArg "any" _) (wpAny_pure ?_)
  refine wpAny_bind (wpAny_pyIter_gen (pin_gen hgo hI.1) ?_)
  refine wpAny_pure ⟨plainId_quiet F.plain_any_loop _, ?_⟩
  have hd : X.A.depth < recursionLimit := by have := hr.dp; omega
  refine any_loop (G := gxOf X s4 H4 cenv (X.A.in1.in1.deeper cenv) fp) (fp := fp) (tn := tn) (τ := τ) (gn := gn) (go := go) (Q := Q) hr.hd hd hgo (fun b cp H' s' I' hq => ?_) n s (pin_gen hgo hI.1) hI.1.nolimit ⟨_, hgs, rfl, sg⟩
  exact hQ b H' s' (gx_back I4 f4 I') hq

/-- all(elt for tg in iter if ..) -/
def tAllG (P : Addr) (wi : TI) (g : TG) (tt : TT) (te : TE) (vs : List Nat) : TE := fun σ H Q => tGx P wi g tt te vs (fun _ H' => Q (.bl true) H') (KAll Q) σ H
def tAnyG (P : Addr) (wi : TI) (g : TG) (tt : TT) (te : TE) (vs : List Nat) : TE := fun σ H Q => tGx P wi g tt te vs (fun _ H' => Q (.bl false) H') (KAny Q) σ H
theorem pe_allG {c P : Addr} {elt tg iter : Expr} {ifs : List Expr} {scope : Scope} {own : List (Str × Nat)} {p pos gpos : Pos} {wi : TI} {g : TG} {tt : TT} {te : TE} {k : Nat}
    (hr : Room (k + 1) X.A) (hc : X.calm = true) (hgl : Gl X "all") (hm : X.mg "all" = none) (hN : X.N.Nodup) (TB : TabB X.base X.mg c P) (hcode : X.env.code = .ref c) (S : GxS scope) (ok : BlkOk X.N X.env.scope scope own) (hi : PI X tg iter wi)
    (hg : ∀ (s4 : Shared) (H4 : Hp) (C : Addr) (code : Value) (A' : Around) (fp : List Addr), Room k A' → PG (gxOf X s4 H4 (genEnv scope (cloFrom X.env.cells scope.names []) C code builtinsNs X.env) A' fp) tg g)
    (ht : ∀ (s4 : Shared) (H4 : Hp) (C : Addr) (code : Value) (A' : Around) (fp : List Addr), Room k A' → PTs (gxOf X s4 H4 (genEnv scope (cloFrom X.env.cells scope.names []) C code builtinsNs X.env) A' fp) ifs tt)
    (hel : ∀ (s4 : Shared) (H4 : Hp) (C : Addr) (code : Value) (A' : Around) (fp : List Addr), Room k A' → PE (gxOf X s4 H4 (genEnv scope (cloFrom X.env.cells scope.names []) C code builtinsNs X.env) A' fp) elt te)
    (hs : ∀ v, genFold iter X.env v = pure v := by intro _; rfl)
    (he : starEach [.GeneratorExp elt [⟨tg, iter, ifs, 0⟩] scope gpos] X.env = (false, eval (.GeneratorExp elt [⟨tg, iter, ifs, 0⟩] scope gpos) X.env) :: starEach [] X.env := by rfl) :
    PE X (.Call (.Name "all" p) [.GeneratorExp elt [⟨tg, iter, ifs, 0⟩] scope gpos] [] pos) (tAllG P wi g tt te (own.map (·.2))) := by
  refine ⟨fun pins s σ H Q I h => ?_⟩
  refine wpAny_Call_Name_kw (ld_blt I hgl hm boot_all ?_)
  refine PyProof.Rows.callWith_builtin1 ?_ he (by rfl)
  rw [he]
  show wpAny _ _ (spliced ((false, eval (.GeneratorExp elt [⟨tg, iter, ifs, 0⟩] scope gpos) X.env) :: backTo pos (starEach [] X.env))) _ _ s
  have hd : X.A.depth < recursionLimit := by have := hr.dp; omega
  refine Calls.spliced_cons (gx_make (k := k) hd hN TB hcode S ok hi hg ht hel hs I h fun a s5 hR => ?_)
  refine Calls.spliced_nil ?_
  exact call_all_gx hr I.ok.frames hR fun b H' s' I' hq => ⟨.bl b, H', I', rfl, hq⟩
theorem pe_anyG {c P : Addr} {elt tg iter : Expr} {ifs : List Expr} {scope : Scope} {own : List (Str × Nat)} {p pos gpos : Pos} {wi : TI} {g : TG} {tt : TT} {te : TE} {k : Nat}
    (hr : Room (k + 1) X.A) (hc : X.calm = true) (hgl : Gl X "any") (hm : X.mg "any" = none) (hN : X.N.Nodup) (TB : TabB X.base X.mg c P) (hcode : X.env.code = .ref c) (S : GxS scope) (ok : BlkOk X.N X.env.scope scope own) (hi : PI X tg iter wi)
    (hg : ∀ (s4 : Shared) (H4 : Hp) (C : Addr) (code : Value) (A' : Around) (fp : List Addr), Room k A' → PG (gxOf X s4 H4 (genEnv scope (cloFrom X.env.cells scope.names []) C code builtinsNs X.env) A' fp) tg g)
    (ht : ∀ (s4 : Shared) (H4 : Hp) (C : Addr) (code : Value) (A' : Around) (fp : List Addr), Room k A' → PTs (gxOf X s4 H4 (genEnv scope (cloFrom X.env.cells scope.names []) C code builtinsNs X.env) A' fp) ifs tt)
    (hel : ∀ (s4 : Shared) (H4 : Hp) (C : Addr) (code : Value) (A' : Around) (fp : List Addr), Room k A' → PE (gxOf X s4 H4 (genEnv scope (cloFrom X.env.cells scope.names []) C code builtinsNs X.env) A' fp) elt te)
    (hs : ∀ v, genFold iter X.env v = pure v := by intro _; rfl)
    (he : starEach [.GeneratorExp elt [⟨tg, iter, ifs, 0⟩] scope gpos] X.env = (false, eval (.GeneratorExp elt [⟨tg, iter, ifs, 0⟩] scope gpos) X.env) :: starEach [] X.env := by rfl) :
    PE X (.Call (.Name "any" p) [.GeneratorExp elt [⟨tg, iter, ifs, 0⟩] scope gpos] [] pos) (tAnyG P wi g tt te (own.map (·.2))) := by
  refine ⟨fun pins s σ H Q I h => ?_⟩
  refine wpAny_Call_Name_kw (ld_blt I hgl hm boot_any ?_)
  refine PyProof.Rows.callWith_builtin1 ?_ he (by rfl)
  rw [he]
  show wpAny _ _ (spliced ((false, eval (.GeneratorExp elt [⟨tg, iter, ifs, 0⟩] scope gpos) X.env) :: backTo pos (starEach [] X.env))) _ _ s
  have hd : X.A.depth < recursionLimit := by have := hr.dp; omega
  refine Calls.spliced_cons (gx_make (k := k) hd hN TB hcode S ok hi hg ht hel hs I h fun a s5 hR => ?_)
  refine Calls.spliced_nil ?_
  exact call_any_gx hr I.ok.frames hR fun b H' s' I' hq => ⟨.bl b, H', I', rfl, hq⟩
end
end GA
set_option Elab.async false
set_option linter.all false
set_option maxRecDepth 100000
set_option maxHeartbeats 2000000
namespace GA
open PySem PySem.Spec PyProof.Rows L2 GxR

section
variable {G : Cx} {fp : List Addr} {tn : Nat → Heap → Prop} {τ : L2.St} {a S : Addr} {go : Obj} {gn : Nat}
/-- the consumer's list at S: apart from all of the generator's -/
structure SOk (G : Cx) (fp : List Addr) (a S : Addr) : Prop where
  loc : S ≠ G.env.locals
  fs : S ∉ G.fs
  young : S ∈ G.ex ∨ G.s_0.heap.objs.size ≤ S
  cell : ∀ x c, G.env.cells.lookup x = some c → c ≠ S
  pn : ∀ p ∈ G.pn, p.1 ≠ S
  gen : a ≠ S
  it : S ∉ fp
/-- the list that the consumer fills -/
def CPl (S : Addr) : TCp := fun acc cp => ∃ (vals : Array Value) (c : Nat), cp = [(S, lstObj vals c)] ∧ Vals acc vals.toList ∧ acc.length ≤ sizeLine
def KTup : TK := fun acc y H' nx => acc.length < sizeLine ∧ nx (acc ++ [y]) H'
/-- the consumer has written at S -/
theorem invG_write {i : Nat} {o o' : Obj} {H : Hp} {s : Shared} {h' : Heap} (sk : SOk G fp a S) (hkeep : ∀ i h h', tn i h → (∀ b ∈ fp, ∀ o, h.get? b = some o → h'.get? b = some o) → tn i h') (hI : InvG G fp tn τ a go i [(S, o)] H s)
    (hk : ∀ b u, b ≠ S → s.heap.get? b = some u → h'.get? b = some u) (hS : h'.get? S = some o') (hd : ∀ v, o'.data ≠ .cell v) : InvG G fp tn τ a go i [(S, o')] H { s with heap := h' } := by
  obtain ⟨I, st, hz, hafp, hcfp⟩ := hI
  have hSn : H S = none := (I.pin (S, o) (List.mem_append_right _ (List.mem_cons_of_mem _ List.mem_cons_self))).2.1
  have I0 : Inv G [(a, go)] τ H s := I.pins_of fun p hp => I.pin p (List.mem_append_right _ (by rw [List.mem_singleton.mp hp]; exact List.mem_cons_self))
  have I1 : Inv G [(a, go)] τ H { s with heap := h', toks := s.toks } := I0.turned (t' := s.toks) hk hSn sk.loc sk.young sk.cell fun p hp => by
    rcases List.mem_append.mp hp with hp | hp
    · exact sk.pn p hp
    · rw [List.mem_singleton.mp hp]; exact sk.gen
  refine ⟨I1.pins_of fun p hp => ?_, hkeep _ _ _ st fun b hb u e => hk b u (fun z => sk.it (z ▸ hb)) e, hz, hafp, fun p hp => by rw [List.mem_singleton.mp hp]; exact sk.it⟩
  rcases List.mem_cons.mp hp with e | hp
  · exact I1.pin p (List.mem_append_right _ (by rw [e]; exact List.mem_cons_self))
  · rw [List.mem_singleton.mp hp]
    exact ⟨hS, hSn, sk.loc, sk.fs, hd⟩

theorem extend_loop {A : Around} {Q : List V → Hp → Prop} {R : Result → Shared → Prop} {res : Value} (hh : A.handled = none) (hroom : A.depth < recursionLimit) (hgo : ∀ h : Heap, h.get? a = some go → h.IsGen a gn) (sk : SOk G fp a S)
    (hkeep : ∀ i h h', tn i h → (∀ b ∈ fp, ∀ o, h.get? b = some o → h'.get? b = some o) → tn i h')
    (hR : ∀ acc vals c H' s', Inv G [(a, go), (S, lstObj vals c)] τ H' s' → Vals acc vals.toList → acc.length ≤ sizeLine → Q acc H' → R (.ok (.ret res)) s') :
    ∀ (n : Nat) (s : Shared), s.heap.IsGen a gn → s.heap.NoLimit → Liv (model G.prog G.w) A.in1.in1 (RG G τ a go (CPl S) Q) (YG G fp tn τ a go (CPl S) KTup) gn n s →
      codeAny (model G.prog G.w) A (.builtin "list.extend.loop" ⟨[.ref S, .ref a, res], []⟩) R s := by
  intro n
  induction n using Nat.strongRecOn with
  | ind n ih =>
    intro s hg hl hv
    refine codeAny_builtin F.entry_extend_loop ?_
    rw [Around.under_plainId F.plain_extend_loop _]
    show wpAny _ A.in1 (pyNext (.ref a) >>= _) _ _ s
    refine wpAny_bind (next_gx (A := A.in1) hh hroom hgo hg hl hv (fun v y H' cp acc i Nx gs' s' rv hI hcp h0 hK hgs' kont => ?_) (fun H' cp acc s' I' hcp h0 hst => ?_))
    · obtain ⟨vals, c, rfl, rvs, hle⟩ := hcp
      obtain ⟨hlt, hnx⟩ := hK
      have hS' : s'.heap.get? S = some (lstObj vals c) := (hI.1.pin (S, lstObj vals c) (List.mem_append_right _ (List.mem_cons_of_mem _ List.mem_cons_self))).1
      have hsz : vals.size = acc.length := by
        have e1 := rvs.length
        have e2 : vals.toList.length = vals.size := by simp
        omega
      show wpAny _ A.in1 (updateSeq S (·.push v) >>= _) _ _ _
      refine wpAny_bind ?_
      refine wpAny_updateSeq hS' rfl ?_ (by rw [hsz]; omega) (by show (vals.push v).size ≤ sizeLine + 1; rw [Array.size_push, hsz]; omega)
      have hS2 := Heap.get?_update_self (Obj.mapSeq (·.push v)) hS' rfl
      have hI2 := invG_write (o' := lstObj (vals.push v) _) sk hkeep hI (h' := s'.heap.update S (Obj.mapSeq (·.push v))) (fun b u hb e => (Heap.get?_update_other _ _ (Ne.symm hb)).trans e) hS2 (fun v q => by cases q)
      obtain ⟨m, e, lv⟩ := kont _ (acc ++ [y]) H' { s' with heap := s'.heap.update S (Obj.mapSeq (·.push v)) } hI2 ⟨vals.push v, _, rfl, by rw [Array.toList_push]; exact rvs.append (.cons rv .nil), by rw [List.length_append, List.length_singleton]; omega⟩ hnx hgs'
      exact wpAny_pure ⟨plainId_quiet F.plain_extend_loop _, ih m (by omega) _ (pin_gen hgo hI2.1) hI2.1.nolimit lv⟩
    · obtain ⟨vals, c, rfl, rvs, hle⟩ := hcp
      exact wpAny_pure (hR acc vals c H' s' I' rvs hle hst)
end

section
variable {X : Cx} {pins : List (Addr × Obj)} {σ : L2.St}
theorem collect_gx {Q : List V → Hp → Prop} {Q' : List Value → Shared → Prop} {E : Value → Shared → Prop} {k : Nat} {a : Addr} {s : Shared} {A : Around} (hh : A.handled = none) (hdp : A.depth + 1 + 3 * k + 5 < recursionLimit) (hun : A.units + 5 + 16 * k + 200 < cLine) (hf : A.frames = some X.stack)
    (h : Ready X pins σ Q KTup k a s)
    (hQ : ∀ acc vals H' s', Inv X pins σ H' s' → Vals acc vals → acc.length ≤ sizeLine → Q acc H' → Q' vals s') : wpAny (model X.prog X.w) A (collect (.ref a)) Q' E s := by
  obtain ⟨s4, H4, cenv, fp, tn, τ, go, gn, c, I4, f4, ha, lt4, hkeep, hgo, hgs, wake⟩ := h
  have rd : Room k (A.in1.in1.deeper cenv) := ⟨hh, by show A.depth + 1 + 3 * k + 5 < _; omega, by show A.units + 1 + 1 + 3 + 16 * k + 200 < _; omega⟩
  obtain ⟨hI, go0⟩ := wake A.in1.in1 (CPl s.heap.objs.size) rd hf
  have hG := pin_gen hgo hI.1
  have halt : a < s.heap.objs.size := let ⟨_, _, _, e, _⟩ := hG; Heap.lt_size e
  have sz4 : s4.heap.objs.size ≤ s.heap.objs.size := Nat.le_of_lt (Nat.lt_of_le_of_lt ha halt)
  have fok := hI.1.fpOk (Nat.le_refl _) (hI.1.hok.fresh (Nat.le_refl _))
  have sk : SOk (gxOf X s4 H4 cenv (A.in1.in1.deeper cenv) fp) fp a s.heap.objs.size := ⟨fok.2.1, fok.2.2.1, fok.2.2.2.1, fok.2.2.2.2.1, fun p hp => (nomatch hp), Nat.ne_of_lt halt, fun hb => absurd (lt4 _ hb) (Nat.not_lt.mpr sz4)⟩
  have hSa : s.heap.objs.size ≠ a := Nat.ne_of_gt halt
  unfold collect
  refine wpAny_bind (wpAny_runValue (codeAny_builtin F.entry_proto_collect ?_))
  rw [Around.under_plainId F.plain_proto_collect _]
  show wpAny _ A.in1 (newList [] >>= fun l => again (.builtin "list.__iadd__" ⟨[l, .ref a], []⟩)) _ _ s
  refine wpAny_bind (wpAny_newObj_type ?_)
  refine wpAny_pure ⟨plainId_quiet F.plain_list_iadd _, codeAny_builtin F.entry_list_iadd ?_⟩
  rw [Around.under_plainId F.plain_list_iadd _]
  have k1 : ∀ b o, s.heap.get? b = some o → (s.heap.push { cls := .type "list", data := .seq ([] : List Value).toArray }).get? b = some o := fun b o e => Heap.get?_push_of_some _ e
  have gty : (Shared.TypeIs { s with heap := s.heap.push { cls := .type "list", data := .seq ([] : List Value).toArray } } (.ref a) "generator") := Heap.IsGen.typeIs (s := { s with heap := _ }) (hG.keeps k1)
  show wpAny _ A.in1 (Builtin.List.listExtendWith (.ref s.heap.objs.size) (.ref a) (.ref s.heap.objs.size)) _ _ _
  unfold Builtin.List.listExtendWith
  refine wpAny_bind (wpAny_typeOf gty ?_)
  have h1 : Builtin.List.listSameRef (.ref s.heap.objs.size) (.ref a) = false := by simp [Builtin.List.listSameRef, hSa]
  have h2 : (Value.type "generator" == Value.type "list") = false := by decide
  have h3 : (Value.type "generator" == Value.type "tuple") = false := by decide
  simp only [h1, h2, h3, Bool.or_false, Bool.false_eq_true, if_false]
  refine wpAny_bind (wpAny_pyIter_gen (s := { s with heap := _ }) (hG.keeps k1) ?_)
  refine wpAny_bind (wpAny_holding ?_)
  unfold Builtin.List.listLengthHint
  refine wpAny_bind (wpAny_specialOf gty F.gen_no_len ?_)
  show wpAny _ A.in1 (specialOf (Value.ref a) (Str.ofString "__length_hint__") >>= _) _ _ _
  refine wpAny_bind (wpAny_specialOf gty F.gen_no_hint ?_)
  refine wpAny_pure ?_
  show wpAny _ A.in1 (rule "list.extend.makes-room" >>= fun _ => Builtin.List.listTouch (.ref s.heap.objs.size) >>= fun _ =>
    again (.builtin "list.extend.loop" ⟨[.ref s.heap.objs.size, .ref a, .ref s.heap.objs.size], []⟩)) _ _ _
  refine wpAny_bind (wpAny_rule ?_)
  have hS₁ : (s.heap.push { cls := .type "list", data := .seq ([] : List Value).toArray }).get? s.heap.objs.size = some { cls := .type "list", data := .seq ([] : List Value).toArray } := Heap.get?_push_size _ rfl
  refine wpAny_bind ?_
  show wpAny _ A.in1 (updateSeq s.heap.objs.size (·.push .none) >>= fun _ => updateSeq s.heap.objs.size (·.pop)) _ _ _
  refine wpAny_bind (wpAny_updateSeq hS₁ rfl ?_)
  have hS₂ := Heap.get?_update_self (Obj.mapSeq (·.push Value.none)) hS₁ rfl
  refine wpAny_updateSeq (hz := by seq_fits) hS₂ rfl ?_
  have hS₃ := Heap.get?_update_self (Obj.mapSeq (·.pop)) hS₂ rfl
  have oth : ∀ b o, s.heap.get? b = some o →
      (((s.heap.push { cls := .type "list", data := .seq ([] : List Value).toArray }).update s.heap.objs.size (Obj.mapSeq (·.push Value.none))).update s.heap.objs.size (Obj.mapSeq (·.pop))).get? b = some o :=
    fun b o e => (Heap.get?_update_other _ _ (Ne.symm (Nat.ne_of_lt (Heap.lt_size e)))).trans ((Heap.get?_update_other _ _ (Ne.symm (Nat.ne_of_lt (Heap.lt_size e)))).trans (k1 b o e))
  generalize hh2 : ((s.heap.push { cls := .type "list", data := .seq ([] : List Value).toArray }).update s.heap.objs.size (Obj.mapSeq (·.push Value.none))).update s.heap.objs.size (Obj.mapSeq (·.pop)) = h2 at hS₃ oth ⊢
  have hS4 : ∃ c, h2.get? s.heap.objs.size = some (lstObj #[] c) := ⟨_, hS₃⟩
  obtain ⟨c2, hS4⟩ := hS4
  -- the generator's context, the list pinned
  have J1 : InvG (gxOf X s4 H4 cenv (A.in1.in1.deeper cenv) fp) fp tn τ a go 0 [(s.heap.objs.size, lstObj #[] c2)] H4 { s with heap := h2 } := by
    obtain ⟨I, st, hz, hafp, _⟩ := hI
    have I1 : Inv (gxOf X s4 H4 cenv (A.in1.in1.deeper cenv) fp) [(a, go)] τ H4 { s with heap := h2, toks := s.toks } := I.kept (t' := s.toks) oth
    refine ⟨I1.pins_of fun p hp => ?_, hkeep _ _ _ st fun b hb u e => oth b u e, hz, hafp, fun p hp => by rw [List.mem_singleton.mp hp]; exact sk.it⟩
    rcases List.mem_cons.mp hp with e | hp
    · exact I1.pin p (List.mem_append_right _ (by rw [e]; exact List.mem_cons_self))
    · rw [List.mem_singleton.mp hp]
      exact ⟨hS4, fok.1, sk.loc, sk.fs, fun v q => by cases q⟩
  obtain ⟨n, sg⟩ := go0 [(s.heap.objs.size, lstObj #[] c2)] (({ s with heap := h2 } : Shared).setGen gn .running) (invG_setGen J1 rfl) ⟨#[], c2, rfl, .nil, Nat.zero_le _⟩
  have hgs2 : ({ s with heap := h2 } : Shared).gens[gn]? = some (.fresh c) := hgs
  refine wpAny_pure ⟨plainId_quiet F.plain_extend_loop _, extend_loop (G := gxOf X s4 H4 cenv (A.in1.in1.deeper cenv) fp) (fp := fp) (tn := tn) (τ := τ) (gn := gn) (go := go) (Q := Q) hh (by omega) hgo sk hkeep (fun acc vals c' H' s' I' rvs hle hq => ?_) n _ (pin_gen hgo J1.1) J1.1.nolimit ⟨_, hgs2, rfl, sg⟩⟩
  have hS' : s'.heap.get? s.heap.objs.size = some (lstObj vals c') := (I'.pin (s.heap.objs.size, lstObj vals c') (List.mem_append_right _ (List.mem_cons_of_mem _ List.mem_cons_self))).1
  show wpAny _ A (load s.heap.objs.size >>= _) _ _ s'
  refine wpAny_bind (wpAny_load hS' ?_)
  exact wpAny_pure (hQ acc vals.toList H' s' (gx_back I4 f4 I') rvs hle hq)
end
end GA
set_option Elab.async false
set_option linter.all false
set_option maxRecDepth 100000
set_option maxHeartbeats 2000000
namespace GA
open PySem PySem.Spec PyProof.Rows L2 GxR
section
variable {X : Cx} {pins : List (Addr × Obj)} {σ : L2.St}
theorem ready_gen {Q : List V → Hp → Prop} {K : TK} {k : Nat} {a : Addr} {s : Shared} (A : Around) (hh : A.handled = none) (hdp : A.depth + 1 + 3 * k + 5 < recursionLimit) (hun : A.units + 3 + 16 * k + 200 < cLine) (hf : A.frames = some X.stack)
    (h : Ready X pins σ Q K k a s) : s.TypeIs (.ref a) "generator" := by
  obtain ⟨s4, H4, cenv, fp, tn, τ, go, gn, c, I4, f4, ha, lt4, hkeep, hgo, hgs, wake⟩ := h
  obtain ⟨hI, _⟩ := wake A (fun _ cp => cp = []) ⟨hh, hdp, hun⟩ hf
  exact Heap.IsGen.typeIs (pin_gen hgo hI.1)
theorem code_tuple_gx {Q : List V → Hp → Prop} {Q₁ : Value → Shared → Prop} {E : Value → Shared → Prop} {k : Nat} {a : Addr} {s : Shared} {A : Around} (hh : A.handled = none) (hdp : A.depth + 1 + 3 * k + 5 < recursionLimit) (hun : A.units + 7 + 16 * k + 200 < cLine) (hf : A.frames = some X.stack)
    (h : Ready X pins σ Q KTup k a s)
    (hQ : ∀ acc vals H' s', Inv X pins σ H' s' → Vals acc vals → acc.length ≤ sizeLine → Q acc H' → Q₁ (.ref s'.heap.objs.size) { s' with heap := s'.heap.push { cls := .type "tuple", data := .seq vals.toArray } }) :
    codeAny (model X.prog X.w) A (.call (.builtin "tuple.__new__") ⟨[.type "tuple", .ref a], []⟩) (wants Q₁ E) s := by
  refine codeAny_of_tree ?_
  show wpAny _ A.in1 (do checkBuiltinCall "tuple.__new__" ⟨[.type "tuple", .ref a], []⟩; again (.builtin "tuple.__new__" ⟨[.type "tuple", .ref a], []⟩)) _ _ s
  refine wpAny_bind (wpAny_of_eq (F.newCall_tuple_1 _) (wpAny_pure ⟨plainId_quiet F.plain_tuple_new _, codeAny_builtin F.entry_tuple_new ?_⟩))
  rw [Around.under_plainId F.plain_tuple_new _]
  have hsub := sub_tuple_self
  have hinit := init_tuple_lookup
  have hmh := madeHere_tuple
  have hTI := ready_gen A hh (by omega) (by omega) hf h
  have key : wpAny (model X.prog X.w) A.in1 (collect (.ref a)) (fun vals s' => ∃ acc H', Inv X pins σ H' s' ∧ Vals acc vals ∧ acc.length ≤ sizeLine ∧ Q acc H') (fun _ _ => False) s :=
    collect_gx (A := A.in1) hh hdp (by show A.units + 1 + 5 + 16 * k + 200 < _; omega) hf h fun acc vals H' s' I' rv hl hq => ⟨acc, H', I', rv, hl, hq⟩
  have step : ∀ {Q2 : List Value → Shared → Prop} {E2 : Value → Shared → Prop}, (∀ vals s' acc H', Inv X pins σ H' s' → Vals acc vals → acc.length ≤ sizeLine → Q acc H' → Q2 vals s') → wpAny (model X.prog X.w) A.in1 (collect (.ref a)) Q2 E2 s := fun hq =>
    wpAny_mono key (fun vals s' ⟨acc, H', I', rv, hl, q⟩ => hq vals s' acc H' I' rv hl q) fun _ _ z => False.elim z
  wp_walk using wpAny_typeOf hTI, step
  intro vals s' acc H' I' rv hl hq
  show wpAny _ _ (Builtin.Tuple.tupleExact vals.toArray >>= fun v => ret v) _ _ _
  unfold Builtin.Tuple.tupleExact
  refine wpAny_bind (wpAny_newObj_type ?_ (by show vals.toArray.size ≤ sizeLine; rw [List.size_toArray, ← rv.length]; exact hl))
  exact wpAny_pure (hQ acc vals H' s' I' rv hl hq)
theorem call_tuple_gx {Q : List V → Hp → Prop} {Q' : Value → Shared → Prop} {E : Value → Shared → Prop} {k : Nat} {a : Addr} {s : Shared} (hr : Room (k + 1) X.A) (hf : X.A.frames = some X.stack) (h : Ready X pins σ Q KTup k a s)
    (hQ : ∀ acc H' s' t, Inv X pins σ (upd H' t (.tup acc)) s' → H' t = none → Q acc H' → Q' (.ref t) s') : wpAny (model X.prog X.w) X.A (call (.type "tuple") [.ref a]) Q' E s := by
  refine callType_codes (Q₁ := fun obj s₁ => s₁.TypeIs obj "tuple" ∧ Q' obj s₁) F.called_tuple (F.typeCall_tuple_1 _) F.entry_object_init
    (code_tuple_gx (A := X.A.in1) (k := k) hr.hd (by have := hr.dp; show X.A.depth + 1 + 3 * k + 5 < _; omega) (by have := hr.un; show X.A.units + 1 + 7 + 16 * k + 200 < _; omega) hf h fun acc vals H' s' I' rv hl hq => ⟨⟨_, Heap.get?_push_size _ rfl, rfl⟩, ?_⟩) fun obj s₁ h₁ => ?_
  · have I2 : Inv X pins σ (upd H' s'.heap.objs.size (.tup acc)) { s' with heap := s'.heap.push { cls := .type "tuple", data := .seq vals.toArray } } :=
      I'.laid (t' := s'.toks) (fun b o e => Heap.get?_push_of_some _ e) (Nat.le_refl _) (show ObjOk X.prog X.w _ _ _ (.tup acc) from ⟨hl, vals, rv, IsTup.new _ _⟩)
    exact hQ acc H' _ _ I2 (I'.hok.fresh (Nat.le_refl _)) hq
  · exact ⟨h₁.1, F.args_object_init_2 obj _, object_init_meets F.called_tuple.init.lookup F.called_tuple.made (by decide) X.prog X.w X.A.in1 _ s₁ ⟨h₁.1, rfl, h₁.2⟩⟩

/-- tuple(elt for tg in iter if ..) -/
def tTupG (P : Addr) (wi : TI) (g : TG) (tt : TT) (te : TE) (vs : List Nat) : TE := fun σ H Q => tGx P wi g tt te vs (fun acc H' => ∀ t, H' t = none → Q (.ref t) (upd H' t (.tup acc))) KTup σ H
theorem pe_tupG {c P : Addr} {elt tg iter : Expr} {ifs : List Expr} {scope : Scope} {own : List (Str × Nat)} {p pos gpos : Pos} {wi : TI} {g : TG} {tt : TT} {te : TE} {k : Nat}
    (hr : Room (k + 1) X.A) (hgl : Gl X "tuple") (hm : X.mg "tuple" = none) (hN : X.N.Nodup) (TB : TabB X.base X.mg c P) (hcode : X.env.code = .ref c) (S : GxS scope) (ok : BlkOk X.N X.env.scope scope own) (hi : PI X tg iter wi)
    (hg : ∀ (s4 : Shared) (H4 : Hp) (C : Addr) (code : Value) (A' : Around) (fp : List Addr), Room k A' → PG (gxOf X s4 H4 (genEnv scope (cloFrom X.env.cells scope.names []) C code builtinsNs X.env) A' fp) tg g)
    (ht : ∀ (s4 : Shared) (H4 : Hp) (C : Addr) (code : Value) (A' : Around) (fp : List Addr), Room k A' → PTs (gxOf X s4 H4 (genEnv scope (cloFrom X.env.cells scope.names []) C code builtinsNs X.env) A' fp) ifs tt)
    (hel : ∀ (s4 : Shared) (H4 : Hp) (C : Addr) (code : Value) (A' : Around) (fp : List Addr), Room k A' → PE (gxOf X s4 H4 (genEnv scope (cloFrom X.env.cells scope.names []) C code builtinsNs X.env) A' fp) elt te)
    (hs : ∀ v, genFold iter X.env v = pure v := by intro _; rfl)
    (he : starEach [.GeneratorExp elt [⟨tg, iter, ifs, 0⟩] scope gpos] X.env = (false, eval (.GeneratorExp elt [⟨tg, iter, ifs, 0⟩] scope gpos) X.env) :: starEach [] X.env := by rfl) :
    PE X (.Call (.Name "tuple" p) [.GeneratorExp elt [⟨tg, iter, ifs, 0⟩] scope gpos] [] pos) (tTupG P wi g tt te (own.map (·.2))) := by
  refine ⟨fun pins s σ H Q I h => ?_⟩
  refine Call_ (ld_blt I hgl hm boot_tuple ?_)
  refine PyProof.Rows.callWith_type1 ?_ he (by rfl)
  rw [he]
  show wpAny _ _ (spliced ((false, eval (.GeneratorExp elt [⟨tg, iter, ifs, 0⟩] scope gpos) X.env) :: backTo pos (starEach [] X.env))) _ _ s
  have hd : X.A.depth < recursionLimit := by have := hr.dp; omega
  refine Calls.spliced_cons (gx_make (k := k) hd hN TB hcode S ok hi hg ht hel hs I h fun a s5 hR => ?_)
  refine Calls.spliced_nil ?_
  exact call_tuple_gx hr I.ok.frames hR fun acc H' s' t I' hn hq => ⟨.ref t, _, I', rfl, hq t hn⟩
end
end GA
set_option Elab.async false
set_option linter.all false
set_option maxRecDepth 100000
set_option maxHeartbeats 2000000
namespace GA
open PySem PySem.Spec PyProof.Rows L2 GxR
def intOf : V → Int
  | .int i => i
  | _ => 0
def accSum (acc : List V) : Int := (acc.map intOf).sum
theorem accSum_push {acc : List V} {b : Int} : accSum (acc ++ [.int b]) = accSum acc + b := by
  unfold accSum
  rw [List.map_append, List.sum_append]
  show _ + (b + 0) = _
  rw [Int.add_zero]
/-- the consumer «sum», from 0 -/
def KSum : TK := fun acc y H' nx => ∃ b, y = .int b ∧ InLong b ∧ InLong (accSum acc + b) ∧ nx (acc ++ [y]) H'
def CPs (S : Addr) : TCp := fun acc cp => ∃ (tk : Tok) (c : Nat), cp = [(S, lstObj #[.int (accSum acc) tk] c)]
section
variable {G : Cx} {fp : List Addr} {tn : Nat → Heap → Prop} {τ : L2.St} {a S : Addr} {go : Obj} {gn : Nat}
theorem invG_tok {i : Nat} {cp : List (Addr × Obj)} {H : Hp} {s : Shared} (h : InvG G fp tn τ a go i cp H s) (k : Nat) : InvG G fp tn τ a go i cp H { s with toks := k } := ⟨h.1.tok k, h.2⟩
theorem sum_loop {A : Around} {Q : VK} {R : Result → Shared → Prop} (hh : A.handled = none) (hroom : A.depth < recursionLimit) (hgo : ∀ h : Heap, h.get? a = some go → h.IsGen a gn) (sk : SOk G fp a S)
    (hkeep : ∀ i h h', tn i h → (∀ b ∈ fp, ∀ o, h.get? b = some o → h'.get? b = some o) → tn i h')
    (hR : ∀ acc cp tk H' s', Inv G ((a, go) :: cp) τ H' s' → Q (.int (accSum acc)) H' → R (.ok (.ret (.int (accSum acc) tk))) s') :
    ∀ (n : Nat) (s : Shared) (tot : Int) (tk : Tok) (c : Nat), s.heap.IsGen a gn → s.heap.NoLimit → s.heap.get? S = some (lstObj #[.int tot tk] c) → Liv (model G.prog G.w) A.in1.in1 (RG G τ a go (CPs S) fun acc H' => Q (.int (accSum acc)) H') (YG G fp tn τ a go (CPs S) KSum) gn n s →
      codeAny (model G.prog G.w) A (.builtin "sum.loop" ⟨[.ref a, .ref S, rawInt 0, rawInt 0], []⟩) R s := by
  intro n
  induction n using Nat.strongRecOn with
  | ind n ih =>
    intro s tot tk c hg hl hS hv
    refine codeAny_builtin F.entry_sum_loop ?_
    rw [Around.under_plainId F.plain_sum_loop _]
    show wpAny _ A.in1 (seqItems? (.ref S) >>= _) _ _ s
    refine wpAny_bind (wpAny_seqItems hS rfl ?_)
    show wpAny _ A.in1 (tryCatch (pyNext (.ref a)) _ >>= _) _ _ s
    refine wpAny_bind (wpAny_tryCatch (next_gx (A := A.in1) hh hroom hgo hg hl hv (fun v y H' cp acc i Nx gs' s' rv hI hcp h0 hK hgs' kont => ?_) (fun H' cp acc s' I' hcp h0 hst => ?_)))
    · obtain ⟨tk2, c2, rfl⟩ := hcp
      have e := h0 _ (List.mem_singleton.mpr rfl)
      rw [show s.heap.get? S = _ from hS] at e
      have e2 : lstObj #[.int tot tk] c = lstObj #[.int (accSum acc) tk2] c2 := Option.some.inj e
      have et : tot = accSum acc := by
        have e3 := congrArg (fun o : Obj => match o.data with | .seq xs _ => xs[0]? | _ => none) e2
        have e4 : some (Value.int tot tk) = some (Value.int (accSum acc) tk2) := e3
        cases e4
        rfl
      obtain ⟨b, rfl, ⟨f1, f2⟩, ⟨f3, f4⟩, hnx⟩ := hK
      obtain ⟨tb, rfl⟩ := (show ∃ t, v = .int b t from rv)
      subst et
      have hS' : s'.heap.get? S = some (lstObj #[.int (accSum acc) tk2] c2) := (hI.1.pin (S, _) (List.mem_append_right _ (List.mem_cons_of_mem _ List.mem_cons_self))).1
      have hc : ((decide (-(2 ^ 63) ≤ b) && decide (b < 2 ^ 63)) && (decide (-(2 ^ 63) ≤ accSum acc + b) && decide (accSum acc + b < 2 ^ 63))) = true := by
        rw [decide_eq_true f1, decide_eq_true f2, decide_eq_true f3, decide_eq_true f4]
        rfl
      show wpAny _ A.in1 (if (_ : Bool) = true then (mkInt (accSum acc + b) >>= _) else _) _ _ _
      split
      · refine wpAny_bind (wpAny_mkInt ?_)
        show wpAny _ A.in1 (updateSeq S (fun _ => #[.int (accSum acc + b) s'.toks]) >>= _) _ _ _
        refine wpAny_bind (wpAny_updateSeq hS' rfl ?_)
        have hS2 := Heap.get?_update_self (Obj.mapSeq (fun _ => #[Value.int (accSum acc + b) s'.toks])) hS' rfl
        obtain ⟨c3, hS3⟩ : ∃ c3, (s'.heap.update S (Obj.mapSeq (fun _ => #[Value.int (accSum acc + b) s'.toks]))).get? S = some (lstObj #[.int (accSum acc + b) s'.toks] c3) := ⟨_, hS2⟩
        have hI2 := invG_write sk hkeep (invG_tok hI (s'.toks + 1)) (h' := s'.heap.update S (Obj.mapSeq (fun _ => #[Value.int (accSum acc + b) s'.toks]))) (fun b u hb e => (Heap.get?_update_other _ _ (Ne.symm hb)).trans e) hS3 (fun v q => by cases q)
        obtain ⟨m, em, lv⟩ := kont _ (acc ++ [.int b]) H' _ hI2 ⟨s'.toks, c3, by rw [accSum_push]⟩ hnx hgs'
        exact wpAny_pure ⟨plainId_quiet F.plain_sum_loop _, ih m (by omega) _ _ _ c3 (pin_gen hgo hI2.1) hI2.1.nolimit hS3 lv⟩
      · rename_i hneg
        exact absurd hc hneg
    · obtain ⟨tk2, c2, rfl⟩ := hcp
      have e := h0 _ (List.mem_singleton.mpr rfl)
      rw [show s.heap.get? S = _ from hS] at e
      have e2 : lstObj #[.int tot tk] c = lstObj #[.int (accSum acc) tk2] c2 := Option.some.inj e
      have et : tot = accSum acc := by
        have e3 := congrArg (fun o : Obj => match o.data with | .seq xs _ => xs[0]? | _ => none) e2
        have e4 : some (Value.int tot tk) = some (Value.int (accSum acc) tk2) := e3
        cases e4
        rfl
      subst et
      exact wpAny_pure (hR acc _ tk H' s' I' hst)
end
section
variable {X : Cx} {pins : List (Addr × Obj)} {σ : L2.St}
theorem call_sum_gx {Q : VK} {Q' : Value → Shared → Prop} {E : Value → Shared → Prop} {k : Nat} {a : Addr} {s : Shared} (hr : Room (k + 1) X.A) (hf : X.A.frames = some X.stack) (h : Ready X pins σ (fun acc H' => Q (.int (accSum acc)) H') KSum k a s)
    (hQ : ∀ n tk H' s', Inv X pins σ H' s' → Q (.int n) H' → Q' (.int n tk) s') : wpAny (model X.prog X.w) X.A (call (.builtin "sum") [.ref a]) Q' E s := by
  obtain ⟨s4, H4, cenv, fp, tn, τ, go, gn, c, I4, f4, ha, lt4, hkeep, hgo, hgs, wake⟩ := h
  have rd : Room k (X.A.in1.in1.deeper cenv) := ⟨hr.hd, by have := hr.dp; show X.A.depth + 1 + 3 * k + 5 < _; omega, by have := hr.un; show X.A.units + 1 + 1 + 3 + 16 * k + 200 < _; omega⟩
  obtain ⟨hI, go0⟩ := wake X.A.in1.in1 (CPs s.heap.objs.size) rd hf
  have hG := pin_gen hgo hI.1
  have halt : a < s.heap.objs.size := let ⟨_, _, _, e, _⟩ := hG; Heap.lt_size e
  have sz4 : s4.heap.objs.size ≤ s.heap.objs.size := Nat.le_of_lt (Nat.lt_of_le_of_lt ha halt)
  have fok := hI.1.fpOk (Nat.le_refl _) (hI.1.hok.fresh (Nat.le_refl _))
  have sk : SOk (gxOf X s4 H4 cenv (X.A.in1.in1.deeper cenv) fp) fp a s.heap.objs.size := ⟨fok.2.1, fok.2.2.1, fok.2.2.2.1, fok.2.2.2.2.1, fun p hp => (nomatch hp), Nat.ne_of_lt halt, fun hb => absurd (lt4 _ hb) (Nat.not_lt.mpr sz4)⟩
  refine call_function_tree F.kind_sum F.plain_sum F.entry_sum (F.args_sum1 _) ?_
  unfold Builtin.«sum»
  simp only [List.length_cons, List.length_nil]
  rw [if_neg (by decide)]
  refine wpAny_bind (wpAny_of_eq (show Builtin.Builtins.bindParams "sum" ["start"] 0 { } = pure [none] from rfl) ?_)
  refine wpAny_bind (wpAny_pyIter_gen hG ?_)
  refine wpAny_bind (wpAny_mkInt ?_)
  refine wpAny_bind (wpAny_pure ?_)
  simp only [List.forIn_cons, List.forIn_nil]
  refine wpAny_bind (wpAny_bind (wpAny_bind (wpAny_isInstance (T := "int") (b := false) (typeIs_int _ _ _) PySem.sub_int_str ?_)))
  simp only [Bool.false_eq_true, if_false]
  refine wpAny_pure (wpAny_bind (wpAny_bind (wpAny_isInstance (T := "int") (b := false) (typeIs_int _ _ _) PySem.sub_int_bytes ?_)))
  simp only [Bool.false_eq_true, if_false]
  refine wpAny_pure (wpAny_bind (wpAny_bind (wpAny_isInstance (T := "int") (b := false) (typeIs_int _ _ _) PySem.sub_int_bytearray ?_)))
  simp only [Bool.false_eq_true, if_false]
  refine wpAny_pure (wpAny_pure ?_)
  refine wpAny_bind (wpAny_newObj_type ?_)
  have kp : ∀ b o, s.heap.get? b = some o → (s.heap.push { cls := .type "list", data := .seq [Value.int 0 s.toks].toArray }).get? b = some o := fun b o e => Heap.get?_push_of_some _ e
  have hS : (s.heap.push { cls := .type "list", data := .seq [Value.int 0 s.toks].toArray }).get? s.heap.objs.size = some (lstObj #[.int 0 s.toks] 0) := Heap.get?_push_size _ rfl
  have J1 : InvG (gxOf X s4 H4 cenv (X.A.in1.in1.deeper cenv) fp) fp tn τ a go 0 [(s.heap.objs.size, lstObj #[.int 0 s.toks] 0)] H4 { s with heap := s.heap.push { cls := .type "list", data := .seq [Value.int 0 s.toks].toArray }, toks := s.toks + 1 } := by
    obtain ⟨I, st, hz, hafp, _⟩ := hI
    have I1 : Inv (gxOf X s4 H4 cenv (X.A.in1.in1.deeper cenv) fp) [(a, go)] τ H4 { s with heap := s.heap.push { cls := .type "list", data := .seq [Value.int 0 s.toks].toArray }, toks := s.toks + 1 } := I.kept (t' := s.toks + 1) kp
    refine ⟨I1.pins_of fun p hp => ?_, hkeep _ _ _ st fun b hb u e => kp b u e, hz, hafp, fun p hp => by rw [List.mem_singleton.mp hp]; exact sk.it⟩
    rcases List.mem_cons.mp hp with e | hp
    · exact I1.pin p (List.mem_append_right _ (by rw [e]; exact List.mem_cons_self))
    · rw [List.mem_singleton.mp hp]
      exact ⟨hS, fok.1, sk.loc, sk.fs, fun v q => by cases q⟩
  obtain ⟨n, sg⟩ := go0 [(s.heap.objs.size, lstObj #[.int 0 s.toks] 0)] (({ s with heap := s.heap.push { cls := .type "list", data := .seq [Value.int 0 s.toks].toArray }, toks := s.toks + 1 } : Shared).setGen gn .running) (invG_setGen J1 rfl) ⟨s.toks, 0, rfl⟩
  have hd : X.A.depth < recursionLimit := by have := hr.dp; omega
  have hgs2 : ({ s with heap := s.heap.push { cls := .type "list", data := .seq [Value.int 0 s.toks].toArray }, toks := s.toks + 1 } : Shared).gens[gn]? = some (.fresh c) := hgs
  refine wpAny_pure ⟨plainId_quiet F.plain_sum_loop _, sum_loop (G := gxOf X s4 H4 cenv (X.A.in1.in1.deeper cenv) fp) (fp := fp) (tn := tn) (τ := τ) (gn := gn) (go := go) (Q := Q) hr.hd hd hgo sk hkeep (fun acc cp tk H' s' I' hq => ?_) n _ 0 s.toks 0 (pin_gen hgo J1.1) J1.1.nolimit hS ⟨_, hgs2, rfl, sg⟩⟩
  exact hQ _ tk H' s' (gx_back I4 f4 I') hq

/-- sum(elt for tg in iter if ..) -/
def tSumG (P : Addr) (wi : TI) (g : TG) (tt : TT) (te : TE) (vs : List Nat) : TE := fun σ H Q => tGx P wi g tt te vs (fun acc H' => Q (.int (accSum acc)) H') KSum σ H
theorem pe_sumG {c P : Addr} {elt tg iter : Expr} {ifs : List Expr} {scope : Scope} {own : List (Str × Nat)} {p pos gpos : Pos} {wi : TI} {g : TG} {tt : TT} {te : TE} {k : Nat}
    (hr : Room (k + 1) X.A) (hgl : Gl X "sum") (hm : X.mg "sum" = none) (hN : X.N.Nodup) (TB : TabB X.base X.mg c P) (hcode : X.env.code = .ref c) (S : GxS scope) (ok : BlkOk X.N X.env.scope scope own) (hi : PI X tg iter wi)
    (hg : ∀ (s4 : Shared) (H4 : Hp) (C : Addr) (code : Value) (A' : Around) (fp : List Addr), Room k A' → PG (gxOf X s4 H4 (genEnv scope (cloFrom X.env.cells scope.names []) C code builtinsNs X.env) A' fp) tg g)
    (ht : ∀ (s4 : Shared) (H4 : Hp) (C : Addr) (code : Value) (A' : Around) (fp : List Addr), Room k A' → PTs (gxOf X s4 H4 (genEnv scope (cloFrom X.env.cells scope.names []) C code builtinsNs X.env) A' fp) ifs tt)
    (hel : ∀ (s4 : Shared) (H4 : Hp) (C : Addr) (code : Value) (A' : Around) (fp : List Addr), Room k A' → PE (gxOf X s4 H4 (genEnv scope (cloFrom X.env.cells scope.names []) C code builtinsNs X.env) A' fp) elt te)
    (hs : ∀ v, genFold iter X.env v = pure v := by intro _; rfl)
    (he : starEach [.GeneratorExp elt [⟨tg, iter, ifs, 0⟩] scope gpos] X.env = (false, eval (.GeneratorExp elt [⟨tg, iter, ifs, 0⟩] scope gpos) X.env) :: starEach [] X.env := by rfl) :
    PE X (.Call (.Name "sum" p) [.GeneratorExp elt [⟨tg, iter, ifs, 0⟩] scope gpos] [] pos) (tSumG P wi g tt te (own.map (·.2))) := by
  refine ⟨fun pins s σ H Q I h => ?_⟩
  refine wpAny_Call_Name_kw (ld_blt I hgl hm boot_sum ?_)
  refine PyProof.Rows.callWith_builtin1 ?_ he (by rfl)
  rw [he]
  show wpAny _ _ (spliced ((false, eval (.GeneratorExp elt [⟨tg, iter, ifs, 0⟩] scope gpos) X.env) :: backTo pos (starEach [] X.env))) _ _ s
  have hd : X.A.depth < recursionLimit := by have := hr.dp; omega
  refine Calls.spliced_cons (gx_make (k := k) hd hN TB hcode S ok hi hg ht hel hs I h fun a s5 hR => ?_)
  refine Calls.spliced_nil ?_
  exact call_sum_gx hr I.ok.frames hR fun n tk H' s' I' hq => ⟨.int n, H', I', ⟨tk, rfl⟩, hq⟩
end
end GA
set_option Elab.async false
set_option linter.all false
set_option maxRecDepth 100000
set_option maxHeartbeats 4000000
namespace J1
open PySem PySem.Spec PyProof.Rows L2 GxR GA
def top (i : Nat) : Stmt := PySem.Challenge.pw_juststeps_k27_whole_measures_that_are_ne.main.body.getD i (.Pass ⟨0, 0, 0, 0⟩)
/-! ### what is judged: things of tuples, lists, texts, integers, truths, None -/
inductive Da where
  | non
  | bl (b : Bool)
  | int (i : Int)
  | str (s : Str)
  | tup (l : List Da)
  | lst (l : List Da)
/-- a text of the size and the signs that there may be -/
structure SOk (s : Str) : Prop where
  len : s.length ≤ 10000
  ok : ∀ c ∈ s.cps.toList, c < 1114112
mutual
/-- the thing d is held at x; its lists stand where B says -/
inductive EncB (B : Addr → Prop) (H : Hp) : Da → V → Prop
  | non : EncB B H .non .non
  | bl (b : Bool) : EncB B H (.bl b) (.bl b)
  | int (i : Int) : EncB B H (.int i) (.int i)
  | str (s : Str) (h : SOk s) : EncB B H (.str s) (.str s)
  | tup {a : Addr} {xs : List V} {l : List Da} (h : H a = some (.tup xs)) (e : EncsB B H l xs) : EncB B H (.tup l) (.ref a)
  | lst {a : Addr} {xs : List V} {l : List Da} (h : H a = some (.lst xs)) (e : EncsB B H l xs) (b : B a) : EncB B H (.lst l) (.ref a)
inductive EncsB (B : Addr → Prop) (H : Hp) : List Da → List V → Prop
  | nil : EncsB B H [] []
  | cons {d : Da} {x : V} {l : List Da} {xs : List V} (h : EncB B H d x) (t : EncsB B H l xs) : EncsB B H (d :: l) (x :: xs)
end
abbrev Enc (H : Hp) : Da → V → Prop := EncB (fun _ => True) H
abbrev Encs (H : Hp) : List Da → List V → Prop := EncsB (fun _ => True) H
mutual
theorem EncB.any {B : Addr → Prop} {H : Hp} : ∀ {d : Da} {x : V}, EncB B H d x → Enc H d x
  | _, _, .non => .non
  | _, _, .bl b => .bl b
  | _, _, .int i => .int i
  | _, _, .str s h => .str s h
  | _, _, .tup h e => .tup h (EncsB.any e)
  | _, _, .lst h e _ => .lst h (EncsB.any e) trivial
theorem EncsB.any {B : Addr → Prop} {H : Hp} : ∀ {l : List Da} {xs : List V}, EncsB B H l xs → Encs H l xs
  | _, _, .nil => .nil
  | _, _, .cons h t => .cons (EncB.any h) (EncsB.any t)
end
/-- all that stood stands; tables may have grown -/
def Grow (H H' : Hp) : Prop := ∀ a o, H a = some o → H' a = some o ∨ (∃ ps, o = .tbl ps) ∧ TabG H' a
theorem Grow.refl (H : Hp) : Grow H H := fun _ _ h => .inl h
theorem Grow.trans {H H1 H2 : Hp} (x : Grow H H1) (y : Grow H1 H2) : Grow H H2 := fun a o h => by
  rcases x a o h with h1 | ⟨h1, h2⟩
  · exact y a o h1
  · obtain ⟨ps, q, _⟩ := h2
    rcases y a _ q with z | ⟨_, z⟩
    · exact .inr ⟨h1, ps, z, by assumption⟩
    · exact .inr ⟨h1, z⟩
theorem Grow.new {H : Hp} {a : Addr} {o : HO} (h : H a = none) : Grow H (upd H a o) := fun b u e => .inl (by rw [upd_ne (ne_of_none e h)]; exact e)
theorem Grow.tab {P : Addr} {H H' : Hp} (h : TabG H P) (t : Tabbed P H H') : Grow H H' := fun b u e => by
  by_cases z : b = P
  · subst z
    obtain ⟨ps, q, _⟩ := h
    rw [q] at e
    cases e
    exact .inr ⟨⟨ps, rfl⟩, t.1⟩
  · exact .inl ((t.2 b z).trans e)
theorem Grow.tup {H H' : Hp} (g : Grow H H') {a : Addr} {xs : List V} (h : H a = some (.tup xs)) : H' a = some (.tup xs) := by
  rcases g a _ h with q | ⟨⟨ps, q⟩, _⟩
  · exact q
  · cases q
theorem Grow.lst {H H' : Hp} (g : Grow H H') {a : Addr} {xs : List V} (h : H a = some (.lst xs)) : H' a = some (.lst xs) := by
  rcases g a _ h with q | ⟨⟨ps, q⟩, _⟩
  · exact q
  · cases q
theorem Grow.tabs {H H' : Hp} (g : Grow H H') {P : Addr} (h : TabG H P) : TabG H' P := by
  obtain ⟨ps, q, z⟩ := h
  rcases g P _ q with q | ⟨_, q⟩
  · exact ⟨ps, q, z⟩
  · exact q
/-- .. but for the list at w, which is none of B's -/
def GrowW (w : Addr) (H H' : Hp) : Prop := ∀ a o, a ≠ w → H a = some o → H' a = some o ∨ (∃ ps, o = .tbl ps) ∧ TabG H' a
mutual
theorem EncB.growW {B : Addr → Prop} {w : Addr} {H H' : Hp} (g : GrowW w H H') (hB : ¬ B w) (hw : ∀ xs, H w ≠ some (.tup xs)) : ∀ {d : Da} {x : V}, EncB B H d x → EncB B H' d x
  | _, _, .non => .non
  | _, _, .bl b => .bl b
  | _, _, .int i => .int i
  | _, _, .str s h => .str s h
  | _, _, .tup (a := a) (xs := xs) h e => .tup (by
      rcases g a _ (fun z => hw xs (z ▸ h)) h with q | ⟨⟨ps, q⟩, _⟩
      · exact q
      · cases q) (EncsB.growW g hB hw e)
  | _, _, .lst (a := a) h e b => .lst (by
      rcases g a _ (fun z => hB (z ▸ b)) h with q | ⟨⟨ps, q⟩, _⟩
      · exact q
      · cases q) (EncsB.growW g hB hw e) b
theorem EncsB.growW {B : Addr → Prop} {w : Addr} {H H' : Hp} (g : GrowW w H H') (hB : ¬ B w) (hw : ∀ xs, H w ≠ some (.tup xs)) : ∀ {l : List Da} {xs : List V}, EncsB B H l xs → EncsB B H' l xs
  | _, _, .nil => .nil
  | _, _, .cons h t => .cons (EncB.growW g hB hw h) (EncsB.growW g hB hw t)
end
mutual
theorem EncB.grow {B : Addr → Prop} {H H' : Hp} (g : Grow H H') : ∀ {d : Da} {x : V}, EncB B H d x → EncB B H' d x
  | _, _, .non => .non
  | _, _, .bl b => .bl b
  | _, _, .int i => .int i
  | _, _, .str s h => .str s h
  | _, _, .tup h e => .tup (g.tup h) (EncsB.grow g e)
  | _, _, .lst h e b => .lst (g.lst h) (EncsB.grow g e) b
theorem EncsB.grow {B : Addr → Prop} {H H' : Hp} (g : Grow H H') : ∀ {l : List Da} {xs : List V}, EncsB B H l xs → EncsB B H' l xs
  | _, _, .nil => .nil
  | _, _, .cons h t => .cons (EncB.grow g h) (EncsB.grow g t)
end
theorem EncsB.length {B : Addr → Prop} {H : Hp} : ∀ {l : List Da} {xs : List V}, EncsB B H l xs → l.length = xs.length
  | _, _, .nil => rfl
  | _, _, .cons _ t => by rw [List.length_cons, List.length_cons, EncsB.length t]
theorem EncsB.get {B : Addr → Prop} {H : Hp} : ∀ {l : List Da} {xs : List V} {i : Nat} {x : V}, EncsB B H l xs → xs[i]? = some x → ∃ d, l[i]? = some d ∧ EncB B H d x
  | _, _, _, _, .nil, e => by cases e
  | _, _, 0, _, .cons h _, e => by cases e; exact ⟨_, rfl, h⟩
  | _, _, i + 1, _, .cons _ t, e => by
    obtain ⟨d, q, z⟩ := EncsB.get t (i := i) e
    exact ⟨d, q, z⟩
theorem EncsB.got {B : Addr → Prop} {H : Hp} : ∀ {l : List Da} {xs : List V} {i : Nat} {d : Da}, EncsB B H l xs → l[i]? = some d → ∃ x, xs[i]? = some x ∧ EncB B H d x
  | _, _, _, _, .nil, e => by cases e
  | _, _, 0, _, .cons h _, e => by cases e; exact ⟨_, rfl, h⟩
  | _, _, i + 1, _, .cons _ t, e => by
    obtain ⟨d, q, z⟩ := EncsB.got t (i := i) e
    exact ⟨d, q, z⟩
def tyD : Da → String
  | .non => "NoneType"
  | .bl _ => "bool"
  | .int _ => "int"
  | .str _ => "str"
  | .tup _ => "tuple"
  | .lst _ => "list"
theorem EncB.ty {B : Addr → Prop} {K : PySem.W.Frag} {H : Hp} {d : Da} {x : V} (h : EncB B H d x) : TyX K H x (.type (tyD d)) := by
  cases h with
  | non => exact .base .non
  | bl b => exact .base (.bl b)
  | int i => exact .base (.int i)
  | str s _ => exact .base (.str s)
  | tup h e => exact .base (.tup h)
  | lst h e _ => exact .base (.lst h)
/-- isinstance's answer -/
def isD (d : Da) (t : String) : Bool := match d, t with
  | .bl _, "int" => true
  | d, t => tyD d == t
theorem kb_NoneType_int : kitB "NoneType" "int" = some false := by decide +kernel
theorem kb_NoneType_bool : kitB "NoneType" "bool" = some false := by decide +kernel
theorem kb_NoneType_str : kitB "NoneType" "str" = some false := by decide +kernel
theorem kb_NoneType_tuple : kitB "NoneType" "tuple" = some false := by decide +kernel
theorem kb_bool_int : kitB "bool" "int" = some true := by decide +kernel
theorem kb_bool_bool : kitB "bool" "bool" = some true := by decide +kernel
theorem kb_bool_str : kitB "bool" "str" = some false := by decide +kernel
theorem kb_bool_tuple : kitB "bool" "tuple" = some false := by decide +kernel
theorem kb_int_int : kitB "int" "int" = some true := by decide +kernel
theorem kb_int_bool : kitB "int" "bool" = some false := by decide +kernel
theorem kb_int_str : kitB "int" "str" = some false := by decide +kernel
theorem kb_int_tuple : kitB "int" "tuple" = some false := by decide +kernel
theorem kb_str_int : kitB "str" "int" = some false := by decide +kernel
theorem kb_str_bool : kitB "str" "bool" = some false := by decide +kernel
theorem kb_str_str : kitB "str" "str" = some true := by decide +kernel
theorem kb_str_tuple : kitB "str" "tuple" = some false := by decide +kernel
theorem kb_tuple_int : kitB "tuple" "int" = some false := by decide +kernel
theorem kb_tuple_bool : kitB "tuple" "bool" = some false := by decide +kernel
theorem kb_tuple_str : kitB "tuple" "str" = some false := by decide +kernel
theorem kb_tuple_tuple : kitB "tuple" "tuple" = some true := by decide +kernel
theorem kb_list_int : kitB "list" "int" = some false := by decide +kernel
theorem kb_list_bool : kitB "list" "bool" = some false := by decide +kernel
theorem kb_list_str : kitB "list" "str" = some false := by decide +kernel
theorem kb_list_tuple : kitB "list" "tuple" = some false := by decide +kernel
def bI : Da → Bool
  | .bl _ => true
  | .int _ => true
  | _ => false
def bB : Da → Bool
  | .bl _ => true
  | _ => false
def bS : Da → Bool
  | .str _ => true
  | _ => false
def bT : Da → Bool
  | .tup _ => true
  | _ => false
theorem kitD (d : Da) : kitB (tyD d) "int" = some (bI d) ∧ kitB (tyD d) "bool" = some (bB d) ∧ kitB (tyD d) "str" = some (bS d) ∧ kitB (tyD d) "tuple" = some (bT d) := match d with
  | .non => ⟨kb_NoneType_int, kb_NoneType_bool, kb_NoneType_str, kb_NoneType_tuple⟩
  | .bl _ => ⟨kb_bool_int, kb_bool_bool, kb_bool_str, kb_bool_tuple⟩
  | .int _ => ⟨kb_int_int, kb_int_bool, kb_int_str, kb_int_tuple⟩
  | .str _ => ⟨kb_str_int, kb_str_bool, kb_str_str, kb_str_tuple⟩
  | .tup _ => ⟨kb_tuple_int, kb_tuple_bool, kb_tuple_str, kb_tuple_tuple⟩
  | .lst _ => ⟨kb_list_int, kb_list_bool, kb_list_str, kb_list_tuple⟩
/-- a def as the globals hold it -/
structure Df (K : PySem.W.Frag) (mg : Str → Option Value) (x : Str) (ps : List Str) (f : Addr) (fd : FuncData) : Prop where
  g : mg x = some (.ref f)
  k : PySem.W.keepIn K (.ref f) = true
  b : Binds K fd ps []
theorem ifT {p : Prop} [Decidable p] {A B : Prop} (h : p) (a : A) : if decide p = true then A else B := by
  rw [decide_eq_true h]
  exact iteT a
theorem ifF {p : Prop} [Decidable p] {A B : Prop} (h : ¬ p) (b : B) : if decide p = true then A else B := by
  rw [decide_eq_false h]
  exact iteF b
/-! ### a def that holds generator expressions: its code object at c -/
structure FunC (K : PySem.W.Frag) (x qual : Str) (st : Stmt) (f : Addr) (fd : FuncData) (c : Addr) : Prop where
  ex : ∃ (oc : Value) (od : Option Addr) (kV doc pm : Value) (an : Option Addr) (ct : Value) (osl : Array (Option Value)),
    fd = PySem.W.fnOf x qual (defArgs st) (defBody st) (defScope st) .none kV doc pm an (.ref c) ct ∧ K.lookup f = some ⟨oc, od, .func fd, osl⟩ ∧ PySem.W.codeIn K (.ref c) qual = true
  kp : PySem.W.keepIn K (.ref f) = true
theorem FunC.ok {P : Program} {w : World} {K : PySem.W.Frag} {mg : Str → Option Value} {base : Heap} {x qual : Str} {st : Stmt} {f c : Addr} {fd : FuncData} {N ps : List Str} {k : Nat} {sp : Sp} (F : FunC K x qual st f fd c) (S : FnScope N ps (defScope st)) (len : ∀ vs H Q E, sp vs H Q E → vs.length = ps.length)
    (hbody : ∀ (A : Around) (outer : List Env) (s : Shared) (H : Hp) (vs : List V) (Q : VK) (E : XK), Room k (A.deeper (envOfC qual (defScope st) s.heap.objs.size f (.ref c))) → sp vs H Q E →
      ∃ t, PSs (cxOf CX0 P w K mg base N qual (defScope st) f (.ref c) A outer s H E).nox (defBody st) t ∧ t { nx := fun _ H' => Q .non H', rt := Q } (start N vs) H) : FnOk P w K mg base CX0 (k + 1) f fd ps sp := by
  obtain ⟨oc, od, kV, doc, pm, an, ct, osl, rfl, lk, hcd⟩ := F.ex
  refine fn_of lk hcd S len fun A outer s H vs Q E hr hsp => ?_
  obtain ⟨t, h, q⟩ := hbody A outer s H vs Q E hr hsp
  exact ⟨t, h.nox, q⟩

/-! ### over a tuple that stands still -/
theorem turns_tup {K : PySem.W.Frag} {a : Addr} {xs : List V} {g : TG} {tt : TT} {te : TE} {vs : List Nat} {σ : L2.St} {stop : List V → Hp → Prop} {KK : TK} {H0 : Hp} (Pv : Nat → List V → Hp → Prop) (h0 : Pv 0 [] H0) (hl : ∀ i acc H, i ≤ xs.length → Pv i acc H → H a = some (.tup xs))
    (hs : ∀ i x acc H, xs[i]? = some x → Pv i acc H → g x (wipe σ vs) H fun σ2 H2 => wipe σ2 vs = wipe σ vs ∧ tt σ2 H2 fun b H3 => if b = true then te σ2 H3 fun y H4 => KK acc y H4 (Pv (i + 1)) else Pv (i + 1) acc H3)
    (hd : ∀ acc H, Pv xs.length acc H → stop acc H) : ∃ W : Nat → Nat → List V → Hp → Prop, (∃ m, W 0 m [] H0) ∧ Turns (Itt K a) g tt te vs σ stop KK W := by
  refine ⟨fun i m acc H => m = xs.length - i ∧ i ≤ xs.length ∧ Pv i acc H, ⟨xs.length, by simp, Nat.zero_le _, h0⟩, ?_⟩
  rintro i m acc H ⟨rfl, hi, p⟩
  have q : SqT K H a xs := SqT.of (hl i acc H hi p)
  by_cases hlt : i < xs.length
  · refine .inr ⟨⟨xs, xs[i], q, by simp [hlt]⟩, Pv (i + 1), fun acc' H' p' => ⟨xs.length - (i + 1), by omega, rfl, hlt, p'⟩, fun x H' y => ?_⟩
    obtain ⟨e, y⟩ := y
    subst e
    exact hs i x acc _ (y xs q) p
  · have e : i = xs.length := by omega
    subst e
    exact .inl ⟨⟨xs, q, Nat.le_refl _⟩, hd acc H p⟩
end J1
set_option Elab.async false
set_option linter.all false
set_option maxRecDepth 100000
set_option maxHeartbeats 4000000
namespace J1
open PySem PySem.Spec PyProof.Rows L2 GxR GA
abbrev sInt : Stmt := top 14
abbrev sBet : Stmt := top 15
abbrev sTup : Stmt := top 18
abbrev sNam : Stmt := top 19
abbrev sLow : Stmt := top 20
abbrev sFir : Stmt := top 23
theorem c11 : FnScope ["thing"] ["thing"] (defScope sInt) := ⟨rfl, rfl, rfl, by decide +kernel, rfl, by decide +kernel, by decide +kernel⟩
theorem c12 : FnScope ["thing", "least", "most"] ["thing", "least", "most"] (defScope sBet) := ⟨rfl, rfl, rfl, by decide +kernel, rfl, by decide +kernel, by decide +kernel⟩
theorem c15 : FnScope ["thing", "least", "most"] ["thing", "least", "most"] (defScope sTup) := ⟨rfl, rfl, rfl, by decide +kernel, rfl, by decide +kernel, by decide +kernel⟩
theorem c16 : FnScope ["thing"] ["thing"] (defScope sNam) := ⟨rfl, rfl, rfl, by decide +kernel, rfl, by decide +kernel, by decide +kernel⟩
theorem c17 : FnScope ["thing"] ["thing"] (defScope sLow) := ⟨rfl, rfl, rfl, by decide +kernel, rfl, by decide +kernel, by decide +kernel⟩
theorem c20 : FnScope ["thing"] ["thing"] (defScope sFir) := ⟨rfl, rfl, rfl, by decide +kernel, rfl, by decide +kernel, by decide +kernel⟩
/-! ### what they tell -/
def isInt (d : Da) : Bool := bI d && !bB d
def isBet (lo hi : Int) : Da → Bool
  | .int i => decide (lo ≤ i) && decide (i ≤ hi)
  | _ => false
def isTu (lo hi : Int) : Da → Bool
  | .tup l => decide (lo ≤ (l.length : Int)) && decide ((l.length : Int) ≤ hi)
  | _ => false
def wordsL : List Str := ["def", "else", "give", "if", "kind", "let", "match", "whole"]
def head1 (s : Str) : Str := ⟨#[s.cps.toList.headD 0]⟩
def isNamS (s : Str) : Bool := decide (1 ≤ (s.length : Int)) && (decide ((s.length : Int) ≤ 10) && (Txt.isascii s && (Txt.isalnum s && (Txt.isalpha (head1 s) && !inV (.str s) (wordsL.map V.str)))))
def isNam : Da → Bool
  | .str s => isNamS s
  | _ => false
def isLow : Da → Bool
  | .str s => isNamS s && Txt.islower (head1 s)
  | _ => false
def isHig : Da → Bool
  | .str s => isNamS s && Txt.isupper (head1 s)
  | _ => false
def isKin : Da → Bool
  | .str s => decide (s = "whole") || isHig (.str s)
  | _ => false
def firstW : Da → Str
  | .tup (.str s :: _) => s
  | _ => ""
/-- a judge of one thing that lays nothing -/
def spF (g : Da → Bool) : Sp := fun vs H Q _ => ∃ x d, vs = [x] ∧ Enc H d x ∧ Q (.bl (g d)) H
def spF3 (g : Int → Int → Da → Bool) : Sp := fun vs H Q _ => ∃ x d lo hi, vs = [x, .int lo, .int hi] ∧ Enc H d x ∧ Q (.bl (g lo hi d)) H
def spW : Sp := fun vs H Q _ => ∃ x d, vs = [x] ∧ Enc H d x ∧ Q (.str (firstW d)) H
/-- the globals that they use -/
structure Gn (K : PySem.W.Frag) (mg : Str → Option Value) : Prop where
  nI : mg "isinstance" = none
  ni : mg "int" = none
  nb : mg "bool" = none
  nt : mg "tuple" = none
  ns : mg "str" = none
  nl : mg "len" = none
  na : mg "all" = none
  signs : ∃ t, mg "MOST_SIGNS" = some (.int 10 t)
  words : ∃ W, mg "WORDS" = some (.ref W) ∧ ∀ H, SqT K H W (wordsL.map V.str)
section
variable {P : Program} {w : World} {K : PySem.W.Frag} {mg : Str → Option Value} {base : Heap}
theorem ok_int {f : Addr} {fd : FuncData} (F : Fun K "is_integer" "is_integer" sInt f fd) (N : Gn K mg) : FnOk P w K mg base CX0 1 f fd ["thing"] (spF isInt) := by
  refine F.ok c11 (fun vs H Q E h => ?_) (fun cdv A outer s H vs Q E hr h => ?_)
  · obtain ⟨x, d, rfl, _⟩ := h
    rfl
  · obtain ⟨x, d, rfl, en, k⟩ := h
    obtain ⟨kI, kB, _, _⟩ := kitD d
    refine ⟨_, pss_one (ps_ret (pe_and (pe_callB call_isi (by rfl) N.nI boot_isinstance (pa_cons (pv 0) (pa_cons (pe_bltn (v := .ty "int") rfl N.ni (by decide +kernel) rfl) pa_nil)))
      (pe_one (pe_not (pe_callB call_isi (by rfl) N.nI boot_isinstance (pa_cons (pv 0) (pa_cons (pe_bltn (v := .ty "bool") rfl N.nb (by decide +kernel) rfl) pa_nil))))))), ?_⟩
    refine ⟨_, rfl, _, _, _, _, _, rfl, .ty "int", en.ty, kit_ty kI, _, rfl, ite2 (fun e => ?_) (fun e => ?_)⟩
    · refine ⟨_, rfl, _, _, _, _, _, rfl, .ty "bool", en.ty, kit_ty kB, _, rfl, ?_⟩
      unfold isInt at k
      rw [e, Bool.true_and] at k
      exact k
    · unfold isInt at k
      rw [Bool.eq_false_iff.mpr e, Bool.false_and] at k
      exact k
theorem ok_bet {f fI : Addr} {fd fdI : FuncData} (F : Fun K "is_between" "is_between" sBet f fd) (GI : FnOk P w K mg base CX0 1 fI fdI ["thing"] (spF isInt)) (I : Df K mg "is_integer" ["thing"] fI fdI) : FnOk P w K mg base CX0 2 f fd ["thing", "least", "most"] (spF3 isBet) := by
  refine F.ok c12 (fun vs H Q E h => ?_) (fun cdv A outer s H vs Q E hr h => ?_)
  · obtain ⟨x, d, lo, hi, rfl, _⟩ := h
    rfl
  · obtain ⟨x, d, lo, hi, rfl, en, k⟩ := h
    refine ⟨_, pss_one (ps_ret (pe_and (pe_call GI hr (by rfl) I.g I.k I.b .nil pass0 (pa_cons (pv 0) pa_nil)) (pe_one (pe_chain op_le op_le (pv 1) (pv 0) (pv 2))))), ?_⟩
    refine ⟨_, rfl, _, _, rfl, en, _, rfl, ?_⟩
    cases en with
    | int i =>
      refine iteT ⟨_, rfl, _, rfl, _, _, rfl, rfl, _, rfl, ?_⟩
      by_cases h1 : lo ≤ i
      · refine ifT h1 ⟨_, rfl, _, _, rfl, rfl, ?_⟩
        have e : isBet lo hi (.int i) = decide (i ≤ hi) := by show (decide (lo ≤ i) && decide (i ≤ hi)) = _; rw [decide_eq_true h1, Bool.true_and]
        rw [e] at k
        exact k
      · refine ifF h1 ?_
        have e : isBet lo hi (.int i) = false := by show (decide (lo ≤ i) && decide (i ≤ hi)) = _; rw [decide_eq_false h1, Bool.false_and]
        rw [e] at k
        exact k
    | non => exact iteF k
    | bl b => exact iteF k
    | str s => exact iteF k
    | tup h e => exact iteF k
    | lst h e => exact iteF k
theorem ok_tup {f : Addr} {fd : FuncData} (F : Fun K "is_tuple" "is_tuple" sTup f fd) (N : Gn K mg) : FnOk P w K mg base CX0 1 f fd ["thing", "least", "most"] (spF3 isTu) := by
  refine F.ok c15 (fun vs H Q E h => ?_) (fun cdv A outer s H vs Q E hr h => ?_)
  · obtain ⟨x, d, lo, hi, rfl, _⟩ := h
    rfl
  · obtain ⟨x, d, lo, hi, rfl, en, k⟩ := h
    obtain ⟨_, _, _, kT⟩ := kitD d
    refine ⟨_, pss_one (ps_ret (pe_and (pe_callB call_isi (by rfl) N.nI boot_isinstance (pa_cons (pv 0) (pa_cons (pe_bltn (v := .ty "tuple") rfl N.nt (by decide +kernel) rfl) pa_nil)))
      (pe_one (pe_chain op_le op_le (pv 1) (pe_callB call_len_seq (by rfl) N.nl PySem.boot_len (pa_cons (pv 0) pa_nil)) (pv 2))))), ?_⟩
    refine ⟨_, rfl, _, _, _, _, _, rfl, .ty "tuple", en.ty, kit_ty kT, _, rfl, ?_⟩
    cases en with
    | @tup a xs l h e =>
      have el := e.length
      refine iteT ⟨_, rfl, _, rfl, a, xs, rfl, .inr (SqT.of h), _, _, rfl, rfl, _, rfl, ?_⟩
      by_cases h1 : lo ≤ (xs.length : Int)
      · refine ifT h1 ⟨_, rfl, _, _, rfl, rfl, ?_⟩
        have e : isTu lo hi (.tup l) = decide ((xs.length : Int) ≤ hi) := by show (decide (lo ≤ (l.length : Int)) && decide ((l.length : Int) ≤ hi)) = _; rw [el, decide_eq_true h1, Bool.true_and]
        rw [e] at k
        exact k
      · refine ifF h1 ?_
        have e : isTu lo hi (.tup l) = false := by show (decide (lo ≤ (l.length : Int)) && decide ((l.length : Int) ≤ hi)) = _; rw [el, decide_eq_false h1, Bool.false_and]
        rw [e] at k
        exact k
    | non => exact iteF k
    | bl b => exact iteF k
    | int i => exact iteF k
    | str s => exact iteF k
    | lst h e => exact iteF k
theorem at0 {s : Str} (h : 1 ≤ (s.length : Int)) : atI s.cps.toList 0 = some (s.cps.toList.headD 0) := by
  have hl : 1 ≤ s.cps.toList.length := by
    have e : s.cps.toList.length = s.length := by rw [Array.length_toList]; rfl
    omega
  match e : s.cps.toList, hl with
  | [], hl => exact absurd hl (by decide)
  | c :: r, _ => simp [atI, ixN]
theorem sz {s : Str} (h : SOk s) : s.length ≤ sizeLine := by
  have := h.len
  rw [sizeLine_eq]
  omega
theorem words_flat : (wordsL.map V.str).all flatV = true := rfl
theorem ok_nam {f : Addr} {fd : FuncData} (F : Fun K "is_name" "is_name" sNam f fd) (N : Gn K mg) : FnOk P w K mg base CX0 1 f fd ["thing"] (spF isNam) := by
  obtain ⟨t, hn⟩ := N.signs
  obtain ⟨W, hW, hWs⟩ := N.words
  refine F.ok c16 (fun vs H Q E h => ?_) (fun cdv A outer s H vs Q E hr h => ?_)
  · obtain ⟨x, d, rfl, _⟩ := h
    rfl
  · obtain ⟨x, d, rfl, en, k⟩ := h
    obtain ⟨_, _, kS, _⟩ := kitD d
    refine ⟨_, pss_cons (ps_if (PW.pt (pw_or (pt_not (pt_val (pe_callB call_isi (by rfl) N.nI boot_isinstance (pa_cons (pv 0) (pa_cons (pe_bltn (v := .ty "str") rfl N.ns (by decide +kernel) rfl) pa_nil)))))
        (pw_or1 (pt_not (pt_chain op_le op_le pe_int (pe_callB call_len_str (by rfl) N.nl PySem.boot_len (pa_cons (pv 0) pa_nil)) (pe_glob (v := .int 10) (by rfl) hn ⟨t, rfl⟩)))))) (pss_one (ps_ret pe_bl)) pss_nil)
      (pss_one (ps_ret (pe_and (pe_bm0 PySem.F.plainAttrs_str PySem.F.slot_str_isascii PySem.F.type_str_isascii mt_isascii (pv 0))
        (pe_and (pe_bm0 PySem.F.plainAttrs_str PySem.F.slot_str_isalnum PySem.F.type_str_isalnum mt_isalnum (pv 0))
        (pe_and (pe_bm0 PySem.F.plainAttrs_str PySem.F.slot_str_isalpha PySem.F.type_str_isalpha mt_isalpha (pe_ix ix_str (pv 0) pe_int (fun _ _ => rfl)))
        (pe_one (pe_cmpR op_notIn_seq (pv 0) (pe_glob (v := .ref W) (by rfl) hW rfl) (by rfl)))))))), ?_⟩
    refine ⟨_, rfl, _, _, _, _, _, rfl, .ty "str", en.ty, kit_ty kS, _, rfl, ?_⟩
    cases en with
    | str s hz =>
      refine iteF ⟨_, rfl, s, rfl, sz hz, _, _, rfl, rfl, _, rfl, ?_⟩
      have ek : isNam (.str s) = (decide (1 ≤ (s.length : Int)) && (decide ((s.length : Int) ≤ 10) && (Txt.isascii s && (Txt.isalnum s && (Txt.isalpha (head1 s) && !inV (.str s) (wordsL.map V.str)))))) := rfl
      rw [ek] at k
      by_cases h1 : 1 ≤ (s.length : Int)
      · rw [decide_eq_true h1, Bool.true_and] at k
        refine ifT h1 ⟨_, _, rfl, rfl, _, rfl, ?_⟩
        by_cases h2 : (s.length : Int) ≤ 10
        · rw [decide_eq_true h2, Bool.true_and] at k
          rw [decide_eq_true h2]
          refine iteF ⟨_, rfl, rfl, _, rfl, rfl, trivial, _, rfl, ite2 (fun e => ?_) (fun e => ?_)⟩
          · rw [e, Bool.true_and] at k
            refine ⟨_, rfl, rfl, _, rfl, rfl, trivial, _, rfl, ite2 (fun e => ?_) (fun e => ?_)⟩
            · rw [e, Bool.true_and] at k
              refine ⟨_, rfl, s, _, _, rfl, rfl, sz hz, at0 h1, rfl, _, rfl, rfl, trivial, _, rfl, ite2 (fun e => ?_) (fun e => ?_)⟩
              · have e : Txt.isalpha (head1 s) = true := e
                rw [e, Bool.true_and] at k
                exact ⟨_, rfl, W, _, rfl, .inr (hWs H), rfl, words_flat, k⟩
              · have e : ¬ Txt.isalpha (head1 s) = true := e
                rw [Bool.eq_false_iff.mpr e, Bool.false_and] at k
                exact k
            · rw [Bool.eq_false_iff.mpr e, Bool.false_and] at k
              exact k
          · rw [Bool.eq_false_iff.mpr e, Bool.false_and] at k
            exact k
        · rw [decide_eq_false h2, Bool.false_and] at k
          rw [decide_eq_false h2]
          exact iteT k
      · rw [decide_eq_false h1, Bool.false_and] at k
        exact ifF h1 ⟨_, rfl, iteT k⟩
    | non => exact iteT k
    | bl b => exact iteT k
    | int i => exact iteT k
    | tup h e => exact iteT k
    | lst h e => exact iteT k
theorem nam_len {s : Str} (h : isNamS s = true) : 1 ≤ (s.length : Int) := by
  unfold isNamS at h
  rw [Bool.and_eq_true] at h
  exact of_decide_eq_true h.1
theorem ok_low {f fN : Addr} {fd fdN : FuncData} (F : Fun K "is_low" "is_low" sLow f fd) (GN : FnOk P w K mg base CX0 1 fN fdN ["thing"] (spF isNam)) (D : Df K mg "is_name" ["thing"] fN fdN) : FnOk P w K mg base CX0 2 f fd ["thing"] (spF isLow) := by
  refine F.ok c17 (fun vs H Q E h => ?_) (fun cdv A outer s H vs Q E hr h => ?_)
  · obtain ⟨x, d, rfl, _⟩ := h
    rfl
  · obtain ⟨x, d, rfl, en, k⟩ := h
    refine ⟨_, pss_one (ps_ret (pe_and (pe_call GN hr (by rfl) D.g D.k D.b .nil pass0 (pa_cons (pv 0) pa_nil))
      (pe_one (pe_bm0 PySem.F.plainAttrs_str PySem.F.slot_str_islower PySem.F.type_str_islower mt_islower (pe_ix ix_str (pv 0) pe_int (fun _ _ => rfl)))))), ?_⟩
    refine ⟨_, rfl, _, _, rfl, en, _, rfl, ?_⟩
    cases en with
    | str s hz =>
      refine ite2 (fun e => ?_) (fun e => ?_)
      · have e : isNamS s = true := e
        refine ⟨_, rfl, s, _, _, rfl, rfl, sz hz, at0 (nam_len e), rfl, _, rfl, rfl, trivial, ?_⟩
        have ek : isLow (.str s) = (isNamS s && Txt.islower (head1 s)) := rfl
        rw [ek, e, Bool.true_and] at k
        exact k
      · have e : ¬ isNamS s = true := e
        have ek : isLow (.str s) = (isNamS s && Txt.islower (head1 s)) := rfl
        rw [ek, Bool.eq_false_iff.mpr e, Bool.false_and] at k
        exact k
    | non => exact iteF k
    | bl b => exact iteF k
    | int i => exact iteF k
    | tup h e => exact iteF k
    | lst h e => exact iteF k
theorem ok_fir {f : Addr} {fd : FuncData} (F : Fun K "first_word" "first_word" sFir f fd) (N : Gn K mg) : FnOk P w K mg base CX0 1 f fd ["thing"] spW := by
  refine F.ok c20 (fun vs H Q E h => ?_) (fun cdv A outer s H vs Q E hr h => ?_)
  · obtain ⟨x, d, rfl, _⟩ := h
    rfl
  · obtain ⟨x, d, rfl, en, k⟩ := h
    obtain ⟨_, _, _, kT⟩ := kitD d
    refine ⟨_, pss_cons (ps_if (PW.pt (pw_and (pt_val (pe_callB call_isi (by rfl) N.nI boot_isinstance (pa_cons (pv 0) (pa_cons (pe_bltn (v := .ty "tuple") rfl N.nt (by decide +kernel) rfl) pa_nil))))
        (pw_and (pt_truth (pv 0) (fun _ => rfl)) (pw_and1 (pt_val (pe_callB call_isi (by rfl) N.nI boot_isinstance (pa_cons (pe_ix ix_tup (pv 0) pe_int (fun _ _ => rfl)) (pa_cons (pe_bltn (v := .ty "str") rfl N.ns (by decide +kernel) rfl) pa_nil)))))))) (pss_one (ps_ret (pe_ix ix_tup (pv 0) pe_int (fun _ _ => rfl)))) pss_nil)
      (pss_one (ps_ret pe_str)), ?_⟩
    refine ⟨_, rfl, _, _, _, _, _, rfl, .ty "tuple", en.ty, kit_ty kT, _, rfl, ?_⟩
    cases en with
    | @tup a xs l h e =>
      cases e with
      | nil => exact iteT ⟨_, rfl, _, .inr (.inl ⟨_, SqT.of h, rfl⟩), iteF k⟩
      | @cons d x l xs h1 t =>
        obtain ⟨_, _, kS, _⟩ := kitD d
        have g0 : atI (x :: xs) 0 = some x := at_of (j := 0) rfl rfl
        refine iteT ⟨_, rfl, _, .inr (.inl ⟨_, SqT.of h, rfl⟩), iteT ⟨_, rfl, a, _, _, _, rfl, rfl, SqT.of h, g0, _, _, _, _, _, rfl, .ty "str", h1.ty, kit_ty kS, _, rfl, ?_⟩⟩
        cases h1 with
        | str s hz => exact iteT ⟨_, rfl, a, _, _, _, rfl, rfl, SqT.of h, g0, k⟩
        | non => exact iteF k
        | bl b => exact iteF k
        | int i => exact iteF k
        | tup h e => exact iteF k
        | lst h e => exact iteF k
    | non => exact iteF k
    | bl b => exact iteF k
    | int i => exact iteF k
    | str s _ => exact iteF k
    | lst h e => exact iteF k
end
end J1
set_option Elab.async false
set_option linter.all false
set_option maxRecDepth 100000
set_option maxHeartbeats 4000000
namespace J1
open PySem PySem.Spec PyProof.Rows L2 GxR GA
abbrev sHig : Stmt := top 21
abbrev sKin : Stmt := top 22
theorem c18 : FnScope ["thing"] ["thing"] (defScope sHig) := ⟨rfl, rfl, rfl, by decide +kernel, rfl, by decide +kernel, by decide +kernel⟩
theorem c19 : FnScope ["thing"] ["thing"] (defScope sKin) := ⟨rfl, rfl, rfl, by decide +kernel, rfl, by decide +kernel, by decide +kernel⟩
section
variable {P : Program} {w : World} {K : PySem.W.Frag} {mg : Str → Option Value} {base : Heap}
theorem ok_hig {f fN : Addr} {fd fdN : FuncData} (F : Fun K "is_high" "is_high" sHig f fd) (GN : FnOk P w K mg base CX0 1 fN fdN ["thing"] (spF isNam)) (D : Df K mg "is_name" ["thing"] fN fdN) : FnOk P w K mg base CX0 2 f fd ["thing"] (spF isHig) := by
  refine F.ok c18 (fun vs H Q E h => ?_) (fun cdv A outer s H vs Q E hr h => ?_)
  · obtain ⟨x, d, rfl, _⟩ := h
    rfl
  · obtain ⟨x, d, rfl, en, k⟩ := h
    refine ⟨_, pss_one (ps_ret (pe_and (pe_call GN hr (by rfl) D.g D.k D.b .nil pass0 (pa_cons (pv 0) pa_nil))
      (pe_one (pe_bm0 PySem.F.plainAttrs_str PySem.F.slot_str_isupper PySem.F.type_str_isupper mt_isupper (pe_ix ix_str (pv 0) pe_int (fun _ _ => rfl)))))), ?_⟩
    refine ⟨_, rfl, _, _, rfl, en, _, rfl, ?_⟩
    cases en with
    | str s hz =>
      refine ite2 (fun e => ?_) (fun e => ?_)
      · have e : isNamS s = true := e
        refine ⟨_, rfl, s, _, _, rfl, rfl, sz hz, at0 (nam_len e), rfl, _, rfl, rfl, trivial, ?_⟩
        have ek : isHig (.str s) = (isNamS s && Txt.isupper (head1 s)) := rfl
        rw [ek, e, Bool.true_and] at k
        exact k
      · have e : ¬ isNamS s = true := e
        have ek : isHig (.str s) = (isNamS s && Txt.isupper (head1 s)) := rfl
        rw [ek, Bool.eq_false_iff.mpr e, Bool.false_and] at k
        exact k
    | non => exact iteF k
    | bl b => exact iteF k
    | int i => exact iteF k
    | tup h e => exact iteF k
    | lst h e => exact iteF k
theorem ok_kin {f fH : Addr} {fd fdH : FuncData} (F : Fun K "is_kind" "is_kind" sKin f fd) (N : Gn K mg) {tW : Tok} (hW : mg "WHOLE" = some (.str "whole" tW)) (GH : FnOk P w K mg base CX0 2 fH fdH ["thing"] (spF isHig)) (D : Df K mg "is_high" ["thing"] fH fdH) : FnOk P w K mg base CX0 3 f fd ["thing"] (spF isKin) := by
  refine F.ok c19 (fun vs H Q E h => ?_) (fun cdv A outer s H vs Q E hr h => ?_)
  · obtain ⟨x, d, rfl, _⟩ := h
    rfl
  · obtain ⟨x, d, rfl, en, k⟩ := h
    obtain ⟨_, _, kS, _⟩ := kitD d
    refine ⟨_, pss_one (ps_ret (pe_and (pe_callB call_isi (by rfl) N.nI boot_isinstance (pa_cons (pv 0) (pa_cons (pe_bltn (v := .ty "str") rfl N.ns (by decide +kernel) rfl) pa_nil)))
      (pe_one (pe_or (pe_cmpR op_eq (pv 0) (pe_glob (v := .str "whole") (by rfl) hW ⟨_, rfl⟩) (nomark _)) (pe_one (pe_call GH hr (by rfl) D.g D.k D.b .nil pass0 (pa_cons (pv 0) pa_nil))))))), ?_⟩
    refine ⟨_, rfl, _, _, _, _, _, rfl, .ty "str", en.ty, kit_ty kS, _, rfl, ?_⟩
    cases en with
    | str s hz =>
      have ek : isKin (.str s) = (decide (s = "whole") || isHig (.str s)) := rfl
      refine iteT ⟨_, rfl, rfl, _, rfl, ?_⟩
      have eq1 : decide (V.str s = V.str "whole") = decide (s = "whole") := decide_eq_decide.mpr ⟨fun z => V.str.inj z, fun z => by rw [z]⟩
      show if decide (V.str s = V.str "whole") = true then _ else _
      rw [eq1]
      by_cases h1 : s = "whole"
      · rw [ek, decide_eq_true h1, Bool.true_or] at k
        exact ifT h1 k
      · rw [ek, decide_eq_false h1, Bool.false_or] at k
        exact ifF h1 ⟨_, rfl, _, _, rfl, .str s hz, k⟩
    | non => exact iteF k
    | bl b => exact iteF k
    | int i => exact iteF k
    | tup h e => exact iteF k
    | lst h e => exact iteF k
end
end J1
set_option Elab.async false
set_option linter.all false
set_option maxRecDepth 100000
set_option maxHeartbeats 4000000
namespace J1
open PySem PySem.Spec PyProof.Rows L2 GxR GA
abbrev sKinds : Stmt := top 28
abbrev sEntry : Stmt := top 29
abbrev sMaker : Stmt := top 30
/-- a judge of one thing; tables may grow; T: the tables that it needs -/
def spG (T : Hp → Prop) (g : Da → Bool) : Sp := fun vs H Q _ => ∃ x d, vs = [x] ∧ Enc H d x ∧ T H ∧ ∀ H', Grow H H' → Q (.bl (g d)) H'
def Stays (T : Hp → Prop) : Prop := ∀ H H', Grow H H' → T H → T H'
theorem wipe_set {σ : L2.St} {j : Nat} {x : V} : wipe ((wipe σ [j]).set j (some x)) [j] = wipe σ [j] := by
  show (((σ.set j none).set j (some x)).set j none) = σ.set j none
  rw [List.set_set, List.set_set]
theorem all_take {l : List Da} {g : Da → Bool} {i : Nat} {d : Da} (h : (l.take i).all g = true) (e : l[i]? = some d) : (l.take (i + 1)).all g = g d := by
  rw [List.take_succ, e, List.all_append, h]
  simp
theorem all_not {l : List Da} {g : Da → Bool} {i : Nat} {d : Da} (e : l[i]? = some d) (h : g d = false) : l.all g = false := by
  rw [Bool.eq_false_iff]
  intro z
  rw [List.all_eq_true] at z
  rw [z d (List.mem_of_getElem? e)] at h
  cases h
/-- all(judge for x in t): behind the walked tuple -/
theorem rd_all {K : PySem.W.Frag} {P a : Addr} {xs : List V} {l : List Da} {j : Nat} {te : TE} {gj : Da → Bool} {T : Hp → Prop} {σ : L2.St} {H1 : Hp} {Q : VK} (ha : H1 a = some (.tup xs)) (el : Encs H1 l xs) (st : Stays T) (hT : T H1) (hP : TabG H1 P)
    (hel : ∀ x d H R, Enc H d x → T H → (∀ H', Grow H H' → R (.bl (gj d)) H') → te ((wipe σ [j]).set j (some x)) H R) (hQ : ∀ H', Grow H1 H' → Q (.bl (l.all gj)) H') :
    TabG H1 P ∧ ∀ H2, Tabbed P H1 H2 → ∃ W : Nat → Nat → List V → Hp → Prop, (∃ m, W 0 m [] H2) ∧ Turns (Itt K a) (gName j) tYes te [j] σ (fun _ H' => Q (.bl true) H') (KAll Q) W := by
  refine ⟨hP, fun H2 t => turns_tup (xs := xs) (fun i _ H => Grow H1 H ∧ (l.take i).all gj = true) ⟨Grow.tab hP t, rfl⟩ (fun i _ H _ p => p.1.tup ha) (fun i x acc H hx p => ?_) (fun acc H p => ?_)⟩
  · obtain ⟨d, hd, en⟩ := (el.grow p.1).get hx
    refine ⟨wipe_set, ?_⟩
    unfold tYes
    refine iteT (hel x d H _ en (st _ _ p.1 hT) fun H' g' => ⟨gj d, rfl, fun e => ?_, fun e => ?_⟩)
    · have q := hQ H' (p.1.trans g')
      rw [all_not hd e] at q
      exact q
    · exact ⟨p.1.trans g', (all_take p.2 hd).trans e⟩
  · have q := hQ H p.1
    have e : l.all gj = true := by
      have z := p.2
      rw [← el.length, List.take_length] at z
      exact z
    rw [e] at q
    exact q
theorem tu2 {d : Da} (h : isTu 2 2 d = true) : ∃ x y, d = .tup [x, y] := by
  cases d with
  | tup l =>
    have h : (decide ((2 : Int) ≤ (l.length : Int)) && decide ((l.length : Int) ≤ 2)) = true := h
    rw [Bool.and_eq_true] at h
    have h1 := of_decide_eq_true h.1
    have h2 := of_decide_eq_true h.2
    match l, h1, h2 with
    | [], h1, _ => exact absurd h1 (by decide)
    | [_], h1, _ => exact absurd h1 (by rw [List.length_singleton]; decide)
    | [x, y], _, _ => exact ⟨x, y, rfl⟩
    | _ :: _ :: _ :: _, _, h2 =>
      rw [List.length_cons, List.length_cons, List.length_cons] at h2
      omega
  | _ => cases h
theorem encs2 {B : Addr → Prop} {H : Hp} {d1 d2 : Da} {xs : List V} (h : EncsB B H [d1, d2] xs) : ∃ x1 x2, xs = [x1, x2] ∧ EncB B H d1 x1 ∧ EncB B H d2 x2 := by
  cases h with
  | cons h1 t => cases t with
    | cons h2 t => cases t with
      | nil => exact ⟨_, _, rfl, h1, h2⟩
theorem enc_tup {B : Addr → Prop} {H : Hp} {l : List Da} {x : V} (h : EncB B H (.tup l) x) : ∃ a xs, x = .ref a ∧ H a = some (.tup xs) ∧ EncsB B H l xs := by
  cases h with
  | tup h e => exact ⟨_, _, rfl, h, e⟩
def partsAll (g : Da → Bool) : Da → Bool
  | .tup l => l.all g
  | _ => false
def isMaker : Da → Bool
  | .tup [n, .tup fs] => isHig n && (decide (fs.length ≤ 5) && fs.all isKin)
  | _ => false
def isEntry : Da → Bool
  | .tup [n, .tup ms] => isHig n && (decide (1 ≤ ms.length) && (decide (ms.length ≤ 8) && ms.all isMaker))
  | _ => false
def areKinds : Da → Bool
  | .tup es => decide (es.length ≤ 8) && es.all isEntry
  | _ => false
theorem len_le {n : Nat} {l : List Da} : isTu 0 (n : Int) (.tup l) = decide (l.length ≤ n) := by
  have e : isTu 0 (n : Int) (.tup l) = (decide ((0 : Int) ≤ (l.length : Int)) && decide ((l.length : Int) ≤ (n : Int))) := rfl
  rw [e, decide_eq_true (by omega : (0 : Int) ≤ (l.length : Int)), Bool.true_and]
  exact decide_eq_decide.mpr (by omega)
theorem maker_eq {d1 d2 : Da} (h : isHig d1 = true) : isMaker (.tup [d1, d2]) = (isTu 0 5 d2 && partsAll isKin d2) := by
  cases d2 with
  | tup fs =>
    have e : isMaker (.tup [d1, .tup fs]) = (isHig d1 && (decide (fs.length ≤ 5) && fs.all isKin)) := rfl
    rw [e, h, Bool.true_and, ← len_le (n := 5)]
    rfl
  | _ => rfl
theorem len_in {n : Nat} {l : List Da} : isTu 1 (n : Int) (.tup l) = (decide (1 ≤ l.length) && decide (l.length ≤ n)) := by
  have e : isTu 1 (n : Int) (.tup l) = (decide ((1 : Int) ≤ (l.length : Int)) && decide ((l.length : Int) ≤ (n : Int))) := rfl
  rw [e]
  congr 1
  · exact decide_eq_decide.mpr (by omega)
  · exact decide_eq_decide.mpr (by omega)
theorem entry_eq {d1 d2 : Da} (h : isHig d1 = true) : isEntry (.tup [d1, d2]) = (isTu 1 8 d2 && partsAll isMaker d2) := by
  cases d2 with
  | tup fs =>
    have e : isEntry (.tup [d1, .tup fs]) = (isHig d1 && (decide (1 ≤ fs.length) && (decide (fs.length ≤ 8) && fs.all isMaker))) := rfl
    rw [e, h, Bool.true_and, ← Bool.and_assoc, ← len_in (n := 8)]
    rfl
  | _ => rfl
theorem kinds_eq {d : Da} : areKinds d = (isTu 0 8 d && partsAll isEntry d) := by
  cases d with
  | tup es =>
    have e : areKinds (.tup es) = (decide (es.length ≤ 8) && es.all isEntry) := rfl
    rw [e, ← len_le (n := 8)]
    rfl
  | _ => rfl
structure Gkk (mg : Str → Option Value) : Prop where
  kinds : ∃ t, mg "MOST_KINDS" = some (.int 8 t)
  makers : ∃ t, mg "MOST_MAKERS" = some (.int 8 t)
  fields : ∃ t, mg "MOST_FIELDS" = some (.int 5 t)
/-- the generator expression that stands as the n-th thing of a def's last return -/
theorem c26 : FnScope ["entry", "maker"] ["entry"] (defScope sEntry) := ⟨rfl, rfl, rfl, by decide +kernel, rfl, by decide +kernel, by decide +kernel⟩
theorem c25 : FnScope ["thing", "entry"] ["thing"] (defScope sKinds) := ⟨rfl, rfl, rfl, by decide +kernel, rfl, by decide +kernel, by decide +kernel⟩
theorem c27 : FnScope ["maker", "field"] ["maker"] (defScope sMaker) := ⟨rfl, rfl, rfl, by decide +kernel, rfl, by decide +kernel, by decide +kernel⟩
section
variable {P : Program} {w : World} {K : PySem.W.Frag} {mg : Str → Option Value} {base : Heap}
theorem ok_maker {f fT fH fK c PT : Addr} {fd fdT fdH fdK : FuncData} (F : FunC K "_is_maker" "_is_maker" sMaker f fd c) (N : Gn K mg) (G : Gkk mg) (TB : TabB base mg c PT)
    (GT : FnOk P w K mg base CX0 1 fT fdT ["thing", "least", "most"] (spF3 isTu)) (DT : Df K mg "is_tuple" ["thing", "least", "most"] fT fdT) (GH : FnOk P w K mg base CX0 2 fH fdH ["thing"] (spF isHig)) (DH : Df K mg "is_high" ["thing"] fH fdH)
    (GK : FnOk P w K mg base CX0 3 fK fdK ["thing"] (spF isKin)) (DK : Df K mg "is_kind" ["thing"] fK fdK) : FnOk P w K mg base CX0 5 f fd ["maker"] (spG (fun H => TabG H PT) isMaker) := by
  obtain ⟨t, hF⟩ := G.fields
  refine F.ok (k := 4) c27 (fun vs H Q E h => ?_) (fun A outer s H vs Q E hr h => ?_)
  · obtain ⟨x, d, rfl, _⟩ := h
    rfl
  · obtain ⟨x, d, rfl, en, hT, k⟩ := h
    refine ⟨_, pss_cons (ps_if (PW.pt (pw_or (pt_not (pt_val (pe_call (GT.mono (by decide)) hr (by rfl) DT.g DT.k DT.b .nil pass0 (pa_cons (pv 0) (pa_cons pe_int (pa_cons pe_int pa_nil))))))
        (pw_or1 (pt_not (pt_val (pe_call (GH.mono (by decide)) hr (by rfl) DH.g DH.k DH.b .nil pass0 (pa_cons (pe_ix ix_tup (pv 0) pe_int (fun _ _ => rfl)) pa_nil))))))) (pss_one (ps_ret pe_bl)) pss_nil)
      (pss_one (ps_ret (pe_and (pe_call (GT.mono (by decide)) hr (by rfl) DT.g DT.k DT.b .nil pass0 (pa_cons (pe_ix ix_tup (pv 0) pe_int (fun _ _ => rfl)) (pa_cons pe_int (pa_cons (pe_glob (v := .int 5) (by rfl) hF ⟨t, rfl⟩) pa_nil))))
        (pe_one (pe_allG (k := 3) (own := [("field", 1)]) hr rfl (by rfl) N.na c27.nd TB rfl ⟨rfl, by decide +kernel, rfl⟩ (blkOk_by (by show blkC ["maker", "field"] (defScope sMaker) _ [("field", 1)] = true; decide +kernel)) (pi_tup (pe_ix ix_tup (pv 0) pe_int (fun _ _ => rfl)))
          (fun _ _ _ _ _ _ _ => pg_name c27.nd (i := 1) rfl (.inl rfl)) (fun _ _ _ _ _ _ _ => pts_nil)
          (fun _ _ _ _ _ _ hr' => pe_call GK hr' (by rfl) DK.g DK.k DK.b .nil pass0 (pa_cons (pv 1) pa_nil))))))), ?_⟩
    refine ⟨_, rfl, _, d, _, _, rfl, en, _, rfl, ?_⟩
    cases e2 : isTu 2 2 d with
    | false =>
      have em : isMaker d = false := by
        unfold isMaker
        split
        · cases e2
        · rfl
      have q := k H (Grow.refl H)
      rw [em] at q
      exact iteT q
    | true =>
      obtain ⟨d1, d2, rfl⟩ := tu2 e2
      obtain ⟨a, xs, rfl, ha, el⟩ := enc_tup en
      obtain ⟨x1, x2, rfl, h1, h2⟩ := encs2 el
      have g0 : atI [x1, x2] 0 = some x1 := at_of (j := 0) rfl rfl
      have g1 : atI [x1, x2] 1 = some x2 := at_of (j := 1) rfl rfl
      refine iteF ⟨_, rfl, a, _, _, _, rfl, rfl, SqT.of ha, g0, _, d1, rfl, h1, _, rfl, ?_⟩
      cases eh : isHig d1 with
      | false =>
        have em : isMaker (.tup [d1, d2]) = false := by
          unfold isMaker
          split
          · rename_i z
            cases z
            rw [eh, Bool.false_and]
          · rfl
        have q := k H (Grow.refl H)
        rw [em] at q
        exact iteT q
      | true =>
        refine iteF ⟨_, rfl, a, _, _, _, rfl, rfl, SqT.of ha, g1, _, d2, _, _, rfl, h2, _, rfl, ?_⟩
        have em : isMaker (.tup [d1, d2]) = (isTu 0 5 d2 && partsAll isKin d2) := maker_eq eh
        cases e5 : isTu 0 5 d2 with
        | false =>
          have q := k H (Grow.refl H)
          rw [em, e5, Bool.false_and] at q
          exact iteF q
        | true =>
          cases h2 with
          | @tup b fs l hb ef =>
            refine iteT ⟨_, rfl, a, _, _, _, rfl, rfl, SqT.of ha, g1, b, rfl, ⟨fs, SqT.of hb⟩, rd_all (T := fun _ => True) (gj := isKin) hb ef (fun _ _ _ h => h) trivial hT (fun x d H R en _ kk => ⟨_, rfl, _, d, rfl, en, kk H (Grow.refl H)⟩) fun H' g => ?_⟩
            have q := k H' g
            rw [em, e5, Bool.true_and] at q
            exact q
          | _ => cases e5
theorem ok_entry {f fT fH fM c PT : Addr} {fd fdT fdH fdM : FuncData} {T TM : Hp → Prop} (F : FunC K "_is_entry" "_is_entry" sEntry f fd c) (N : Gn K mg) (G : Gkk mg) (TB : TabB base mg c PT) (st : Stays T) (hTP : ∀ H, T H → TabG H PT) (hTM : ∀ H, T H → TM H)
    (GT : FnOk P w K mg base CX0 1 fT fdT ["thing", "least", "most"] (spF3 isTu)) (DT : Df K mg "is_tuple" ["thing", "least", "most"] fT fdT) (GH : FnOk P w K mg base CX0 2 fH fdH ["thing"] (spF isHig)) (DH : Df K mg "is_high" ["thing"] fH fdH)
    (GM : FnOk P w K mg base CX0 5 fM fdM ["maker"] (spG TM isMaker)) (DM : Df K mg "_is_maker" ["maker"] fM fdM) : FnOk P w K mg base CX0 7 f fd ["entry"] (spG T isEntry) := by
  obtain ⟨t, hF⟩ := G.makers
  refine F.ok (k := 6) c26 (fun vs H Q E h => ?_) (fun A outer s H vs Q E hr h => ?_)
  · obtain ⟨x, d, rfl, _⟩ := h
    rfl
  · obtain ⟨x, d, rfl, en, hT, k⟩ := h
    refine ⟨_, pss_cons (ps_if (PW.pt (pw_or (pt_not (pt_val (pe_call (GT.mono (by decide)) hr (by rfl) DT.g DT.k DT.b .nil pass0 (pa_cons (pv 0) (pa_cons pe_int (pa_cons pe_int pa_nil))))))
        (pw_or1 (pt_not (pt_val (pe_call (GH.mono (by decide)) hr (by rfl) DH.g DH.k DH.b .nil pass0 (pa_cons (pe_ix ix_tup (pv 0) pe_int (fun _ _ => rfl)) pa_nil))))))) (pss_one (ps_ret pe_bl)) pss_nil)
      (pss_one (ps_ret (pe_and (pe_call (GT.mono (by decide)) hr (by rfl) DT.g DT.k DT.b .nil pass0 (pa_cons (pe_ix ix_tup (pv 0) pe_int (fun _ _ => rfl)) (pa_cons pe_int (pa_cons (pe_glob (v := .int 8) (by rfl) hF ⟨t, rfl⟩) pa_nil))))
        (pe_one (pe_allG (k := 5) (own := [("maker", 1)]) hr rfl (by rfl) N.na c26.nd TB rfl ⟨rfl, by decide +kernel, rfl⟩ (blkOk_by (by show blkC ["entry", "maker"] (defScope sEntry) _ [("maker", 1)] = true; decide +kernel)) (pi_tup (pe_ix ix_tup (pv 0) pe_int (fun _ _ => rfl)))
          (fun _ _ _ _ _ _ _ => pg_name c26.nd (i := 1) rfl (.inl rfl)) (fun _ _ _ _ _ _ _ => pts_nil)
          (fun _ _ _ _ _ _ hr' => pe_call GM hr' (by rfl) DM.g DM.k DM.b .nil pass0 (pa_cons (pv 1) pa_nil))))))), ?_⟩
    refine ⟨_, rfl, _, d, _, _, rfl, en, _, rfl, ?_⟩
    cases e2 : isTu 2 2 d with
    | false =>
      have em : isEntry d = false := by
        unfold isEntry
        split
        · cases e2
        · rfl
      have q := k H (Grow.refl H)
      rw [em] at q
      exact iteT q
    | true =>
      obtain ⟨d1, d2, rfl⟩ := tu2 e2
      obtain ⟨a, xs, rfl, ha, el⟩ := enc_tup en
      obtain ⟨x1, x2, rfl, h1, h2⟩ := encs2 el
      have g0 : atI [x1, x2] 0 = some x1 := at_of (j := 0) rfl rfl
      have g1 : atI [x1, x2] 1 = some x2 := at_of (j := 1) rfl rfl
      refine iteF ⟨_, rfl, a, _, _, _, rfl, rfl, SqT.of ha, g0, _, d1, rfl, h1, _, rfl, ?_⟩
      cases eh : isHig d1 with
      | false =>
        have em : isEntry (.tup [d1, d2]) = false := by
          unfold isEntry
          split
          · rename_i z
            cases z
            rw [eh, Bool.false_and]
          · rfl
        have q := k H (Grow.refl H)
        rw [em] at q
        exact iteT q
      | true =>
        refine iteF ⟨_, rfl, a, _, _, _, rfl, rfl, SqT.of ha, g1, _, d2, _, _, rfl, h2, _, rfl, ?_⟩
        have em := entry_eq (d2 := d2) eh
        cases e5 : isTu 1 8 d2 with
        | false =>
          have q := k H (Grow.refl H)
          rw [em, e5, Bool.false_and] at q
          exact iteF q
        | true =>
          cases h2 with
          | @tup b fs l hb ef =>
            refine iteT ⟨_, rfl, a, _, _, _, rfl, rfl, SqT.of ha, g1, b, rfl, ⟨fs, SqT.of hb⟩, rd_all (T := T) (gj := isMaker) hb ef st hT (hTP H hT) (fun x d H R en hT' kk => ⟨_, rfl, _, d, rfl, en, hTM H hT', kk⟩) fun H' g => ?_⟩
            have q := k H' g
            rw [em, e5, Bool.true_and] at q
            exact q
          | _ => cases e5
theorem ok_kinds {f fT fE c PT : Addr} {fd fdT fdE : FuncData} {T TE' : Hp → Prop} (F : FunC K "are_kinds" "are_kinds" sKinds f fd c) (N : Gn K mg) (G : Gkk mg) (TB : TabB base mg c PT) (st : Stays T) (hTP : ∀ H, T H → TabG H PT) (hTE : ∀ H, T H → TE' H)
    (GT : FnOk P w K mg base CX0 1 fT fdT ["thing", "least", "most"] (spF3 isTu)) (DT : Df K mg "is_tuple" ["thing", "least", "most"] fT fdT)
    (GE : FnOk P w K mg base CX0 7 fE fdE ["entry"] (spG TE' isEntry)) (DE : Df K mg "_is_entry" ["entry"] fE fdE) : FnOk P w K mg base CX0 9 f fd ["thing"] (spG T areKinds) := by
  obtain ⟨t, hF⟩ := G.kinds
  refine F.ok (k := 8) c25 (fun vs H Q E h => ?_) (fun A outer s H vs Q E hr h => ?_)
  · obtain ⟨x, d, rfl, _⟩ := h
    rfl
  · obtain ⟨x, d, rfl, en, hT, k⟩ := h
    refine ⟨_, pss_one (ps_ret (pe_and (pe_call (GT.mono (by decide)) hr (by rfl) DT.g DT.k DT.b .nil pass0 (pa_cons (pv 0) (pa_cons pe_int (pa_cons (pe_glob (v := .int 8) (by rfl) hF ⟨t, rfl⟩) pa_nil))))
        (pe_one (pe_allG (k := 7) (own := [("entry", 1)]) hr rfl (by rfl) N.na c25.nd TB rfl ⟨rfl, by decide +kernel, rfl⟩ (blkOk_by (by show blkC ["thing", "entry"] (defScope sKinds) _ [("entry", 1)] = true; decide +kernel)) (pi_tup (pv 0))
          (fun _ _ _ _ _ _ _ => pg_name c25.nd (i := 1) rfl (.inl rfl)) (fun _ _ _ _ _ _ _ => pts_nil)
          (fun _ _ _ _ _ _ hr' => pe_call GE hr' (by rfl) DE.g DE.k DE.b .nil pass0 (pa_cons (pv 1) pa_nil)))))), ?_⟩
    refine ⟨_, rfl, _, d, _, _, rfl, en, _, rfl, ?_⟩
    have em := kinds_eq (d := d)
    cases e5 : isTu 0 8 d with
    | false =>
      have q := k H (Grow.refl H)
      rw [em, e5, Bool.false_and] at q
      exact iteF q
    | true =>
      cases en with
      | @tup b fs l hb ef =>
        refine iteT ⟨_, rfl, b, rfl, ⟨fs, SqT.of hb⟩, rd_all (T := T) (gj := isEntry) hb ef st hT (hTP H hT) (fun x d H R en hT' kk => ⟨_, rfl, _, d, rfl, en, hTE H hT', kk⟩) fun H' g => ?_⟩
        have q := k H' g
        rw [em, e5, Bool.true_and] at q
        exact q
      | _ => cases e5
end
end J1
set_option Elab.async false
set_option linter.all false
set_option maxRecDepth 100000
set_option maxHeartbeats 1000000
/-! zip of a text and a tuple (k = true) or a list -/
namespace ZS
open PySem PySem.Spec PyProof.Rows L2 RZ
def SqK (K : PySem.W.Frag) (k : Bool) (H : Hp) (b : Addr) (ys : List V) : Prop := match k with | true => SqT K H b ys | false => SqL K H b ys
def ItK (h : Heap) (k : Bool) (it b : Addr) (i : Nat) : Prop := match k with | true => h.IsTupleIter it b i | false => h.IsListIter it b i
def IsK (h : Heap) (k : Bool) (b : Addr) (xs : Array Value) : Prop := match k with | true => h.IsTuple b xs | false => h.IsList b xs
def objK (k : Bool) (b : Addr) : Obj := match k with | true => { cls := .type "tuple_iterator", data := .fields #[.ref b, .int 0 0] } | false => { cls := .type "list_iterator", data := .fields #[.ref b, .int 0 0] }
theorem drawsK {prog : Program} {w : World} {A : Around} (hh : A.handled = none) (it b : Addr) (hne : b ≠ it) (k : Bool) (items : Array Value) :
    Draws prog w A it [it, b] items.size (fun i v => items[i]? = some v) (fun i h => ItK h k it b i ∧ IsK h k b items) := match k with
  | true => Draws.tuple hh it b hne items
  | false => Draws.list hh it b hne items
theorem beginsK (b : Addr) (k : Bool) (items : Array Value) : Begins (.ref b) (objK k b) fun h => IsK h k b items := match k with
  | true => begins_tuple b items
  | false => begins_list b items
theorem ItK.at {h h' : Heap} {k : Bool} {it b : Addr} {i : Nat} (x : ItK h k it b i) (e : ∀ o, h.get? it = some o → h'.get? it = some o) : ItK h' k it b i := match k, x with
  | true, x => Heap.IsTupleIter.at x e
  | false, x => Heap.IsListIter.at x e
theorem ItK.obj {h : Heap} {k : Bool} {it b : Addr} {i : Nat} (x : ItK h k it b i) : ∃ o, h.get? it = some o ∧ o.data = .fields #[.ref b, .int i 0] := match k, x with
  | true, ⟨o, e, _, d⟩ => ⟨o, e, d⟩
  | false, ⟨o, e, _, d⟩ => ⟨o, e, d⟩
theorem ItK.new {h : Heap} {k : Bool} {it b : Addr} (e : h.get? it = some (objK k b)) : ItK h k it b 0 := match k, e with
  | true, e => ⟨_, e, rfl, rfl⟩
  | false, e => ⟨_, e, rfl, rfl⟩
theorem SqK.get {X : Cx} {pins : List (Addr × Obj)} {σ : L2.St} {H : Hp} {s : Shared} {k : Bool} {b : Addr} {ys : List V} (I : Inv X pins σ H s) (q : SqK X.K k H b ys) :
    ∃ its : List Value, Vals ys its ∧ IsK s.heap k b its.toArray := match k, q with
  | true, q => by
    obtain ⟨its, r, p, _⟩ := I.tuple q
    exact ⟨its, r, p⟩
  | false, q => by
    obtain ⟨its, r, p, _⟩ := I.list q
    exact ⟨its, r, p.isList⟩
theorem SqK.inj {X : Cx} {pins : List (Addr × Obj)} {σ : L2.St} {H : Hp} {s : Shared} {k : Bool} {b : Addr} {xs ys : List V} (I : Inv X pins σ H s) (p : SqK X.K k H b xs) (q : SqK X.K k H b ys) : xs = ys := match k, p, q with
  | true, p, q => I.tuple_inj p q
  | false, p, q => I.list_inj p q
theorem IsK.lt {h : Heap} {k : Bool} {b : Addr} {xs : Array Value} (x : IsK h k b xs) : b < h.objs.size := match k, x with
  | true, ⟨_, e, _⟩ => Heap.lt_size e
  | false, ⟨_, e, _⟩ => Heap.lt_size e
/-- the text x and what stands at b at each turn, in new pairs -/
def Itx (K : PySem.W.Frag) (k : Bool) (x : Str) (b : Addr) : It :=
  ⟨fun i H => ∃ (ys : List V) (y : V), SqK K k H b ys ∧ i < x.cps.size ∧ ys[i]? = some y,
    fun i H v H' => ∃ T c y, v = .ref T ∧ H T = none ∧ H' = upd H T (.tup [.str ⟨#[c]⟩, y]) ∧ x.cps[i]? = some c ∧ ∀ ys, SqK K k H b ys → ys[i]? = some y,
    fun i H => ∃ ys : List V, SqK K k H b ys ∧ i ≤ x.cps.size ∧ i ≤ ys.length ∧ (i = x.cps.size ∨ i = ys.length)⟩
structure Ap (z TI TO i1 i2 : Addr) : Prop where
  TIz : TI ≠ z
  TOz : TO ≠ z
  i1z : i1 ≠ z
  i2z : i2 ≠ z
  TITO : TI ≠ TO
  TIi1 : TI ≠ i1
  TIi2 : TI ≠ i2
  TOi1 : TO ≠ i1
  TOi2 : TO ≠ i2
  i12 : i1 ≠ i2
theorem Ap.sep {z TI TO i1 i2 b : Addr} (D : Ap z TI TO i1 i2) (bz : b ≠ z) (bT : b ≠ TO) (b1 : b ≠ i1) : ZipSep2 z TI TO i1 i2 [i1] [i2, b] where
  TIz := D.TIz
  TOz := D.TOz
  TITO := D.TITO
  TIi1 := D.TIi1
  mem1 := by simp
  zf1 := by simpa using D.i1z.symm
  Tf1 := by simpa using D.TOi1
  TIi2 := D.TIi2
  mem2 := by simp
  zf2 := by simpa using ⟨D.i2z.symm, bz.symm⟩
  Tf2 := by simpa using ⟨D.TOi2, bT.symm⟩
  sep1_2 := by simpa using ⟨D.i12, b1.symm⟩
  sep2_1 := by simpa using D.i12.symm
theorem turn_zipX {P : Program} {w : World} {K : PySem.W.Frag} {elts : List Expr} {kk : Nat} {tpos : Pos} {k : Bool} {x : Str} {t : Tok} {b z TI TO i1 i2 : Addr} (D : Ap z TI TO i1 i2) (bz : b ≠ z) (bT : b ≠ TO) (b1 : b ≠ i1) (b2 : b ≠ i2) :
    Turn P w K (.Tuple elts kk tpos) (Itx K k x b) [z, TI, TO, i1, i2] z (fun i h => IsZip h z TI TO .none ∧ IsPair h TI (.ref i1) (.ref i2) ∧ (∃ x y, IsPair h TO x y) ∧ h.IsStrIter i1 (strIterType x) x t i ∧ ItK h k i2 b i) where
  mem := by simp
  obj := fun i h st c hc => by
    obtain ⟨hz, hTI, ⟨x, y, hTO⟩, ⟨o1, e1, _, d1⟩, h2⟩ := st
    obtain ⟨o2, e2, d2⟩ := h2.obj
    have e' : c = z ∨ c = TI ∨ c = TO ∨ c = i1 ∨ c = i2 := by simpa using hc
    rcases e' with q | q | q | q | q
    · rw [q]; exact ⟨_, hz, fun v q => nomatch q⟩
    · rw [q]; exact ⟨_, hTI, fun v q => nomatch q⟩
    · rw [q]; exact ⟨_, hTO, fun v q => nomatch q⟩
    · rw [q]; exact ⟨o1, e1, fun v q => by rw [d1] at q; cases q⟩
    · rw [q]; exact ⟨o2, e2, fun v q => by rw [d2] at q; cases q⟩
  keep := fun i h h' st kp => by
    obtain ⟨hz, hTI, ⟨x, y, hTO⟩, ⟨o1, e1, r1⟩, h2⟩ := st
    exact ⟨kp z (by simp) _ hz, kp TI (by simp) _ hTI, ⟨x, y, kp TO (by simp) _ hTO⟩, ⟨o1, kp i1 (by simp) _ e1, r1⟩, h2.at fun o q => kp i2 (by simp) o q⟩
  item := by
    intro X hP hw hK hc i pins s σ H E I hf st hg
    subst hP hw hK
    obtain ⟨hz, hTI, ⟨x0, y0, hTO⟩, h1, h2⟩ := st
    obtain ⟨ys, y, hq, hix, hy⟩ := hg
    obtain ⟨its, rv, p⟩ := hq.get I
    obtain ⟨u, hu, ru⟩ := rv.get hy
    have hlen := rv.length
    have hzl : z < s.heap.objs.size := Heap.lt_size hz
    have hiy : i < ys.length := (List.getElem?_eq_some_iff.mp hy).1
    have hhA : X.A.in1.handled = none := I.ok.hd hc
    refine wpAny_pyNext_zipD2_item (D.sep bz bT b1) (Draws.text hhA i1 x t) (drawsK hhA i2 b b2 k its.toArray) hz hTI hTO h1 ⟨h2, p⟩ hix (by simp; omega) fun v1 v2 h' tk hv1 hv2 z' TO' h1' h2' hT hsz hk => ?_
    obtain ⟨c, u1, hc1, rfl⟩ := hv1
    have ev2 : v2 = u := by
      have : its.toArray[i]? = some u := by simpa using hu
      rw [this] at hv2
      exact (Option.some.inj hv2).symm
    subst ev2
    refine ⟨_, rfl, wpAny_letOwnedTupleGo_zip (s := { s with heap := h', toks := tk }) z' fun h'' z'' sb => ?_⟩
    have hT2 : h''.get? s.heap.objs.size = some { cls := .type "tuple", data := .seq #[.str ⟨#[c]⟩ u1, v2] } := (sb.2 _ (Nat.ne_of_gt hzl)).trans hT
    have new : ObjOk X.prog X.w (upd H s.heap.objs.size (.tup [.str ⟨#[c]⟩, y])) h'' s.heap.objs.size (.tup [.str ⟨#[c]⟩, y]) :=
      ⟨by show 2 ≤ sizeLine; decide, [.str ⟨#[c]⟩ u1, v2], .cons ⟨u1, rfl⟩ (.cons ru .nil), ⟨_, hT2, rfl, _, rfl⟩⟩
    have I1 : Inv X pins σ (upd H s.heap.objs.size (.tup [.str ⟨#[c]⟩, y])) { s with heap := h'', toks := tk } :=
      I.turnedNew (t' := tk) (ch := [z, TI, TO, i1, i2]) (fun c o hb q => (sb.2 c (fun q' => hb (by simp [q']))).trans (hk c o (fun q' => hb (by simp [q'])) (fun q' => hb (by simp [q'])) (fun q' => hb (by simp [q'])) (fun q' => hb (by simp [q'])) q)) hf (Nat.le_refl _) new
    refine ⟨.ref s.heap.objs.size, _, I1, rfl, ⟨_, c, y, rfl, I.hok.fresh (Nat.le_refl _), rfl, hc1, fun l hl => by rw [hl.inj I hq]; exact hy⟩, ⟨z'', ?_, ⟨.str ⟨#[c]⟩ u1, v2, ?_⟩, ?_, ?_⟩, fun c hcm => ?_⟩
    · exact (sb.2 _ D.TIz).trans (hk _ _ D.TIz D.TITO D.TIi1 D.TIi2 hTI)
    · exact (sb.2 _ D.TOz).trans TO'
    · obtain ⟨o, ho, r⟩ := h1'
      exact ⟨o, (sb.2 _ D.i1z).trans ho, r⟩
    · exact h2'.1.at fun o q => (sb.2 _ D.i2z).trans q
    · have hlt : c < s.heap.objs.size := by
        have e' : c = z ∨ c = TI ∨ c = TO ∨ c = i1 ∨ c = i2 := by simpa using hcm
        rcases e' with q | q | q | q | q
        · rw [q]; exact hzl
        · rw [q]; exact Heap.lt_size hTI
        · rw [q]; exact Heap.lt_size hTO
        · rw [q]; obtain ⟨_, e1, _⟩ := h1; exact Heap.lt_size e1
        · rw [q]; obtain ⟨_, e2, _⟩ := h2.obj; exact Heap.lt_size e2
      rw [upd_ne (Nat.ne_of_lt hlt)]
      exact (hf c hcm).1
  done := by
    intro X hP hw hK hc i pins s σ H E I hf st hg
    subst hP hw hK
    obtain ⟨hz, hTI, ⟨x0, y0, hTO⟩, h1, h2⟩ := st
    obtain ⟨ys, hq, hle1, hle2, hend⟩ := hg
    obtain ⟨its, rv, p⟩ := hq.get I
    have hlen := rv.length
    have hhA : X.A.in1.handled = none := I.ok.hd hc
    refine wpAny_pyNext_zipD2_end (D.sep bz bT b1) (Draws.text hhA i1 x t) (drawsK hhA i2 b b2 k its.toArray) hz hTI hTO h1 ⟨h2, p⟩ hle1 (by simp; omega) (by simp; omega) fun h' tk hk => ⟨rfl, I.turnedL (t' := tk) (ch := [z, TI, TO, i1, i2]) (fun c o hb q =>
      hk c o (fun q' => hb (by simp [q'])) (fun q' => hb (by simp [q'])) (fun q' => hb (by simp [q'])) (fun q' => hb (by simp [q'])) q) hf⟩
  self := fun A i s Q E st h => wpAny_pyIter_zip st.1 h
def iZipX (K : PySem.W.Frag) (k : Bool) (ta : TA) : TI := fun σ H R => ta σ H fun vs H1 => ∃ x b ys, vs = [.str x, .ref b] ∧ SqK K k H1 b ys ∧ R (Itx K k x b) H1
theorem pi_zipX {X : Cx} {e e2 : Expr} {ta : TA} {p pos tpos : Pos} {elts : List Expr} {kk : Nat} (k : Bool) (hg : Gl X "zip") (hm : X.mg "zip" = none) (ha : PA X [e, e2] ta)
    (hs : starEach [e, e2] X.env = (false, eval e X.env) :: starEach [e2] X.env := by rfl) (hpl : (backTo pos (starEach [e2] X.env)).any (·.1) = false := by rfl) :
    PI X (.Tuple elts kk tpos) (.Call (.Name "zip" p) [e, e2] [] pos) (iZipX X.K k ta) := by
  refine ⟨fun pins s σ H R I h => ?_⟩
  refine Call_ (ld_blt I hg hm PyProof.Rows.boot_zip (PyProof.Rows.callWith_type1 (thn (ha.run pos pins s σ H _ I h) fun us s1 ⟨vs, H1, I1, r1, q1⟩ => ?_) hs hpl))
  obtain ⟨x, b, ys, ex, hq, q⟩ := q1
  subst ex
  cases r1 with
  | cons r rr =>
    cases rr with
    | cons r' rr =>
      cases rr
      obtain ⟨t, rfl⟩ := r
      cases r'
      have fresh5 : ∀ c, c ∈ [s1.heap.objs.size + 4, s1.heap.objs.size + 2, s1.heap.objs.size + 3, s1.heap.objs.size, s1.heap.objs.size + 1] → FpOk X pins H1 c := fun c hcm => by
        have e' : c = s1.heap.objs.size + 4 ∨ c = s1.heap.objs.size + 2 ∨ c = s1.heap.objs.size + 3 ∨ c = s1.heap.objs.size ∨ c = s1.heap.objs.size + 1 := by simpa using hcm
        have hle : s1.heap.objs.size ≤ c := by
          rcases e' with z | z | z | z | z
          · rw [z]; exact Nat.le_add_right _ _
          · rw [z]; exact Nat.le_add_right _ _
          · rw [z]; exact Nat.le_add_right _ _
          · rw [z]; exact Nat.le_refl _
          · rw [z]; exact Nat.le_add_right _ _
        exact I1.fpOk hle (I1.hok.fresh hle)
      obtain ⟨its, rv, p1⟩ := hq.get I1
      have hb := p1.lt
      refine zip_begins2 (begins_text x t) (beginsK b k its.toArray) trivial p1 fun h' hz hTI hTO g1 g2 hsz hk => wpAny_pyIter_zip hz ?_
      have I2 : Inv X pins σ H1 { s1 with heap := h' } := I1.kept (t' := s1.toks) hk
      have A0 := PyProof.Rows.zipApart_new (n := s1.heap.objs.size) hb hb
      exact ⟨s1.heap.objs.size + 4, [s1.heap.objs.size + 4, s1.heap.objs.size + 2, s1.heap.objs.size + 3, s1.heap.objs.size, s1.heap.objs.size + 1], _, _, H1, rfl, I2,
        turn_zipX (t := t) ⟨A0.TIz, A0.TOz, A0.i1z, A0.i2z, A0.TITO, A0.TIi1, A0.TIi2, A0.TOi1, A0.TOi2, A0.i12⟩ A0.l1z A0.l1TO A0.l1i1 A0.l1i2, ⟨hz, hTI, ⟨_, _, hTO⟩, ⟨_, g1, rfl, rfl⟩, .new g2⟩, fresh5, q⟩
/-- a comprehension over zip of a text and what stands still at b -/
theorem lc_zipX {K : PySem.W.Frag} {k : Bool} {x : Str} {b : Addr} {ys : List V} {g : TG} {tt : TT} {te : TE} {vs : List Nat} {σ : L2.St} {H1 : Hp} {D : Addr} {Qd : Hp → Prop} (hl : x.cps.toList.length = ys.length) (Pv : Nat → Hp → Prop) (h0 : Pv 0 (upd H1 D (.lst [])))
    (hq : ∀ i H, i ≤ ys.length → Pv i H → SqK K k H b ys)
    (hs : ∀ (i : Nat) (c : Nat) (y : V) (T : Addr) (H : Hp), x.cps.toList[i]? = some c → ys[i]? = some y → Pv i H → H T = none → g (.ref T) (wipe σ vs) (upd H T (.tup [.str ⟨#[c]⟩, y])) fun σ2 H2 => wipe σ2 vs = wipe σ vs ∧ tt σ2 H2 fun b H3 =>
      if b = true then te σ2 H3 fun y H4 => ∃ acc, H4 D = some (.lst acc) ∧ acc.length < sizeLine ∧ Pv (i + 1) (upd H4 D (.lst (acc ++ [y]))) else Pv (i + 1) H3) (hd : ∀ H, Pv ys.length H → Qd H) :
    ∃ W : Nat → Nat → Hp → Prop, (∃ m, W 0 m (upd H1 D (.lst []))) ∧ ∀ i m H, W i m H →
      ((Itx K k x b).stop i H ∧ Qd H) ∨ ((Itx K k x b).go i H ∧ ∃ Nx : Hp → Prop, (∀ H', Nx H' → ∃ m', m' < m ∧ W (i + 1) m' H') ∧ ∀ v H', (Itx K k x b).yld i H v H' → g v (wipe σ vs) H' fun σ2 H2 => wipe σ2 vs = wipe σ vs ∧ tt σ2 H2 fun b H3 =>
        if b = true then te σ2 H3 fun y H4 => ∃ acc, H4 D = some (.lst acc) ∧ acc.length < sizeLine ∧ Nx (upd H4 D (.lst (acc ++ [y]))) else Nx H3) := by
  have hlx : x.cps.size = ys.length := by rw [← hl, Array.length_toList]
  refine ⟨fun i m H => m = ys.length - i ∧ i ≤ ys.length ∧ Pv i H, ⟨ys.length, by simp, Nat.zero_le _, h0⟩, ?_⟩
  rintro i m H ⟨rfl, hi, p⟩
  have q := hq i H hi p
  by_cases hlt : i < ys.length
  · have hy : ys[i]? = some ys[i] := List.getElem?_eq_getElem hlt
    refine .inr ⟨⟨ys, _, q, by omega, hy⟩, Pv (i + 1), fun H' p' => ⟨ys.length - (i + 1), by omega, rfl, hlt, p'⟩, fun v H' y => ?_⟩
    obtain ⟨T, c, y', rfl, hT, rfl, hc, f⟩ := y
    exact hs i c y' T H (by simpa using hc) (f ys q) p hT
  · have e : i = ys.length := by omega
    subst e
    exact .inl ⟨⟨ys, q, by omega, Nat.le_refl _, .inr rfl⟩, hd H p⟩
end ZS
set_option Elab.async false
set_option linter.all false
set_option maxRecDepth 100000
set_option maxHeartbeats 1000000
/-! enumerate of a tuple -/
namespace ET
open PySem PySem.Spec PyProof.Rows L2
/-- the tuple at a, each item in a new pair with its place -/
def Iet (K : PySem.W.Frag) (a : Addr) : It :=
  ⟨fun i H => ∃ (xs : List V) (x : V), SqT K H a xs ∧ xs[i]? = some x, fun i H v H' => ∃ T x, v = .ref T ∧ H T = none ∧ H' = L2.upd H T (.tup [.int (i : Nat), x]) ∧ ∀ xs, SqT K H a xs → xs[i]? = some x, fun i H => ∃ xs : List V, SqT K H a xs ∧ xs.length = i⟩
theorem start_1 {v : Value} {o : Obj} {H : Heap → Prop} (B : Begins v o H) :
    Meets (Builtin.«enumerate.__new__» ⟨[.type "enumerate", v], []⟩) (fun _ R s => H s.heap ∧
      R (.ok (.ret (.ref (s.heap.push o).objs.size))) { s with heap := (s.heap.push o).push { cls := .type "enumerate", data := .fields #[.none, .bool false, .ref s.heap.objs.size, rawInt 0, .none, .none] } }) :=
  .of_wp fun prog w A R s h => by
    obtain ⟨hp, g, d, tk, os⟩ := s
    obtain ⟨h1, h⟩ := h
    have sub := sub_enumerate
    have begin_ : ∀ {A' : Around} {E : Value → Shared → Prop} {Q : Value → Shared → Prop}, Q (.ref hp.objs.size) ⟨hp.push o, g, d, tk, os⟩ → wpAny (model prog w) A' (pyIter v) Q E ⟨hp, g, d, tk, os⟩ := fun q => B.iter prog w _ _ ⟨hp, g, d, tk, os⟩ _ h1 q
    wp_walk using begin_
    refine wpAny_stack_any fun st => wpAny_pure ?_
    split
    · rename_i c _ _ _ _ _
      cases (c == Value.type "enumerate") <;> (wp_walk using begin_; exact ⟨_, rfl, h⟩)
    · wp_walk using begin_
      exact ⟨_, rfl, h⟩
section
variable {prog : Program} {w : World} {A : Around} {E : Value → Shared → Prop} {s : Shared}
theorem begins_1 {v : Value} {o : Obj} {H : Heap → Prop} {Q : Value → Shared → Prop} (B : Begins v o H) (h1 : H s.heap)
    (h : ∀ h', IsEnum h' (s.heap.objs.size + 1) s.heap.objs.size 0 .none → h'.get? s.heap.objs.size = some o → (∀ b o, s.heap.get? b = some o → h'.get? b = some o) → Q (.ref (s.heap.objs.size + 1)) { s with heap := h' }) :
    wpAny (model prog w) A (call (.type "enumerate") [v]) Q E s := by
  refine callType_new F.called_enumerate (by decide) (F.typeCall_enumerate_1 _) (F.newCall_enumerate_1 _) (fun obj => F.args_object_init_2 obj _) F.entry_enumerate_new (start_1 B) ⟨h1, ?_⟩
  have hz : (s.heap.push o).objs.size = s.heap.objs.size + 1 := Heap.size_push ..
  show _ ∧ _
  rw [hz]
  have he : IsEnum ((s.heap.push o).push { cls := .type "enumerate", data := .fields #[.none, .bool false, .ref s.heap.objs.size, rawInt 0, .none, .none] }) (s.heap.objs.size + 1) s.heap.objs.size 0 .none := by
    have q := Heap.get?_push_size (s.heap.push o) (o := { cls := .type "enumerate", data := .fields #[.none, .bool false, .ref s.heap.objs.size, rawInt 0, .none, .none] }) rfl
    rw [hz] at q
    exact q
  exact ⟨⟨_, he, rfl⟩, h _ he (Heap.get?_push_of_some _ (Heap.get?_push_size _ B.free)) fun b o x => Heap.get?_push_of_some _ (Heap.get?_push_of_some _ x)⟩
end
theorem turn_et {P : Program} {w : World} {K : PySem.W.Frag} {elts : List Expr} {kk : Nat} {tpos : Pos} (a e it : Addr) (ha : a ≠ it) :
    Turn P w K (.Tuple elts kk tpos) (Iet K a) [e, it] e (fun i h => (∃ old, IsEnum h e it ((i : Nat) : Int) old) ∧ h.IsTupleIter it a i ∧ e ≠ it) where
  mem := by simp
  obj := fun i h st b hb => by
    obtain ⟨⟨old, he⟩, ⟨o, ho, hc, hd⟩, _⟩ := st
    rcases List.mem_cons.mp hb with z | z
    · rw [z]
      exact ⟨_, he, fun v q => nomatch q⟩
    · rw [List.mem_singleton.mp z]
      exact ⟨o, ho, fun v q => by rw [hd] at q; cases q⟩
  keep := fun i h h' st k => by
    obtain ⟨⟨old, he⟩, hi, hne⟩ := st
    exact ⟨⟨old, k e List.mem_cons_self _ he⟩, hi.at fun o q => k it (List.mem_cons_of_mem _ List.mem_cons_self) o q, hne⟩
  item := by
    intro X hP hw hK hc i pins s σ H E I hf st hg
    subst hP hw hK
    obtain ⟨⟨old, he⟩, hit, hne⟩ := st
    obtain ⟨xs, x, hq, hx⟩ := hg
    obtain ⟨its, rv, p, hz⟩ := I.tuple hq
    obtain ⟨u, hu, ru⟩ := rv.get hx
    have hel : e < s.heap.objs.size := Heap.lt_size he
    have hil : it < s.heap.objs.size := by
      obtain ⟨_, q, _⟩ := hit
      exact Heap.lt_size q
    have hea : e ≠ a := fun z => by
      obtain ⟨o, ho, hc, _⟩ := p
      rw [← z, show s.heap.get? e = _ from he] at ho
      cases ho
      injection hc with hc
      exact absurd hc (by decide)
    have D := Draws.tuple (prog := X.prog) (w := X.w) (A := X.A.in1) (I.ok.hd hc) it a ha its.toArray
    refine wpAny_pyNext_enum_itemD D he ⟨hit, p⟩ (by have := (List.getElem?_eq_some_iff.mp hu).1; simpa using this) hne (by simp [hne, hea]) fun u' h' tk hu' ho st' hT hsz hk => ?_
    have eu : u' = u := Option.some.inj ((show its.toArray[i]? = some u' from hu').symm.trans (by simpa using hu))
    subst eu
    refine ⟨_, rfl, wpAny_letOwnedTupleGo_enum (s := { s with heap := h', toks := tk + 1 }) ho fun h'' he' sb => ?_⟩
    have hT2 : h''.get? s.heap.objs.size = some { cls := .type "tuple", data := .seq #[.int i tk, u'] } := (sb.2 _ (Nat.ne_of_gt hel)).trans hT
    have new : ObjOk X.prog X.w (L2.upd H s.heap.objs.size (.tup [.int (i : Nat), x])) h'' s.heap.objs.size (.tup [.int (i : Nat), x]) :=
      ⟨by show 2 ≤ sizeLine; decide, [.int i tk, u'], .cons ⟨_, rfl⟩ (.cons ru .nil), ⟨_, hT2, rfl, _, rfl⟩⟩
    have I1 : L2.Inv X pins σ (L2.upd H s.heap.objs.size (.tup [.int (i : Nat), x])) { s with heap := h'', toks := tk + 1 } :=
      I.turnedNew (ch := [e, it]) (fun b ob hb q => (sb.2 b (fun z => hb (by simp [z]))).trans (hk b ob (fun z => hb (by simp [z])) (fun z => hb (by simp [z])) q)) hf (Nat.le_refl _) new
    refine ⟨.ref s.heap.objs.size, _, I1, rfl, ⟨_, x, rfl, I.hok.fresh (Nat.le_refl _), rfl, fun ys hy => by rw [I.tuple_inj hy hq]; exact hx⟩, ⟨⟨u', ?_⟩, st'.1.at fun o q => (sb.2 it (Ne.symm hne)).trans q, hne⟩, fun b hb => ?_⟩
    · rw [show ((i + 1 : Nat) : Int) = (i : Int) + 1 by omega]
      exact he'
    · have hb' : b < s.heap.objs.size := by
        rcases List.mem_cons.mp hb with z | z
        · rw [z]; exact hel
        · rw [List.mem_singleton.mp z]; exact hil
      rw [upd_ne (Nat.ne_of_lt hb')]
      exact (hf b hb).1
  done := by
    intro X hP hw hK hc i pins s σ H E I hf st hg
    subst hP hw hK
    obtain ⟨⟨old, he⟩, hit, hne⟩ := st
    obtain ⟨xs, hq, hx⟩ := hg
    obtain ⟨its, rv, p, hz⟩ := I.tuple hq
    obtain ⟨f0, f1, f2, f3, f4, f5⟩ := hf it (List.mem_cons_of_mem _ List.mem_cons_self)
    have hl := rv.length
    have D := Draws.tuple (prog := X.prog) (w := X.w) (A := X.A.in1) (I.ok.hd hc) it a ha its.toArray
    have en : i = its.toArray.size := by rw [List.size_toArray, ← hl, hx]
    subst en
    exact wpAny_pyNext_enum_endD D he ⟨hit, p⟩ fun h' eb => ⟨rfl, I.turned (t' := s.toks) (fun b o hb q => eb b o hb q) f0 f1 f3 f4 f5⟩
  self := fun A i s Q E st h => by
    obtain ⟨⟨_, he⟩, _⟩ := st
    exact wpAny_pyIter_enum he h
def iEnumT (K : PySem.W.Frag) (ta : TA) : TI := fun σ H R => ta σ H fun vs H1 => ∃ a xs, vs = [.ref a] ∧ SqT K H1 a xs ∧ R (Iet K a) H1
theorem pi_enumT {X : Cx} {e : Expr} {ta : TA} {p pos tpos : Pos} {elts : List Expr} {kk : Nat} (hg : Gl X "enumerate") (hm : X.mg "enumerate" = none) (ha : PA X [e] ta) (hs : starEach [e] X.env = [(false, eval e X.env)] := by rfl) :
    PI X (.Tuple elts kk tpos) (.Call (.Name "enumerate" p) [e] [] pos) (iEnumT X.K ta) := by
  refine ⟨fun pins s σ H R I h => ?_⟩
  refine Call_ (ld_blt I hg hm boot_enumerate (PyProof.Rows.callWith_type1 (thn (ha.run pos pins s σ H _ I h) fun us s1 ⟨vs, H1, I1, r1, q1⟩ => ?_) hs rfl))
  obtain ⟨a, xs, rfl, hq, q⟩ := q1
  cases r1 with
  | cons r rr =>
    cases rr
    cases r
    obtain ⟨its, rv, p', hz⟩ := I1.tuple hq
    have hla : a < s1.heap.objs.size := by
      obtain ⟨o, ho, _⟩ := p'
      exact Heap.lt_size ho
    refine begins_1 (begins_tuple a its.toArray) p' fun h' he hit hk => wpAny_pyIter_enum he ?_
    have I2 : L2.Inv X pins σ H1 { s1 with heap := h' } := I1.kept (t' := s1.toks) hk
    refine ⟨s1.heap.objs.size + 1, [s1.heap.objs.size + 1, s1.heap.objs.size], _, _, H1, rfl, I2, turn_et a (s1.heap.objs.size + 1) s1.heap.objs.size (Nat.ne_of_lt hla), ⟨⟨.none, he⟩, ⟨_, hit, rfl, rfl⟩, Nat.succ_ne_self _⟩, fun b hb => ?_, q⟩
    have hle : s1.heap.objs.size ≤ b := by
      rcases List.mem_cons.mp hb with z | z
      · rw [z]; exact Nat.le_add_right _ _
      · rw [List.mem_singleton.mp z]; exact Nat.le_refl _
    exact I1.fpOk hle (I1.hok.fresh hle)
theorem walk_et {K : PySem.W.Frag} {a : Addr} {xs : List V} : Walk (Iet K a) xs.length (fun H => SqT K H a xs) (YPair (fun i => some (.int (i : Nat))) (fun i => xs[i]?)) := by
  refine ⟨fun i _ hi q => ⟨xs, xs[i], q, by simp [hi]⟩, fun _ q => ⟨xs, q, rfl⟩, fun i H v H' _ q y => ?_⟩
  obtain ⟨T, x, h1, h2, h3, h4⟩ := y
  exact ⟨T, .int (i : Nat), x, h1, h2, h3, rfl, h4 xs q⟩
end ET
set_option Elab.async false
set_option linter.all false
set_option maxRecDepth 100000
set_option maxHeartbeats 4000000
namespace DC2
open PySem PySem.Spec PyProof.Rows L2
/-! {k: v for t1 in it1 if .. for t2 in it2 if ..}: a dict comprehension with two fors -/
section
variable {prog : Program} {w : World} {A : Around} {R : Result → Shared → Prop} {s : Shared} {kx vx t1 t2 it1 it2 : Expr} {if1 if2 : List Expr} {scope : Scope} {pos : Pos} {it : Value} {D : Addr} {env : Env}
abbrev two (kx vx t1 it1 t2 it2 : Expr) (if1 if2 : List Expr) (scope : Scope) (pos : Pos) : Expr := .DictComp kx vx [⟨t1, it1, if1, 0⟩, ⟨t2, it2, if2, 0⟩] scope pos
theorem turn_in : compTurn (two kx vx t1 it1 t2 it2 if1 if2 scope pos) 1 it (.ref D) env = (do
    standAt it2.pos
    match ← pyNext it with
    | none => pure (.done .next)
    | some v =>
      letOwnedTupleGo t2 it v
      assign t2 env v
      let mut ok := true
      for c in if2 do
        if ok then ok ← isTrue c env (eval c env)
      if ok then
        (do
          let kv ← eval kx env
          let vv ← holding [kv] (eval vx env)
          standAt { kx.pos with endLine := vx.pos.endLine, endCol := vx.pos.endCol }
          holding [kv, vv] (dictSet D kv vv))
      again (.compLoop (two kx vx t1 it1 t2 it2 if1 if2 scope pos) 1 it (.ref D) env)) := by rfl
theorem turn_out : compTurn (two kx vx t1 it1 t2 it2 if1 if2 scope pos) 0 it (.ref D) env = (do
    standAt it1.pos
    match ← pyNext it with
    | none => pure (.done .next)
    | some v =>
      letOwnedTupleGo t1 it v
      assign t1 env v
      let mut ok := true
      for c in if1 do
        if ok then ok ← isTrue c env (eval c env)
      if ok then
        let x ← eval it2 env
        standAt it2.pos
        let x ← foldedSetIterable it2 env x
        let _ ← runOwn (.compStart (two kx vx t1 it1 t2 it2 if1 if2 scope pos) 1 (← holding [x] (pyIter x)) (.ref D) env) env
      again (.compLoop (two kx vx t1 it1 t2 it2 if1 if2 scope pos) 0 it (.ref D) env)) := by rfl
abbrev NE (prog : Program) (w : World) (A : Around) (env : Env) (R : Result → Shared → Prop) : Value → Shared → Prop := notedBy (model prog w) A env fun e s' => R (.error e) s'
abbrev tests (ifs : List Expr) (env : Env) : Sem Bool := forIn ifs true fun c r => if r = true then do let ok ← isTrue c env (eval c env); pure (ForInStep.yield ok) else pure (ForInStep.yield r)
/-- the inner loop, a measure and what holds between two turns -/
theorem loop_in (I : Nat → Shared → Prop)
    (turn : ∀ n s, I n s → wpAny (model prog w) A (pyNext it) (fun r s₁ => match r with
      | none => R (.ok .next) s₁
      | some v => wpAny (model prog w) A (letOwnedTupleGo t2 it v) (fun _ s₂ => wpAny (model prog w) A (assign t2 env v) (fun _ s₃ => wpAny (model prog w) A (tests if2 env) (fun ok s₄ =>
          if ok = true then wpAny (model prog w) A (eval kx env) (fun kv s₅ => wpAny (model prog w) A (eval vx env) (fun vv s₆ => wpAny (model prog w) A (dictSet D kv vv) (fun _ s₇ => ∃ m, m < n ∧ I m s₇) (NE prog w A env R) s₆) (NE prog w A env R) s₅) (NE prog w A env R) s₄
          else ∃ m, m < n ∧ I m s₄) (NE prog w A env R) s₃) (NE prog w A env R) s₂) (NE prog w A env R) s₁) (NE prog w A env R) s)
    (n : Nat) (h : I n s) : codeAny (model prog w) A (.compLoop (two kx vx t1 it1 t2 it2 if1 if2 scope pos) 1 it (.ref D) env) R s := by
  refine codeAny_loop rfl I (fun n s hI => ?_) n h
  show wpAny _ A ((compTurn (two kx vx t1 it1 t2 it2 if1 if2 scope pos) 1 it (.ref D) env).onRaise (fun x => do noteFrame x env; theTreesLotGoes x)) _ _ s
  refine wpAny_noted ?_
  rw [turn_in]
  refine wpAny_bind (wpAny_standAt (wpAny_bind (wpAny_mono (turn n s hI) (fun r s₁ q1 => ?_) fun _ _ z => z)))
  cases r with
  | none => exact wpAny_pure q1
  | some v =>
    refine wpAny_bind (wpAny_mono q1 (fun _ s₂ q2 => wpAny_bind (wpAny_mono q2 (fun _ s₃ q3 => wpAny_bind (wpAny_mono q3 (fun ok s₄ q4 => ?_) fun _ _ z => z)) fun _ _ z => z)) fun _ _ z => z)
    cases ok with
    | false => exact wpAny_pure ⟨rfl, q4⟩
    | true =>
      refine wpAny_bind (wpAny_bind (wpAny_mono q4 (fun kv s₅ q5 => wpAny_bind (wpAny_holding (wpAny_mono q5 (fun vv s₆ q6 => ?_) fun _ _ z => z))) fun _ _ z => z))
      exact wpAny_bind (wpAny_standAt (wpAny_holding (wpAny_mono q6 (fun _ s₇ q7 => wpAny_pure ⟨rfl, q7⟩) fun _ _ z => z)))
theorem start_in {acc : Value} (h0 : codeAny (model prog w) A (.compLoop (two kx vx t1 it1 t2 it2 if1 if2 scope pos) 1 it acc env) R s)
    (h : wpAny (model prog w) A (pyIter it) (fun it' s' => codeAny (model prog w) A (.compLoop (two kx vx t1 it1 t2 it2 if1 if2 scope pos) 1 it' acc env) R s') (notedBy (model prog w) A env fun x s' => R (.error x) s') s) :
    codeAny (model prog w) A (.compStart (two kx vx t1 it1 t2 it2 if1 if2 scope pos) 1 it acc env) R s := by
  refine codeAny_of_tree ?_
  show wpAny _ A ((compStart (two kx vx t1 it1 t2 it2 if1 if2 scope pos) 1 it acc env).onRaise (fun x => do noteFrame x env; standAt theWindowsPlace)) _ _ s
  refine wpAny_notedAt ?_
  unfold compStart
  show wpAny _ A (ask >>= _) _ _ s
  refine wpAny_bind (wpAny_askSetting (wpAny_ite ?_))
  split
  · first
      | exact wpAny_bind (wpAny_pure (wpAny_pure (And.intro rfl h0)))
      | exact wpAny_pure (And.intro rfl h0)
  · refine wpAny_bind (wpAny_rule ?_)
    show wpAny _ _ (standAt it2.pos >>= _) _ _ s
    exact wpAny_bind (wpAny_standAt (wpAny_bind (wpAny_mono h (fun it' s' q => wpAny_pure (And.intro rfl q)) fun _ _ z => z)))
/-- the outer loop; the inner one's end is what holds at the next turn -/
theorem loop_out (I : Nat → Shared → Prop) (hs : ∀ x, foldedSetIterable it2 env x = pure x)
    (turn : ∀ n s, I n s → wpAny (model prog w) A (pyNext it) (fun r s₁ => match r with
      | none => R (.ok .next) s₁
      | some v => wpAny (model prog w) A (letOwnedTupleGo t1 it v) (fun _ s₂ => wpAny (model prog w) A (assign t1 env v) (fun _ s₃ => wpAny (model prog w) A (tests if1 env) (fun ok s₄ =>
          if ok = true then wpAny (model prog w) A (eval it2 env) (fun x s₅ => wpAny (model prog w) A (pyIter x) (fun j s₆ =>
              codeAny (model prog w) A (.compStart (two kx vx t1 it1 t2 it2 if1 if2 scope pos) 1 j (.ref D) env) (fun r s₇ => match r with | .ok _ => ∃ m, m < n ∧ I m s₇ | .error _ => False) s₆) (NE prog w A env R) s₅) (NE prog w A env R) s₄
          else ∃ m, m < n ∧ I m s₄) (NE prog w A env R) s₃) (NE prog w A env R) s₂) (NE prog w A env R) s₁) (NE prog w A env R) s)
    (n : Nat) (h : I n s) : codeAny (model prog w) A (.compLoop (two kx vx t1 it1 t2 it2 if1 if2 scope pos) 0 it (.ref D) env) R s := by
  refine codeAny_loop rfl I (fun n s hI => ?_) n h
  show wpAny _ A ((compTurn (two kx vx t1 it1 t2 it2 if1 if2 scope pos) 0 it (.ref D) env).onRaise (fun x => do noteFrame x env; theTreesLotGoes x)) _ _ s
  refine wpAny_noted ?_
  rw [turn_out]
  refine wpAny_bind (wpAny_standAt (wpAny_bind (wpAny_mono (turn n s hI) (fun r s₁ q1 => ?_) fun _ _ z => z)))
  cases r with
  | none => exact wpAny_pure q1
  | some v =>
    refine wpAny_bind (wpAny_mono q1 (fun _ s₂ q2 => wpAny_bind (wpAny_mono q2 (fun _ s₃ q3 => wpAny_bind (wpAny_mono q3 (fun ok s₄ q4 => ?_) fun _ _ z => z)) fun _ _ z => z)) fun _ _ z => z)
    cases ok with
    | false => exact wpAny_pure ⟨rfl, q4⟩
    | true =>
      refine wpAny_bind (wpAny_mono q4 (fun x s₅ q5 => ?_) fun _ _ z => z)
      refine wpAny_bind (wpAny_standAt (wpAny_bind (wpAny_of_eq (hs x) (wpAny_bind (wpAny_holding (wpAny_mono q5 (fun j s₆ q6 => ?_) fun _ _ z => z))))))
      refine wpAny_bind (wpAny_runOwn (codeAny_mono q6 fun r s₇ q7 => ?_))
      cases r with
      | ok f => exact wpAny_pure ⟨rfl, q7⟩
      | error e => exact q7.elim
end
/-! ### the rule -/
theorem wipe_in {σ : L2.St} {i : Nat} : ∀ {vs : List Nat}, i ∈ vs → (wipe σ vs)[i]? = if i < σ.length then some none else none
  | [], h => absurd h List.not_mem_nil
  | v :: vs, h => by
    show ((wipe σ vs).set v none)[i]? = _
    by_cases e : v = i
    · subst e
      rw [List.getElem?_set_self', ← wipe_length σ vs]
      by_cases q : v < (wipe σ vs).length
      · rw [if_pos q, List.getElem?_eq_getElem q]
        rfl
      · rw [if_neg q, List.getElem?_eq_none (Nat.le_of_not_lt q)]
        rfl
    · rw [List.getElem?_set_ne e]
      exact wipe_in ((List.mem_cons.mp h).resolve_left fun z => e z.symm)
theorem wipe_wipe {σ : L2.St} {vs vs2 : List Nat} (h : ∀ v ∈ vs2, v ∈ vs) : wipe (wipe σ vs2) vs = wipe σ vs := by
  refine List.ext_getElem? fun i => ?_
  by_cases q : i ∈ vs
  · rw [wipe_in q, wipe_in q, wipe_length]
  · rw [wipe_out q, wipe_out q, wipe_out fun z => q (h i z)]
section
variable {X : Cx}
/-- what the inner loop asks: D the dict; the slots of its own names are wiped ahead of each turn -/
def dcIn (g2 : TG) (tt2 : TT) (tk tv : TE) (vs2 : List Nat) (D : Addr) (σ2 : L2.St) (Nx : Hp → Prop) (J2 : It) (H : Hp) : Prop :=
  ∃ W2 : Nat → Nat → Hp → Prop, (∃ m, W2 0 m H) ∧ ∀ i m H, W2 i m H → (J2.stop i H ∧ Nx H) ∨ (J2.go i H ∧ ∃ N2 : Hp → Prop, (∀ H', N2 H' → ∃ m', m' < m ∧ W2 (i + 1) m' H') ∧ ∀ x H', J2.yld i H x H' → g2 x (wipe σ2 vs2) H' fun σ3 H3 => wipe σ3 vs2 = wipe σ2 vs2 ∧ tt2 σ3 H3 fun b H4 =>
    if b = true then tk σ3 H4 fun y H5 => tv σ3 H5 fun z H6 => ∃ kvs k, y = kV k ∧ H6 D = some (.dK kvs) ∧ kvs.length < sizeLine ∧ N2 (upd H6 D (.dK (putK kvs k z))) else N2 H4)
def tDc2 (wi : TI) (g : TG) (tt : TT) (wi2 : TI) (g2 : TG) (tt2 : TT) (tk tv : TE) (vs vs2 : List Nat) : TE := fun σ H Q => wi σ H fun J H1 => ∀ D, H1 D = none → ∃ W : Nat → Nat → Hp → Prop, (∃ m, W 0 m (upd H1 D (.dK []))) ∧ ∀ i m H, W i m H →
  (J.stop i H ∧ Q (.ref D) H) ∨ (J.go i H ∧ ∃ Nx : Hp → Prop, (∀ H', Nx H' → ∃ m', m' < m ∧ W (i + 1) m' H') ∧ ∀ x H', J.yld i H x H' → g x (wipe σ vs) H' fun σ2 H2 => wipe σ2 vs = wipe σ vs ∧ tt σ2 H2 fun b H3 =>
    if b = true then wi2 σ2 H3 (dcIn g2 tt2 tk tv vs2 D σ2 Nx) else Nx H3)
end
end DC2
set_option Elab.async false
set_option linter.all false
set_option maxRecDepth 100000
set_option maxHeartbeats 4000000
namespace DC2
open PySem PySem.Spec PyProof.Rows L2
section
variable {X : Cx}
/-- the inner loop within a block's context Y, the outer iterator pinned -/
theorem inner_ok {Y : Cx} {pins : List (Addr × Obj)} {kx vx t1 it1 t2 it2 : Expr} {if1 if2 : List Expr} {scope : Scope} {pos : Pos} {g2 : TG} {tt2 : TT} {tk tv : TE} {vs2 : List Nat} {D : Addr} {σ2 : L2.St} {Nx : Hp → Prop} {itv : Value} {s : Shared} {R : Result → Shared → Prop}
    (hc : Y.calm = true) (pg : PG Y t2 g2) (pt : PTs Y if2 tt2) (pk : PE Y kx tk) (pe : PE Y vx tv) (h : PIE Y pins σ2 t2 (dcIn g2 tt2 tk tv vs2 D σ2 Nx) itv s)
    (hR : ∀ s' H', Inv Y pins (wipe σ2 vs2) H' s' → Nx H' → R (.ok .next) s') (hE : ∀ e s', Y.xe e s' → notedBy (model Y.prog Y.w) Y.A Y.env (fun e s' => R (.error e) s') e s') :
    codeAny (model Y.prog Y.w) Y.A (.compStart (two kx vx t1 it1 t2 it2 if1 if2 scope pos) 1 itv (.ref D) Y.env) R s := by
  obtain ⟨it, fp, tn, J, H1, rfl, I1, T, st1, f1, W, ⟨m0, w0⟩, turn⟩ := h
  have stat : ∀ {H' : Hp}, (∀ b ∈ fp, H' b = none) → ∀ b ∈ fp, FpOk Y pins H' b := fun n b hb => ⟨n b hb, (f1 b hb).2⟩
  have I2 : Inv Y pins (wipe σ2 vs2) H1 s := I1.weak (wipe_length _ _) fun j v e => (wipe_some e).1
  have loop : codeAny (model Y.prog Y.w) Y.A (.compLoop (two kx vx t1 it1 t2 it2 if1 if2 scope pos) 1 (.ref it) (.ref D) Y.env) R s := by
    refine loop_in (fun n s' => ∃ i H', Inv Y pins (wipe σ2 vs2) H' s' ∧ tn i s'.heap ∧ (∀ b ∈ fp, H' b = none) ∧ W i n H') ?_ m0 ⟨0, H1, I2, st1, fun b hb => (f1 b hb).1, w0⟩
    rintro n s5 ⟨i, H5, I5, st5, n5, w5⟩
    rcases turn i n H5 w5 with ⟨stop, qq⟩ | ⟨go, N2, hN, step⟩
    · refine wpAny_mono (T.done Y rfl rfl rfl hc i pins s5 _ H5 (fun _ _ => False) I5 (stat n5) st5 stop) (fun r s6 h6 => ?_) fun _ _ z => z.elim
      obtain ⟨rfl, I6⟩ := h6
      exact hR s6 H5 I6 qq
    · refine wpAny_mono (T.item Y rfl rfl rfl hc i pins s5 _ H5 (fun _ _ => False) I5 (stat n5) st5 go) (fun r s6 h6 => ?_) fun _ _ z => z.elim
      obtain ⟨u, rfl, h6⟩ := h6
      refine wpAny_mono h6 (fun _ s7 h7 => ?_) fun _ _ z => z.elim
      obtain ⟨x, H7, I7, r7, y7, st7, n7⟩ := h7
      have P7 := I7.pinned (stat n7) (T.obj _ _ st7)
      refine wpAny_mono (pg.run _ s7 _ H7 x u _ P7 r7 (step x H7 y7)) (fun _ s8 h8 => ?_) hE
      obtain ⟨σ8, H8, I8, hw8, q8⟩ := h8
      refine wpAny_mono (pt.run _ s8 σ8 H8 _ I8 q8) (fun b s9 h9 => ?_) hE
      obtain ⟨H9, I9, q9⟩ := h9
      have fin : ∀ {s' : Shared} {H' : Hp}, Inv Y (pins ++ pinsAt fp s7.heap) σ8 H' s' → N2 H' → ∃ m, m < n ∧ ∃ i H', Inv Y pins (wipe σ2 vs2) H' s' ∧ tn i s'.heap ∧ (∀ b ∈ fp, H' b = none) ∧ W i m H' := fun {s' H'} I' nx => by
        obtain ⟨m', hm, w'⟩ := hN H' nx
        have pin' : ∀ b ∈ fp, ∀ o, s7.heap.get? b = some o → s'.heap.get? b = some o ∧ H' b = none := fun b hb o e =>
          let z := I'.pin (b, o) (List.mem_append_right _ (List.mem_append_right _ (mem_pinsAt hb e)))
          ⟨z.1, z.2.1⟩
        refine ⟨m', hm, i + 1, H', I'.unpinned.weak (by rw [← hw8, wipe_length]) (fun j v e => ?_), T.keep _ _ _ st7 fun b hb o e => (pin' b hb o e).1, fun b hb => ?_, w'⟩
        · rw [← hw8] at e
          exact (wipe_some e).1
        · obtain ⟨o, e, _⟩ := T.obj _ _ st7 b hb
          exact (pin' b hb o e).2
      cases b with
      | false => exact fin I9 q9
      | true =>
        refine wpAny_mono (pk.run _ s9 σ8 H9 _ I9 q9) (fun z s10 h10 => ?_) hE
        obtain ⟨yk, H10, I10, r10, q10⟩ := h10
        refine wpAny_mono (pe.run _ s10 σ8 H10 _ I10 q10) (fun z2 s11 h11 => ?_) hE
        obtain ⟨yv, H11, I11, r11, kvs, k, ek, hD11, hz11, nx⟩ := h11
        subst ek
        exact d_dictSet (X := Y) I11 hD11 hz11 r10 r11 fun s12 I12 => fin I12 nx
  exact start_in loop (T.self Y.A 0 _ _ _ st1 loop)
end
end DC2
set_option Elab.async false
set_option linter.all false
set_option maxRecDepth 100000
set_option maxHeartbeats 4000000
namespace DC2
open PySem PySem.Spec PyProof.Rows L2
section
variable {X : Cx}
theorem pe_dc2 {kx vx t1 it1 t2 it2 : Expr} {if1 if2 : List Expr} {scope : Scope} {own : List (Str × Nat)} {vs2 : List Nat} {pos : Pos} {wi wi2 : TI} {g g2 : TG} {tt tt2 : TT} {tk tv : TE} (hc : X.calm = true) (hN : X.N.Nodup) (hi : PI X t1 it1 wi) (ok : BlkOk X.N X.env.scope scope own) (sub : ∀ v ∈ vs2, v ∈ own.map (·.2))
    (hg : ∀ (s : Shared) (H : Hp) (C : Addr) (cl : List (Str × Addr)) (fp : List Addr), PG (X.blk s H scope (compEnvC scope cl C X.env) fp) t1 g) (ht : ∀ (s : Shared) (H : Hp) (C : Addr) (cl : List (Str × Addr)) (fp : List Addr), PTs (X.blk s H scope (compEnvC scope cl C X.env) fp) if1 tt)
    (hi2 : ∀ (s : Shared) (H : Hp) (C : Addr) (cl : List (Str × Addr)) (fp : List Addr), PI (X.blk s H scope (compEnvC scope cl C X.env) fp) t2 it2 wi2)
    (hg2 : ∀ (s : Shared) (H : Hp) (C : Addr) (cl : List (Str × Addr)) (fp : List Addr), PG (X.blk s H scope (compEnvC scope cl C X.env) fp) t2 g2) (ht2 : ∀ (s : Shared) (H : Hp) (C : Addr) (cl : List (Str × Addr)) (fp : List Addr), PTs (X.blk s H scope (compEnvC scope cl C X.env) fp) if2 tt2)
    (hk : ∀ (s : Shared) (H : Hp) (C : Addr) (cl : List (Str × Addr)) (fp : List Addr), PE (X.blk s H scope (compEnvC scope cl C X.env) fp) kx tk)
    (he : ∀ (s : Shared) (H : Hp) (C : Addr) (cl : List (Str × Addr)) (fp : List Addr), PE (X.blk s H scope (compEnvC scope cl C X.env) fp) vx tv)
    (hs : ∀ x, foldedSetIterable it1 X.env x = pure x := by intro _; rfl) (hs2 : ∀ env x, foldedSetIterable it2 env x = pure x := by intro _ _; rfl) :
    PE X (two kx vx t1 it1 t2 it2 if1 if2 scope pos) (tDc2 wi g tt wi2 g2 tt2 tk tv (own.map (·.2)) vs2) := by
  refine ⟨fun pins s σ H Q I h => ?_⟩
  rw [arm_eval_DictComp]
  have hfree : ∀ y ∈ scope.names, y.2 = .free → ∃ c, X.env.cells.lookup y.1 = some c := fun y hy e => by
    rcases ok.free y hy e with k | k
    · exact I.ok.has _ (.inl k)
    · exact I.ok.has _ (.inr k)
  refine wpAny_comprehension_free rfl hs (closure_ok hfree) ok.kind (fun y hy e => by rw [ok.uniq y hy, e])
    (thn (hi.run pins s σ H _ I h) fun xv s1 hx => thn hx fun itv s2 h2 => ?_)
  obtain ⟨it, fp, tn, J, H2, rfl, I2, T, st2, f2, q⟩ := h2
  refine wpAny_newObj_type (newEnv_comp ?_)
  generalize hD : s2.heap.objs.size = D
  have hDn : H2 D = none := I2.hok.fresh (Nat.le_of_eq hD)
  obtain ⟨W, ⟨m0, w0⟩, turn⟩ := q D hDn
  generalize hs3 : ({ s2 with heap := s2.heap.push { cls := .type "dict", data := .dict #[] } } : Shared) = s3
  have I3 : Inv X pins σ (upd H2 D (.dK [])) s3 := by
    rw [← hs3]
    refine I2.laid (t' := s2.toks) (fun b o e => Heap.get?_push_of_some _ e) (Nat.le_of_eq hD) ?_
    rw [← hD]
    exact dk_empty s2.heap I2.big
  have h3 : s3.heap = s2.heap.push { cls := .type "dict", data := .dict #[] } := by rw [← hs3]
  have f3 : ∀ b ∈ fp, FpOk X pins (upd H2 D (.dK [])) b ∧ b < s3.heap.objs.size := fun b hb => by
    obtain ⟨o, e, _⟩ := T.obj _ _ st2 b hb
    have hlt := Heap.lt_size e
    refine ⟨⟨?_, (f2 b hb).2⟩, by rw [h3, Heap.size_push]; exact Nat.lt_succ_of_lt hlt⟩
    rw [upd_ne (by rw [← hD]; exact Nat.ne_of_lt hlt)]
    exact (f2 b hb).1
  have st3 : tn 0 s3.heap := T.keep _ _ _ st2 fun b _ o e => by rw [h3]; exact Heap.get?_push_of_some _ e
  have I4 := block_start I3 ok hN f3
  have pg := hg s3 (upd H2 D (.dK [])) s3.heap.objs.size (cellsFrom (s3.heap.objs.size + 1) scope.names (cloFrom X.env.cells scope.names [])) fp
  have pt := ht s3 (upd H2 D (.dK [])) s3.heap.objs.size (cellsFrom (s3.heap.objs.size + 1) scope.names (cloFrom X.env.cells scope.names [])) fp
  have pi2 := hi2 s3 (upd H2 D (.dK [])) s3.heap.objs.size (cellsFrom (s3.heap.objs.size + 1) scope.names (cloFrom X.env.cells scope.names [])) fp
  have pg2 := hg2 s3 (upd H2 D (.dK [])) s3.heap.objs.size (cellsFrom (s3.heap.objs.size + 1) scope.names (cloFrom X.env.cells scope.names [])) fp
  have pt2 := ht2 s3 (upd H2 D (.dK [])) s3.heap.objs.size (cellsFrom (s3.heap.objs.size + 1) scope.names (cloFrom X.env.cells scope.names [])) fp
  have pk := hk s3 (upd H2 D (.dK [])) s3.heap.objs.size (cellsFrom (s3.heap.objs.size + 1) scope.names (cloFrom X.env.cells scope.names [])) fp
  have pe := he s3 (upd H2 D (.dK [])) s3.heap.objs.size (cellsFrom (s3.heap.objs.size + 1) scope.names (cloFrom X.env.cells scope.names [])) fp
  show codeAny _ _ (.compStart (two kx vx t1 it1 t2 it2 if1 if2 scope pos) 0 (.ref it) (.ref D) (compEnvC scope (cellsFrom (s3.heap.objs.size + 1) scope.names (cloFrom X.env.cells scope.names [])) s3.heap.objs.size X.env)) (compPost (model X.prog X.w) X.A X.xe none _ (.ref D) s3.heap.objs.size) { s3 with heap := pushCells (s3.heap.push { cls := .type "dict", data := .dict #[] }) scope.names }
  have nfp : ∀ b ∈ fp, (upd H2 D (.dK [])) b = none := fun b hb => (f3 b hb).1.1
  generalize hce : compEnvC scope (cellsFrom (s3.heap.objs.size + 1) scope.names (cloFrom X.env.cells scope.names [])) s3.heap.objs.size X.env = ce at I4 pg pt pi2 pg2 pt2 pk pe ⊢
  have cL : ce.locals = s3.heap.objs.size := by subst hce; rfl
  generalize hH3 : upd H2 D (.dK []) = H3 at I3 I4 pg pt pi2 pg2 pt2 pk pe w0 nfp f3
  generalize hs4 : ({ s3 with heap := pushCells (s3.heap.push { cls := .type "dict", data := .dict #[] }) scope.names } : Shared) = s4 at I4 ⊢
  have st4 : tn 0 s4.heap := T.keep _ _ _ st3 fun b _ o e => by rw [← hs4]; exact pushCells_keeps _ _ _ _ (Heap.get?_push_of_some _ e)
  have stat : ∀ {σ' : L2.St} {H' : Hp} {s' : Shared}, Inv (X.blk s3 H3 scope ce fp) [] σ' H' s' → (∀ b ∈ fp, H' b = none) → ∀ b ∈ fp, FpOk (X.blk s3 H3 scope ce fp) [] H' b := fun {σ' H' s'} I' hn b hb =>
    ⟨hn b hb, (I'.ok.exf b hb).1, I'.ok.exfs b hb, .inl hb, fun x c e => (I'.ok.exf b hb).2 x c e, fun p hp => absurd (show p ∈ ([] : List (Addr × Obj)) ++ [] from hp) (by simp)⟩
  have loop : codeAny (model X.prog X.w) X.A (.compLoop (two kx vx t1 it1 t2 it2 if1 if2 scope pos) 0 (.ref it) (.ref D) ce) (compPost (model X.prog X.w) X.A X.xe none (EP X pins σ Q) (.ref D) s3.heap.objs.size) s4 := by
    refine loop_out (fun n s' => ∃ i H', Inv (X.blk s3 H3 scope ce fp) [] (wipe σ (own.map (·.2))) H' s' ∧ tn i s'.heap ∧ (∀ b ∈ fp, H' b = none) ∧ W i n H') (hs2 ce) ?_ m0 ⟨0, H3, I4, st4, nfp, w0⟩
    rintro n s5 ⟨i, H5, I5, st5, n5, w5⟩
    rcases turn i n H5 w5 with ⟨stop, qq⟩ | ⟨go, Nx, hNx, step⟩
    · refine wpAny_mono (T.done (X.blk s3 H3 scope ce fp) rfl rfl rfl hc i [] s5 _ H5 (fun _ _ => False) I5 (stat I5 n5) st5 stop) (fun r s6 h6 => ?_) fun _ _ z => z.elim
      obtain ⟨rfl, I6⟩ := h6
      have I7 : Inv X pins σ H5 s6 := I3.call' (ch := fp) I6.os I6.base I6.hok I6.bare fun b hb => ⟨(f3 b hb).1.2.2.2.1, (f3 b hb).1.2.1, (f3 b hb).1.2.2.2.2.1, (f3 b hb).1.2.2.2.2.2⟩
      have nC : H5 s3.heap.objs.size = none := by
        have z : H5 ce.locals = none := I6.free
        rw [cL] at z
        exact z
      obtain ⟨m, hn, _⟩ := I6.loc
      have hn : s6.heap.Ns ce.locals m := hn
      rw [cL] at hn
      refine ⟨m, hn, fun h'' sb => ?_⟩
      obtain ⟨f0, f1, f2', f3', f4, f5⟩ := I3.fpOk (H' := H5) (Nat.le_refl _) nC
      exact ⟨.ref D, H5, I7.turned (t' := s6.toks) (fun b o hb e => (sb.2 b hb).trans e) f0 f1 f3' f4 f5, rfl, qq⟩
    · refine wpAny_mono (T.item (X.blk s3 H3 scope ce fp) rfl rfl rfl hc i [] s5 _ H5 (fun _ _ => False) I5 (stat I5 n5) st5 go) (fun r s6 h6 => ?_) fun _ _ z => z.elim
      obtain ⟨u, rfl, h6⟩ := h6
      refine wpAny_mono h6 (fun _ s7 h7 => ?_) fun _ _ z => z.elim
      obtain ⟨x, H7, I7, r7, y7, st7, n7⟩ := h7
      have P7 := I7.pinned (stat I7 n7) (T.obj _ _ st7)
      refine wpAny_mono (pg.run _ s7 _ H7 x u _ P7 r7 (step x H7 y7)) (fun _ s8 h8 => ?_) fun _ _ z => z.elim
      obtain ⟨σ8, H8, I8, hw8, q8⟩ := h8
      refine wpAny_mono (pt.run _ s8 σ8 H8 _ I8 q8) (fun b s9 h9 => ?_) fun _ _ z => z.elim
      obtain ⟨H9, I9, q9⟩ := h9
      have fin : ∀ {s' : Shared} {H' : Hp} {σ' : L2.St}, wipe σ' (own.map (·.2)) = wipe σ (own.map (·.2)) → Inv (X.blk s3 H3 scope ce fp) ([] ++ pinsAt fp s7.heap) σ' H' s' → Nx H' → ∃ m, m < n ∧ ∃ i H', Inv (X.blk s3 H3 scope ce fp) [] (wipe σ (own.map (·.2))) H' s' ∧ tn i s'.heap ∧ (∀ b ∈ fp, H' b = none) ∧ W i m H' := fun {s' H' σ'} hw I' nx => by
        obtain ⟨m', hm, w'⟩ := hNx H' nx
        have pin' : ∀ b ∈ fp, ∀ o, s7.heap.get? b = some o → s'.heap.get? b = some o ∧ H' b = none := fun b hb o e =>
          let z := I'.pin (b, o) (List.mem_append_right _ (List.mem_append_right _ (mem_pinsAt hb e)))
          ⟨z.1, z.2.1⟩
        refine ⟨m', hm, i + 1, H', (I'.unpinned (pins := [])).weak (by rw [← hw, wipe_length]) (fun j v e => ?_), T.keep _ _ _ st7 fun b hb o e => (pin' b hb o e).1, fun b hb => ?_, w'⟩
        · rw [← hw] at e
          exact (wipe_some e).1
        · obtain ⟨o, e, _⟩ := T.obj _ _ st7 b hb
          exact (pin' b hb o e).2
      cases b with
      | false => exact fin hw8 I9 q9
      | true =>
        refine wpAny_mono (pi2.run _ s9 σ8 H9 _ I9 q9) (fun v s10 h10 => ?_) fun _ _ z => z.elim
        refine wpAny_mono h10 (fun j s11 h11 => ?_) fun _ _ z => z.elim
        exact inner_ok (Y := X.blk s3 H3 scope ce fp) hc pg2 pt2 pk pe h11 (fun s' H' I' nx => fin (by rw [wipe_wipe sub, hw8]) I' nx) fun _ _ z => z.elim
  exact codeAny_compStart_dict loop (T.self X.A 0 _ _ _ st4 loop)
end
end DC2
set_option Elab.async false
set_option linter.all false
set_option maxRecDepth 100000
set_option maxHeartbeats 4000000
namespace J1
open PySem PySem.Spec PyProof.Rows L2 GxR GA ZS
abbrev EncT (H : Hp) : Da → V → Prop := EncB (fun _ => False) H
abbrev EncsT (H : Hp) : List Da → List V → Prop := EncsB (fun _ => False) H
/-! ### kinds, as data -/
abbrev Mk1 := Str × List Str
abbrev Kd1 := Str × List Mk1
def fsD (fs : List Str) : Da := .tup (fs.map .str)
def mkD (m : Mk1) : Da := .tup [.str m.1, fsD m.2]
def mksD (ms : List Mk1) : Da := .tup (ms.map mkD)
def kdD (k : Kd1) : Da := .tup [.str k.1, mksD k.2]
def ksD (ks : List Kd1) : Da := .tup (ks.map kdD)
/-- all makers, in their sequence -/
def mksOf (ks : List Kd1) : List (Mk1 × Str) := (ks.map fun k => k.2.map fun m => (m, k.1)).flatten
structure KdsOk (ks : List Kd1) : Prop where
  nd : (ks.map (·.1)).Nodup
  ndm : ((mksOf ks).map (·.1.1)).Nodup
  hi : ∀ k ∈ ks, isHig (.str k.1) = true
  him : ∀ m ∈ mksOf ks, isHig (.str m.1.1) = true
  fl : ∀ m ∈ mksOf ks, m.1.2.length ≤ 5
  fk : ∀ m ∈ mksOf ks, ∀ f ∈ m.1.2, f = "whole" ∨ f ∈ ks.map (·.1)
  m1 : ∀ k ∈ ks, 1 ≤ k.2.length ∧ k.2.length ≤ 8
  le : ks.length ≤ 8
  ml : (mksOf ks).length ≤ 64
/-! ### dicts of texts -/
def dkD (ns : List Str) (ms : List V) : List (Key × V) := (ns.zip ms).map fun p => (Sum.inr p.1, p.2)
theorem dkD_no : ∀ {ns : List Str} {ms : List V} {n : Str}, n ∉ ns → valV (dkD ns ms) (Sum.inr n : Key) = none
  | [], _, _, _ => rfl
  | _ :: _, [], _, _ => rfl
  | a :: r, m :: t, n, h => by
    have e : dkD (a :: r) (m :: t) = ((Sum.inr a : Key), m) :: dkD r t := rfl
    rw [e, valV_neg (fun z => h (by rw [← Sum.inr.inj z]; exact List.mem_cons_self))]
    exact dkD_no fun z => h (List.mem_cons_of_mem _ z)
theorem dkD_get : ∀ {ns : List Str} {ms : List V} {n : Str} {m : V} {i : Nat}, ns.Nodup → ns[i]? = some n → ms[i]? = some m → valV (dkD ns ms) (Sum.inr n : Key) = some m
  | [], _, _, _, _, _, h, _ => by cases h
  | _ :: _, [], _, _, _, _, _, h => by cases h
  | a :: r, m :: t, n, m', 0, nd, h, g => by
    cases h
    cases g
    exact valV_pos rfl
  | a :: r, m :: t, n, m', i + 1, nd, h, g => by
    have e : dkD (a :: r) (m :: t) = ((Sum.inr a : Key), m) :: dkD r t := rfl
    have hr : n ∈ r := List.mem_of_getElem? h
    rw [e, valV_neg (fun z => (List.nodup_cons.mp nd).1 (by rw [Sum.inr.inj z]; exact hr))]
    exact dkD_get (List.nodup_cons.mp nd).2 h g
theorem dkD_push {ns : List Str} {ms : List V} {n : Str} {m : V} (h : n ∉ ns) (hl : ns.length = ms.length) : putK (dkD ns ms) (Sum.inr n : Key) m = dkD (ns ++ [n]) (ms ++ [m]) := by
  rw [putK_new _ (dkD_no h)]
  unfold dkD
  rw [List.zip_append hl, List.map_append]
  rfl
theorem dkD_len {ns : List Str} {ms : List V} : (dkD ns ms).length ≤ ns.length := by
  unfold dkD
  rw [List.length_map, List.length_zip]
  omega
/-- a thing of the first i is none of the later -/
theorem nd_take {α : Type} {l : List α} {f : α → Str} {i : Nat} {d : α} (hnd : (l.map f).Nodup) (hd : l[i]? = some d) : f d ∉ (l.take i).map f := by
  have hi : i < l.length := (List.getElem?_eq_some_iff.mp hd).1
  have e : l = l.take i ++ d :: l.drop (i + 1) := by
    have q := List.getElem_cons_drop hi
    rw [(List.getElem?_eq_some_iff.mp hd).2] at q
    rw [q, List.take_append_drop]
  rw [e, List.map_append, List.nodup_append] at hnd
  intro hm
  exact hnd.2.2 _ hm _ (by rw [List.map_cons]; exact List.mem_cons_self) rfl
theorem map_get {α β : Type} {f : α → β} {l : List α} {i : Nat} {y : β} (h : (l.map f)[i]? = some y) : ∃ x, l[i]? = some x ∧ y = f x := by
  rw [List.getElem?_map] at h
  cases e : l[i]? with
  | none => rw [e] at h; cases h
  | some x => rw [e] at h; cases h; exact ⟨x, rfl, rfl⟩
theorem encs_push {B : Addr → Prop} {H : Hp} {l : List Da} {xs : List V} {d : Da} {x : V} (h : EncsB B H l xs) (g : EncB B H d x) : EncsB B H (l ++ [d]) (xs ++ [x]) := by
  match l, xs, h with
  | _, _, .nil => exact .cons g .nil
  | _, _, .cons a t => exact .cons a (encs_push t g)
theorem Grow.none' {H H' : Hp} (g : Grow H H') {a : Addr} (h : H' a = none) : H a = none := by
  cases e : H a with
  | none => rfl
  | some o =>
    rcases g a o e with q | ⟨_, ps, q, _⟩
    · rw [q] at h; cases h
    · rw [q] at h; cases h
theorem Grow.dk {H H' : Hp} (g : Grow H H') {a : Addr} {xs : List (Key × V)} (h : H a = some (.dK xs)) : H' a = some (.dK xs) := by
  rcases g a _ h with q | ⟨⟨ps, q⟩, _⟩
  · exact q
  · cases q
theorem Grow.upd' {H0 H : Hp} (g : Grow H0 H) {D : Addr} (hD : H0 D = none) {o : HO} : Grow H0 (L2.upd H D o) := fun a u h => by
  have n : a ≠ D := fun z => by rw [z, hD] at h; cases h
  rcases g a u h with q | ⟨e, q⟩
  · exact .inl (by rw [upd_ne n]; exact q)
  · obtain ⟨ps, q, z⟩ := q
    exact .inr ⟨e, ps, by rw [upd_ne n]; exact q, z⟩
theorem GrowW.upd {w : Addr} {H : Hp} {o : HO} : GrowW w H (L2.upd H w o) := fun a u n h => .inl (by rw [upd_ne n]; exact h)
theorem noTupN {H : Hp} {D : Addr} (h : H D = none) : ∀ xs, H D ≠ some (.tup xs) := fun xs z => by rw [h] at z; cases z
end J1
set_option Elab.async false
set_option linter.all false
set_option maxRecDepth 100000
set_option maxHeartbeats 4000000
namespace J1
open PySem PySem.Spec PyProof.Rows L2 GxR GA ZS
/-- what the expression gives is locked from then on -/
def tLockV (td : TE) : TE := fun σ H Q => td σ H fun x H1 => ∃ d u, x = .ref d ∧ H1 d = some u ∧ Mut (some u) ∧ ∀ od, Q x (upd H1 d (.frz od u))
theorem pe_lockV {X : Cx} {e : Expr} {td : TE} (he : PE X e td) : PE X e (tLockV td) := by
  refine ⟨fun pins s σ H Q I h => ?_⟩
  refine thn (he.run pins s σ H _ I h) fun v s1 ⟨x, H1, I1, r, d, u, ex, hd, mu, q⟩ => ?_
  obtain ⟨od, I2⟩ := I1.lock hd mu
  exact ⟨x, _, I2, r, q od⟩
theorem wipe_put {σ : L2.St} {vs : List Nat} {i : Nat} {x : Option V} (h : i ∈ vs) : wipe (σ.set i x) vs = wipe σ vs := by
  refine List.ext_getElem? fun j => ?_
  by_cases q : j ∈ vs
  · rw [DC2.wipe_in q, DC2.wipe_in q, List.length_set]
  · rw [wipe_out q, wipe_out q, List.getElem?_set_ne]
    intro z
    rw [z] at h
    exact q h
theorem wipe_again {σ : L2.St} {vs : List Nat} : wipe (wipe σ vs) vs = wipe σ vs := DC2.wipe_wipe fun _ h => h
/-- a comprehension's walk, whatever its body -/
theorem dc_it {J : It} {n : Nat} {G : Hp → Prop} {Y : Nat → Hp → V → Hp → Prop} (w : Walk J n G Y) {H1 : Hp} {Qd : Hp → Prop} {Body : (Hp → Prop) → V → Hp → Prop} (Pv : Nat → Hp → Prop) (h0 : Pv 0 H1) (hG : ∀ i H, i ≤ n → Pv i H → G H)
    (hs : ∀ i x H H', i < n → Pv i H → Y i H x H' → Body (Pv (i + 1)) x H') (hd : ∀ H, Pv n H → Qd H) :
    ∃ W : Nat → Nat → Hp → Prop, (∃ m, W 0 m H1) ∧ ∀ i m H, W i m H →
      (J.stop i H ∧ Qd H) ∨ (J.go i H ∧ ∃ Nx : Hp → Prop, (∀ H', Nx H' → ∃ m', m' < m ∧ W (i + 1) m' H') ∧ ∀ x H', J.yld i H x H' → Body Nx x H') := by
  refine ⟨fun i m H => i ≤ n ∧ m + i = n ∧ Pv i H, ⟨n, Nat.zero_le _, Nat.add_zero _, h0⟩, fun i m H hw => ?_⟩
  obtain ⟨hi, hm, p⟩ := hw
  have q := hG i H hi p
  rcases Nat.lt_or_ge i n with h | h
  · refine .inr ⟨w.goes i H h q, Pv (i + 1), fun H' z => ⟨m - 1, by omega, by omega, by omega, z⟩, fun x H' y => hs i x H H' h p (w.yields i H x H' h q y)⟩
  · have e : i = n := Nat.le_antisymm hi h
    subst e
    exact .inl ⟨w.stops H q, hd H p⟩
end J1
set_option Elab.async false
set_option linter.all false
set_option maxRecDepth 100000
set_option maxHeartbeats 4000000
namespace L2
open PySem PySem.Spec PyProof.Rows
/-- the entries of a locked dict with tuples as keys, each a new pair of the key's tuple and the value -/
def Itit (d : Addr) (o : Obj) (kvs : List (List Key × V)) : It :=
  ⟨fun i H => H d = some (.frz o (.dT kvs)) ∧ i < kvs.length, fun i H x H' => ∃ T k v q, kvs[i]? = some (k, v) ∧ x = .ref T ∧ H T = none ∧ H q = some (.tup (k.map kV)) ∧ H' = upd H T (.tup [.ref q, v]), fun i H => H d = some (.frz o (.dT kvs)) ∧ kvs.length ≤ i⟩
section
variable {P : Program} {w : World} {K : PySem.W.Frag} {d : Addr} {o : Obj} {es : Array DictEntry} {ep : Nat}
/-- what a locked dict with tuples as keys holds -/
theorem frzT2 {X : Cx} {pins : List (Addr × Obj)} {σ : St} {H : Hp} {s : Shared} {kvs : List (List Key × V)} (I : Inv X pins σ H s) (h : H d = some (.frz o (.dT kvs))) :
    (d == sysModules) = false ∧ ∃ (es : Array DictEntry) (ep : Nat), o.data = .dict es ep ∧ es.size = kvs.length ∧ DT.Raw s.heap d es ep ∧
      ∀ (i : Nat) (k : List Key) (v : V), kvs[i]? = some (k, v) → ∃ (en : DictEntry) (q : Addr), es[i]? = some en ∧ en.key = .ref q ∧ H q = some (.tup (k.map kV)) ∧ RelV v en.val := by
  obtain ⟨hd, z, hs, xs, pr, o', es, ep, ho, hx, hdt, he, _⟩ := I.hok d _ h
  have eo : o = o' := Option.some.inj (hd.symm.trans ho)
  subst eo
  have lp : kvs.length = xs.length := Paired.length pr
  refine ⟨hs, es, ep, hdt, (size_of_entries he).trans lp.symm, ⟨o, ho, hx, hdt⟩, fun i k v hi => ?_⟩
  have il := (List.getElem?_eq_some_iff.mp hi).1
  have hxi := List.getElem?_eq_getElem (l := xs) (i := i) (by omega)
  obtain ⟨e0, h0, h1, h2, h3⟩ := DX.pget pr hxi
  have ee : (k, v) = e0 := Option.some.inj (hi.symm.trans h0)
  subst ee
  have q := entry_at he i
  rw [hxi] at q
  exact ⟨_, _, q, rfl, h2, h3⟩
theorem turn_itemsT {kvs : List (List Key × V)} {elts : List Expr} {kk : Nat} {tpos : Pos} (it : Addr) (hod : o.data = .dict es ep) :
    Turn P w K (.Tuple elts kk tpos) (Itit d o kvs) [it] it (fun i h => ∃ ok ov, IsItemIter h it d i kvs.length ep ok ov) where
  mem := by simp
  obj := fun i h st b hb => by
    obtain ⟨ok, ov, e⟩ := st
    have eb : b = it := by simpa using hb
    rw [eb]
    exact ⟨_, e, fun v z => nomatch z⟩
  keep := fun i h h' st k => by
    obtain ⟨ok, ov, e⟩ := st
    exact ⟨ok, ov, k it (by simp) _ e⟩
  item := by
    intro Y eP ew eK cal i pn s τ G E inv hf sta go
    subst eP ew eK
    obtain ⟨hd, hi⟩ := go
    obtain ⟨hs, es', ep', hdt, hsz, raw, ent⟩ := frzT2 inv hd
    obtain ⟨rfl, rfl⟩ := dict_ep hod hdt
    obtain ⟨⟨k, v⟩, hkv⟩ : ∃ p, kvs[i]? = some p := ⟨kvs[i], List.getElem?_eq_getElem hi⟩
    obtain ⟨en, q, hen, hkey, hq, rv⟩ := ent i k v hkv
    obtain ⟨ok, ov, he⟩ := sta
    rw [← hsz] at he
    have hlt : it < s.heap.objs.size := Heap.lt_size he
    have hi2 : i < es'.size := by omega
    have een : es'[i] = en := Option.some.inj ((Array.getElem?_eq_getElem hi2).symm.trans hen)
    refine DT.nextI he raw hi2 fun h' ho hT hz hk => ?_
    rw [een] at ho hT
    refine ⟨_, rfl, wpAny_letOwnedTupleGo_items (s := { s with heap := h' }) ho fun h2 he' sb => ?_⟩
    have hT2 : h2.get? s.heap.objs.size = some { cls := .type "tuple", data := .seq #[en.key, en.val] } := (sb.2 _ (Nat.ne_of_gt hlt)).trans hT
    have new : ObjOk Y.prog Y.w (upd G s.heap.objs.size (.tup [.ref q, v])) h2 s.heap.objs.size (.tup [.ref q, v]) :=
      ⟨by show 2 ≤ sizeLine; decide, [en.key, en.val], .cons hkey (.cons rv .nil), ⟨_, hT2, rfl, _, rfl⟩⟩
    have I1 : Inv Y pn τ (upd G s.heap.objs.size (.tup [.ref q, v])) { s with heap := h2 } :=
      inv.turnedNew (t' := s.toks) (ch := [it]) (fun b ob hb e => (sb.2 b (by simpa using hb)).trans (hk b ob (by simpa using hb) e)) hf (Nat.le_refl _) new
    refine ⟨.ref s.heap.objs.size, _, I1, rfl, ⟨_, k, v, q, hkv, rfl, inv.hok.fresh (Nat.le_refl _), hq, rfl⟩, ⟨en.key, en.val, by rw [← hsz]; exact he'⟩, fun b hb => ?_⟩
    have e : b = it := by simpa using hb
    rw [e, upd_ne (Nat.ne_of_lt hlt)]
    exact (hf it (by simp)).1
  done := by
    intro Y eP ew eK cal i pn s τ G E inv hf sta go
    subst eP ew eK
    obtain ⟨hd, hi⟩ := go
    obtain ⟨f0, f1, f2, f3, f4, f5⟩ := hf it (by simp)
    obtain ⟨hs, es', ep', hdt, hsz, raw, ent⟩ := frzT2 inv hd
    obtain ⟨rfl, rfl⟩ := dict_ep hod hdt
    obtain ⟨ok, ov, he⟩ := sta
    rw [← hsz] at he
    exact DT.endI (inv.ok.hd cal) he raw (by omega) fun h' eb => ⟨rfl, inv.turned (t' := s.toks) (fun b ob hb e => eb b ob hb e) f0 f1 f3 f4 f5⟩
  self := fun A i s Q E st h => let ⟨_, _, e⟩ := st; PySem.W.kcp_self e h
end
def iItemsT (td : TE) : TI := fun σ H R => td σ H fun x H1 => ∃ d o kvs, x = .ref d ∧ H1 d = some (.frz o (.dT kvs)) ∧ R (Itit d o kvs) H1
section
variable {X : Cx} {tg e : Expr} {td : TE} {apos cpos : Pos}
theorem pi_itemsT {elts : List Expr} {kk : Nat} {tpos : Pos} (he : PE X e td) (hbase : attributeBase e "items" X.env (eval e X.env) = eval e X.env := by rfl) (hline : (apos.endLine == cpos.line) = true := by rfl) :
    PI X (.Tuple elts kk tpos) (.Call (.Attribute e "items" apos) [] [] cpos) (iItemsT td) := by
  refine ⟨fun pn s σ H R I h => ?_⟩
  refine wpAny_Call_method (T := "dict") (id := "dict.items") hbase rfl hline F.plainAttrs_dict F.slot_dict_items F.type_dict_items (thn (he.run pn s σ H _ I h) fun u s1 ⟨x, H1, I1, rx, d, o, kvs, ex, hd, q⟩ => ?_)
  subst ex
  have eu : u = Value.ref d := rx
  subst eu
  obtain ⟨hs, es, ep, hdt, hsz, raw, ent⟩ := frzT2 I1 hd
  obtain ⟨ob, hob, hex, hdat⟩ := id raw
  have ty : s1.TypeIs (.ref d) "dict" := raw.typeIs
  refine ⟨ty, ?_, ?_⟩
  · intro a ea
    cases ea
    exact ⟨ob, hob, by first | exact hex.2 | exact hex.2.1⟩
  have I2 : Inv X pn σ H1 { s1 with heap := s1.heap.push { cls := .type "dict_items", data := .fields #[.ref d] } } := I1.kept (t' := s1.toks) fun b ob q => Heap.get?_push_of_some _ q
  have fin : wpAny (model X.prog X.w) X.A (pyIter (.ref s1.heap.objs.size)) (PIE X pn σ (.Tuple elts kk tpos) R) X.xe { s1 with heap := s1.heap.push { cls := .type "dict_items", data := .fields #[.ref d] } } := by
    refine DT.iterI (d := d) ⟨_, Heap.get?_push_size _ rfl, rfl, rfl⟩ (raw.push _) (pi_one (tk := s1.toks) I2 _ (turn_itemsT _ hdt) ⟨.none, .none, ?_⟩ q)
    rw [← hsz]
    exact Heap.get?_push_size _ rfl
  show wpAny _ _ (callWith cpos (.builtin "dict.items") [.ref d] [] []) _ X.xe s1
  exact method_meetsIn F.slot_dict_items F.entry_dict_items rfl (PySem.evalArgs_none ⟨rfl, ty, F.args_dict_items_1 _, _, DT.meetsItems (es := es) (ep := ep) hs, ⟨raw, fin⟩⟩)
end
theorem walk_itemsT {d : Addr} {o : Obj} {kvs : List (List Key × V)} : Walk (Itit d o kvs) kvs.length (fun H => H d = some (.frz o (.dT kvs))) (fun i H x H' => ∃ T k v q, kvs[i]? = some (k, v) ∧ x = .ref T ∧ H T = none ∧ H q = some (.tup (k.map kV)) ∧ H' = upd H T (.tup [.ref q, v])) := by
  refine ⟨fun _ _ hi q => ⟨q, hi⟩, fun _ q => ⟨q, Nat.le_refl _⟩, fun i H x H' _ _ y => y⟩
end L2
set_option Elab.async false
set_option linter.all false
set_option maxRecDepth 100000
set_option maxHeartbeats 4000000
namespace DC2
open PySem PySem.Spec PyProof.Rows L2
/-! the same, with tuples as keys -/
/-- d[k] = v by a comprehension, k a tuple -/
theorem d_dictSetT {X : Cx} {pins : List (Addr × Obj)} {σ : L2.St} {H : Hp} {s : Shared} {E : Value → Shared → Prop} {D b : Addr} {kvs : List (List Key × V)} {k : List Key} {v : V} {u r : Value} {Q : Unit → Shared → Prop} (hu : X.A.units + 1 < cLine) (I : Inv X pins σ H s) (hD : H D = some (.dT kvs)) (hz : kvs.length < sizeLine)
    (hb : H b = some (.tup (k.map kV))) (ry : RelV (.ref b) u) (rv : RelV v r) (h : ∀ s', Inv X pins σ (upd H D (.dT (putK kvs k v))) s' → Q () s') : wpAny (model X.prog X.w) X.A (dictSet D u r) Q E s := by
  cases (show u = Value.ref b from ry)
  obtain ⟨z, hd, xs, rel, dd⟩ := dt_of I.hok hD
  have hzv : xs.length ≤ sizeLine := by rw [← Paired.length rel]; exact z
  have hl : (putK kvs k v).length ≤ sizeLine := by have := length_putK kvs k v; omega
  refine wpAny_dictSet_heap (hsz := hzv) (show X.A.units < cLine by omega) (key_of I.hok hb) dd fun h' dd' hs => h _ ?_
  obtain ⟨q, es, ep, hq, h2, h3, h4, _, h5⟩ := dd'
  refine d_write I (by rw [hD]; exact True.intro) hs ⟨q, hq⟩ ⟨hl, hd, _, (rel.put k hb rv).keeps fun c ys ec => ?_, q, es, ep, hq, h2, h3, h4, h5⟩
  rw [upd_ne (ne_of ec hD (fun z => nomatch z))]
  exact ec
section
variable {X : Cx}
/-- what the inner loop asks: D the dict; the slots of its own names are wiped ahead of each turn -/
def dcInT (g2 : TG) (tt2 : TT) (tk tv : TE) (vs2 : List Nat) (D : Addr) (σ2 : L2.St) (Nx : Hp → Prop) (J2 : It) (H : Hp) : Prop :=
  ∃ W2 : Nat → Nat → Hp → Prop, (∃ m, W2 0 m H) ∧ ∀ i m H, W2 i m H → (J2.stop i H ∧ Nx H) ∨ (J2.go i H ∧ ∃ N2 : Hp → Prop, (∀ H', N2 H' → ∃ m', m' < m ∧ W2 (i + 1) m' H') ∧ ∀ x H', J2.yld i H x H' → g2 x (wipe σ2 vs2) H' fun σ3 H3 => wipe σ3 vs2 = wipe σ2 vs2 ∧ tt2 σ3 H3 fun b H4 =>
    if b = true then tk σ3 H4 fun y H5 => tv σ3 H5 fun z H6 => ∃ (kvs : List (List Key × V)) (k : List Key) (b : Addr), y = .ref b ∧ H6 b = some (.tup (k.map kV)) ∧ H6 D = some (.dT kvs) ∧ kvs.length < sizeLine ∧ N2 (upd H6 D (.dT (putK kvs k z))) else N2 H4)
def tDc2T (wi : TI) (g : TG) (tt : TT) (wi2 : TI) (g2 : TG) (tt2 : TT) (tk tv : TE) (vs vs2 : List Nat) : TE := fun σ H Q => wi σ H fun J H1 => ∀ D, H1 D = none → ∃ W : Nat → Nat → Hp → Prop, (∃ m, W 0 m (upd H1 D (.dT []))) ∧ ∀ i m H, W i m H →
  (J.stop i H ∧ Q (.ref D) H) ∨ (J.go i H ∧ ∃ Nx : Hp → Prop, (∀ H', Nx H' → ∃ m', m' < m ∧ W (i + 1) m' H') ∧ ∀ x H', J.yld i H x H' → g x (wipe σ vs) H' fun σ2 H2 => wipe σ2 vs = wipe σ vs ∧ tt σ2 H2 fun b H3 =>
    if b = true then wi2 σ2 H3 (dcInT g2 tt2 tk tv vs2 D σ2 Nx) else Nx H3)
/-- the inner loop within a block's context Y, the outer iterator pinned -/
theorem inner_okT {Y : Cx} {pins : List (Addr × Obj)} {kx vx t1 it1 t2 it2 : Expr} {if1 if2 : List Expr} {scope : Scope} {pos : Pos} {g2 : TG} {tt2 : TT} {tk tv : TE} {vs2 : List Nat} {D : Addr} {σ2 : L2.St} {Nx : Hp → Prop} {itv : Value} {s : Shared} {R : Result → Shared → Prop}
    (hc : Y.calm = true) (hu : Y.A.units + 1 < cLine) (pg : PG Y t2 g2) (pt : PTs Y if2 tt2) (pk : PE Y kx tk) (pe : PE Y vx tv) (h : PIE Y pins σ2 t2 (dcInT g2 tt2 tk tv vs2 D σ2 Nx) itv s)
    (hR : ∀ s' H', Inv Y pins (wipe σ2 vs2) H' s' → Nx H' → R (.ok .next) s') (hE : ∀ e s', Y.xe e s' → notedBy (model Y.prog Y.w) Y.A Y.env (fun e s' => R (.error e) s') e s') :
    codeAny (model Y.prog Y.w) Y.A (.compStart (two kx vx t1 it1 t2 it2 if1 if2 scope pos) 1 itv (.ref D) Y.env) R s := by
  obtain ⟨it, fp, tn, J, H1, rfl, I1, T, st1, f1, W, ⟨m0, w0⟩, turn⟩ := h
  have stat : ∀ {H' : Hp}, (∀ b ∈ fp, H' b = none) → ∀ b ∈ fp, FpOk Y pins H' b := fun n b hb => ⟨n b hb, (f1 b hb).2⟩
  have I2 : Inv Y pins (wipe σ2 vs2) H1 s := I1.weak (wipe_length _ _) fun j v e => (wipe_some e).1
  have loop : codeAny (model Y.prog Y.w) Y.A (.compLoop (two kx vx t1 it1 t2 it2 if1 if2 scope pos) 1 (.ref it) (.ref D) Y.env) R s := by
    refine loop_in (fun n s' => ∃ i H', Inv Y pins (wipe σ2 vs2) H' s' ∧ tn i s'.heap ∧ (∀ b ∈ fp, H' b = none) ∧ W i n H') ?_ m0 ⟨0, H1, I2, st1, fun b hb => (f1 b hb).1, w0⟩
    rintro n s5 ⟨i, H5, I5, st5, n5, w5⟩
    rcases turn i n H5 w5 with ⟨stop, qq⟩ | ⟨go, N2, hN, step⟩
    · refine wpAny_mono (T.done Y rfl rfl rfl hc i pins s5 _ H5 (fun _ _ => False) I5 (stat n5) st5 stop) (fun r s6 h6 => ?_) fun _ _ z => z.elim
      obtain ⟨rfl, I6⟩ := h6
      exact hR s6 H5 I6 qq
    · refine wpAny_mono (T.item Y rfl rfl rfl hc i pins s5 _ H5 (fun _ _ => False) I5 (stat n5) st5 go) (fun r s6 h6 => ?_) fun _ _ z => z.elim
      obtain ⟨u, rfl, h6⟩ := h6
      refine wpAny_mono h6 (fun _ s7 h7 => ?_) fun _ _ z => z.elim
      obtain ⟨x, H7, I7, r7, y7, st7, n7⟩ := h7
      have P7 := I7.pinned (stat n7) (T.obj _ _ st7)
      refine wpAny_mono (pg.run _ s7 _ H7 x u _ P7 r7 (step x H7 y7)) (fun _ s8 h8 => ?_) hE
      obtain ⟨σ8, H8, I8, hw8, q8⟩ := h8
      refine wpAny_mono (pt.run _ s8 σ8 H8 _ I8 q8) (fun b s9 h9 => ?_) hE
      obtain ⟨H9, I9, q9⟩ := h9
      have fin : ∀ {s' : Shared} {H' : Hp}, Inv Y (pins ++ pinsAt fp s7.heap) σ8 H' s' → N2 H' → ∃ m, m < n ∧ ∃ i H', Inv Y pins (wipe σ2 vs2) H' s' ∧ tn i s'.heap ∧ (∀ b ∈ fp, H' b = none) ∧ W i m H' := fun {s' H'} I' nx => by
        obtain ⟨m', hm, w'⟩ := hN H' nx
        have pin' : ∀ b ∈ fp, ∀ o, s7.heap.get? b = some o → s'.heap.get? b = some o ∧ H' b = none := fun b hb o e =>
          let z := I'.pin (b, o) (List.mem_append_right _ (List.mem_append_right _ (mem_pinsAt hb e)))
          ⟨z.1, z.2.1⟩
        refine ⟨m', hm, i + 1, H', I'.unpinned.weak (by rw [← hw8, wipe_length]) (fun j v e => ?_), T.keep _ _ _ st7 fun b hb o e => (pin' b hb o e).1, fun b hb => ?_, w'⟩
        · rw [← hw8] at e
          exact (wipe_some e).1
        · obtain ⟨o, e, _⟩ := T.obj _ _ st7 b hb
          exact (pin' b hb o e).2
      cases b with
      | false => exact fin I9 q9
      | true =>
        refine wpAny_mono (pk.run _ s9 σ8 H9 _ I9 q9) (fun z s10 h10 => ?_) hE
        obtain ⟨yk, H10, I10, r10, q10⟩ := h10
        refine wpAny_mono (pe.run _ s10 σ8 H10 _ I10 q10) (fun z2 s11 h11 => ?_) hE
        obtain ⟨yv, H11, I11, r11, kvs, k, bk, ek, hb11, hD11, hz11, nx⟩ := h11
        subst ek
        exact d_dictSetT (X := Y) hu I11 hD11 hz11 hb11 r10 r11 fun s12 I12 => fin I12 nx
  exact start_in loop (T.self Y.A 0 _ _ _ st1 loop)
theorem pe_dc2T {kx vx t1 it1 t2 it2 : Expr} {if1 if2 : List Expr} {scope : Scope} {own : List (Str × Nat)} {vs2 : List Nat} {pos : Pos} {wi wi2 : TI} {g g2 : TG} {tt tt2 : TT} {tk tv : TE} (hc : X.calm = true) (hu : X.A.units + 1 < cLine) (hN : X.N.Nodup) (hi : PI X t1 it1 wi) (ok : BlkOk X.N X.env.scope scope own) (sub : ∀ v ∈ vs2, v ∈ own.map (·.2))
    (hg : ∀ (s : Shared) (H : Hp) (C : Addr) (cl : List (Str × Addr)) (fp : List Addr), PG (X.blk s H scope (compEnvC scope cl C X.env) fp) t1 g) (ht : ∀ (s : Shared) (H : Hp) (C : Addr) (cl : List (Str × Addr)) (fp : List Addr), PTs (X.blk s H scope (compEnvC scope cl C X.env) fp) if1 tt)
    (hi2 : ∀ (s : Shared) (H : Hp) (C : Addr) (cl : List (Str × Addr)) (fp : List Addr), PI (X.blk s H scope (compEnvC scope cl C X.env) fp) t2 it2 wi2)
    (hg2 : ∀ (s : Shared) (H : Hp) (C : Addr) (cl : List (Str × Addr)) (fp : List Addr), PG (X.blk s H scope (compEnvC scope cl C X.env) fp) t2 g2) (ht2 : ∀ (s : Shared) (H : Hp) (C : Addr) (cl : List (Str × Addr)) (fp : List Addr), PTs (X.blk s H scope (compEnvC scope cl C X.env) fp) if2 tt2)
    (hk : ∀ (s : Shared) (H : Hp) (C : Addr) (cl : List (Str × Addr)) (fp : List Addr), PE (X.blk s H scope (compEnvC scope cl C X.env) fp) kx tk)
    (he : ∀ (s : Shared) (H : Hp) (C : Addr) (cl : List (Str × Addr)) (fp : List Addr), PE (X.blk s H scope (compEnvC scope cl C X.env) fp) vx tv)
    (hs : ∀ x, foldedSetIterable it1 X.env x = pure x := by intro _; rfl) (hs2 : ∀ env x, foldedSetIterable it2 env x = pure x := by intro _ _; rfl) :
    PE X (two kx vx t1 it1 t2 it2 if1 if2 scope pos) (tDc2T wi g tt wi2 g2 tt2 tk tv (own.map (·.2)) vs2) := by
  refine ⟨fun pins s σ H Q I h => ?_⟩
  rw [arm_eval_DictComp]
  have hfree : ∀ y ∈ scope.names, y.2 = .free → ∃ c, X.env.cells.lookup y.1 = some c := fun y hy e => by
    rcases ok.free y hy e with k | k
    · exact I.ok.has _ (.inl k)
    · exact I.ok.has _ (.inr k)
  refine wpAny_comprehension_free rfl hs (closure_ok hfree) ok.kind (fun y hy e => by rw [ok.uniq y hy, e])
    (thn (hi.run pins s σ H _ I h) fun xv s1 hx => thn hx fun itv s2 h2 => ?_)
  obtain ⟨it, fp, tn, J, H2, rfl, I2, T, st2, f2, q⟩ := h2
  refine wpAny_newObj_type (newEnv_comp ?_)
  generalize hD : s2.heap.objs.size = D
  have hDn : H2 D = none := I2.hok.fresh (Nat.le_of_eq hD)
  obtain ⟨W, ⟨m0, w0⟩, turn⟩ := q D hDn
  generalize hs3 : ({ s2 with heap := s2.heap.push { cls := .type "dict", data := .dict #[] } } : Shared) = s3
  have I3 : Inv X pins σ (upd H2 D (.dT [])) s3 := by
    rw [← hs3]
    refine I2.laid (t' := s2.toks) (fun b o e => Heap.get?_push_of_some _ e) (Nat.le_of_eq hD) ?_
    rw [← hD]
    exact dt_empty s2.heap I2.big
  have h3 : s3.heap = s2.heap.push { cls := .type "dict", data := .dict #[] } := by rw [← hs3]
  have f3 : ∀ b ∈ fp, FpOk X pins (upd H2 D (.dT [])) b ∧ b < s3.heap.objs.size := fun b hb => by
    obtain ⟨o, e, _⟩ := T.obj _ _ st2 b hb
    have hlt := Heap.lt_size e
    refine ⟨⟨?_, (f2 b hb).2⟩, by rw [h3, Heap.size_push]; exact Nat.lt_succ_of_lt hlt⟩
    rw [upd_ne (by rw [← hD]; exact Nat.ne_of_lt hlt)]
    exact (f2 b hb).1
  have st3 : tn 0 s3.heap := T.keep _ _ _ st2 fun b _ o e => by rw [h3]; exact Heap.get?_push_of_some _ e
  have I4 := block_start I3 ok hN f3
  have pg := hg s3 (upd H2 D (.dT [])) s3.heap.objs.size (cellsFrom (s3.heap.objs.size + 1) scope.names (cloFrom X.env.cells scope.names [])) fp
  have pt := ht s3 (upd H2 D (.dT [])) s3.heap.objs.size (cellsFrom (s3.heap.objs.size + 1) scope.names (cloFrom X.env.cells scope.names [])) fp
  have pi2 := hi2 s3 (upd H2 D (.dT [])) s3.heap.objs.size (cellsFrom (s3.heap.objs.size + 1) scope.names (cloFrom X.env.cells scope.names [])) fp
  have pg2 := hg2 s3 (upd H2 D (.dT [])) s3.heap.objs.size (cellsFrom (s3.heap.objs.size + 1) scope.names (cloFrom X.env.cells scope.names [])) fp
  have pt2 := ht2 s3 (upd H2 D (.dT [])) s3.heap.objs.size (cellsFrom (s3.heap.objs.size + 1) scope.names (cloFrom X.env.cells scope.names [])) fp
  have pk := hk s3 (upd H2 D (.dT [])) s3.heap.objs.size (cellsFrom (s3.heap.objs.size + 1) scope.names (cloFrom X.env.cells scope.names [])) fp
  have pe := he s3 (upd H2 D (.dT [])) s3.heap.objs.size (cellsFrom (s3.heap.objs.size + 1) scope.names (cloFrom X.env.cells scope.names [])) fp
  show codeAny _ _ (.compStart (two kx vx t1 it1 t2 it2 if1 if2 scope pos) 0 (.ref it) (.ref D) (compEnvC scope (cellsFrom (s3.heap.objs.size + 1) scope.names (cloFrom X.env.cells scope.names [])) s3.heap.objs.size X.env)) (compPost (model X.prog X.w) X.A X.xe none _ (.ref D) s3.heap.objs.size) { s3 with heap := pushCells (s3.heap.push { cls := .type "dict", data := .dict #[] }) scope.names }
  have nfp : ∀ b ∈ fp, (upd H2 D (.dT [])) b = none := fun b hb => (f3 b hb).1.1
  generalize hce : compEnvC scope (cellsFrom (s3.heap.objs.size + 1) scope.names (cloFrom X.env.cells scope.names [])) s3.heap.objs.size X.env = ce at I4 pg pt pi2 pg2 pt2 pk pe ⊢
  have cL : ce.locals = s3.heap.objs.size := by subst hce; rfl
  generalize hH3 : upd H2 D (.dT []) = H3 at I3 I4 pg pt pi2 pg2 pt2 pk pe w0 nfp f3
  generalize hs4 : ({ s3 with heap := pushCells (s3.heap.push { cls := .type "dict", data := .dict #[] }) scope.names } : Shared) = s4 at I4 ⊢
  have st4 : tn 0 s4.heap := T.keep _ _ _ st3 fun b _ o e => by rw [← hs4]; exact pushCells_keeps _ _ _ _ (Heap.get?_push_of_some _ e)
  have stat : ∀ {σ' : L2.St} {H' : Hp} {s' : Shared}, Inv (X.blk s3 H3 scope ce fp) [] σ' H' s' → (∀ b ∈ fp, H' b = none) → ∀ b ∈ fp, FpOk (X.blk s3 H3 scope ce fp) [] H' b := fun {σ' H' s'} I' hn b hb =>
    ⟨hn b hb, (I'.ok.exf b hb).1, I'.ok.exfs b hb, .inl hb, fun x c e => (I'.ok.exf b hb).2 x c e, fun p hp => absurd (show p ∈ ([] : List (Addr × Obj)) ++ [] from hp) (by simp)⟩
  have loop : codeAny (model X.prog X.w) X.A (.compLoop (two kx vx t1 it1 t2 it2 if1 if2 scope pos) 0 (.ref it) (.ref D) ce) (compPost (model X.prog X.w) X.A X.xe none (EP X pins σ Q) (.ref D) s3.heap.objs.size) s4 := by
    refine loop_out (fun n s' => ∃ i H', Inv (X.blk s3 H3 scope ce fp) [] (wipe σ (own.map (·.2))) H' s' ∧ tn i s'.heap ∧ (∀ b ∈ fp, H' b = none) ∧ W i n H') (hs2 ce) ?_ m0 ⟨0, H3, I4, st4, nfp, w0⟩
    rintro n s5 ⟨i, H5, I5, st5, n5, w5⟩
    rcases turn i n H5 w5 with ⟨stop, qq⟩ | ⟨go, Nx, hNx, step⟩
    · refine wpAny_mono (T.done (X.blk s3 H3 scope ce fp) rfl rfl rfl hc i [] s5 _ H5 (fun _ _ => False) I5 (stat I5 n5) st5 stop) (fun r s6 h6 => ?_) fun _ _ z => z.elim
      obtain ⟨rfl, I6⟩ := h6
      have I7 : Inv X pins σ H5 s6 := I3.call' (ch := fp) I6.os I6.base I6.hok I6.bare fun b hb => ⟨(f3 b hb).1.2.2.2.1, (f3 b hb).1.2.1, (f3 b hb).1.2.2.2.2.1, (f3 b hb).1.2.2.2.2.2⟩
      have nC : H5 s3.heap.objs.size = none := by
        have z : H5 ce.locals = none := I6.free
        rw [cL] at z
        exact z
      obtain ⟨m, hn, _⟩ := I6.loc
      have hn : s6.heap.Ns ce.locals m := hn
      rw [cL] at hn
      refine ⟨m, hn, fun h'' sb => ?_⟩
      obtain ⟨f0, f1, f2', f3', f4, f5⟩ := I3.fpOk (H' := H5) (Nat.le_refl _) nC
      exact ⟨.ref D, H5, I7.turned (t' := s6.toks) (fun b o hb e => (sb.2 b hb).trans e) f0 f1 f3' f4 f5, rfl, qq⟩
    · refine wpAny_mono (T.item (X.blk s3 H3 scope ce fp) rfl rfl rfl hc i [] s5 _ H5 (fun _ _ => False) I5 (stat I5 n5) st5 go) (fun r s6 h6 => ?_) fun _ _ z => z.elim
      obtain ⟨u, rfl, h6⟩ := h6
      refine wpAny_mono h6 (fun _ s7 h7 => ?_) fun _ _ z => z.elim
      obtain ⟨x, H7, I7, r7, y7, st7, n7⟩ := h7
      have P7 := I7.pinned (stat I7 n7) (T.obj _ _ st7)
      refine wpAny_mono (pg.run _ s7 _ H7 x u _ P7 r7 (step x H7 y7)) (fun _ s8 h8 => ?_) fun _ _ z => z.elim
      obtain ⟨σ8, H8, I8, hw8, q8⟩ := h8
      refine wpAny_mono (pt.run _ s8 σ8 H8 _ I8 q8) (fun b s9 h9 => ?_) fun _ _ z => z.elim
      obtain ⟨H9, I9, q9⟩ := h9
      have fin : ∀ {s' : Shared} {H' : Hp} {σ' : L2.St}, wipe σ' (own.map (·.2)) = wipe σ (own.map (·.2)) → Inv (X.blk s3 H3 scope ce fp) ([] ++ pinsAt fp s7.heap) σ' H' s' → Nx H' → ∃ m, m < n ∧ ∃ i H', Inv (X.blk s3 H3 scope ce fp) [] (wipe σ (own.map (·.2))) H' s' ∧ tn i s'.heap ∧ (∀ b ∈ fp, H' b = none) ∧ W i m H' := fun {s' H' σ'} hw I' nx => by
        obtain ⟨m', hm, w'⟩ := hNx H' nx
        have pin' : ∀ b ∈ fp, ∀ o, s7.heap.get? b = some o → s'.heap.get? b = some o ∧ H' b = none := fun b hb o e =>
          let z := I'.pin (b, o) (List.mem_append_right _ (List.mem_append_right _ (mem_pinsAt hb e)))
          ⟨z.1, z.2.1⟩
        refine ⟨m', hm, i + 1, H', (I'.unpinned (pins := [])).weak (by rw [← hw, wipe_length]) (fun j v e => ?_), T.keep _ _ _ st7 fun b hb o e => (pin' b hb o e).1, fun b hb => ?_, w'⟩
        · rw [← hw] at e
          exact (wipe_some e).1
        · obtain ⟨o, e, _⟩ := T.obj _ _ st7 b hb
          exact (pin' b hb o e).2
      cases b with
      | false => exact fin hw8 I9 q9
      | true =>
        refine wpAny_mono (pi2.run _ s9 σ8 H9 _ I9 q9) (fun v s10 h10 => ?_) fun _ _ z => z.elim
        refine wpAny_mono h10 (fun j s11 h11 => ?_) fun _ _ z => z.elim
        exact inner_okT (Y := X.blk s3 H3 scope ce fp) hc hu pg2 pt2 pk pe h11 (fun s' H' I' nx => fin (by rw [wipe_wipe sub, hw8]) I' nx) fun _ _ z => z.elim
  exact codeAny_compStart_dict loop (T.self X.A 0 _ _ _ st4 loop)
end
end DC2
set_option Elab.async false
set_option linter.all false
set_option maxRecDepth 100000
set_option maxHeartbeats 1000000
/-! enumerate of a tuple, from one on: enumerate(t, start=1) -/
namespace EK
open PySem PySem.Spec PyProof.Rows L2
/-- the tuple at a, each item in a new pair with its place -/
def Iek (K : PySem.W.Frag) (a : Addr) : It :=
  ⟨fun i H => ∃ (xs : List V) (x : V), SqT K H a xs ∧ xs[i]? = some x, fun i H v H' => ∃ T x, v = .ref T ∧ H T = none ∧ H' = L2.upd H T (.tup [.int ((i : Nat) + 1 : Int), x]) ∧ ∀ xs, SqT K H a xs → xs[i]? = some x, fun i H => ∃ xs : List V, SqT K H a xs ∧ xs.length = i⟩
theorem turn_ek {P : Program} {w : World} {K : PySem.W.Frag} {elts : List Expr} {kk : Nat} {tpos : Pos} (a e it : Addr) (ha : a ≠ it) :
    Turn P w K (.Tuple elts kk tpos) (Iek K a) [e, it] e (fun i h => (∃ old, IsEnum h e it (((i : Nat) : Int) + 1) old) ∧ h.IsTupleIter it a i ∧ e ≠ it) where
  mem := by simp
  obj := fun i h st b hb => by
    obtain ⟨⟨old, he⟩, ⟨o, ho, hc, hd⟩, _⟩ := st
    rcases List.mem_cons.mp hb with z | z
    · rw [z]
      exact ⟨_, he, fun v q => nomatch q⟩
    · rw [List.mem_singleton.mp z]
      exact ⟨o, ho, fun v q => by rw [hd] at q; cases q⟩
  keep := fun i h h' st k => by
    obtain ⟨⟨old, he⟩, hi, hne⟩ := st
    exact ⟨⟨old, k e List.mem_cons_self _ he⟩, hi.at fun o q => k it (List.mem_cons_of_mem _ List.mem_cons_self) o q, hne⟩
  item := by
    intro X hP hw hK hc i pins s σ H E I hf st hg
    subst hP hw hK
    obtain ⟨⟨old, he⟩, hit, hne⟩ := st
    obtain ⟨xs, x, hq, hx⟩ := hg
    obtain ⟨its, rv, p, hz⟩ := I.tuple hq
    obtain ⟨u, hu, ru⟩ := rv.get hx
    have hel : e < s.heap.objs.size := Heap.lt_size he
    have hil : it < s.heap.objs.size := by
      obtain ⟨_, q, _⟩ := hit
      exact Heap.lt_size q
    have hea : e ≠ a := fun z => by
      obtain ⟨o, ho, hc, _⟩ := p
      rw [← z, show s.heap.get? e = _ from he] at ho
      cases ho
      injection hc with hc
      exact absurd hc (by decide)
    have D := Draws.tuple (prog := X.prog) (w := X.w) (A := X.A.in1) (I.ok.hd hc) it a ha its.toArray
    refine wpAny_pyNext_enum_itemC D he ⟨hit, p⟩ (by have := (List.getElem?_eq_some_iff.mp hu).1; simpa using this) hne (by simp [hne, hea]) fun u' h' tk hu' ho st' hT hsz hk => ?_
    have eu : u' = u := Option.some.inj ((show its.toArray[i]? = some u' from hu').symm.trans (by simpa using hu))
    subst eu
    refine ⟨_, rfl, wpAny_letOwnedTupleGo_enum (s := { s with heap := h', toks := tk + 1 }) ho fun h'' he' sb => ?_⟩
    have hT2 : h''.get? s.heap.objs.size = some { cls := .type "tuple", data := .seq #[.int ((i : Int) + 1) tk, u'] } := (sb.2 _ (Nat.ne_of_gt hel)).trans hT
    have new : ObjOk X.prog X.w (L2.upd H s.heap.objs.size (.tup [.int ((i : Nat) + 1 : Int), x])) h'' s.heap.objs.size (.tup [.int ((i : Nat) + 1 : Int), x]) :=
      ⟨by show 2 ≤ sizeLine; decide, [.int ((i : Int) + 1) tk, u'], .cons ⟨_, rfl⟩ (.cons ru .nil), ⟨_, hT2, rfl, _, rfl⟩⟩
    have I1 : L2.Inv X pins σ (L2.upd H s.heap.objs.size (.tup [.int ((i : Nat) + 1 : Int), x])) { s with heap := h'', toks := tk + 1 } :=
      I.turnedNew (ch := [e, it]) (fun b ob hb q => (sb.2 b (fun z => hb (by simp [z]))).trans (hk b ob (fun z => hb (by simp [z])) (fun z => hb (by simp [z])) q)) hf (Nat.le_refl _) new
    refine ⟨.ref s.heap.objs.size, _, I1, rfl, ⟨_, x, rfl, I.hok.fresh (Nat.le_refl _), rfl, fun ys hy => by rw [I.tuple_inj hy hq]; exact hx⟩, ⟨⟨u', ?_⟩, st'.1.at fun o q => (sb.2 it (Ne.symm hne)).trans q, hne⟩, fun b hb => ?_⟩
    · rw [show ((i + 1 : Nat) : Int) + 1 = (i : Int) + 1 + 1 by omega]
      exact he'
    · have hb' : b < s.heap.objs.size := by
        rcases List.mem_cons.mp hb with z | z
        · rw [z]; exact hel
        · rw [List.mem_singleton.mp z]; exact hil
      rw [upd_ne (Nat.ne_of_lt hb')]
      exact (hf b hb).1
  done := by
    intro X hP hw hK hc i pins s σ H E I hf st hg
    subst hP hw hK
    obtain ⟨⟨old, he⟩, hit, hne⟩ := st
    obtain ⟨xs, hq, hx⟩ := hg
    obtain ⟨its, rv, p, hz⟩ := I.tuple hq
    obtain ⟨f0, f1, f2, f3, f4, f5⟩ := hf it (List.mem_cons_of_mem _ List.mem_cons_self)
    have hl := rv.length
    have D := Draws.tuple (prog := X.prog) (w := X.w) (A := X.A.in1) (I.ok.hd hc) it a ha its.toArray
    have en : i = its.toArray.size := by rw [List.size_toArray, ← hl, hx]
    subst en
    exact wpAny_pyNext_enum_endD D he ⟨hit, p⟩ fun h' eb => ⟨rfl, I.turned (t' := s.toks) (fun b o hb q => eb b o hb q) f0 f1 f3 f4 f5⟩
  self := fun A i s Q E st h => by
    obtain ⟨⟨_, he⟩, _⟩ := st
    exact wpAny_pyIter_enum he h

section
variable {M : Model} {A : Around} {E : Value → Shared → Prop} {s : Shared}
theorem callWith_typeK {pos : Pos} {T : String} {args : List (Bool × Sem Value)} {keywords : List (Option Str × Sem Value)} {Q : Value → Shared → Prop} (hplain : args.any (·.1) = false) (hkw : keywords.any (·.1.isNone) = false)
    (h : wpAny M A (evalArgs (.type T) true args keywords) (fun a s₁ => wpAny M A (call (.type T) ([] ++ a.pos) a.kw) Q E s₁) E s) :
    wpAny M A (callWith pos (.type T) [] args keywords) Q E s := by
  unfold callWith
  refine wpAny_bind (wpAny_holding (wpAny_mono h (fun a s₁ h₁ => wpAny_bind (wpAny_standAt ?_)) fun _ _ x => x))
  simp only [hplain, hkw, Bool.or_false]
  refine wpAny_bind (wpAny_pure ?_)
  exact wpAny_bind (wpAny_mono h₁ (fun r s₂ hr => wpAny_bind (wpAny_holding (wpAny_point (wpAny_pure hr)))) fun _ _ x => x)
end
def iEnumK (K : PySem.W.Frag) (ta tk : TA) : TI := fun σ H R => ta σ H fun vs H1 => ∃ a xs, vs = [.ref a] ∧ tk σ H1 fun zs H2 => zs = [.int 1] ∧ SqT K H2 a xs ∧ R (Iek K a) H2
theorem pi_enumK {X : Cx} {e : Expr} {ta tk : TA} {kv : List Keyword} {p pos tpos : Pos} {elts : List Expr} {kk : Nat} (hg : Gl X "enumerate") (hm : X.mg "enumerate" = none) (ha : PA X [e] ta) (pk : PK X kv tk) (hs : starEach [e] X.env = [(false, eval e X.env)] := by rfl)
    (h1 : (backToKw pos (keywordEach kv X.env)).all (·.1.isSome) = true := by rfl) (h2 : (backToKw pos (keywordEach kv X.env)).filterMap (·.1) = [Str.ofString "start"] := by rfl) (h3 : (backToKw pos (keywordEach kv X.env)).any (·.1.isNone) = false := by rfl) :
    PI X (.Tuple elts kk tpos) (.Call (.Name "enumerate" p) [e] kv pos) (iEnumK X.K ta tk) := by
  refine ⟨fun pins s σ H R I h => ?_⟩
  apply wpAny_Call_Name_kw
  have hb : backTo pos (starEach [e] X.env) = [(false, eval e X.env)] := by rw [hs]; rfl
  refine ld_blt I hg hm boot_enumerate (callWith_typeK (by rw [hb]; rfl) h3 ?_)
  have q0 := ha.run pos pins s σ H _ I h
  rw [hb] at q0 ⊢
  refine evalArgs_kwB h1 (thn q0 fun us s1 ⟨vs, H1, I1, r1, q1⟩ => ?_)
  obtain ⟨a, xs, rfl, q1⟩ := q1
  refine thn (pk.run pos pins s1 σ H1 _ I1 q1) fun ws s2 ⟨zs, H2, I2, r2, ez, hq, q⟩ => ?_
  subst ez
  cases r1 with
  | cons r rr =>
    cases rr
    cases r
    cases r2 with
    | cons r3 rr3 =>
      cases rr3
      obtain ⟨t, rfl⟩ := (show ∃ t, _ = Value.int 1 t from r3)
      rw [h2]
      obtain ⟨its, rv, p', hz⟩ := I2.tuple hq
      have hla : a < s2.heap.objs.size := by
        obtain ⟨o, ho, _⟩ := p'
        exact Heap.lt_size ho
      refine enum_begins_start (k := 1) (begins_tuple a its.toArray) p' (by decide) (by decide) fun h' he hit hsz hk => wpAny_pyIter_enum he ?_
      have I3 : L2.Inv X pins σ H2 { s2 with heap := h' } := I2.kept (t' := s2.toks) hk
      refine ⟨s2.heap.objs.size + 1, [s2.heap.objs.size + 1, s2.heap.objs.size], _, _, H2, rfl, I3, turn_ek a (s2.heap.objs.size + 1) s2.heap.objs.size (Nat.ne_of_lt hla), ⟨⟨.none, he⟩, ⟨_, hit, rfl, rfl⟩, Nat.succ_ne_self _⟩, fun b hb => ?_, q⟩
      have hle : s2.heap.objs.size ≤ b := by
        rcases List.mem_cons.mp hb with z | z
        · rw [z]; exact Nat.le_add_right _ _
        · rw [List.mem_singleton.mp z]; exact Nat.le_refl _
      exact I2.fpOk hle (I2.hok.fresh hle)
/-- a walk over enumerate(t, start=1), t a tuple that stays -/
theorem walk_ek {K : PySem.W.Frag} {a : Addr} {xs : List V} : Walk (Iek K a) xs.length (fun H => SqT K H a xs) (YPair (fun i => some (.int ((i : Nat) + 1 : Int))) (fun i => xs[i]?)) := by
  refine ⟨fun i _ hi q => ⟨xs, xs[i], q, by simp [hi]⟩, fun _ q => ⟨xs, q, rfl⟩, fun i H v H' _ q y => ?_⟩
  obtain ⟨T, x, h1, h2, h3, h4⟩ := y
  exact ⟨T, .int ((i : Nat) + 1 : Int), x, h1, h2, h3, rfl, h4 xs q⟩
end EK
set_option Elab.async false
set_option linter.all false
set_option maxRecDepth 100000
set_option maxHeartbeats 4000000
namespace J1
open PySem PySem.Spec PyProof.Rows L2
section
variable {X : Cx}
theorem swd_true {kx vx : Expr} {gs : List Comprehension} {scope : Scope} {pos py : Pos} {y : Str} {l : Nat} {env : Env} (hk : env.scope.kind = .function) (hy : env.scope.names.lookup y = some .local) (hl : (py.line == pos.line) = true)
    (ha : (scope.names.any fun (n, k) => n == y && (k == .local || k == .cell)) = false) : swapsWith (.DictComp kx vx gs scope pos) (some (.Name y py)) l env = pure true := by
  have ky : env.kindOf y = some .local := hy
  have hb : env.blockKind = .function := by unfold Env.blockKind; rw [hk]; rfl
  unfold swapsWith
  simp only [hb, ky, ha, Expr.pos, hl]
  rfl
/-- name = {.. for ..} on one line, the name a local -/
theorem ps_setDc {i : Nat} {y : Str} {py : Pos} {kx vx tg iter : Expr} {ifs : List Expr} {scope : Scope} {own : List (Str × Nat)} {pos spos : Pos} {wi : TI} {g : TG} {tt : TT} {tk tv : TE} (hc : X.calm = true) (hN : X.N.Nodup) (hy : X.N[i]? = some y) (hyl : X.env.scope.names.lookup y = some .local)
    (hsw : swapsWith (.DictComp kx vx [⟨tg, iter, ifs, 0⟩] scope pos) (some (.Name y py)) spos.line X.env = pure true) (hi : PI X tg iter wi) (ok : BlkOk X.N X.env.scope scope own)
    (hg : ∀ (s : Shared) (H : Hp) (C : Addr) (cl : List (Str × Addr)) (fp : List Addr), PG (X.blk s H scope (compEnvC scope cl C X.env) fp) tg g) (ht : ∀ (s : Shared) (H : Hp) (C : Addr) (cl : List (Str × Addr)) (fp : List Addr), PTs (X.blk s H scope (compEnvC scope cl C X.env) fp) ifs tt)
    (hk : ∀ (s : Shared) (H : Hp) (C : Addr) (cl : List (Str × Addr)) (fp : List Addr), PE (X.blk s H scope (compEnvC scope cl C X.env) fp) kx tk)
    (he : ∀ (s : Shared) (H : Hp) (C : Addr) (cl : List (Str × Addr)) (fp : List Addr), PE (X.blk s H scope (compEnvC scope cl C X.env) fp) vx tv) (hs : ∀ x, foldedSetIterable iter X.env x = pure x := by intro _; rfl) :
    PS X (.Assign [.Name y py] (.DictComp kx vx [⟨tg, iter, ifs, 0⟩] scope pos) spos) (tAsg (tDc wi g tt tk tv (own.map (·.2))) (gName i)) := by
  refine ⟨fun pins s σ H D I h => ?_⟩
  rw [exec_Assign_Name_used _ _ _ _ hsw]
  refine wpAny_bind (wpAny_standAt (wpAny_bind ?_))
  show wpAny _ X.A (do let _ ← comprehension (.DictComp kx vx [⟨tg, iter, ifs, 0⟩] scope pos) scope X.env (firstIterPos [⟨tg, iter, ifs, 0⟩] pos) newDict false (eval iter X.env) (some (assign (.Name y py) X.env))) _ _ s
  have h : tDc wi g tt tk tv (own.map (·.2)) σ H (fun x H1 => gName i x σ H1 D.nx) := h
  refine wpAny_bind (thn (dc_core (Qf := fun _ s' => SP X pins D .next s') hc hN I hi ok hg ht hk he hs h fun L C s' m H' I' q hn f => ?_) fun _ s' hq => wpAny_pure (wpAny_pure hq))
  show wpAny _ _ (assign (.Name y py) X.env (.ref L)) _ _ _
  refine wpAny_assign_Name (store_ok2 (v := V.ref L) I' hN hy (.inl hyl) rfl (fun s2 I2 ⟨a, sb, ha⟩ => ?_) (.inr hyl))
  obtain ⟨f0, f1, f2, f3, f4, f5⟩ := f
  have haC : C ≠ a := by
    rcases ha with z | z
    · rw [z]; exact f1
    · exact fun e => f4 y a z e.symm
  refine ⟨m, hn.sameBut sb haC, fun h3 sb3 => ?_⟩
  exact ⟨_, H', I2.turned (t' := s2.toks) (fun b o hb e => (sb3.2 b hb).trans e) f0 f1 f3 f4 f5, q⟩
end
end J1
set_option Elab.async false
set_option linter.all false
set_option maxRecDepth 100000
set_option maxHeartbeats 4000000
/-! ### sorting of triples of ints and of pairs of such a triple and an int -/
namespace RA
open PySem PySem.W PySem.Calls PyProof.Rows PyProof.V PySem.Spec
abbrev A3 := Int × Int × Int
def il (t : A3) : List Int := [t.1, t.2.1, t.2.2]
structure Rg (t : A3) : Prop where
  a0 : -1 ≤ t.1
  a1 : t.1 ≤ 900
  b0 : -1 ≤ t.2.1
  b1 : t.2.1 ≤ 900
  c0 : -1000000 ≤ t.2.2
  c1 : t.2.2 ≤ 1000000
def rk (t : A3) : Int := t.1 * 10000000000 + t.2.1 * 10000000 + t.2.2
theorem rk_inj {t u : A3} (r : Rg t) (z : Rg u) (h : rk t = rk u) : t = u := by
  obtain ⟨a, b, c⟩ := t
  obtain ⟨a', b', c'⟩ := u
  obtain ⟨r1, r2, r3, r4, r5, r6⟩ := r
  obtain ⟨z1, z2, z3, z4, z5, z6⟩ := z
  unfold rk at h
  dsimp only at *
  have e1 : a = a' := by omega
  have e2 : b = b' := by omega
  have e3 : c = c' := by omega
  rw [e1, e2, e3]
theorem rk_lex {t u : A3} (r : Rg t) (z : Rg u) : HT.lexLt (il t) (il u) = decide (rk t < rk u) := by
  obtain ⟨a, b, c⟩ := t
  obtain ⟨a', b', c'⟩ := u
  obtain ⟨r1, r2, r3, r4, r5, r6⟩ := r
  obtain ⟨z1, z2, z3, z4, z5, z6⟩ := z
  unfold rk il
  dsimp only at *
  simp only [HT.lexLt]
  by_cases e1 : a = a'
  · rw [if_pos e1]
    by_cases e2 : b = b'
    · rw [if_pos e2]
      by_cases e3 : c = c'
      · rw [if_pos e3, eq_comm, decide_eq_false_iff_not]
        omega
      · rw [if_neg e3, decide_eq_decide]
        omega
    · rw [if_neg e2, decide_eq_decide]
      omega
  · rw [if_neg e1, decide_eq_decide]
    omega
section
variable {prog : Program} {w : World} {A : Around} {E : Value → Shared → Prop} {s : Shared}
theorem eqI {a c : Int} {t u : Tok} {b fin : Bool} {Q : Bool → Shared → Prop} {r : List (Value × Value)} {i : Nat} (h1 : a = c → KatLex prog w A b fin Q r (i + 1) s) (h2 : a ≠ c → Q (decide (a < c)) s) :
    KatLex prog w A b fin Q ((Value.int a t, Value.int c u) :: r) i s := by
  refine kat_cons (wpAny_eqBool_int ?_)
  by_cases e : a = c
  · rw [show (a == c) = true from beq_iff_eq.mpr e]
    exact kat_yes (h1 e)
  · rw [show (a == c) = false from beq_eq_false_iff_ne.mpr e]
    exact kat_no (TS.oneLt_ints _ (h2 e))
theorem lex_il {t u : A3} {xs ys : List Value} {b : Bool} {i : Nat} {Q : Bool → Shared → Prop} (hx : IntsAre xs (il t)) (hy : IntsAre ys (il u)) (h : Q (HT.lexLt (il t) (il u)) s) : KatLex prog w A b false Q (xs.zip ys) i s := by
  obtain ⟨t1, x1, rfl, hx1⟩ := hx.cons_inv
  obtain ⟨t2, x2, rfl, hx2⟩ := hx1.cons_inv
  obtain ⟨t3, x3, rfl, hx3⟩ := hx2.cons_inv
  obtain ⟨u1, y1, rfl, hy1⟩ := hy.cons_inv
  obtain ⟨u2, y2, rfl, hy2⟩ := hy1.cons_inv
  obtain ⟨u3, y3, rfl, hy3⟩ := hy2.cons_inv
  cases hx3
  cases hy3
  unfold il at h
  simp only [HT.lexLt] at h
  refine eqI (fun e => ?_) (fun e => by rw [if_neg e] at h; exact h)
  rw [if_pos e] at h
  refine eqI (fun e => ?_) (fun e => by rw [if_neg e] at h; exact h)
  rw [if_pos e] at h
  refine eqI (fun e => ?_) (fun e => by rw [if_neg e] at h; exact h)
  rw [if_pos e] at h
  exact kat_nil h
theorem firsts3 {h : Heap} {g : Value → A3} : ∀ vs : List Value, (∀ v ∈ vs, TS.TupInts h v (il (g v))) → ∃ fs, KatTups h vs fs ∧ fs.length = vs.length ∧ ∀ f ∈ fs, ∃ n t, f = Value.int n t
  | [], _ => ⟨[], KatTups.nil, rfl, fun _ z => by simp at z⟩
  | v :: r, x => by
    obtain ⟨fs, k, e, z⟩ := firsts3 r fun u hu => x u (List.mem_cons_of_mem _ hu)
    obtain ⟨a, xs, e1, ⟨o, ho, hc, n, hd⟩, i⟩ := x v List.mem_cons_self
    obtain ⟨t1, x1, e2, _⟩ := i.cons_inv
    rw [e1]
    refine ⟨.int (g v).1 t1 :: fs, KatTups.cons ho hc hd ?_ k, by rw [List.length_cons, List.length_cons, e], fun f hf => ?_⟩
    · rw [← Array.getElem?_toList, e2]
      rfl
    · rcases List.mem_cons.mp hf with q | q
      · exact ⟨_, _, q⟩
      · exact z f q
theorem kind3 {vs : List Value} {g : Value → A3} (hv : ∀ v ∈ vs, TS.TupInts s.heap v (il (g v)) ∧ Rg (g v)) (h2 : 2 ≤ vs.length) {Q : SortKind → Shared → Prop}
    (h : ∀ κ, TS.Cmp prog w A s κ (pairsOf vs) (fun v => rk (g v)) → Q κ s) : wpAny (model prog w) A (keyKind' vs.toArray) Q E s := by
  obtain ⟨fs, k, e, z⟩ := firsts3 vs fun v hm => (hv v hm).1
  refine kat_kind (T := Value.type "int") k (by omega) (fun f hf => ?_) rfl (h _ ?_)
  · obtain ⟨n, t, rfl⟩ := z f hf
    exact Looks.of_pure rfl
  · intro p q hp hq Q' E' hQ
    rw [pairsOf_toList] at hp hq
    obtain ⟨tp, rp⟩ := hv _ (mem_zip_self hp).2
    obtain ⟨tq, rq⟩ := hv _ (mem_zip_self hq).2
    have hQ : Q' (decide (rk (g p.1) < rk (g q.1))) s := hQ
    rw [← rk_lex rp rq] at hQ
    generalize g p.1 = t at tp hQ
    generalize g q.1 = u at tq hQ
    obtain ⟨a, xs, e1, ⟨o, ho, hc, n, hd⟩, i⟩ := tp
    obtain ⟨a', ys, e2, ⟨o', ho', hc', n', hd'⟩, i'⟩ := tq
    rw [e1, e2]
    refine kat_lt ho hd ho' hd' ?_
    have l1 := i.length
    have l2 := i'.length
    rw [Array.length_toList] at l1 l2
    rw [show decide (xs.size < ys.size) = false from decide_eq_false (by rw [l1, l2]; exact Nat.lt_irrefl 3)]
    exact lex_il i i' hQ
/-- v is a pair of a triple and an int -/
def PrIn (h : Heap) (v : Value) (t : A3) (n : Int) : Prop := ∃ (a b : Addr) (k : Tok), v = .ref a ∧ IsTup h a #[.ref b, .int n k] ∧ TS.TupInts h (.ref b) (il t)
theorem firstsP {h : Heap} {g : Value → A3} {m : Value → Int} : ∀ vs : List Value, (∀ v ∈ vs, PrIn h v (g v) (m v)) → ∃ fs, KatTups h vs fs ∧ fs.length = vs.length ∧ ∀ f ∈ fs, ∃ (q : Addr) (o : Obj), f = Value.ref q ∧ h.get? q = some o ∧ o.cls = .type "tuple"
  | [], _ => ⟨[], KatTups.nil, rfl, fun _ z => by simp at z⟩
  | v :: r, x => by
    obtain ⟨fs, k, e, z⟩ := firstsP r fun u hu => x u (List.mem_cons_of_mem _ hu)
    obtain ⟨a, b, kt, e1, ⟨o, ho, hc, n, hd⟩, ⟨b', xs, e2, ⟨o2, ho2, hc2, _⟩, _⟩⟩ := x v List.mem_cons_self
    cases e2
    rw [e1]
    refine ⟨.ref b :: fs, KatTups.cons ho hc hd rfl k, by rw [List.length_cons, List.length_cons, e], fun f hf => ?_⟩
    rcases List.mem_cons.mp hf with q | q
    · exact ⟨b, o2, q, ho2, hc2⟩
    · exact z f q
theorem keyIn {h : Heap} {b : Addr} {t : A3} (x : TS.TupInts h (.ref b) (il t)) : IsTupleKey (L2.mixKind prog w) h ((il t).map Sum.inl) b := by
  obtain ⟨b', xs, e, ⟨o, ho, hc, n, hd⟩, i⟩ := x
  cases e
  refine ⟨o, xs, n, ho, hc, hd, ?_⟩
  obtain ⟨t1, x1, e1, i1⟩ := i.cons_inv
  obtain ⟨t2, x2, rfl, i2⟩ := i1.cons_inv
  obtain ⟨t3, x3, rfl, i3⟩ := i2.cons_inv
  cases i3
  rw [e1]
  exact .cons (L2.mixKind_int prog w _ _) (.cons (L2.mixKind_int prog w _ _) (.cons (L2.mixKind_int prog w _ _) .nil))
theorem il_inj {t u : A3} (h : (il t).map (Sum.inl : Int → L2.Key) = (il u).map Sum.inl) : t = u := by
  obtain ⟨a, b, c⟩ := t
  obtain ⟨a', b', c'⟩ := u
  simp only [il, List.map_cons, List.map_nil, List.cons.injEq, Sum.inl.injEq] at h
  obtain ⟨h1, h2, h3, _⟩ := h
  rw [h1, h2, h3]
theorem kindP {vs : List Value} {g : Value → A3} {m : Value → Int} (hu : A.units < cLine) (hv : ∀ v ∈ vs, PrIn s.heap v (g v) (m v) ∧ Rg (g v)) (hn : ∀ v ∈ vs, ∀ u ∈ vs, g v = g u → m v = m u) (h2 : 2 ≤ vs.length) {Q : SortKind → Shared → Prop}
    (h : ∀ κ, TS.Cmp prog w A s κ (pairsOf vs) (fun v => rk (g v)) → Q κ s) : wpAny (model prog w) A (keyKind' vs.toArray) Q E s := by
  obtain ⟨fs, k, e, z⟩ := firstsP vs fun v hm => (hv v hm).1
  refine kat_kind (T := Value.type "tuple") k (by omega) (fun f hf => ?_) rfl (h _ ?_)
  · obtain ⟨q, o, rfl, ho, hc⟩ := z f hf
    rw [← hc]
    exact (Looks.ld ho).andThen .now
  · rw [show (Value.type "tuple" != Value.type "tuple") = false by simp]
    intro p q hp hq Q' E' hQ
    rw [pairsOf_toList] at hp hq
    have mp := (mem_zip_self hp).2
    have mq := (mem_zip_self hq).2
    obtain ⟨tp, rp⟩ := hv _ mp
    obtain ⟨tq, rq⟩ := hv _ mq
    have hm := hn _ mp _ mq
    have hQ : Q' (decide (rk (g p.1) < rk (g q.1))) s := hQ
    rw [← rk_lex rp rq] at hQ
    generalize m p.1 = n1 at tp hm
    generalize m q.1 = n2 at tq hm
    generalize g p.1 = t at tp hQ hm
    generalize g q.1 = u at tq hQ hm
    obtain ⟨a, b, kt, e1, ⟨o, ho, hc, n, hd⟩, i⟩ := tp
    obtain ⟨a', b', kt', e2, ⟨o', ho', hc', n', hd'⟩, i'⟩ := tq
    rw [e1, e2]
    refine kat_lt ho hd ho' hd' ?_
    show KatLex prog w A false false Q' [(Value.ref b, Value.ref b'), (Value.int n1 kt, Value.int n2 kt')] 0 s
    refine kat_cons (wpAny_eqBool_tuple hu (keyIn i) (keyIn i') (kat_go (fun e0 => ?_) (fun e0 => ?_)))
    · have et := il_inj (of_decide_eq_true e0)
      have en := hm et
      subst et en
      refine kat_yes (eqI (fun _ => kat_nil ?_) (fun z => absurd rfl z))
      rw [show HT.lexLt (il t) (il t) = false by unfold il; simp [HT.lexLt]] at hQ
      exact hQ
    · obtain ⟨b0, xs, q1, t1, j1⟩ := i
      obtain ⟨b1, ys, q2, t2, j2⟩ := i'
      cases q1
      cases q2
      refine kat_no ?_
      show wpAny _ _ (oneLt' false _ _) _ _ _
      exact kat_one _ _ (HT.lt_tupInts t1 t2 j1 j2 hu hQ)
end
end RA
set_option Elab.async false
set_option linter.all false
set_option maxRecDepth 100000
set_option maxHeartbeats 4000000
namespace RA
open PySem PySem.W PySem.Calls PyProof.Rows PyProof.V PySem.Spec
section
variable {prog : Program} {w : World} {A : Around} {E : Value → Shared → Prop} {s : Shared}
theorem map_perm_back : ∀ {ts : List Addr} {vs : List Value}, vs.Perm (ts.map Value.ref) → ∃ us : List Addr, us.Perm ts ∧ vs = us.map Value.ref := by
  intro ts vs h
  have all : ∀ v ∈ vs, ∃ a, v = Value.ref a := fun v hv => by
    obtain ⟨a, _, e⟩ := List.mem_map.mp (h.mem_iff.mp hv)
    exact ⟨a, e.symm⟩
  let f : Value → Addr := fun v => match v with | .ref a => a | _ => 0
  have e : (vs.map f).map Value.ref = vs := by
    rw [List.map_map]
    refine (List.map_congr_left fun v hv => ?_).trans (List.map_id vs)
    obtain ⟨a, rfl⟩ := all v hv
    rfl
  have p := h.map f
  rw [List.map_map, show (f ∘ Value.ref) = id from rfl, List.map_id] at p
  exact ⟨vs.map f, p, e.symm⟩
/-- list.sort of a new list of addresses -/
theorem sort_call {h : Heap} {tk : Nat} {ts : List Addr} {r : Value → Int} {Q : Value → Shared → Prop} (h64 : ts.length < 64)
    (hk : ∀ h2 : Heap, (∀ b o, h.get? b = some o → h2.get? b = some o) → 2 ≤ (ts.map Value.ref).length → ∀ R : SortKind → Shared → Prop, (∀ κ, TS.Cmp prog w A.in1 { s with heap := h2, toks := tk } κ (pairsOf (ts.map Value.ref)) r → R κ { s with heap := h2, toks := tk }) →
      wpAny (model prog w) A.in1 (keyKind' (ts.map Value.ref).toArray) R E { s with heap := h2, toks := tk })
    (hQ : ∀ (us : List Addr) (e : Nat) (h3 : Heap), us.Perm ts → us.Pairwise (fun t u => r (.ref t) ≤ r (.ref u)) → h3.get? h.objs.size = some (seqObj "list" (us.map Value.ref).toArray e) → (∀ b o, h.get? b = some o → h3.get? b = some o) → Q .none { s with heap := h3, toks := tk }) :
    wpAny (model prog w) A (call (.builtin "list.sort") [.ref h.objs.size]) Q E { s with heap := h.push (seqObj "list" (ts.map Value.ref).toArray 0), toks := tk } := by
  have ho : (h.push (seqObj "list" (ts.map Value.ref).toArray 0)).get? h.objs.size = some (seqObj "list" (ts.map Value.ref).toArray 0) := Heap.get?_push_size _ rfl
  have keep : ∀ b o, h.get? b = some o → b ≠ h.objs.size ∧ (h.push (seqObj "list" (ts.map Value.ref).toArray 0)).get? b = some o := fun b o e => ⟨Nat.ne_of_lt (Heap.lt_size e), Heap.get?_push_of_some _ e⟩
  refine wpAny_call_entry slot_list_sort ⟨_, ho, rfl⟩ entry_list_sort (SK.plain_sort (r := r) ho (by rw [List.length_map]; exact h64) (fun h2 R hR => ?_) fun ps out o1 o2 o3 => ⟨.none, rfl, ?_⟩) (args_list_sort _)
  · exact hk _ (fun b o e => TS.midHeap_old (keep b o e).1 (keep b o e).2) h2 R hR
  · obtain ⟨p1, p2⟩ := TS.out_rank o1 o2 o3
    obtain ⟨us, q1, q2⟩ := map_perm_back p1
    obtain ⟨e', he⟩ := sortedHeap_at (vs := ts.map Value.ref) (out := out) ho
    refine hQ us e' _ q1 ?_ ?_ (fun b o e => (sortedHeap_old (keep b o e).1 (Heap.lt_size (keep b o e).2)).trans (keep b o e).2)
    · rw [q2, List.pairwise_map] at p2
      exact p2
    · rw [← q2, Array.toArray_toList]
      exact he
end
end RA
namespace L2
open PySem PySem.Spec PyProof.Rows RA
section
variable {X : Cx}
/-- the triple at an address -/
def Tr (H : Hp) (t : Addr) (g : Addr → A3) : Prop := H t = some (.tup ((il (g t)).map V.int)) ∧ Rg (g t)
theorem tr_raw {pins : List (Addr × Obj)} {σ : St} {H : Hp} {s : Shared} (I : Inv X pins σ H s) {t : Addr} {a : A3} (h : H t = some (.tup ((il a).map V.int))) {h' : Heap} (k : ∀ b o, s.heap.get? b = some o → h'.get? b = some o) : TS.TupInts h' (.ref t) (il a) := by
  obtain ⟨its, rv, hT, _⟩ := I.tuple (SqT.of h)
  have z : TS.TupInts s.heap (.ref t) (il a) := ⟨t, its.toArray, rfl, hT, by simpa using rv.ints⟩
  exact z.keeps fun b o e _ => k b o e
def adr : Value → Addr
  | .ref a => a
  | _ => 0
def rSorted3 (K : PySem.W.Frag) : List V → Hp → VK → Prop := fun vs H Q => ∃ (a : Addr) (ts : List Addr) (g : Addr → A3), vs = [V.ref a] ∧ SqL K H a (ts.map V.ref) ∧ ts.length < 64 ∧ (∀ t ∈ ts, Tr H t g) ∧
  ∀ (us : List Addr) (p : Addr), us.Perm ts → us.Pairwise (fun t u => rk (g t) ≤ rk (g u)) → H p = none → Q (.ref p) (upd H p (.lst (us.map V.ref)))
theorem refs34 : ∀ {ts : List Addr} {us : List Value}, Vals (ts.map V.ref) us → us = ts.map Value.ref
  | [], _, .nil => rfl
  | _ :: _, _, .cons h t => by
    rw [List.map_cons, ← refs34 t]
    cases h
    rfl
theorem units2 (A : Around) (h : A.units + 64 < cLine) : A.in1.in1.units < cLine := by
  simp only [units_in1]
  omega
theorem sorted_list {pins : List (Addr × Obj)} {σ : St} {H : Hp} {s : Shared} {a : Addr} {ts : List Addr} {r : Value → Int} {Q : VK} (I : Inv X pins σ H s) (hs : SqL X.K H a (ts.map V.ref)) (h64 : ts.length < 64)
    (hk : ∀ (h2 : Heap) (tk : Nat), (∀ b o, s.heap.get? b = some o → h2.get? b = some o) → 2 ≤ (ts.map Value.ref).length → ∀ R : SortKind → Shared → Prop, (∀ κ, TS.Cmp X.prog X.w X.A.in1.in1 { s with heap := h2, toks := tk } κ (pairsOf (ts.map Value.ref)) r → R κ { s with heap := h2, toks := tk }) →
      wpAny (model X.prog X.w) X.A.in1.in1 (keyKind' (ts.map Value.ref).toArray) R X.xe { s with heap := h2, toks := tk })
    (q : ∀ (us : List Addr) (p : Addr), us.Perm ts → us.Pairwise (fun t u => r (.ref t) ≤ r (.ref u)) → H p = none → Q (.ref p) (upd H p (.lst (us.map V.ref)))) :
    wpAny (model X.prog X.w) X.A (call (.builtin "sorted") [.ref a]) (EP X pins σ Q) X.xe s := by
  obtain ⟨its, rv, hl, hz⟩ := I.list hs
  have ei := refs34 rv
  subst ei
  have hz2 : (ts.map Value.ref).length ≤ sizeLine := by
    rw [List.length_map, sizeLine_eq]
    omega
  refine Calls.call_function_entry kind_sorted plain_sorted entry_sorted (args_sorted1 _) ?_
  unfold Builtin.«sorted»
  refine wpAny_bind (m := checkCount "sorted" 1 1 _) (wpAny_pure ?_)
  refine wpAny_bind (collect_list hl.isList ?_ hz2)
  refine wpAny_bind (wpAny_newList ?_ hz2)
  have old : ∀ b o, s.heap.get? b = some o → ((s.heap.push (seqObj "list" #[] 0)).update s.heap.objs.size (Obj.mapSeq (· ++ (ts.map Value.ref).toArray))).get? b = some o := fun b o e => by
    rw [Heap.get?_update_ne _ _ _ _ (Nat.ne_of_lt (Heap.lt_size e))]
    exact Heap.get?_push_of_some _ e
  have sz : s.heap.objs.size ≤ ((s.heap.push (seqObj "list" #[] 0)).update s.heap.objs.size (Obj.mapSeq (· ++ (ts.map Value.ref).toArray))).objs.size := by
    rw [Heap.size_update, size_push']
    exact Nat.le_succ _
  generalize (s.heap.push (seqObj "list" #[] 0)).update s.heap.objs.size (Obj.mapSeq (· ++ (ts.map Value.ref).toArray)) = h1 at old sz
  show wpAny _ _ _ _ _ { s with heap := h1.push (seqObj "list" (ts.map Value.ref).toArray 0), toks := s.toks }
  refine wpAny_bind (wpAny_holding (sort_call (r := r) h64 (fun h2 k2 => hk h2 s.toks fun b o e => k2 b o (old b o e)) fun us e h3 u1 u2 u3 u4 => ?_))
  refine wpAny_pure ⟨_, rfl, .ref h1.objs.size, upd H h1.objs.size (.lst (us.map V.ref)), I.laid (t' := s.toks) (fun b o z => u4 b o (old b o z)) sz ?_, rfl, q us _ u1 u2 (I.hok.fresh sz)⟩
  have hlen : (us.map V.ref).length ≤ sizeLine := by
    rw [List.length_map, u1.length_eq, sizeLine_eq]
    omega
  exact (show ObjOk X.prog X.w _ _ _ (.lst (us.map V.ref)) from ⟨hlen, us.map Value.ref, e, vals_refs us, u3⟩)
theorem cr_sorted3 : CallR X (.builtin "sorted") (rSorted3 X.K) := by
  intro pins s σ H vs us Q I r h
  obtain ⟨a, ts, g, rfl, hs, h64, hx, q⟩ := h
  rw [Vals.ref1 r]
  refine sorted_list (r := fun v => rk (g (adr v))) I hs h64 (fun h2 tk k2 l2 R hR => kind3 (g := fun v => g (adr v)) (fun v hv => ?_) l2 hR) q
  obtain ⟨t, ht, rfl⟩ := List.mem_map.mp hv
  exact ⟨tr_raw I (hx t ht).1 k2, (hx t ht).2⟩
def rSortedP3 (K : PySem.W.Frag) : List V → Hp → VK → Prop := fun vs H Q => ∃ (a : Addr) (ts : List Addr) (g : Addr → A3) (m : Addr → Int), vs = [V.ref a] ∧ SqL K H a (ts.map V.ref) ∧ ts.length < 64 ∧ (∀ t ∈ ts, Rg (g t) ∧ ∃ b, H t = some (.tup [.ref b, .int (m t)]) ∧ H b = some (.tup ((il (g t)).map V.int))) ∧
  (∀ t ∈ ts, ∀ u ∈ ts, g t = g u → m t = m u) ∧ ∀ (us : List Addr) (p : Addr), us.Perm ts → us.Pairwise (fun t u => rk (g t) ≤ rk (g u)) → H p = none → Q (.ref p) (upd H p (.lst (us.map V.ref)))
theorem cr_sortedP3 (hu : X.A.units + 64 < cLine) : CallR X (.builtin "sorted") (rSortedP3 X.K) := by
  intro pins s σ H vs us Q I r h
  obtain ⟨a, ts, g, m, rfl, hs, h64, hx, hn, q⟩ := h
  rw [Vals.ref1 r]
  refine sorted_list (r := fun v => rk (g (adr v))) I hs h64 (fun h2 tk k2 l2 R hR => kindP (g := fun v => g (adr v)) (m := fun v => m (adr v)) (units2 _ hu) (fun v hv => ?_) (fun v hv u hv' => ?_) l2 hR) q
  · obtain ⟨t, ht, rfl⟩ := List.mem_map.mp hv
    obtain ⟨rg, b, h1, h2⟩ := hx t ht
    refine ⟨⟨t, b, ?_⟩, rg⟩
    obtain ⟨its, rv, hT, _⟩ := I.tuple (SqT.of h1)
    obtain ⟨u1, u2, rfl, e1, k, e2⟩ := vals2 rv
    cases e1
    cases e2
    obtain ⟨o, ho, hc, hd⟩ := hT
    exact ⟨k, rfl, ⟨o, k2 _ _ ho, hc, hd⟩, tr_raw I h2 k2⟩
  · obtain ⟨t, ht, rfl⟩ := List.mem_map.mp hv
    obtain ⟨t', ht', rfl⟩ := List.mem_map.mp hv'
    exact hn t ht t' ht'
end
end L2
set_option Elab.async false
set_option linter.all false
set_option maxRecDepth 100000
set_option maxHeartbeats 4000000
namespace J1
open PySem PySem.Spec PyProof.Rows L2 GxR GA ZS
abbrev sMk : Stmt := top 32
theorem cMk : FnScope ["kinds", "name", "makers"] ["kinds"] (defScope sMk) := ⟨rfl, rfl, rfl, by decide +kernel, rfl, by decide +kernel, by decide +kernel⟩
abbrev sMn : Stmt := top 33
theorem cMn : FnScope ["kinds", "name", "makers", "maker", "fields"] ["kinds"] (defScope sMn) := ⟨rfl, rfl, rfl, by decide +kernel, rfl, by decide +kernel, by decide +kernel⟩
def spMk : Sp := fun vs H Q _ => ∃ (x : V) (ks : List Kd1), vs = [x] ∧ EncT H (ksD ks) x ∧ (ks.map (·.1)).Nodup ∧ ks.length ≤ 8 ∧
  ∀ D ms H', H D = none → H' D = some (.dK (dkD (ks.map (·.1)) ms)) → EncsT H' (ks.map fun k => mksD k.2) ms → Grow H H' → Q (.ref D) H'
theorem noTupD {H : Hp} {D : Addr} {kv : List (Key × V)} (h : H D = some (.dK kv)) : ∀ xs, H D ≠ some (.tup xs) := fun xs z => by rw [h] at z; cases z
theorem noF {a : Addr} : ¬ (fun _ : Addr => False) a := fun z => z
section
variable {P : Program} {w : World} {K : PySem.W.Frag} {mg : Str → Option Value} {base : Heap}
theorem ok_mk {f : Addr} {fd : FuncData} (F : Fun K "makers_by_kind" "makers_by_kind" sMk f fd) : FnOk P w K mg base CX0 1 f fd ["kinds"] spMk := by
  refine F.ok (k := 0) cMk (fun vs H Q E h => ?_) (fun cdv A outer s H vs Q E hr h => ?_)
  · obtain ⟨x, _, rfl, _⟩ := h
    rfl
  · obtain ⟨x, ks, rfl, en, nd, le, k⟩ := h
    refine ⟨_, (pss_one (ps_ret (pe_dc (own := [("name", 1), ("makers", 2)]) (g := gTup K 2 (gCons (gName 1) (gCons (gName 2) gNil))) (tt := tYes) (by rfl) cMk.nd (pi_tup (pv 0)) (blkOk_by (own := [("name", 1), ("makers", 2)]) (N := ["kinds", "name", "makers"]) (sc := defScope sMk) (by decide +kernel)) (fun _ _ _ _ _ => (pg_tup (by rfl) (pgs_cons (pg_name (i := 1) cMk.nd rfl (Or.inl rfl)) (pgs_cons (pg_name (i := 2) cMk.nd rfl (Or.inl rfl)) pgs_nil)))) (fun _ _ _ _ _ => pts_nil) (fun _ _ _ _ _ => (pv 1)) (fun _ _ _ _ _ => (pv 2))))), ?_⟩
    cases en with
    | @tup a xs _ ha es =>
    have hl := es.length
    rw [List.length_map] at hl
    refine ⟨_, rfl, a, rfl, ⟨_, SqT.of ha⟩, fun D hD => ?_⟩
    refine dc_tup (K := K) (xs := xs) (fun i Hc => ∃ ms, Hc D = some (.dK (dkD ((ks.take i).map (·.1)) ms)) ∧ EncsT Hc ((ks.take i).map fun k => mksD k.2) ms ∧ Grow H Hc) ⟨[], upd_same, .nil, Grow.new hD⟩ (fun i Hc _ hp => SqT.of (hp.choose_spec.2.2.tup ha)) (fun i z Hc hz hp => ?_) (fun Hd hp => ?_)
    · obtain ⟨ms, hacc, em, g⟩ := hp
      obtain ⟨d1, hd1, ez⟩ := es.get hz
      obtain ⟨kd, hkd, rfl⟩ := map_get hd1
      have hml := em.length
      rw [List.length_map] at hml
      have ez := ez.grow g
      cases ez with
      | @tup b ys _ hb eb =>
      cases eb with
      | @cons _ y0 _ _ e0 eb =>
      cases eb with
      | @cons _ y1 _ _ e1 eb =>
      cases eb
      cases e0
      refine ⟨b, _, rfl, SqT.of hb, rfl, _, _, rfl, _, _, rfl, rfl, rfl, ?_⟩
      unfold tYes
      have hlen : (dkD ((ks.take i).map (·.1)) ms).length < sizeLine := by
        have h1 := dkD_len (ns := (ks.take i).map (·.1)) (ms := ms)
        rw [List.length_map, List.length_take] at h1
        rw [sizeLine_eq]
        omega
      refine iteT ⟨_, rfl, _, rfl, _, Sum.inr kd.1, rfl, hacc, hlen, ms ++ [y1], ?_, ?_, g.upd' hD⟩
      · rw [upd_same, dkD_push (nd_take nd hkd) (by rw [List.length_map]; exact hml), List.take_succ, hkd, List.map_append]
        rfl
      · rw [List.take_succ, hkd, List.map_append]
        exact (encs_push em e1).growW GrowW.upd (fun z => z) (noTupD hacc)
    · obtain ⟨ms, hacc, em, g⟩ := hp
      rw [← hl, List.take_length] at hacc em
      exact k D ms Hd hD hacc em g
def mnD (m : Mk1 × Str) : Da := .tup [.str m.2, fsD m.1.2]
def spMn : Sp := fun vs H Q _ => ∃ (x : V) (ks : List Kd1), vs = [x] ∧ EncT H (ksD ks) x ∧ ((mksOf ks).map (·.1.1)).Nodup ∧ (mksOf ks).length ≤ 64 ∧
  ∀ D ms H', H D = none → H' D = some (.dK (dkD ((mksOf ks).map (·.1.1)) ms)) → EncsT H' ((mksOf ks).map mnD) ms → Grow H H' → Q (.ref D) H'
/-- a walk of a tuple that stays -/
theorem walk_tup {K : PySem.W.Frag} {a : Addr} {xs : List V} {H1 : Hp} {Qd : Hp → Prop} {Body : (Hp → Prop) → V → Hp → Prop} (Pv : Nat → Hp → Prop) (h0 : Pv 0 H1) (hl : ∀ i H, i ≤ xs.length → Pv i H → SqT K H a xs)
    (hs : ∀ i x H, xs[i]? = some x → Pv i H → Body (Pv (i + 1)) x H) (hd : ∀ H, Pv xs.length H → Qd H) :
    ∃ W : Nat → Nat → Hp → Prop, (∃ m, W 0 m H1) ∧ ∀ i m H, W i m H →
      ((Itt K a).stop i H ∧ Qd H) ∨ ((Itt K a).go i H ∧ ∃ Nx : Hp → Prop, (∀ H', Nx H' → ∃ m', m' < m ∧ W (i + 1) m' H') ∧ ∀ x H', (Itt K a).yld i H x H' → Body Nx x H') := by
  refine ⟨fun i m H => i ≤ xs.length ∧ m + i = xs.length ∧ Pv i H, ⟨xs.length, Nat.zero_le _, Nat.add_zero _, h0⟩, fun i m H hw => ?_⟩
  obtain ⟨hi, hm, p⟩ := hw
  have q := hl i H hi p
  rcases Nat.lt_or_ge i xs.length with h | h
  · refine .inr ⟨⟨xs, xs[i], q, List.getElem?_eq_getElem h⟩, Pv (i + 1), fun H' z => ⟨m - 1, by omega, by omega, by omega, z⟩, ?_⟩
    rintro x _ ⟨rfl, y⟩
    exact hs i x _ (y xs q) p
  · have e : i = xs.length := Nat.le_antisymm hi h
    subst e
    exact .inl ⟨⟨xs, q, Nat.le_refl _⟩, hd H p⟩
theorem mks_split {ks : List Kd1} {i j : Nat} {k : Kd1} {m : Mk1} (h : ks[i]? = some k) (g : k.2[j]? = some m) : ∃ r, mksOf ks = (mksOf (ks.take i) ++ (k.2.take j).map fun m => (m, k.1)) ++ (m, k.1) :: r := by
  have cut : ∀ {α : Type} {l : List α} {i : Nat} {d : α}, l[i]? = some d → l = l.take i ++ d :: l.drop (i + 1) := by
    intro α l i d hd
    have hi : i < l.length := (List.getElem?_eq_some_iff.mp hd).1
    have q := List.getElem_cons_drop hi
    rw [(List.getElem?_eq_some_iff.mp hd).2] at q
    rw [q, List.take_append_drop]
  have e1 := cut h
  have e2 := cut g
  refine ⟨((k.2.drop (j + 1)).map fun m => (m, k.1)) ++ mksOf (ks.drop (i + 1)), ?_⟩
  have e3 : mksOf ks = mksOf (ks.take i) ++ ((k.2.map fun m => (m, k.1)) ++ mksOf (ks.drop (i + 1))) := by
    conv => lhs; rw [e1]
    unfold mksOf
    rw [List.map_append, List.flatten_append, List.map_cons, List.flatten_cons]
  have e4 : (k.2.map fun m => (m, k.1)) = ((k.2.take j).map fun m => (m, k.1)) ++ (m, k.1) :: (k.2.drop (j + 1)).map fun m => (m, k.1) := by
    conv => lhs; rw [e2]
    rw [List.map_append, List.map_cons]
  rw [e3, e4]
  simp [List.append_assoc]
theorem mks_step {ks : List Kd1} {i : Nat} {k : Kd1} (h : ks[i]? = some k) : mksOf (ks.take (i + 1)) = mksOf (ks.take i) ++ k.2.map fun m => (m, k.1) := by
  unfold mksOf
  rw [List.take_succ, h, List.map_append, List.flatten_append]
  simp
theorem ok_mn {f : Addr} {fd : FuncData} (F : Fun K "makers_by_name" "makers_by_name" sMn f fd) : FnOk P w K mg base CX0 1 f fd ["kinds"] spMn := by
  refine F.ok (k := 0) cMn (fun vs H Q E h => ?_) (fun cdv A outer s H vs Q E hr h => ?_)
  · obtain ⟨x, _, rfl, _⟩ := h
    rfl
  · obtain ⟨x, ks, rfl, en, nd, le, k⟩ := h
    refine ⟨_, (pss_one (ps_ret (DC2.pe_dc2 (own := [("name", 1), ("makers", 2), ("maker", 3), ("fields", 4)]) (vs2 := [3, 4]) (g := gTup K 2 (gCons (gName 1) (gCons (gName 2) gNil))) (g2 := gTup K 2 (gCons (gName 3) (gCons (gName 4) gNil))) (tt := tYes) (tt2 := tYes) (wi2 := iTup K (tVar 2)) (by rfl) cMn.nd (pi_tup (pv 0)) (blkOk_by (own := [("name", 1), ("makers", 2), ("maker", 3), ("fields", 4)]) (N := ["kinds", "name", "makers", "maker", "fields"]) (sc := defScope sMn) (by decide +kernel)) (by decide) (fun _ _ _ _ _ => (pg_tup (by rfl) (pgs_cons (pg_name (i := 1) cMn.nd rfl (Or.inl rfl)) (pgs_cons (pg_name (i := 2) cMn.nd rfl (Or.inl rfl)) pgs_nil)))) (fun _ _ _ _ _ => pts_nil) (fun _ _ _ _ _ => (pi_tup (pv 2))) (fun _ _ _ _ _ => (pg_tup (by rfl) (pgs_cons (pg_name (i := 3) cMn.nd rfl (Or.inl rfl)) (pgs_cons (pg_name (i := 4) cMn.nd rfl (Or.inl rfl)) pgs_nil)))) (fun _ _ _ _ _ => pts_nil) (fun _ _ _ _ _ => (pv 3)) (fun _ _ _ _ _ => (pe_tup (pa_cons (pv 1) (pa_cons (pv 4) pa_nil))))))), ?_⟩
    cases en with
    | @tup a xs _ ha es =>
    have hl := es.length
    rw [List.length_map] at hl
    refine ⟨_, rfl, a, rfl, ⟨_, SqT.of ha⟩, fun D hD => ?_⟩
    let Inv' : List (Mk1 × Str) → Hp → Prop := fun L Hc => ∃ ms, Hc D = some (.dK (dkD (L.map (·.1.1)) ms)) ∧ EncsT Hc (L.map mnD) ms ∧ Grow H Hc
    refine walk_tup (K := K) (xs := xs) (fun i Hc => Inv' (mksOf (ks.take i)) Hc) ⟨[], upd_same, .nil, Grow.new hD⟩ (fun i Hc _ hp => SqT.of (hp.choose_spec.2.2.tup ha)) (fun i z Hc hz hp => ?_) (fun Hd hp => ?_)
    · obtain ⟨d1, hd1, ez⟩ := es.get hz
      obtain ⟨kd, hkd, rfl⟩ := map_get hd1
      have g := hp.choose_spec.2.2
      cases ez with
      | @tup b ys _ hb eb =>
      cases eb with
      | @cons _ y0 _ _ e0 eb =>
      cases eb with
      | @cons _ y1 _ _ e1 eb =>
      cases eb
      cases e0 with
      | str kn hkn =>
      cases e1 with
      | @tup b1 zs _ hb1 em1 =>
      have hzl := em1.length
      rw [List.length_map] at hzl
      refine ⟨b, _, rfl, SqT.of (g.tup hb), rfl, _, _, rfl, _, _, rfl, rfl, rfl, ?_⟩
      unfold tYes
      refine iteT ⟨_, rfl, b1, rfl, ⟨_, SqT.of (g.tup hb1)⟩, ?_⟩
      refine walk_tup (K := K) (xs := zs) (fun j Hc => Inv' (mksOf (ks.take i) ++ (kd.2.take j).map fun m => (m, kd.1)) Hc) (by
        show Inv' (mksOf (ks.take i) ++ []) Hc
        rw [List.append_nil]
        exact hp) (fun j Hc _ hp => SqT.of (hp.choose_spec.2.2.tup hb1)) (fun j y Hc hy hp => ?_) (fun Hd hp => ?_)
      · obtain ⟨ms, hacc, em, g⟩ := hp
        obtain ⟨d2, hd2, ey⟩ := em1.get hy
        obtain ⟨m, hm, rfl⟩ := map_get hd2
        have ey := ey.grow g
        cases ey with
        | @tup b2 us _ hb2 eu =>
        cases eu with
        | @cons _ u0 _ _ e0 eu =>
        cases eu with
        | @cons _ u1 _ _ e1 eu =>
        cases eu
        cases e0
        obtain ⟨r, hsp⟩ := mks_split hkd hm
        have hml := em.length
        rw [List.length_map] at hml
        refine ⟨b2, _, rfl, SqT.of hb2, rfl, _, _, rfl, _, _, rfl, rfl, rfl, ?_⟩
        refine iteT ⟨_, rfl, _, rfl, _, rfl, (by show 2 ≤ sizeLine; decide), fun t ht => ?_⟩
        have gt := Grow.new (o := .tup [.str kd.1, u1]) ht
        have hD2 := gt.dk hacc
        have etk : mksOf (ks.take i) ++ (kd.2.take (j + 1)).map (fun m => (m, kd.1)) = (mksOf (ks.take i) ++ (kd.2.take j).map fun m => (m, kd.1)) ++ [(m, kd.1)] := by
          rw [List.take_succ, hm, List.map_append, List.append_assoc]
          rfl
        rw [etk]
        generalize mksOf (ks.take i) ++ (kd.2.take j).map (fun m => (m, kd.1)) = L at hacc hD2 em hml hsp ⊢
        rw [hsp, List.length_append, List.length_cons] at le
        rw [hsp, List.map_append, List.map_cons, List.nodup_append] at nd
        have hfr : m.1 ∉ L.map (·.1.1) := fun z => nd.2.2 _ z _ List.mem_cons_self rfl
        have hlen : (dkD (L.map (·.1.1)) ms).length < sizeLine := by
          have h1 := dkD_len (ns := L.map (·.1.1)) (ms := ms)
          rw [List.length_map] at h1
          rw [sizeLine_eq]
          omega
        have e5 : EncT (L2.upd Hc t (.tup [.str kd.1, u1])) (mnD (m, kd.1)) (.ref t) := .tup upd_same (.cons (.str _ hkn) (.cons (e1.grow gt) .nil))
        refine ⟨_, Sum.inr m.1, rfl, hD2, hlen, ms ++ [.ref t], ?_, ?_, (g.trans gt).upd' hD⟩
        · rw [upd_same, dkD_push hfr (by rw [List.length_map]; exact hml), List.map_append]
          rfl
        · rw [List.map_append]
          exact (encs_push (em.grow gt) e5).growW GrowW.upd (fun z => z) (noTupD hD2)
      · rw [← hzl, List.take_length, ← mks_step hkd] at hp
        exact hp
    · obtain ⟨ms, hacc, em, g⟩ := hp
      rw [← hl, List.take_length] at hacc em
      exact k D ms Hd hD hacc em g
end
end J1
set_option Elab.async false
set_option linter.all false
set_option maxRecDepth 100000
set_option maxHeartbeats 4000000
namespace J1
open PySem PySem.Spec PyProof.Rows L2 GxR GA ZS
abbrev sKf : Stmt := top 31
theorem cKf : FnScope ["kinds", "known", "name", "_", "makers_ahead", "at", "makers", "maker", "fields", "field"] ["kinds"] (defScope sKf) := ⟨rfl, rfl, rfl, by decide +kernel, rfl, by decide +kernel, by decide +kernel⟩
/-- all(judge for x in t), where the judge need tell only what is in t -/
theorem rd_allM {K : PySem.W.Frag} {P a : Addr} {xs : List V} {l : List Da} {j : Nat} {te : TE} {T : Hp → Prop} {σ : L2.St} {H1 : Hp} {Q : VK} (ha : H1 a = some (.tup xs)) (el : Encs H1 l xs) (st : Stays T) (hT : T H1) (hP : TabG H1 P)
    (hel : ∀ x d H R, d ∈ l → Enc H d x → T H → (∀ H', Grow H H' → R (.bl true) H') → te ((wipe σ [j]).set j (some x)) H R) (hQ : ∀ H', Grow H1 H' → Q (.bl true) H') :
    TabG H1 P ∧ ∀ H2, Tabbed P H1 H2 → ∃ W : Nat → Nat → List V → Hp → Prop, (∃ m, W 0 m [] H2) ∧ Turns (Itt K a) (gName j) tYes te [j] σ (fun _ H' => Q (.bl true) H') (KAll Q) W := by
  refine ⟨hP, fun H2 t => turns_tup (xs := xs) (fun i _ H => Grow H1 H) (Grow.tab hP t) (fun i _ H _ p => p.tup ha) (fun i x acc H hx p => ?_) (fun acc H p => hQ H p)⟩
  obtain ⟨d, hd, en⟩ := (el.grow p).get hx
  refine ⟨wipe_set, ?_⟩
  unfold tYes
  exact iteT (hel x d H _ (List.mem_of_getElem? hd) en (st _ _ p hT) fun H' g' => ⟨true, rfl, (fun e => by cases e), fun _ => p.trans g'⟩)
/-- .. what is wished at the end told apart -/
theorem rd_allF {K : PySem.W.Frag} {P a : Addr} {xs : List V} {l : List Da} {j : Nat} {te : TE} {T : Hp → Prop} {σ : L2.St} {H1 : Hp} {Q : VK} {Fin : List V → Hp → Prop} (ha : H1 a = some (.tup xs)) (el : Encs H1 l xs) (st : Stays T) (hT : T H1) (hP : TabG H1 P)
    (hel : ∀ x d H R, d ∈ l → Enc H d x → T H → (∀ H', Grow H H' → R (.bl true) H') → te ((wipe σ [j]).set j (some x)) H R) (hQ : ∀ acc H', Grow H1 H' → Fin acc H') :
    TabG H1 P ∧ ∀ H2, Tabbed P H1 H2 → ∃ W : Nat → Nat → List V → Hp → Prop, (∃ m, W 0 m [] H2) ∧ Turns (Itt K a) (gName j) tYes te [j] σ Fin (KAll Q) W := by
  refine ⟨hP, fun H2 t => turns_tup (xs := xs) (fun i _ H => Grow H1 H) (Grow.tab hP t) (fun i _ H _ p => p.tup ha) (fun i x acc H hx p => ?_) (fun acc H p => hQ acc H p)⟩
  obtain ⟨d, hd, en⟩ := (el.grow p).get hx
  refine ⟨wipe_set, ?_⟩
  unfold tYes
  exact iteT (hel x d H _ (List.mem_of_getElem? hd) en (st _ _ p hT) fun H' g' => ⟨true, rfl, (fun e => by cases e), fun _ => p.trans g'⟩)
/-- a for over enumerate(t), t a tuple that stays -/
theorem for_et {K : PySem.W.Frag} {a : Addr} {xs : List V} {σ0 : L2.St} {H1 : Hp} {Qd : L2.St → Hp → Prop} {Body : (L2.St → Hp → Prop) → V → L2.St → Hp → Prop} (Pv : Nat → L2.St → Hp → Prop) (h0 : Pv 0 σ0 H1) (hl : ∀ i σ H, i ≤ xs.length → Pv i σ H → SqT K H a xs)
    (hs : ∀ i x T σ H, xs[i]? = some x → H T = none → Pv i σ H → Body (Pv (i + 1)) (.ref T) σ (L2.upd H T (.tup [.int (i : Nat), x]))) (hd : ∀ σ H, Pv xs.length σ H → Qd σ H) :
    ∃ W : Nat → Nat → L2.St → Hp → Prop, (∃ m, W 0 m σ0 H1) ∧ ∀ i m σ H, W i m σ H →
      ((ET.Iet K a).stop i H ∧ Qd σ H) ∨ ((ET.Iet K a).go i H ∧ ∃ N : L2.St → Hp → Prop, (∀ σ' H', N σ' H' → ∃ m', m' < m ∧ W (i + 1) m' σ' H') ∧ ∀ x H', (ET.Iet K a).yld i H x H' → Body N x σ H') := by
  refine ⟨fun i m σ H => i ≤ xs.length ∧ m + i = xs.length ∧ Pv i σ H, ⟨xs.length, Nat.zero_le _, Nat.add_zero _, h0⟩, fun i m σ H hw => ?_⟩
  obtain ⟨hi, hm, p⟩ := hw
  have q := hl i σ H hi p
  rcases Nat.lt_or_ge i xs.length with h | h
  · refine .inr ⟨⟨xs, xs[i], q, List.getElem?_eq_getElem h⟩, Pv (i + 1), fun σ' H' z => ⟨m - 1, by omega, by omega, by omega, z⟩, ?_⟩
    rintro x _ ⟨T, y, rfl, hT, rfl, e⟩
    exact hs i y T σ H (e xs q) hT p
  · have e : i = xs.length := Nat.le_antisymm hi h
    subst e
    exact .inl ⟨⟨xs, q, rfl⟩, hd σ H p⟩
theorem cutV_take (xs : List V) (n : Nat) (h : n ≤ xs.length) : cutV xs none (some (n : Int)) = xs.take n := by
  unfold cutV
  have h1 : HT.sIx xs.length 0 none = 0 := rfl
  rw [h1, HT.sIx_nat, List.drop_zero, Nat.sub_zero, Nat.min_eq_left h]
theorem inV_str (l : List Str) (t : Str) : inV (.str t) (l.map V.str) = l.contains t := by
  unfold inV
  rw [List.any_map]
  have : ((fun y => eqV y (V.str t)) ∘ V.str) = fun y => y == t := funext fun y => rfl
  rw [this]
  rw [Bool.eq_iff_iff, List.any_eq_true, List.contains_iff_mem]
  constructor
  · rintro ⟨y, hy, e⟩
    rw [← beq_iff_eq.mp e]; exact hy
  · intro h
    exact ⟨t, h, beq_self_eq_true t⟩
theorem hi_whole {s : Str} (h : isHig (.str s) = true) : s ≠ "whole" := fun z => by
  rw [z] at h
  exact absurd h (by decide +kernel)
def Av (L : List (Mk1 × Str)) : List (Key × V) := dkD (L.map (·.1.1)) (L.map fun _ => V.bl true)
def spKf (T : Hp → Prop) : Sp := fun vs H Q _ => ∃ (x : V) (ks : List Kd1), vs = [x] ∧ EncT H (ksD ks) x ∧ KdsOk ks ∧ T H ∧ ∀ H', Grow H H' → Q .non H'
section
variable {P : Program} {w : World} {K : PySem.W.Frag} {mg : Str → Option Value} {base : Heap}
theorem ok_kf {f c PT : Addr} {fd : FuncData} {T : Hp → Prop} {tW : Tok} (F : FunC K "kinds_fault" "kinds_fault" sKf f fd c) (N : Gn K mg) (hW : mg "WHOLE" = some (.str "whole" tW)) (hEn : mg "enumerate" = none) (TB : TabB base mg c PT) (st : Stays T) (hTP : ∀ H, T H → TabG H PT) :
    FnOk P w K mg base CX0 2 f fd ["kinds"] (spKf T) := by
  refine F.ok (k := 1) cKf (fun vs H Q E h => ?_) (fun A outer s H vs Q E hr h => ?_)
  · obtain ⟨_, _, rfl, _⟩ := h
    rfl
  · obtain ⟨x, ks, rfl, en, ok, hT, k⟩ := h
    have hu := hu_of hr
    refine ⟨_, (pss_cons (ps_set (i := 1) cKf.nd rfl (Or.inr rfl) (pe_op op_cat (pe_lst (pa_cons (pe_glob (v := .str "whole") (by rfl) hW ⟨_, rfl⟩) pa_nil)) (pe_lc (own := [("name", 2), ("_", 3)]) (g := gTup K 2 (gCons (gName 2) (gCons (gName 3) gNil))) (tt := tYes) (by rfl) cKf.nd (pi_tup (pv 0)) (blkOk_by (own := [("name", 2), ("_", 3)]) (N := ["kinds", "known", "name", "_", "makers_ahead", "at", "makers", "maker", "fields", "field"]) (sc := defScope sKf) (by decide +kernel)) (fun _ _ _ _ _ => (pg_tup (by rfl) (pgs_cons (pg_name (i := 2) cKf.nd rfl (Or.inl rfl)) (pgs_cons (pg_name (i := 3) cKf.nd rfl (Or.inl rfl)) pgs_nil)))) (fun _ _ _ _ _ => pts_nil) (fun _ _ _ _ _ => (pv 2))))) (pss_cons (ps_set (i := 4) cKf.nd rfl (Or.inl rfl) pe_dnewK) (pss_cons (ps_for PassesOwn.never rfl (ET.pi_enumT (by rfl) hEn (pa_cons (pv 0) pa_nil)) (pg_tup (by rfl) (pgs_cons (pg_name (i := 5) cKf.nd rfl (Or.inl rfl)) (pgs_cons (pg_tup (by rfl) (pgs_cons (pg_name (i := 2) cKf.nd rfl (Or.inl rfl)) (pgs_cons (pg_name (i := 6) cKf.nd rfl (Or.inl rfl)) pgs_nil))) pgs_nil))) (pss_cons (ps_if (pt_cmpR op_in_seq (pv 2) (pe_slice sl_list (pv 1) po_none (po_some (pe_op op_add (pv 5) pe_int))) (by rfl)) (pss_one (ps_ret pe_str)) pss_nil) (pss_one (ps_for PassesOwn.never rfl (pi_tup (pv 6)) (pg_tup (by rfl) (pgs_cons (pg_name (i := 7) cKf.nd rfl (Or.inl rfl)) (pgs_cons (pg_name (i := 8) cKf.nd rfl (Or.inl rfl)) pgs_nil))) (pss_cons (ps_if (pt_cmp (pc_din hu (pv 7) (pv 4))) (pss_one (ps_ret pe_str)) pss_nil) (pss_cons (ps_dput hu (pv 4) (pv 7) pe_bl rfl) (pss_one (ps_if (pt_not (pt_val (pe_allG (k := 0) (own := [("field", 9)]) hr rfl (by rfl) N.na cKf.nd TB rfl ⟨rfl, by decide +kernel, rfl⟩ (blkOk_by (by show blkC ["kinds", "known", "name", "_", "makers_ahead", "at", "makers", "maker", "fields", "field"] (defScope sKf) _ [("field", 9)] = true; decide +kernel)) (pi_tup (pv 8)) (fun _ _ _ _ _ _ _ => pg_name cKf.nd (i := 9) rfl (.inl rfl)) (fun _ _ _ _ _ _ _ => pts_nil) (fun _ _ _ _ _ _ hr' => (pe_cmpR (r := rIn K false) op_in_seq (pv 9) (pv 1) (by rfl)))))) (pss_one (ps_ret pe_str)) pss_nil)))))))) (pss_one (ps_ret pe_non))))), ?_⟩
    cases en with
    | @tup a xs _ ha es =>
    have hl := es.length
    rw [List.length_map] at hl
    have hle := ok.le
    refine ⟨(by show 1 ≤ sizeLine; decide), fun l hl1 => ⟨_, rfl, a, rfl, ⟨_, SqT.of ((Grow.new hl1).tup ha)⟩, fun D hD => ?_⟩⟩
    have g0 := Grow.new (o := .lst [.str "whole"]) hl1
    refine lc_tup (K := K) (xs := xs) (fun i Hc => Hc D = some (.lst (((ks.take i).map (·.1)).map V.str)) ∧ Grow (upd H l (.lst [.str "whole"])) Hc) ⟨upd_same, Grow.new hD⟩ (fun i Hc _ hp => SqT.of (hp.2.tup (g0.tup ha))) (fun i z Hc hz hp => ?_) (fun H1 hp => ?_)
    · obtain ⟨hacc, g⟩ := hp
      obtain ⟨d1, hd1, ez⟩ := es.get hz
      obtain ⟨kd, hkd, rfl⟩ := map_get hd1
      have ez := (ez.grow g0).grow g
      cases ez with
      | @tup b ys _ hb eb =>
      cases eb with
      | @cons _ y0 _ _ e0 eb =>
      cases eb with
      | @cons _ y1 _ _ e1 eb =>
      cases eb
      cases e0
      refine ⟨b, _, rfl, SqT.of hb, rfl, _, _, rfl, _, _, rfl, rfl, rfl, ?_⟩
      unfold tYes
      refine iteT ⟨_, rfl, _, hacc, ?_, ?_, g.upd' hD⟩
      · rw [List.length_map, List.length_map, List.length_take, sizeLine_eq]
        omega
      · rw [upd_same, List.take_succ, hkd, List.map_append, List.map_append]
        rfl
    obtain ⟨h1, g⟩ := hp
    rw [← hl, List.take_length] at h1
    have hl2 : H1 l = some (.lst [.str "whole"]) := g.lst upd_same
    refine ⟨l, D, _, _, rfl, rfl, hl2, h1, ?_, fun p hp A' hA' => ?_⟩
    · rw [List.length_map, List.length_map, sizeLine_eq]
      show 1 + ks.length ≤ _
      omega
    have gp := Grow.new (o := .lst ([.str "whole"] ++ (ks.map (·.1)).map V.str)) hp
    have gA := Grow.new (o := .dK []) hA'
    have hp1 := gA.lst (upd_same (H := H1) (a := p) (o := .lst ([.str "whole"] ++ (ks.map (·.1)).map V.str)))
    have hA1 := upd_same (H := upd H1 p (.lst ([.str "whole"] ++ (ks.map (·.1)).map V.str))) (a := A') (o := .dK [])
    have hp0 := (g0.trans g).none' hp
    have hA0 := ((g0.trans g).trans gp).none' hA'
    have g3 := ((g0.trans g).trans gp).trans gA
    generalize upd (upd H1 p (.lst ([.str "whole"] ++ (ks.map (·.1)).map V.str))) A' (.dK []) = H3 at hp1 hA1 g3 ⊢
    refine ⟨_, rfl, a, xs, rfl, SqT.of (g3.tup ha), ?_⟩
    refine for_et (K := K) (xs := xs) (fun i σ' Hc => ∃ v2 v3 v5 v6 v7 v8 v9, σ' = [some (.ref a), some (.ref p), v2, v3, some (.ref A'), v5, v6, v7, v8, v9] ∧ Hc p = some (.lst ([.str "whole"] ++ (ks.map (·.1)).map V.str)) ∧ Hc A' = some (.dK (Av (mksOf (ks.take i)))) ∧ Grow H Hc)
      ⟨_, _, _, _, _, _, _, rfl, hp1, hA1, g3⟩ (fun i σ' Hc _ hp => ?_) (fun i z T' σ' Hc hz hT' hp => ?_) (fun σ' Hc hp => ?_)
    · obtain ⟨_, _, _, _, _, _, _, _, _, _, g⟩ := hp
      exact SqT.of (g.tup ha)
    · obtain ⟨v2, v3, v5, v6, v7, v8, v9, rfl, hpc, hAc, gc⟩ := hp
      obtain ⟨d1, hd1, ez⟩ := es.get hz
      obtain ⟨kd, hkd, rfl⟩ := map_get hd1
      cases ez with
      | @tup b ys _ hb eb =>
      cases eb with
      | @cons _ y0 _ _ e0 eb =>
      cases eb with
      | @cons _ y1 _ _ e1 eb =>
      cases eb
      cases e0 with
      | str kn hkn =>
      cases e1 with
      | @tup b1 zs _ hb1 em1 =>
      have gT := Grow.new (o := .tup [.int (i : Nat), .ref b]) hT'
      have gcT := gc.trans gT
      refine ⟨T', _, rfl, SqT.of upd_same, rfl, _, _, rfl, _, _, rfl, b, _, rfl, SqT.of (gcT.tup hb), rfl, _, _, rfl, _, _, rfl, rfl, rfl, ?_⟩
      refine ⟨_, rfl, _, rfl, ?_⟩
      dsimp only [tNoPart]
      have hpT := gT.lst hpc
      have e1 : cutV ([V.str "whole"] ++ (ks.map (·.1)).map V.str) none (some ((i : Nat) + 1 : Int)) = (("whole" : Str) :: (ks.take i).map (·.1)).map V.str := by
        have q := cutV_take ([V.str "whole"] ++ (ks.map (·.1)).map V.str) (i + 1) (by
          have : i < ks.length := (List.getElem?_eq_some_iff.mp hkd).1
          rw [List.length_append, List.length_map, List.length_map]
          show i + 1 ≤ 1 + ks.length
          omega)
        have q' : cutV ([V.str "whole"] ++ (ks.map (·.1)).map V.str) none (some ((i : Nat) + 1 : Int)) = ([V.str "whole"] ++ (ks.map (·.1)).map V.str).take (i + 1) := q
        rw [q', List.map_take]
        show V.str "whole" :: ((ks.map (·.1)).map V.str).take i = V.str "whole" :: _
        rw [← List.map_take, ← List.map_take]
      refine ⟨_, rfl, _, _, rfl, rfl, _, rfl, p, _, rfl, SqL.of hpT, fun q hq => ?_⟩
      have flat : ((("whole" : Str) :: (ks.take i).map (·.1)).map V.str).all flatV = true := by
        rw [List.all_map]
        exact List.all_eq_true.mpr fun _ _ => rfl
      rw [e1]
      refine ⟨q, _, rfl, .inl (SqL.of upd_same), rfl, flat, _, rfl, ?_⟩
      have hnot : inV (V.str kd.1) ((("whole" : Str) :: (ks.take i).map (·.1)).map V.str) = false := by
        rw [inV_str, Bool.eq_false_iff]
        intro z
        rcases List.mem_cons.mp (List.contains_iff_mem.mp z) with z | z
        · exact hi_whole (ok.hi kd (List.mem_of_getElem? hkd)) z
        · exact nd_take ok.nd hkd z
      rw [hnot]
      have gq := Grow.new (o := .lst ((("whole" : Str) :: (ks.take i).map (·.1)).map V.str)) hq
      have hpq := gq.lst hpT
      have hAq := gq.dk (gT.dk hAc)
      have gcq := gcT.trans gq
      generalize upd (upd Hc T' (.tup [.int (i : Nat), .ref b])) q (.lst ((("whole" : Str) :: (ks.take i).map (·.1)).map V.str)) = Hq at hpq hAq gcq ⊢
      refine iteF ⟨_, rfl, b1, rfl, ⟨_, SqT.of (gcq.tup hb1)⟩, ?_⟩
      have hzl := em1.length
      rw [List.length_map] at hzl
      refine for_tup (K := K) (xs := zs) (fun j σ' Hc => ∃ v7 v8 v9, σ' = [some (.ref a), some (.ref p), some (.str kd.1), v3, some (.ref A'), some (.int (i : Nat)), some (.ref b1), v7, v8, v9] ∧ Hc p = some (.lst ([.str "whole"] ++ (ks.map (·.1)).map V.str)) ∧ Hc A' = some (.dK (Av (mksOf (ks.take i) ++ (kd.2.take j).map fun m => (m, kd.1)))) ∧ Grow H Hc)
        ⟨_, _, _, rfl, hpq, by show Hq A' = some (.dK (Av (mksOf (ks.take i) ++ []))); rw [List.append_nil]; exact hAq, gcq⟩ (fun j σ' Hc _ hp => ?_) (fun j y σ' Hc hy hp => ?_) (fun σ' Hc hp => ?_)
      · obtain ⟨_, _, _, _, _, _, g⟩ := hp
        exact SqT.of (g.tup hb1)
      · obtain ⟨v7, v8, v9, rfl, hpc, hAc, gc⟩ := hp
        obtain ⟨d2, hd2, ey⟩ := em1.get hy
        obtain ⟨m, hm, rfl⟩ := map_get hd2
        cases ey with
        | @tup b2 us _ hb2 eu =>
        cases eu with
        | @cons _ u0 _ _ e0 eu =>
        cases eu with
        | @cons _ u1 _ _ e1 eu =>
        cases eu
        cases e0
        cases e1 with
        | @tup b3 fs _ hb3 ef =>
        obtain ⟨r, hsp⟩ := mks_split hkd hm
        have hmem : (m, kd.1) ∈ mksOf ks := by rw [hsp]; exact List.mem_append_right _ List.mem_cons_self
        have etk : mksOf (ks.take i) ++ (kd.2.take (j + 1)).map (fun m => (m, kd.1)) = (mksOf (ks.take i) ++ (kd.2.take j).map fun m => (m, kd.1)) ++ [(m, kd.1)] := by
          rw [List.take_succ, hm, List.map_append, List.append_assoc]
          rfl
        rw [etk]
        generalize mksOf (ks.take i) ++ (kd.2.take j).map (fun m => (m, kd.1)) = L at hAc hsp ⊢
        have ndm := ok.ndm
        rw [hsp, List.map_append, List.map_cons, List.nodup_append] at ndm
        have hfr : m.1 ∉ L.map (·.1.1) := fun z => ndm.2.2 _ z _ List.mem_cons_self rfl
        refine ⟨b2, _, rfl, SqT.of (gc.tup hb2), rfl, _, _, rfl, _, _, rfl, rfl, ?_⟩
        refine ⟨_, rfl, _, rfl, A', _, rfl, DGet.k (k := Sum.inr m.1) hAc, _, rfl, ?_⟩
        have hno : valV (Av L) (Sum.inr m.1 : Key) = none := dkD_no hfr
        rw [hno]
        have hml := ok.ml
        rw [hsp, List.length_append, List.length_cons] at hml
        have hlen : (Av L).length < sizeLine := by
          have h1 := dkD_len (ns := L.map (·.1.1)) (ms := L.map fun _ => V.bl true)
          rw [List.length_map] at h1
          rw [sizeLine_eq]
          show (dkD _ _).length < _
          omega
        refine iteF ⟨_, rfl, _, rfl, A', _, rfl, DPut.k (k := Sum.inr m.1) hAc hlen, ?_⟩
        have hput : putK (Av L) (Sum.inr m.1 : Key) (V.bl true) = Av (L ++ [(m, kd.1)]) := by
          unfold Av
          rw [dkD_push hfr (by rw [List.length_map, List.length_map]), List.map_append, List.map_append]
          rfl
        rw [hput]
        have gc2 := gc.upd' hA0 (o := .dK (Av (L ++ [(m, kd.1)])))
        have hA2 := upd_same (H := Hc) (a := A') (o := .dK (Av (L ++ [(m, kd.1)])))
        have hpA : p ≠ A' := fun z => by rw [z, hAc] at hpc; cases hpc
        have hp2 : L2.upd Hc A' (.dK (Av (L ++ [(m, kd.1)]))) p = some (.lst ([.str "whole"] ++ (ks.map (·.1)).map V.str)) := by rw [upd_ne hpA]; exact hpc
        generalize L2.upd Hc A' (.dK (Av (L ++ [(m, kd.1)]))) = Hd at gc2 hA2 hp2 ⊢
        refine ⟨_, rfl, b3, rfl, ⟨_, SqT.of (gc2.tup hb3)⟩, rd_allF (T := fun H' => T H' ∧ H' p = some (.lst ([.str "whole"] ++ (ks.map (·.1)).map V.str))) (l := m.2.map .str) (gc2.tup hb3) ((ef.grow gc2).any) (fun _ _ g h => ⟨st _ _ g h.1, g.lst h.2⟩) ⟨st _ _ gc2 hT, hp2⟩ (hTP _ (st _ _ gc2 hT)) (fun x d H4 R hd e4 hT4 kk => ?_) fun _ H4 g4 => ?_⟩
        · obtain ⟨fl, hfl, rfl⟩ := List.mem_map.mp hd
          cases e4
          have flat2 : ((("whole" : Str) :: ks.map (·.1)).map V.str).all flatV = true := by
            rw [List.all_map]
            exact List.all_eq_true.mpr fun _ _ => rfl
          have hin : inV (V.str fl) ((("whole" : Str) :: ks.map (·.1)).map V.str) = true := by
            rw [inV_str, List.contains_iff_mem]
            rcases ok.fk _ hmem fl hfl with z | z
            · rw [z]; exact List.mem_cons_self
            · exact List.mem_cons_of_mem _ z
          have hp4 : H4 p = some (.lst ((("whole" : Str) :: ks.map (fun k : Kd1 => k.1)).map V.str)) := hT4.2
          refine ⟨_, rfl, _, rfl, p, _, rfl, .inl (SqL.of hp4), rfl, flat2, ?_⟩
          show R (.bl (inV (V.str fl) ((("whole" : Str) :: ks.map (·.1)).map V.str))) H4
          rw [hin]
          exact kk H4 (Grow.refl _)
        · refine ⟨true, rfl, ?_⟩
          exact iteF ⟨some (.str m.1), some (.ref b3), v9, rfl, g4.lst hp2, g4.dk hA2, gc2.trans g4⟩
      · obtain ⟨v7, v8, v9, rfl, hpc, hAc, gc⟩ := hp
        rw [← hzl, List.take_length, ← mks_step hkd] at hAc
        exact ⟨_, _, _, _, _, _, _, rfl, hpc, hAc, gc⟩
    · obtain ⟨v2, v3, v5, v6, v7, v8, v9, rfl, hpc, hAc, gc⟩ := hp
      exact k Hc gc
end
end J1
set_option Elab.async false
set_option linter.all false
set_option maxRecDepth 100000
set_option maxHeartbeats 4000000
namespace J1
open PySem PySem.Spec PyProof.Rows L2 GxR GA ZS
abbrev sWi : Stmt := inClass (top 37) 0
theorem cWi : FnScope ["self", "kinds", "functions", "function"] ["self", "kinds", "functions"] (defScope sWi) := ⟨rfl, rfl, rfl, by decide +kernel, rfl, by decide +kernel, by decide +kernel⟩
structure TxW (K : PySem.W.Frag) (mg : Str → Option Value) (C : Addr) : Prop where
  cl : Cls K C
  n1 : NoAttr K C "kinds"
  n2 : NoAttr K C "makers"
  n3 : NoAttr K C "heads"
  mgC : mg "World" = some (.ref C)
theorem noTupI {H : Hp} {p C dx : Addr} {fs : List (Str × V)} (h : H p = some (.ins C dx fs)) : ∀ xs, H p ≠ some (.tup xs) := fun xs z => by rw [h] at z; cases z
theorem Grow.ins {H H' : Hp} (g : Grow H H') {p C dx : Addr} {fs : List (Str × V)} (h : H p = some (.ins C dx fs)) : H' p = some (.ins C dx fs) := by
  rcases g p _ h with q | ⟨⟨_, q⟩, _⟩
  · exact q
  · cases q
theorem GrowW.trans' {w : Addr} {H H1 H2 : Hp} (x : GrowW w H H1) (y : GrowW w H1 H2) : GrowW w H H2 := fun a o n h => by
  rcases x a o n h with h1 | ⟨h1, h2⟩
  · exact y a o n h1
  · obtain ⟨ps, q, _⟩ := h2
    rcases y a _ n q with z | ⟨_, z⟩
    · exact .inr ⟨h1, ps, z, by assumption⟩
    · exact .inr ⟨h1, z⟩
theorem Grow.w {w : Addr} {H H' : Hp} (g : Grow H H') : GrowW w H H' := fun a o _ h => g a o h
/-- what was new may change -/
theorem GrowW.grow {w : Addr} {H H1 H' : Hp} (g : Grow H H1) (x : GrowW w H1 H') (h : H w = none) : Grow H H' := fun a o e => by
  have n : a ≠ w := fun z => by rw [z, h] at e; cases e
  rcases g a o e with q | ⟨q, ps, q2, q3⟩
  · exact x a o n q
  · rcases x a _ n q2 with z | ⟨_, z⟩
    · exact .inr ⟨q, ps, z, q3⟩
    · exact .inr ⟨q, z⟩
def spWi (C : Addr) : Sp := fun vs H Q _ => ∃ (p dx f0 : Addr) (xk : V) (ks : List Kd1), vs = [.ref p, xk, .ref f0] ∧ H p = some (.ins C dx []) ∧ EncT H (ksD ks) xk ∧ KdsOk ks ∧ H f0 = some (.tup []) ∧ ∀ H', GrowW p H H' → Q .non H'
section
variable {P : Program} {w : World} {K : PySem.W.Frag} {mg : Str → Option Value} {base : Heap}
theorem ok_wi {C f fK fN : Addr} {fd fdK fdN : FuncData} (F : Fun K "__init__" "World.__init__" sWi f fd) (T : TxW K mg C)
    (GK : FnOk P w K mg base CX0 1 fK fdK ["kinds"] spMk) (DK : Df K mg "makers_by_kind" ["kinds"] fK fdK)
    (GN : FnOk P w K mg base CX0 1 fN fdN ["kinds"] spMn) (DN : Df K mg "makers_by_name" ["kinds"] fN fdN) : FnOk P w K mg base CX0 2 f fd ["self", "kinds", "functions"] (spWi C) := by
  refine F.ok (k := 1) cWi (fun vs H Q E h => ?_) (fun cdv A outer s H vs Q E hr h => ?_)
  · obtain ⟨_, _, _, _, _, rfl, _⟩ := h
    rfl
  · obtain ⟨p, dx, f0, xk, ks, rfl, hp, ek, ok, hf0, k⟩ := h
    refine ⟨_, (pss_cons (ps_fld (pv 0) (pe_call (GK.mono (by decide)) hr (by rfl) DK.g DK.k DK.b .nil pass0 (pa_cons (pv 1) pa_nil)) rfl) (pss_cons (ps_fld (pv 0) (pe_call (GN.mono (by decide)) hr (by rfl) DN.g DN.k DN.b .nil pass0 (pa_cons (pv 1) pa_nil)) rfl) (pss_one (ps_fld (pv 0) (pe_dc (own := [("function", 3)]) (g := gName 3) (tt := tYes) (by rfl) cWi.nd (pi_tup (pv 2)) (blkOk_by (own := [("function", 3)]) (N := ["self", "kinds", "functions", "function"]) (sc := defScope sWi) (by decide +kernel)) (fun _ _ _ _ _ => (pg_name (i := 3) cWi.nd rfl (Or.inl rfl))) (fun _ _ _ _ _ => pts_nil) (fun _ _ _ _ _ => (pe_ix (r := rIxT K) ix_tup (pv 3) pe_int (fun _ _ => rfl))) (fun _ _ _ _ _ => (pe_tup (pa_cons (pe_ix (r := rIxT K) ix_tup (pv 3) pe_int (fun _ _ => rfl)) (pa_cons (pe_ix (r := rIxT K) ix_tup (pv 3) pe_int (fun _ _ => rfl)) pa_nil))))) rfl)))), ?_⟩
    have nf : f0 ≠ p := fun z => by rw [z, hp] at hf0; cases hf0
    refine ⟨_, rfl, xk, ks, rfl, ek, ok.nd, ok.le, fun d1 ms1 H1 h1 hd1 em1 g1 => ?_⟩
    refine ⟨_, rfl, p, C, dx, [], rfl, g1.ins hp, T.cl, T.n1, (by show 0 < 1000; decide), ?_⟩
    have w1 := g1.w.trans' (GrowW.upd (w := p) (o := .ins C dx (putF "kinds" (.ref d1) [])))
    have hp1 : L2.upd H1 p (.ins C dx (putF "kinds" (.ref d1) [])) p = some (.ins C dx (putF "kinds" (.ref d1) [])) := upd_same
    generalize L2.upd H1 p (.ins C dx (putF "kinds" (.ref d1) [])) = H2 at w1 hp1 ⊢
    refine ⟨_, rfl, xk, ks, rfl, ek.growW w1 (fun z => z) (noTupI hp), ok.ndm, ok.ml, fun d2 ms2 H3 h2 hd2 em2 g2 => ?_⟩
    refine ⟨_, rfl, p, C, dx, _, rfl, g2.ins hp1, T.cl, T.n2, (by show 1 < 1000; decide), ?_⟩
    have w2 := (w1.trans' g2.w).trans' (GrowW.upd (w := p) (o := .ins C dx (putF "makers" (.ref d2) (putF "kinds" (.ref d1) []))))
    have hp2 : L2.upd H3 p (.ins C dx (putF "makers" (.ref d2) (putF "kinds" (.ref d1) []))) p = some (.ins C dx [("kinds", .ref d1), ("makers", .ref d2)]) := upd_same
    generalize L2.upd H3 p (.ins C dx (putF "makers" (.ref d2) (putF "kinds" (.ref d1) []))) = H4 at w2 hp2 ⊢
    have hf4 : H4 f0 = some (.tup []) := by
      rcases w2 f0 _ nf hf0 with q | ⟨⟨_, q⟩, _⟩
      · exact q
      · cases q
    refine ⟨_, rfl, f0, rfl, ⟨_, SqT.of hf4⟩, fun D hD => ?_⟩
    refine dc_tup (xs := []) (fun i Hc => Grow H4 Hc) (Grow.new hD) (fun i Hc _ hz => SqT.of (hz.tup hf4)) (fun i z Hc hz hy => by cases hz) (fun H5 hy => ?_)
    refine ⟨_, rfl, p, C, dx, _, rfl, hy.ins hp2, T.cl, T.n3, (by show 2 < 1000; decide), ?_⟩
    exact k _ ((w2.trans' hy.w).trans' GrowW.upd)
end
end J1
set_option Elab.async false
set_option linter.all false
set_option maxRecDepth 100000
set_option maxHeartbeats 4000000
namespace J1
open PySem PySem.Spec PyProof.Rows L2 GxR GA ZS
abbrev sAf : Stmt := top 44
theorem cAf : FnScope ["kinds", "thing", "names", "function"] ["kinds", "thing"] (defScope sAf) := ⟨rfl, rfl, rfl, by decide +kernel, rfl, by decide +kernel, by decide +kernel⟩
abbrev sCo : Stmt := top 42
theorem cCo : FnScope ["thing", "kinds", "functions", "name", "_", "world", "function"] ["thing"] (defScope sCo) := ⟨rfl, rfl, rfl, by decide +kernel, rfl, by decide +kernel, by decide +kernel⟩
abbrev sNc : Stmt := top 43
theorem cNc : FnScope ["thing"] ["thing"] (defScope sNc) := ⟨rfl, rfl, rfl, by decide +kernel, rfl, by decide +kernel, by decide +kernel⟩
theorem pss_no {X : Cx} {b : List Stmt} : PSs X b (fun _ _ _ => False) := ⟨fun _ _ _ _ _ _ h => h.elim⟩
theorem ps_no {X : Cx} {b : Stmt} : PS X b (fun _ _ _ => False) := ⟨fun _ _ _ _ _ _ h => h.elim⟩
def coreD (ks : List Kd1) : Da := .tup [ksD ks, .tup []]
theorem isKin_of {ks : List Kd1} (ok : KdsOk ks) {m : Mk1 × Str} (hm : m ∈ mksOf ks) {f : Str} (hf : f ∈ m.1.2) : isKin (.str f) = true := by
  show (decide (f = "whole") || isHig (.str f)) = true
  rcases ok.fk m hm f hf with z | z
  · rw [decide_eq_true z]; rfl
  · obtain ⟨k, hk, rfl⟩ := List.mem_map.mp z
    rw [ok.hi k hk, Bool.or_true]
theorem mks_mem {ks : List Kd1} {k : Kd1} {m : Mk1} (hk : k ∈ ks) (hm : m ∈ k.2) : (m, k.1) ∈ mksOf ks := by
  unfold mksOf
  rw [List.mem_flatten]
  exact ⟨_, List.mem_map.mpr ⟨k, hk, rfl⟩, List.mem_map.mpr ⟨m, hm, rfl⟩⟩
theorem areK_ok {ks : List Kd1} (ok : KdsOk ks) : areKinds (ksD ks) = true := by
  show (decide ((ks.map kdD).length ≤ 8) && (ks.map kdD).all isEntry) = true
  rw [List.length_map, decide_eq_true ok.le, Bool.true_and, List.all_eq_true]
  intro d hd
  obtain ⟨k, hk, rfl⟩ := List.mem_map.mp hd
  have h1 := ok.m1 k hk
  show (isHig (.str k.1) && (decide (1 ≤ (k.2.map mkD).length) && (decide ((k.2.map mkD).length ≤ 8) && (k.2.map mkD).all isMaker))) = true
  rw [ok.hi k hk, List.length_map, decide_eq_true h1.1, decide_eq_true h1.2, Bool.true_and, Bool.true_and, Bool.true_and, List.all_eq_true]
  intro d hd
  obtain ⟨m, hm, rfl⟩ := List.mem_map.mp hd
  have hmem := mks_mem hk hm
  show (isHig (.str m.1) && (decide ((m.2.map Da.str).length ≤ 5) && (m.2.map Da.str).all isKin)) = true
  have h2 := ok.him _ hmem
  have h3 := ok.fl _ hmem
  rw [h2, List.length_map, decide_eq_true h3, Bool.true_and, Bool.true_and, List.all_eq_true]
  intro d hd
  obtain ⟨f, hf, rfl⟩ := List.mem_map.mp hd
  exact isKin_of ok hmem hf
def spAf : Sp := fun vs H Q _ => ∃ (x : V) (f0 : Addr), vs = [x, .ref f0] ∧ H f0 = some (.tup []) ∧ ∀ H', Grow H H' → Q (.bl true) H'
def spCo (T : Hp → Prop) : Sp := fun vs H Q _ => ∃ (x : V) (ks : List Kd1), vs = [x] ∧ EncT H (coreD ks) x ∧ KdsOk ks ∧ T H ∧ ∀ H', Grow H H' → Q (.bl true) H'
def spNc (T : Hp → Prop) : Sp := fun vs H Q _ => ∃ (x : V) (ks : List Kd1), vs = [x] ∧ EncT H (coreD ks) x ∧ KdsOk ks ∧ T H ∧ ∀ H', Grow H H' → Q .non H'
section
variable {P : Program} {w : World} {K : PySem.W.Frag} {mg : Str → Option Value} {base : Heap}
theorem ok_af {f fT : Addr} {fd fdT : FuncData} {tP : Tok} (F : Fun K "_are_functions" "_are_functions" sAf f fd) (hMF : mg "MOST_FUNCTIONS" = some (.int 12 tP))
    (GT : FnOk P w K mg base CX0 1 fT fdT ["thing", "least", "most"] (spF3 isTu)) (DT : Df K mg "is_tuple" ["thing", "least", "most"] fT fdT) : FnOk P w K mg base CX0 4 f fd ["kinds", "thing"] spAf := by
  refine F.ok (k := 3) cAf (fun vs H Q E h => ?_) (fun cdv A outer s H vs Q E hr h => ?_)
  · obtain ⟨_, _, rfl, _⟩ := h
    rfl
  · obtain ⟨x, f0, rfl, hf, k⟩ := h
    have hu := hu_of hr
    refine ⟨_, (pss_cons (ps_if (pt_not (pt_val (pe_call (GT.mono (by decide)) hr (by rfl) DT.g DT.k DT.b .nil pass0 (pa_cons (pv 1) (pa_cons pe_int (pa_cons (pe_glob (v := .int 12) (by rfl) hMF ⟨_, rfl⟩) pa_nil)))))) (pss_one (ps_ret pe_bl)) pss_nil) (pss_cons (ps_set (i := 2) cAf.nd rfl (Or.inl rfl) pe_dnewK) (pss_cons (ps_for PassesOwn.never rfl (pi_tup (pv 1)) (pg_name (i := 3) cAf.nd rfl (Or.inl rfl)) pss_no) (pss_one (ps_ret pe_bl))))), ?_⟩
    have ef : Enc H (.tup []) (.ref f0) := .tup hf .nil
    refine ⟨_, rfl, .ref f0, _, 0, 12, rfl, ef, _, rfl, iteF fun D hD => ⟨_, rfl, f0, rfl, ⟨_, SqT.of ((Grow.new hD).tup hf)⟩, ?_⟩⟩
    exact ⟨fun i m σ' Hc => Grow H Hc, ⟨0, Grow.new hD⟩, fun i m σ' Hc hw => .inl ⟨⟨[], SqT.of (hw.tup hf), Nat.zero_le _⟩, k Hc hw⟩⟩
theorem ok_co {f fT fK fF fA fW fR c PT CW : Addr} {fd fdT fdK fdF fdA fdW fdR : FuncData} {T TK TF : Hp → Prop} {tW : Tok} {spAr : Sp} (F : FunC K "is_core" "is_core" sCo f fd c) (N : Gn K mg) (hW : mg "WHOLE" = some (.str "whole" tW)) (TB : TabB base mg c PT) (st : Stays T) (hTP : ∀ H, T H → TabG H PT) (hTK : ∀ H, T H → TK H) (hTF : ∀ H, T H → TF H)
    (GT : FnOk P w K mg base CX0 1 fT fdT ["thing", "least", "most"] (spF3 isTu)) (DT : Df K mg "is_tuple" ["thing", "least", "most"] fT fdT)
    (GK : FnOk P w K mg base CX0 9 fK fdK ["thing"] (spG TK areKinds)) (DK : Df K mg "are_kinds" ["thing"] fK fdK)
    (GF : FnOk P w K mg base CX0 2 fF fdF ["kinds"] (spKf TF)) (DF : Df K mg "kinds_fault" ["kinds"] fF fdF)
    (GA' : FnOk P w K mg base CX0 4 fA fdA ["kinds", "thing"] spAf) (DA : Df K mg "_are_functions" ["kinds", "thing"] fA fdA)
    (GW : FnOk P w K mg base CX0 2 fW fdW ["self", "kinds", "functions"] (spWi CW)) (TW : TxW K mg CW) (MW : Mk K CW fW) (BW : Binds K fdW ["self", "kinds", "functions"] [])
    (GR : FnOk P w K mg base CX0 6 fR fdR ["world", "function"] spAr) (DR : Df K mg "are_rows" ["world", "function"] fR fdR) : FnOk P w K mg base CX0 11 f fd ["thing"] (spCo T) := by
  refine F.ok (k := 10) cCo (fun vs H Q E h => ?_) (fun A outer s H vs Q E hr h => ?_)
  · obtain ⟨_, _, rfl, _⟩ := h
    rfl
  · obtain ⟨x, ks, rfl, en, ok, hT, k⟩ := h
    refine ⟨_, (pss_cons (ps_if (PW.pt (pw_or (pt_not (pt_val (pe_call (GT.mono (by decide)) hr (by rfl) DT.g DT.k DT.b .nil pass0 (pa_cons (pv 0) (pa_cons pe_int (pa_cons pe_int pa_nil)))))) (pw_or (pt_not (pt_val (pe_call (GK.mono (by decide)) hr (by rfl) DK.g DK.k DK.b .nil pass0 (pa_cons (pe_ix ix_tup (pv 0) pe_int (fun _ _ => rfl)) pa_nil)))) (pw_or1 (pt_cmpR op_notN (pe_call (GF.mono (by decide)) hr (by rfl) DF.g DF.k DF.b .nil pass0 (pa_cons (pe_ix ix_tup (pv 0) pe_int (fun _ _ => rfl)) pa_nil)) pe_non (nomark _)))))) (pss_one (ps_ret pe_bl)) pss_nil) (pss_cons (ps_asg (pv 0) (pg_tup (by rfl) (pgs_cons (pg_name (i := 1) cCo.nd rfl (Or.inl rfl)) (pgs_cons (pg_name (i := 2) cCo.nd rfl (Or.inl rfl)) pgs_nil)))) (pss_cons (ps_if (pt_not (pt_val (pe_call (GA'.mono (by decide)) hr (by rfl) DA.g DA.k DA.b .nil pass0 (pa_cons (pe_op op_cat (pe_lst (pa_cons (pe_glob (v := .str "whole") (by rfl) hW ⟨_, rfl⟩) pa_nil)) (pe_lc (own := [("name", 3), ("_", 4)]) (g := gTup K 2 (gCons (gName 3) (gCons (gName 4) gNil))) (tt := tYes) (by rfl) cCo.nd (pi_tup (pv 1)) (blkOk_by (own := [("name", 3), ("_", 4)]) (N := ["thing", "kinds", "functions", "name", "_", "world", "function"]) (sc := defScope sCo) (by decide +kernel)) (fun _ _ _ _ _ => (pg_tup (by rfl) (pgs_cons (pg_name (i := 3) cCo.nd rfl (Or.inl rfl)) (pgs_cons (pg_name (i := 4) cCo.nd rfl (Or.inl rfl)) pgs_nil)))) (fun _ _ _ _ _ => pts_nil) (fun _ _ _ _ _ => (pv 3)))) (pa_cons (pv 2) pa_nil))))) (pss_one (ps_ret pe_bl)) pss_nil) (pss_cons (ps_set (i := 5) cCo.nd rfl (Or.inr rfl) (pe_make MW GW (hr.mono (by decide)) rfl TW.mgC BW .nil pass0 (pa_cons (pv 1) (pa_cons (pv 2) pa_nil)))) (pss_one (ps_ret (pe_allG (k := 9) (own := [("function", 6)]) hr rfl (by rfl) N.na cCo.nd TB rfl ⟨rfl, by decide +kernel, rfl⟩ (blkOk_by (by show blkC ["thing", "kinds", "functions", "name", "_", "world", "function"] (defScope sCo) _ [("function", 6)] = true; decide +kernel)) (pi_tup (pv 2)) (fun _ _ _ _ _ _ _ => pg_name cCo.nd (i := 6) rfl (.inl rfl)) (fun _ _ _ _ _ _ _ => pts_nil) (fun _ _ _ _ _ _ hr' => (pe_call (GR.mono (by decide)) hr' (by rfl) DR.g DR.k DR.b .nil pass0 (pa_cons (pv 5) (pa_cons (pv 6) pa_nil))))))))))), ?_⟩
    refine ⟨_, rfl, x, _, 2, 2, rfl, en.any, _, rfl, ?_⟩
    cases en with
    | @tup a xs _ ha es =>
    cases es with
    | @cons _ x0 _ _ e0 es =>
    cases es with
    | @cons _ x1 _ _ e1 es =>
    cases es
    cases e1 with
    | @tup f0 xs1 _ hf0 es1 =>
    cases es1
    refine iteF ⟨_, rfl, a, _, _, _, rfl, rfl, SqT.of ha, at_of (j := 0) rfl rfl, x0, _, rfl, e0.any, hTK _ hT, fun H1 g1 => ⟨_, rfl, ?_⟩⟩
    rw [areK_ok ok]
    refine iteF ⟨_, rfl, a, _, _, _, rfl, rfl, SqT.of (g1.tup ha), at_of (j := 0) rfl rfl, x0, ks, rfl, e0.grow g1, ok, hTF _ (st _ _ g1 hT), fun H2 g2 => ?_⟩
    refine ⟨rfl, _, rfl, ?_⟩
    have g12 := g1.trans g2
    refine iteF ⟨_, rfl, a, _, rfl, SqT.of (g12.tup ha), rfl, _, _, rfl, _, _, rfl, rfl, ?_⟩
    have e0' := e0
    cases e0' with
    | @tup a0 xs0 _ ha0 es0 =>
    have hl := es0.length
    rw [List.length_map] at hl
    refine ⟨(by show 1 ≤ sizeLine; decide), fun l hl0 => ⟨_, rfl, a0, rfl, ⟨_, SqT.of ((g12.trans (Grow.new hl0)).tup ha0)⟩, fun D hD => ?_⟩⟩
    have g3 := g12.trans (Grow.new (o := .lst [.str "whole"]) hl0)
    have hl3 := upd_same (H := H2) (a := l) (o := .lst [.str "whole"])
    generalize upd H2 l (.lst [.str "whole"]) = H3 at g3 hl3 hD ⊢
    have hle := ok.le
    refine lc_tup (K := K) (xs := xs0) (fun i Hc => Hc D = some (.lst (((ks.take i).map (·.1)).map V.str)) ∧ Grow H3 Hc) ⟨upd_same, Grow.new hD⟩ (fun i Hc _ hp => SqT.of (hp.2.tup (g3.tup ha0))) (fun i z Hc hz hp => ?_) (fun H4 hp => ?_)
    · obtain ⟨hacc, g⟩ := hp
      obtain ⟨d1, hd1, ez⟩ := es0.get hz
      obtain ⟨kd, hkd, rfl⟩ := map_get hd1
      have ez := (ez.grow g3).grow g
      cases ez with
      | @tup b ys _ hb eb =>
      cases eb with
      | @cons _ y0 _ _ e0 eb =>
      cases eb with
      | @cons _ y1 _ _ e1 eb =>
      cases eb
      cases e0
      refine ⟨b, _, rfl, SqT.of hb, rfl, _, _, rfl, _, _, rfl, rfl, rfl, ?_⟩
      unfold tYes
      refine iteT ⟨_, rfl, _, hacc, ?_, ?_, g.upd' hD⟩
      · rw [List.length_map, List.length_map, List.length_take, sizeLine_eq]
        omega
      · rw [upd_same, List.take_succ, hkd, List.map_append, List.map_append]
        rfl
    obtain ⟨h4, g⟩ := hp
    rw [← hl, List.take_length] at h4
    refine ⟨l, D, _, _, rfl, rfl, g.lst hl3, h4, ?_, fun p hp => ?_⟩
    · rw [List.length_map, List.length_map, sizeLine_eq]
      show 1 + ks.length ≤ _
      omega
    have g5 := (g3.trans g).trans (Grow.new (o := .lst ([.str "whole"] ++ (ks.map (·.1)).map V.str)) hp)
    generalize upd H4 p (.lst ([.str "whole"] ++ (ks.map (·.1)).map V.str)) = H5 at g5 ⊢
    refine ⟨_, rfl, _, f0, rfl, g5.tup hf0, fun H6 g6 => ⟨_, rfl, iteF ?_⟩⟩
    have g06 := g5.trans g6
    refine ⟨_, rfl, _, rfl, fun x dx nx ndx nex => ?_⟩
    have hxn : H x = none := g06.none' nx
    have g7 : Grow H6 (L2.upd (L2.upd H6 dx (.own x)) x (.ins CW dx [])) := fun b o h => .inl (by rw [upd_ne (ne_of_none h nx), upd_ne (ne_of_none h ndx)]; exact h)
    have g07 := g06.trans g7
    refine ⟨x, dx, f0, .ref a0, ks, rfl, upd_same, e0.grow g07, ok, g07.tup hf0, fun H8 w8 => ⟨rfl, ?_⟩⟩
    have g08 : Grow H H8 := w8.grow g07 hxn
    refine ⟨_, rfl, f0, rfl, ⟨_, SqT.of (g08.tup hf0)⟩, rd_allM (T := T) (l := []) (g08.tup hf0) .nil st (st _ _ g08 hT) (hTP _ (st _ _ g08 hT)) (fun y d H9 R hd _ _ _ => (nomatch hd)) fun H9 g9 => k H9 (g08.trans g9)⟩
theorem ok_nc {f fC : Addr} {fd fdC : FuncData} {T : Hp → Prop} (F : Fun K "need_core" "need_core" sNc f fd)
    (GC : FnOk P w K mg base CX0 11 fC fdC ["thing"] (spCo T)) (DC : Df K mg "is_core" ["thing"] fC fdC) : FnOk P w K mg base CX0 12 f fd ["thing"] (spNc T) := by
  refine F.ok (k := 11) cNc (fun vs H Q E h => ?_) (fun cdv A outer s H vs Q E hr h => ?_)
  · obtain ⟨_, _, rfl, _⟩ := h
    rfl
  · obtain ⟨x, ks, rfl, en, ok, hT, k⟩ := h
    refine ⟨_, (pss_one (ps_if (pt_not (pt_val (pe_call (GC.mono (by decide)) hr (by rfl) DC.g DC.k DC.b .nil pass0 (pa_cons (pv 0) pa_nil)))) (pss_one ps_no) pss_nil)), ?_⟩
    exact ⟨_, rfl, x, ks, rfl, en, ok, hT, fun H1 g1 => ⟨_, rfl, iteF (k H1 g1)⟩⟩
end
end J1
set_option Elab.async false
set_option linter.all false
set_option maxRecDepth 100000
set_option maxHeartbeats 4000000
namespace J1
open PySem PySem.Spec PyProof.Rows L2 GxR GA ZS RZ
abbrev sAs : Stmt := top 47
theorem cAs : FnScope ["keys", "one", "two"] ["keys"] (defScope sAs) := ⟨rfl, rfl, rfl, by decide +kernel, rfl, by decide +kernel, by decide +kernel⟩
theorem cut1 (xs : List V) : cutV xs (some 1) none = xs.drop 1 := by
  unfold cutV
  rw [HT.sIx_none, show HT.sIx xs.length 0 (some 1) = min 1 xs.length from HT.sIx_nat _ _ 1]
  cases xs with
  | nil => rfl
  | cons x r =>
    rw [show min 1 (x :: r).length = 1 by rw [List.length_cons]; omega]
    rw [List.take_of_length_le]
    simp
theorem rep_push (i : Nat) : (List.replicate i true).map V.bl ++ [V.bl true] = (List.replicate (i + 1) true).map V.bl := by
  rw [List.replicate_succ', List.map_append]
  rfl
theorem rep_all (i : Nat) : (List.replicate i true).all id = true := by
  rw [List.all_eq_true]
  intro b hb
  exact (List.mem_replicate.mp hb).2
theorem none_upd {H : Hp} {q D : Addr} {o : HO} (h : L2.upd H q o D = none) : H D = none := by
  by_cases e : D = q
  · subst e
    rw [upd_same] at h
    cases h
  · rw [upd_ne e] at h
    exact h
theorem pw_next {α : Type} {R : α → α → Prop} : ∀ {l : List α} {i : Nat} {a b : α}, l.Pairwise R → l[i]? = some a → (l.drop 1)[i]? = some b → R a b := by
  intro l i a b h ha hb
  rw [List.getElem?_drop] at hb
  rw [List.pairwise_iff_getElem] at h
  obtain ⟨i1, e1⟩ := List.getElem?_eq_some_iff.mp ha
  obtain ⟨i2, e2⟩ := List.getElem?_eq_some_iff.mp hb
  have q := h i (1 + i) i1 i2 (by omega)
  rw [e1, e2] at q
  exact q
abbrev Pr := Int × Int
def prL (q : Pr) : List Int := [q.1, q.2]
def prLt (a b : Pr) : Prop := HT.lexLt (prL a) (prL b) = true
def spAs : Sp := fun vs H Q _ => ∃ (p : Addr) (ts : List (Addr × Pr)), vs = [.ref p] ∧ H p = some (.lst (ts.map fun t => V.ref t.1)) ∧ ts.length ≤ 12 ∧ (∀ t ∈ ts, H t.1 = some (.tup ((prL t.2).map V.int))) ∧ (ts.map (·.2)).Pairwise prLt ∧ ∀ H', Grow H H' → Q (.bl true) H'
structure Gz (mg : Str → Option Value) : Prop where
  zip : mg "zip" = none
section
variable {P : Program} {w : World} {K : PySem.W.Frag} {mg : Str → Option Value} {base : Heap}
theorem ok_as {f : Addr} {fd : FuncData} (F : Fun K "is_ascending" "is_ascending" sAs f fd) (N : Gn K mg) (G : Gz mg) : FnOk P w K mg base CX0 1 f fd ["keys"] spAs := by
  refine F.ok cAs (fun vs H Q E h => ?_) (fun cdv A outer s H vs Q E hr h => ?_)
  · obtain ⟨p, ts, rfl, _⟩ := h
    rfl
  · obtain ⟨a, ts, rfl, ha, hl, tr, hp0, k⟩ := h
    have hu1 := Nat.lt_of_succ_lt (hu_of hr)
    refine ⟨_, (pss_one (ps_ret (pe_callB (cr_all (by rfl)) (by rfl) N.na (by decide +kernel) (pa_cons (pe_lc (own := [("one", 1), ("two", 2)]) (g := gTup K 2 (gCons (gName 1) (gCons (gName 2) gNil))) (tt := tYes) (by rfl) cAs.nd (pi_zipA (by rfl) G.zip (pa_cons (pv 0) (pa_cons (pe_slice sl_list (pv 0) (po_some pe_int) po_none) pa_nil))) (blkOk_by (own := [("one", 1), ("two", 2)]) (N := ["keys", "one", "two"]) (sc := defScope sAs) (by decide +kernel)) (fun _ _ _ _ _ => (pg_tup (by rfl) (pgs_cons (pg_name (i := 1) cAs.nd rfl (Or.inl rfl)) (pgs_cons (pg_name (i := 2) cAs.nd rfl (Or.inl rfl)) pgs_nil)))) (fun _ _ _ _ _ => pts_nil) (fun _ _ _ _ _ => (pe_cmpR (r := rLtT K) (op_ltT hu1) (pv 1) (pv 2) (nomark _)))) pa_nil)))), ?_⟩
    refine ⟨_, rfl, _, rfl, _, rfl, ?_⟩
    dsimp only [tNoPart]
    refine ⟨a, _, rfl, SqL.of ha, fun q hq => ?_⟩
    rw [cut1]
    have gq := Grow.new (o := .lst ((ts.map fun t => V.ref t.1).drop 1)) hq
    refine ⟨a, q, _, _, rfl, .inl ⟨SqL.of (gq.lst ha), SqL.of upd_same, fun D hD => ?_⟩⟩
    refine lc_it (walk_zip (xs := ts.map fun t => V.ref t.1) (ys := (ts.map fun t => V.ref t.1).drop 1) (n := ts.length - 1) (by rw [List.length_drop, List.length_map]; omega))
      (fun i Hc => Hc D = some (.lst ((List.replicate i true).map V.bl)) ∧ Hc q = some (.lst ((ts.map fun t => V.ref t.1).drop 1)) ∧ Grow H Hc) ⟨upd_same, (Grow.new hD).lst upd_same, gq.trans (Grow.new hD)⟩ (fun i Hc _ hp => ⟨SqL.of (hp.2.2.lst ha), SqL.of hp.2.1⟩) (fun i x Hc H' hi hp y => ?_) (fun Hc hp => ?_)
    · obtain ⟨T, x1, x2, rfl, hT, rfl, e1, e2⟩ := y
      obtain ⟨hacc, hqc, g3⟩ := hp
      have e1 : (ts.map fun t => V.ref t.1)[i]? = some x1 := e1
      have e2 : ((ts.map fun t => V.ref t.1).drop 1)[i]? = some x2 := e2
      rw [← List.map_drop] at e2
      obtain ⟨t1, q1, rfl⟩ := map_get e1
      obtain ⟨t2, q2, rfl⟩ := map_get e2
      rw [List.pairwise_map] at hp0
      have lt := pw_next hp0 q1 q2
      have h1 := tr t1 (List.mem_of_getElem? q1)
      have h2 := tr t2 (List.mem_of_mem_drop (List.mem_of_getElem? q2))
      have nT : T ≠ D := fun z => by rw [z, hacc] at hT; cases hT
      have nq : T ≠ q := fun z => by rw [z, hqc] at hT; cases hT
      have g4 := g3.upd' (g3.none' hT) (o := .tup [.ref t1.1, .ref t2.1])
      have nD : H D = none := none_upd hD
      refine ⟨T, _, rfl, SqT.of upd_same, rfl, _, _, rfl, _, _, rfl, rfl, rfl, ?_⟩
      unfold tYes
      refine iteT ⟨_, rfl, _, rfl, t1.1, t2.1, _, _, rfl, rfl, SqT.of (g4.tup h1), SqT.of (g4.tup h2), _, by rw [upd_ne (Ne.symm nT)]; exact hacc, ?_, ?_, ?_, g4.upd' nD⟩
      · rw [List.length_map, List.length_replicate, sizeLine_eq]
        omega
      · rw [show HT.lexLt (prL t1.2) (prL t2.2) = true from lt, rep_push]
        exact upd_same
      · have nDq : q ≠ D := fun z => by rw [← z, upd_same] at hD; cases hD
        rw [upd_ne nDq, upd_ne (Ne.symm nq)]
        exact hqc
    · obtain ⟨hacc, _, g3⟩ := hp
      refine ⟨D, _, rfl, SqL.of hacc, ?_⟩
      rw [rep_all]
      exact k _ g3
end
end J1
set_option Elab.async false
set_option linter.all false
set_option maxRecDepth 100000
set_option maxHeartbeats 4000000
namespace J1
open PySem PySem.Spec PyProof.Rows L2 GxR GA ZS RZ
abbrev sFa : Stmt := top 17
theorem cFa : FnScope ["thing"] ["thing"] (defScope sFa) := ⟨rfl, rfl, rfl, by decide +kernel, rfl, by decide +kernel, by decide +kernel⟩
abbrev sKo : Stmt := top 59
theorem cKo : FnScope ["measures", "kind", "_"] ["measures"] (defScope sKo) := ⟨rfl, rfl, rfl, by decide +kernel, rfl, by decide +kernel, by decide +kernel⟩
abbrev sBe : Stmt := top 60
theorem cBe : FnScope ["kinds", "number", "kind"] ["kinds", "number", "kind"] (defScope sBe) := ⟨rfl, rfl, rfl, by decide +kernel, rfl, by decide +kernel, by decide +kernel⟩
abbrev sTm : Stmt := top 68
theorem cTm : FnScope ["kinds", "fields", "thing"] ["kinds", "fields", "thing"] (defScope sTm) := ⟨rfl, rfl, rfl, by decide +kernel, rfl, by decide +kernel, by decide +kernel⟩
/-! ### measures, as data -/
abbrev Tm := Nat × Nat × Int
def tmD (t : Tm) : Da := .tup [.int (t.1 : Nat), .int (t.2.1 : Nat), .int t.2.2]
abbrev Row1 := Int × List Tm
def rowD (r : Row1) : Da := .tup [.int r.1, .tup (r.2.map tmD)]
abbrev Ms1 := Str × List Row1
def msD (m : Ms1) : Da := .tup [.str m.1, .tup (m.2.map rowD)]
def mssD (l : List Ms1) : Da := .tup (l.map msD)
def knS (l : List Ms1) : List Str := "whole" :: l.map (·.1)
structure TmOk (kn fs : List Str) (t : Tm) : Prop where
  bel : ∃ s, kn[t.2.1]? = some s ∧ fs[t.1]? = some s
  c0 : t.2.2 ≠ 0
  cb : t.2.2.natAbs ≤ 1000000
structure RowOk (kn fs : List Str) (r : Row1) : Prop where
  cb : r.1.natAbs ≤ 1000000
  ts : ∀ t ∈ r.2, TmOk kn fs t
  le : r.2.length ≤ 12
  asc : (r.2.map fun t => (((t.1 : Nat) : Int), ((t.2.1 : Nat) : Int))).Pairwise prLt
structure MsOk (ks : List Kd1) (l : List Ms1) : Prop where
  le : l.length ≤ 12
  ms : ∀ m ∈ l, ∃ k ∈ ks, k.1 = m.1 ∧ m.2.length = k.2.length ∧ ∀ (i : Nat) (r : Row1) (mk : Mk1), m.2[i]? = some r → k.2[i]? = some mk → RowOk (knS l) mk.2 r
def isFac (d : Da) : Bool := isBet (-1000000) 1000000 d
theorem bet_ok {lo hi i : Int} (h : lo ≤ i) (g : i ≤ hi) : isBet lo hi (.int i) = true := by
  show (decide (lo ≤ i) && decide (i ≤ hi)) = true
  rw [decide_eq_true h, decide_eq_true g]
  rfl
theorem at_g {α : Type} {xs : List α} {z : Int} {j : Nat} {v : α} (e : z = (j : Int)) (h : xs[j]? = some v) : atI xs z = some v := by
  rw [e]
  exact atI_nat h
theorem fac_ok {i : Int} (h : i.natAbs ≤ 1000000) : isFac (.int i) = true := by
  show (decide ((-1000000 : Int) ≤ i) && decide (i ≤ 1000000)) = true
  rw [Bool.and_eq_true, decide_eq_true_iff, decide_eq_true_iff]
  omega
def spKo : Sp := fun vs H Q _ => ∃ (x : V) (l : List Ms1), vs = [x] ∧ EncT H (mssD l) x ∧ l.length ≤ 12 ∧ ∀ q H', H q = none → H' q = some (.lst ((knS l).map V.str)) → Grow H H' → Q (.ref q) H'
def spBe : Sp := fun vs H Q _ => ∃ (p : Addr) (n : Nat) (s : Str) (kn : List Str), vs = [.ref p, .int (n : Nat), .str s] ∧ H p = some (.lst (kn.map V.str)) ∧ kn[n]? = some s ∧ Q (.bl true) H
def spTm : Sp := fun vs H Q _ => ∃ (p : Addr) (xf xt : V) (kn fs : List Str) (t : Tm), vs = [.ref p, xf, xt] ∧ H p = some (.lst (kn.map V.str)) ∧ EncT H (fsD fs) xf ∧ EncT H (tmD t) xt ∧ TmOk kn fs t ∧ Q (.bl true) H
section
variable {P : Program} {w : World} {K : PySem.W.Frag} {mg : Str → Option Value} {base : Heap}
theorem ok_fac {f fB : Addr} {fd fdB : FuncData} {tF : Tok} (F : Fun K "is_factor" "is_factor" sFa f fd) (hMF : mg "MOST_FACTOR" = some (.int 1000000 tF))
    (GB : FnOk P w K mg base CX0 2 fB fdB ["thing", "least", "most"] (spF3 isBet)) (DB : Df K mg "is_between" ["thing", "least", "most"] fB fdB) : FnOk P w K mg base CX0 3 f fd ["thing"] (spF isFac) := by
  refine F.ok (k := 2) cFa (fun vs H Q E h => ?_) (fun cdv A outer s H vs Q E hr h => ?_)
  · obtain ⟨_, _, rfl, _⟩ := h
    rfl
  · obtain ⟨x, d, rfl, en, k⟩ := h
    refine ⟨_, (pss_one (ps_ret (pe_call (GB.mono (by decide)) hr (by rfl) DB.g DB.k DB.b .nil pass0 (pa_cons (pv 0) (pa_cons (pe_un un_neg (pe_glob (v := .int 1000000) (by rfl) hMF ⟨_, rfl⟩)) (pa_cons (pe_glob (v := .int 1000000) (by rfl) hMF ⟨_, rfl⟩) pa_nil)))))), ?_⟩
    exact ⟨_, rfl, _, rfl, x, d, _, _, rfl, en, k⟩
theorem ok_ko {f : Addr} {fd : FuncData} {tW : Tok} (F : Fun K "kinds_of" "kinds_of" sKo f fd) (hW : mg "WHOLE" = some (.str "whole" tW)) : FnOk P w K mg base CX0 1 f fd ["measures"] spKo := by
  refine F.ok (k := 0) cKo (fun vs H Q E h => ?_) (fun cdv A outer s H vs Q E hr h => ?_)
  · obtain ⟨_, _, rfl, _⟩ := h
    rfl
  · obtain ⟨x, l, rfl, en, le, k⟩ := h
    refine ⟨_, (pss_one (ps_ret (pe_op op_cat (pe_lst (pa_cons (pe_glob (v := .str "whole") (by rfl) hW ⟨_, rfl⟩) pa_nil)) (pe_lc (own := [("kind", 1), ("_", 2)]) (g := gTup K 2 (gCons (gName 1) (gCons (gName 2) gNil))) (tt := tYes) (by rfl) cKo.nd (pi_tup (pv 0)) (blkOk_by (own := [("kind", 1), ("_", 2)]) (N := ["measures", "kind", "_"]) (sc := defScope sKo) (by decide +kernel)) (fun _ _ _ _ _ => (pg_tup (by rfl) (pgs_cons (pg_name (i := 1) cKo.nd rfl (Or.inl rfl)) (pgs_cons (pg_name (i := 2) cKo.nd rfl (Or.inl rfl)) pgs_nil)))) (fun _ _ _ _ _ => pts_nil) (fun _ _ _ _ _ => (pv 1)))))), ?_⟩
    cases en with
    | @tup a xs _ ha es =>
    have hl := es.length
    rw [List.length_map] at hl
    refine ⟨(by show 1 ≤ sizeLine; decide), fun l0 hl0 => ⟨_, rfl, a, rfl, ⟨_, SqT.of ((Grow.new hl0).tup ha)⟩, fun D hD => ?_⟩⟩
    have g0 := Grow.new (o := .lst [.str "whole"]) hl0
    refine lc_tup (K := K) (xs := xs) (fun i Hc => Hc D = some (.lst (((l.take i).map (·.1)).map V.str)) ∧ Grow (upd H l0 (.lst [.str "whole"])) Hc) ⟨upd_same, Grow.new hD⟩ (fun i Hc _ hp => SqT.of (hp.2.tup (g0.tup ha))) (fun i z Hc hz hp => ?_) (fun H1 hp => ?_)
    · obtain ⟨hacc, g⟩ := hp
      obtain ⟨d1, hd1, ez⟩ := es.get hz
      obtain ⟨m, hm, rfl⟩ := map_get hd1
      have ez := (ez.grow g0).grow g
      cases ez with
      | @tup b ys _ hb eb =>
      cases eb with
      | @cons _ y0 _ _ e0 eb =>
      cases eb with
      | @cons _ y1 _ _ e1 eb =>
      cases eb
      cases e0
      refine ⟨b, _, rfl, SqT.of hb, rfl, _, _, rfl, _, _, rfl, rfl, rfl, ?_⟩
      unfold tYes
      refine iteT ⟨_, rfl, _, hacc, ?_, ?_, g.upd' hD⟩
      · rw [List.length_map, List.length_map, List.length_take, sizeLine_eq]
        omega
      · rw [upd_same, List.take_succ, hm, List.map_append, List.map_append]
        rfl
    obtain ⟨h1, g⟩ := hp
    rw [← hl, List.take_length] at h1
    refine ⟨l0, D, _, _, rfl, rfl, g.lst upd_same, h1, ?_, fun p hp => ?_⟩
    · rw [List.length_map, List.length_map, sizeLine_eq]
      show 1 + l.length ≤ _
      omega
    have g1 := (g0.trans g)
    exact k p _ (g1.none' hp) upd_same (g1.trans (Grow.new hp))
theorem ok_be {f fB : Addr} {fd fdB : FuncData} (F : Fun K "belongs" "belongs" sBe f fd) (N : Gn K mg)
    (GB : FnOk P w K mg base CX0 2 fB fdB ["thing", "least", "most"] (spF3 isBet)) (DB : Df K mg "is_between" ["thing", "least", "most"] fB fdB) : FnOk P w K mg base CX0 3 f fd ["kinds", "number", "kind"] spBe := by
  refine F.ok (k := 2) cBe (fun vs H Q E h => ?_) (fun cdv A outer s H vs Q E hr h => ?_)
  · obtain ⟨_, _, _, _, rfl, _⟩ := h
    rfl
  · obtain ⟨p, n, s, kn, rfl, hp, hn, k⟩ := h
    refine ⟨_, (pss_one (ps_ret (pe_and (pe_call (GB.mono (by decide)) hr (by rfl) DB.g DB.k DB.b .nil pass0 (pa_cons (pv 1) (pa_cons pe_int (pa_cons (pe_op op_sub (pe_callB call_len_seq (by rfl) N.nl PySem.boot_len (pa_cons (pv 0) pa_nil)) pe_int) pa_nil)))) (pe_one (pe_cmpR op_eq (pe_ix ix_list (pv 0) (pv 1) (fun _ _ => rfl)) (pv 2) (nomark _)))))), ?_⟩
    have hlt := (List.getElem?_eq_some_iff.mp hn).1
    have hb : isBet 0 (((kn.map V.str).length : Nat) - 1 : Int) (.int (n : Nat)) = true := by
      rw [List.length_map]
      exact bet_ok (by omega) (by omega)
    refine ⟨_, rfl, _, rfl, p, _, rfl, .inl (SqL.of hp), _, _, rfl, rfl, .int (n : Nat), .int (n : Nat), 0, _, rfl, .int _, ?_⟩
    rw [hb]
    refine ⟨true, rfl, ?_⟩
    refine iteT ⟨_, rfl, _, rfl, p, _, _, _, rfl, rfl, SqL.of hp, at_g (j := n) rfl (by rw [List.getElem?_map, hn]; rfl), _, rfl, rfl, ?_⟩
    rw [decide_eq_true rfl]
    exact k
theorem ok_tm {f fT fB fF fL : Addr} {fd fdT fdB fdF fdL : FuncData} (F : Fun K "_is_term" "_is_term" sTm f fd) (N : Gn K mg)
    (GT : FnOk P w K mg base CX0 1 fT fdT ["thing", "least", "most"] (spF3 isTu)) (DT : Df K mg "is_tuple" ["thing", "least", "most"] fT fdT)
    (GB : FnOk P w K mg base CX0 2 fB fdB ["thing", "least", "most"] (spF3 isBet)) (DB : Df K mg "is_between" ["thing", "least", "most"] fB fdB)
    (GF : FnOk P w K mg base CX0 3 fF fdF ["thing"] (spF isFac)) (DF : Df K mg "is_factor" ["thing"] fF fdF)
    (GL : FnOk P w K mg base CX0 3 fL fdL ["kinds", "number", "kind"] spBe) (DL : Df K mg "belongs" ["kinds", "number", "kind"] fL fdL) : FnOk P w K mg base CX0 4 f fd ["kinds", "fields", "thing"] spTm := by
  refine F.ok (k := 3) cTm (fun vs H Q E h => ?_) (fun cdv A outer s H vs Q E hr h => ?_)
  · obtain ⟨_, _, _, _, _, _, rfl, _⟩ := h
    rfl
  · obtain ⟨p, xf, xt, kn, fs, t, rfl, hp, ef, et, ok, k⟩ := h
    refine ⟨_, (pss_cons (ps_if (PW.pt (pw_or (pt_not (pt_val (pe_call (GT.mono (by decide)) hr (by rfl) DT.g DT.k DT.b .nil pass0 (pa_cons (pv 2) (pa_cons pe_int (pa_cons pe_int pa_nil)))))) (pw_or1 (pt_not (pt_val (pe_call (GB.mono (by decide)) hr (by rfl) DB.g DB.k DB.b .nil pass0 (pa_cons (pe_ix ix_tup (pv 2) pe_int (fun _ _ => rfl)) (pa_cons pe_int (pa_cons (pe_op op_sub (pe_callB call_len_seq (by rfl) N.nl PySem.boot_len (pa_cons (pv 1) pa_nil)) pe_int) pa_nil))))))))) (pss_one (ps_ret pe_bl)) pss_nil) (pss_one (ps_ret (pe_and (pe_call (GL.mono (by decide)) hr (by rfl) DL.g DL.k DL.b .nil pass0 (pa_cons (pv 0) (pa_cons (pe_ix ix_tup (pv 2) pe_int (fun _ _ => rfl)) (pa_cons (pe_ix ix_tup (pv 1) (pe_ix ix_tup (pv 2) pe_int (fun _ _ => rfl)) (fun _ _ => rfl)) pa_nil)))) (pe_and (pe_call (GF.mono (by decide)) hr (by rfl) DF.g DF.k DF.b .nil pass0 (pa_cons (pe_ix ix_tup (pv 2) pe_int (fun _ _ => rfl)) pa_nil)) (pe_one (pe_cmpR op_ne (pe_ix ix_tup (pv 2) pe_int (fun _ _ => rfl)) pe_int (nomark _)))))))), ?_⟩
    cases ef with
    | @tup af xfs _ haf efs =>
    have hfl := efs.length
    rw [List.length_map] at hfl
    obtain ⟨sb, hkb, hfb⟩ := ok.bel
    have hflt := (List.getElem?_eq_some_iff.mp hfb).1
    have et0 := et
    cases et with
    | @tup at' ys _ hat es =>
    cases es with
    | @cons _ y0 _ _ e0 es =>
    cases es with
    | @cons _ y1 _ _ e1 es =>
    cases es with
    | @cons _ y2 _ _ e2 es =>
    cases es
    cases e0
    cases e1
    cases e2
    obtain ⟨yf, hyf, eyf⟩ := efs.got (i := t.1) (d := .str sb) (by rw [List.getElem?_map, hfb]; rfl)
    cases eyf
    have hb : isBet 0 ((xfs.length : Nat) - 1 : Int) (.int (t.1 : Nat)) = true := bet_ok (by omega) (by omega)
    refine ⟨_, rfl, .ref at', tmD t, 3, 3, rfl, et0.any, _, rfl, iteF ⟨_, rfl, at', _, _, _, rfl, rfl, SqT.of hat, at_of (j := 0) rfl rfl, _, rfl, af, _, rfl, .inr (SqT.of haf), _, _, rfl, rfl, .int (t.1 : Nat), .int (t.1 : Nat), 0, _, rfl, .int _, ?_⟩⟩
    rw [hb]
    refine ⟨_, rfl, iteF ⟨_, rfl, _, rfl, at', _, _, _, rfl, rfl, SqT.of hat, at_of (j := 1) rfl rfl, _, rfl, _, rfl, at', _, _, _, rfl, rfl, SqT.of hat, at_of (j := 0) rfl rfl, af, _, _, _, rfl, rfl, SqT.of haf, at_g (j := t.1) rfl hyf, p, t.2.1, sb, kn, rfl, hp, hkb, ?_⟩⟩
    refine ⟨true, rfl, iteT ⟨_, rfl, at', _, _, _, rfl, rfl, SqT.of hat, at_of (j := 2) rfl rfl, _, .int t.2.2, rfl, .int _, ?_⟩⟩
    rw [fac_ok ok.cb]
    refine ⟨true, rfl, iteT ⟨_, rfl, at', _, _, _, rfl, rfl, SqT.of hat, at_of (j := 2) rfl rfl, rfl, ?_⟩⟩
    show Q (.bl (!decide (V.int t.2.2 = V.int 0))) H
    rw [decide_eq_false (fun z => ok.c0 (V.int.inj z))]
    exact k
end
end J1
set_option Elab.async false
set_option linter.all false
set_option maxRecDepth 100000
set_option maxHeartbeats 4000000
namespace J1
open PySem PySem.Spec PyProof.Rows L2 GxR GA ZS RZ
abbrev sRw : Stmt := top 67
theorem cRw : FnScope ["kinds", "fields", "thing", "term"] ["kinds", "fields", "thing"] (defScope sRw) := ⟨rfl, rfl, rfl, by decide +kernel, rfl, by decide +kernel, by decide +kernel⟩
abbrev sRs : Stmt := top 66
theorem cRs : FnScope ["kinds", "makers", "thing", "row", "_", "fields"] ["kinds", "makers", "thing"] (defScope sRs) := ⟨rfl, rfl, rfl, by decide +kernel, rfl, by decide +kernel, by decide +kernel⟩
def spRw : Sp := fun vs H Q _ => ∃ (p : Addr) (xf xr : V) (kn fs : List Str) (r : Row1), vs = [.ref p, xf, xr] ∧ H p = some (.lst (kn.map V.str)) ∧ EncT H (fsD fs) xf ∧ EncT H (rowD r) xr ∧ RowOk kn fs r ∧ ∀ H', Grow H H' → Q (.bl true) H'
theorem walk34 {K : PySem.W.Frag} {a b : Addr} {xs ys : List V} {n : Nat} (h1 : n ≤ xs.length) (h2 : n ≤ ys.length) (h3 : xs.length ≤ n ∨ ys.length ≤ n) :
    Walk (ItzT K a b) n (fun H => SqT K H a xs ∧ SqT K H b ys) (YPair (fun i => xs[i]?) (fun i => ys[i]?)) := by
  refine ⟨fun i H hi q => ⟨xs, ys, xs[i]'(by omega), ys[i]'(by omega), q.1, q.2, List.getElem?_eq_getElem _, List.getElem?_eq_getElem _⟩, fun H q => ⟨xs, ys, q.1, q.2, h3⟩, fun i H v H' _ q y => ?_⟩
  obtain ⟨T, x, z, e1, e2, e3, e4, e5⟩ := y
  exact ⟨T, x, z, e1, e2, e3, e4 xs q.1, e5 ys q.2⟩
def prT (t : Tm) : Pr := (((t.1 : Nat) : Int), ((t.2.1 : Nat) : Int))
section
variable {P : Program} {w : World} {K : PySem.W.Frag} {mg : Str → Option Value} {base : Heap}
theorem ok_rw {f fT fF fM fA : Addr} {fd fdT fdF fdM fdA : FuncData} (F : Fun K "_is_row" "_is_row" sRw f fd) (N : Gn K mg)
    (GT : FnOk P w K mg base CX0 1 fT fdT ["thing", "least", "most"] (spF3 isTu)) (DT : Df K mg "is_tuple" ["thing", "least", "most"] fT fdT)
    (GF : FnOk P w K mg base CX0 3 fF fdF ["thing"] (spF isFac)) (DF : Df K mg "is_factor" ["thing"] fF fdF)
    (GM : FnOk P w K mg base CX0 4 fM fdM ["kinds", "fields", "thing"] spTm) (DM : Df K mg "_is_term" ["kinds", "fields", "thing"] fM fdM)
    (GA' : FnOk P w K mg base CX0 1 fA fdA ["keys"] spAs) (DA : Df K mg "is_ascending" ["keys"] fA fdA) : FnOk P w K mg base CX0 5 f fd ["kinds", "fields", "thing"] spRw := by
  refine F.ok (k := 4) cRw (fun vs H Q E h => ?_) (fun cdv A outer s H vs Q E hr h => ?_)
  · obtain ⟨_, _, _, _, _, _, rfl, _⟩ := h
    rfl
  · obtain ⟨p, xf, xr, kn, fs, r, rfl, hp, ef, er, ok, k⟩ := h
    refine ⟨_, (pss_cons (ps_if (PW.pt (pw_or (pt_not (pt_val (pe_call (GT.mono (by decide)) hr (by rfl) DT.g DT.k DT.b .nil pass0 (pa_cons (pv 2) (pa_cons pe_int (pa_cons pe_int pa_nil)))))) (pw_or (pt_not (pt_val (pe_call (GF.mono (by decide)) hr (by rfl) DF.g DF.k DF.b .nil pass0 (pa_cons (pe_ix ix_tup (pv 2) pe_int (fun _ _ => rfl)) pa_nil)))) (pw_or1 (pt_not (pt_val (pe_callB call_isi (by rfl) N.nI boot_isinstance (pa_cons (pe_ix ix_tup (pv 2) pe_int (fun _ _ => rfl)) (pa_cons (pe_bltn (v := .ty "tuple") rfl N.nt (by decide +kernel) rfl) pa_nil))))))))) (pss_one (ps_ret pe_bl)) pss_nil) (pss_cons (ps_if (pt_not (pt_val (pe_callB (cr_all (by rfl)) (by rfl) N.na (by decide +kernel) (pa_cons (pe_lc (own := [("term", 3)]) (g := gName 3) (tt := tYes) (by rfl) cRw.nd (pi_tup (pe_ix ix_tup (pv 2) pe_int (fun _ _ => rfl))) (blkOk_by (own := [("term", 3)]) (N := ["kinds", "fields", "thing", "term"]) (sc := defScope sRw) (by decide +kernel)) (fun _ _ _ _ _ => (pg_name (i := 3) cRw.nd rfl (Or.inl rfl))) (fun _ _ _ _ _ => pts_nil) (fun _ _ _ _ _ => (pe_call (GM.mono (by decide)) hr (by rfl) DM.g DM.k DM.b .nil pass0 (pa_cons (pv 0) (pa_cons (pv 1) (pa_cons (pv 3) pa_nil)))))) pa_nil)))) (pss_one (ps_ret pe_bl)) pss_nil) (pss_one (ps_ret (pe_call (GA'.mono (by decide)) hr (by rfl) DA.g DA.k DA.b .nil pass0 (pa_cons (pe_lc (own := [("term", 3)]) (g := gName 3) (tt := tYes) (by rfl) cRw.nd (pi_tup (pe_ix ix_tup (pv 2) pe_int (fun _ _ => rfl))) (blkOk_by (own := [("term", 3)]) (N := ["kinds", "fields", "thing", "term"]) (sc := defScope sRw) (by decide +kernel)) (fun _ _ _ _ _ => (pg_name (i := 3) cRw.nd rfl (Or.inl rfl))) (fun _ _ _ _ _ => pts_nil) (fun _ _ _ _ _ => (pe_slice (r := rSlA K) sl_tupA (pv 3) po_none (po_some pe_int)))) pa_nil)))))), ?_⟩
    have er0 := er
    cases er with
    | @tup ar ys _ har es =>
    cases es with
    | @cons _ y0 _ _ e0 es =>
    cases es with
    | @cons _ y1 _ _ e1 es =>
    cases es
    cases e0
    have e10 := e1
    cases e1 with
    | @tup a xs _ ha et =>
    have hl := et.length
    rw [List.length_map] at hl
    have hle := ok.le
    obtain ⟨_, _, _, kT⟩ := kitD (.tup (r.2.map tmD))
    refine ⟨_, rfl, .ref ar, rowD r, 2, 2, rfl, er0.any, _, rfl, iteF ⟨_, rfl, ar, _, _, _, rfl, rfl, SqT.of har, at_of (j := 0) rfl rfl, _, .int r.1, rfl, .int _, ?_⟩⟩
    rw [fac_ok ok.cb]
    refine ⟨_, rfl, iteF ⟨_, rfl, ar, _, _, _, rfl, rfl, SqT.of har, at_of (j := 1) rfl rfl, _, _, _, _, _, rfl, .ty "tuple", e10.ty, kit_ty kT, _, rfl, iteF ?_⟩⟩
    refine ⟨_, rfl, ar, _, _, _, rfl, rfl, SqT.of har, at_of (j := 1) rfl rfl, a, rfl, ⟨_, SqT.of ha⟩, fun D hD => ?_⟩
    refine lc_tup (K := K) (xs := xs) (fun i Hc => Hc D = some (.lst ((List.replicate i true).map V.bl)) ∧ Grow H Hc) ⟨upd_same, Grow.new hD⟩ (fun i Hc _ hp => SqT.of (hp.2.tup ha)) (fun i z Hc hz hp2 => ?_) (fun H1 hp2 => ?_)
    · obtain ⟨hacc, g⟩ := hp2
      obtain ⟨d1, hd1, ez⟩ := et.get hz
      obtain ⟨t, ht, rfl⟩ := map_get hd1
      refine ⟨wipe_set, ?_⟩
      unfold tYes
      refine iteT ⟨_, rfl, _, rfl, _, rfl, p, _, _, kn, fs, t, rfl, g.lst hp, ef.grow g, ez.grow g, ok.ts t (List.mem_of_getElem? ht), _, hacc, ?_, ?_, g.upd' hD⟩
      · rw [List.length_map, List.length_replicate, sizeLine_eq]
        have := (List.getElem?_eq_some_iff.mp ht).1
        omega
      · rw [rep_push]
        exact upd_same
    obtain ⟨hacc, g⟩ := hp2
    refine ⟨D, _, rfl, SqL.of hacc, ?_⟩
    rw [rep_all]
    refine ⟨_, rfl, iteF ⟨_, rfl, ar, _, _, _, rfl, rfl, SqT.of (g.tup har), at_of (j := 1) rfl rfl, a, rfl, ⟨_, SqT.of (g.tup ha)⟩, fun E' hE => ?_⟩⟩
    have hE0 := g.none' hE
    refine lc_tup (K := K) (xs := xs) (fun i Hc => ∃ ts : List Addr, Hc E' = some (.lst (ts.map V.ref)) ∧ ts.length = i ∧ (∀ (j : Nat) (q : Addr) (t : Tm), ts[j]? = some q → r.2[j]? = some t → Hc q = some (.tup ((prL (prT t)).map V.int))) ∧ Grow H Hc) ⟨[], upd_same, rfl, fun j q t h _ => (nomatch h), g.trans (Grow.new hE)⟩ (fun i Hc _ hp => SqT.of (hp.choose_spec.2.2.2.tup ha)) (fun i z Hc hz hp2 => ?_) (fun H2 hp2 => ?_)
    · obtain ⟨ts, hacc, htl, htc, g⟩ := hp2
      obtain ⟨d1, hd1, ez⟩ := et.get hz
      obtain ⟨t, ht, rfl⟩ := map_get hd1
      have ez := ez.grow g
      cases ez with
      | @tup b us _ hb eb =>
      cases eb with
      | @cons _ u0 _ _ f0 eb =>
      cases eb with
      | @cons _ u1 _ _ f1 eb =>
      cases eb with
      | @cons _ u2 _ _ f2 eb =>
      cases eb
      cases f0
      cases f1
      cases f2
      refine ⟨wipe_set, ?_⟩
      unfold tYes
      refine iteT ⟨_, rfl, ?_⟩
      dsimp only [tNoPart]
      refine ⟨2, rfl, b, _, rfl, SqT.of hb, (fun h => absurd (show HT.sIx 3 3 (some 2) = 3 from h.2) (by decide)), fun _ q hq => ?_⟩
      have ec : cutV [V.int (t.1 : Nat), V.int (t.2.1 : Nat), V.int t.2.2] none (some 2) = (prL (prT t)).map V.int := rfl
      rw [ec]
      have gq := Grow.new (o := .tup ((prL (prT t)).map V.int)) hq
      have hacc2 := gq.lst hacc
      have nq : q ≠ E' := fun z => by rw [z, hacc] at hq; cases hq
      refine ⟨_, hacc2, ?_, ts ++ [q], ?_, by rw [List.length_append, htl]; rfl, fun j q' t' h1 h2 => ?_, (g.trans gq).upd' hE0⟩
      · rw [List.length_map, htl, sizeLine_eq]
        have := (List.getElem?_eq_some_iff.mp ht).1
        omega
      · rw [upd_same, List.map_append]
        rfl
      · by_cases hj : j < ts.length
        · rw [List.getElem?_append_left hj] at h1
          have h3 := gq.tup (htc j q' t' h1 h2)
          have n3 : q' ≠ E' := fun z => by rw [z, hacc2] at h3; cases h3
          rw [upd_ne n3]
          exact h3
        · rw [List.getElem?_append_right (by omega)] at h1
          have hj0 : j - ts.length = 0 := by
            have := (List.getElem?_eq_some_iff.mp h1).1
            rw [List.length_singleton] at this
            omega
          have hji : j = i := by omega
          rw [hj0] at h1
          cases h1
          rw [hji, ht] at h2
          cases h2
          rw [upd_ne nq]
          exact upd_same
    obtain ⟨ts, hts, htl, htc, g2⟩ := hp2
    rw [← hl] at htl
    have zl : (ts.zip (r.2.map prT)).length = ts.length := by rw [List.length_zip, List.length_map]; omega
    have z1 : (ts.zip (r.2.map prT)).map (fun t => V.ref t.1) = ts.map V.ref := by
      rw [show (fun t : Addr × Pr => V.ref t.1) = V.ref ∘ Prod.fst from rfl, ← List.map_map, List.map_fst_zip (by rw [List.length_map]; omega)]
    have z2 : (ts.zip (r.2.map prT)).map (·.2) = r.2.map prT := List.map_snd_zip (by rw [List.length_map]; omega)
    refine ⟨E', ts.zip (r.2.map prT), rfl, by rw [z1]; exact hts, by omega, fun t ht => ?_, by rw [z2]; exact ok.asc, fun H3 g3 => k H3 (g2.trans g3)⟩
    obtain ⟨j, hj⟩ := List.getElem?_of_mem ht
    rw [List.getElem?_zip_eq_some] at hj
    obtain ⟨h1, h2⟩ := hj
    obtain ⟨t0, ht0, e0⟩ := map_get h2
    rw [e0]
    exact htc j _ _ h1 ht0
def spRs : Sp := fun vs H Q _ => ∃ (p : Addr) (xm xr : V) (kn : List Str) (ms : List Mk1) (rs : List Row1), vs = [.ref p, xm, xr] ∧ H p = some (.lst (kn.map V.str)) ∧ EncT H (mksD ms) xm ∧ EncT H (.tup (rs.map rowD)) xr ∧ rs.length = ms.length ∧ ms.length ≤ 8 ∧
  (∀ (i : Nat) (r : Row1) (mk : Mk1), rs[i]? = some r → ms[i]? = some mk → RowOk kn mk.2 r) ∧ ∀ H', Grow H H' → Q (.bl true) H'
theorem ok_rs {f fT fR : Addr} {fd fdT fdR : FuncData} (F : Fun K "_are_rows" "_are_rows" sRs f fd) (N : Gn K mg) (Z : Gz mg)
    (GT : FnOk P w K mg base CX0 1 fT fdT ["thing", "least", "most"] (spF3 isTu)) (DT : Df K mg "is_tuple" ["thing", "least", "most"] fT fdT)
    (GR : FnOk P w K mg base CX0 5 fR fdR ["kinds", "fields", "thing"] spRw) (DR : Df K mg "_is_row" ["kinds", "fields", "thing"] fR fdR) : FnOk P w K mg base CX0 6 f fd ["kinds", "makers", "thing"] spRs := by
  refine F.ok (k := 5) cRs (fun vs H Q E h => ?_) (fun cdv A outer s H vs Q E hr h => ?_)
  · obtain ⟨_, _, _, _, _, _, rfl, _⟩ := h
    rfl
  · obtain ⟨p, xm, xr, kn, ms, rs, rfl, hp, em, er, hlen, h8, hok, k⟩ := h
    refine ⟨_, (pss_cons (ps_if (pt_not (pt_val (pe_call (GT.mono (by decide)) hr (by rfl) DT.g DT.k DT.b .nil pass0 (pa_cons (pv 2) (pa_cons (pe_callB call_len_seq (by rfl) N.nl PySem.boot_len (pa_cons (pv 1) pa_nil)) (pa_cons (pe_callB call_len_seq (by rfl) N.nl PySem.boot_len (pa_cons (pv 1) pa_nil)) pa_nil)))))) (pss_one (ps_ret pe_bl)) pss_nil) (pss_one (ps_ret (pe_callB (cr_all (by rfl)) (by rfl) N.na (by decide +kernel) (pa_cons (pe_lc (own := [("row", 3), ("_", 4), ("fields", 5)]) (g := gTup K 2 (gCons (gTup K 2 (gCons (gName 4) (gCons (gName 5) gNil))) (gCons (gName 3) gNil))) (tt := tYes) (by rfl) cRs.nd (pi_zipA (by rfl) Z.zip (pa_cons (pv 1) (pa_cons (pv 2) pa_nil))) (blkOk_by (own := [("row", 3), ("_", 4), ("fields", 5)]) (N := ["kinds", "makers", "thing", "row", "_", "fields"]) (sc := defScope sRs) (by decide +kernel)) (fun _ _ _ _ _ => (pg_tup (by rfl) (pgs_cons (pg_tup (by rfl) (pgs_cons (pg_name (i := 4) cRs.nd rfl (Or.inl rfl)) (pgs_cons (pg_name (i := 5) cRs.nd rfl (Or.inl rfl)) pgs_nil))) (pgs_cons (pg_name (i := 3) cRs.nd rfl (Or.inl rfl)) pgs_nil)))) (fun _ _ _ _ _ => pts_nil) (fun _ _ _ _ _ => (pe_call (GR.mono (by decide)) hr (by rfl) DR.g DR.k DR.b .nil pass0 (pa_cons (pv 0) (pa_cons (pv 5) (pa_cons (pv 3) pa_nil)))))) pa_nil))))), ?_⟩
    have er0 := er
    cases em with
    | @tup am xs _ ham es =>
    cases er with
    | @tup ar ys _ har et =>
    have hl1 := es.length
    have hl2 := et.length
    rw [List.length_map] at hl1 hl2
    have htu : isTu (xs.length : Nat) (xs.length : Nat) (.tup (rs.map rowD)) = true := by
      show (decide (((xs.length : Nat) : Int) ≤ ((rs.map rowD).length : Int)) && decide (((rs.map rowD).length : Int) ≤ ((xs.length : Nat) : Int))) = true
      rw [List.length_map, Bool.and_eq_true, decide_eq_true_iff, decide_eq_true_iff]
      omega
    refine ⟨_, rfl, _, rfl, am, _, rfl, .inr (SqT.of ham), _, rfl, am, _, rfl, .inr (SqT.of ham), .ref ar, .tup (rs.map rowD), _, _, rfl, er0.any, ?_⟩
    rw [htu]
    refine ⟨_, rfl, iteF ?_⟩
    refine ⟨_, rfl, _, rfl, am, ar, _, _, rfl, .inr ⟨SqT.of ham, SqT.of har, fun D hD => ?_⟩⟩
    refine lc_it (walk34 (xs := xs) (ys := ys) (n := xs.length) (Nat.le_refl _) (by omega) (.inl (Nat.le_refl _)))
      (fun i Hc => Hc D = some (.lst ((List.replicate i true).map V.bl)) ∧ Grow H Hc) ⟨upd_same, Grow.new hD⟩ (fun i Hc _ hp => ⟨SqT.of (hp.2.tup ham), SqT.of (hp.2.tup har)⟩) (fun i x Hc H' hi hp2 y => ?_) (fun Hc hp2 => ?_)
    · obtain ⟨T, x1, x2, rfl, hT, rfl, e1, e2⟩ := y
      obtain ⟨hacc, g⟩ := hp2
      have e1 : xs[i]? = some x1 := e1
      have e2 : ys[i]? = some x2 := e2
      obtain ⟨d1, hd1, ez⟩ := es.get e1
      obtain ⟨mk, hmk, rfl⟩ := map_get hd1
      obtain ⟨d2, hd2, ew⟩ := et.get e2
      obtain ⟨r, hr2, rfl⟩ := map_get hd2
      have gT := Grow.new (o := .tup [x1, x2]) hT
      have g2 := g.trans gT
      have ez := ez.grow g2
      have ew := ew.grow g2
      cases ez with
      | @tup b us _ hb eb =>
      cases eb with
      | @cons _ u0 _ _ f0 eb =>
      cases eb with
      | @cons _ u1 _ _ f1 eb =>
      cases eb
      cases f0
      refine ⟨T, _, rfl, SqT.of upd_same, rfl, _, _, rfl, b, _, rfl, SqT.of hb, rfl, _, _, rfl, _, _, rfl, rfl, _, _, rfl, rfl, rfl, ?_⟩
      unfold tYes
      refine iteT ⟨_, rfl, _, rfl, _, rfl, p, _, _, kn, mk.2, r, rfl, g2.lst hp, f1, ew, hok i r mk hr2 hmk, fun H3 g3 => ⟨_, g3.lst (gT.lst hacc), ?_, ?_, (g2.trans g3).upd' hD⟩⟩
      · rw [List.length_map, List.length_replicate, sizeLine_eq]
        omega
      · rw [rep_push]
        exact upd_same
    · obtain ⟨hacc, g⟩ := hp2
      refine ⟨D, _, rfl, SqL.of hacc, ?_⟩
      rw [rep_all]
      exact k _ g
end
end J1
set_option Elab.async false
set_option linter.all false
set_option maxRecDepth 100000
set_option maxHeartbeats 4000000
namespace J1
open PySem PySem.Spec PyProof.Rows L2 GxR GA ZS RZ
abbrev sAm : Stmt := top 58
theorem cAm : FnScope ["core", "thing", "makers", "measure", "kinds", "kind", "rows"] ["core", "thing"] (defScope sAm) := ⟨rfl, rfl, rfl, by decide +kernel, rfl, by decide +kernel, by decide +kernel⟩
abbrev sNm : Stmt := top 56
theorem cNm : FnScope ["core", "thing"] ["core", "thing"] (defScope sNm) := ⟨rfl, rfl, rfl, by decide +kernel, rfl, by decide +kernel, by decide +kernel⟩
def spAm : Sp := fun vs H Q _ => ∃ (xc xt : V) (ks : List Kd1) (mss : List Ms1), vs = [xc, xt] ∧ EncT H (coreD ks) xc ∧ EncT H (mssD mss) xt ∧ KdsOk ks ∧ MsOk ks mss ∧ ∀ H', Grow H H' → Q (.bl true) H'
def spNm : Sp := fun vs H Q _ => ∃ (xc xt : V) (ks : List Kd1) (mss : List Ms1), vs = [xc, xt] ∧ EncT H (coreD ks) xc ∧ EncT H (mssD mss) xt ∧ KdsOk ks ∧ MsOk ks mss ∧ ∀ H', Grow H H' → Q .non H'
section
variable {P : Program} {w : World} {K : PySem.W.Frag} {mg : Str → Option Value} {base : Heap}
theorem ok_am {f fT fK fO fR : Addr} {fd fdT fdK fdO fdR : FuncData} {tM : Tok} (F : Fun K "are_measures" "are_measures" sAm f fd) (N : Gn K mg) (hMM : mg "MOST_MEASURES" = some (.int 12 tM))
    (GT : FnOk P w K mg base CX0 1 fT fdT ["thing", "least", "most"] (spF3 isTu)) (DT : Df K mg "is_tuple" ["thing", "least", "most"] fT fdT)
    (GK : FnOk P w K mg base CX0 1 fK fdK ["kinds"] spMk) (DK : Df K mg "makers_by_kind" ["kinds"] fK fdK)
    (GO : FnOk P w K mg base CX0 1 fO fdO ["measures"] spKo) (DO : Df K mg "kinds_of" ["measures"] fO fdO)
    (GR : FnOk P w K mg base CX0 6 fR fdR ["kinds", "makers", "thing"] spRs) (DR : Df K mg "_are_rows" ["kinds", "makers", "thing"] fR fdR) : FnOk P w K mg base CX0 7 f fd ["core", "thing"] spAm := by
  refine F.ok (k := 6) cAm (fun vs H Q E h => ?_) (fun cdv A outer s H vs Q E hr h => ?_)
  · obtain ⟨_, _, _, _, rfl, _⟩ := h
    rfl
  · obtain ⟨xc, xt, ks, mss, rfl, ec, et, ok, mo, k⟩ := h
    have hu := hu_of hr
    refine ⟨_, (pss_cons (ps_if (pt_not (pt_val (pe_call (GT.mono (by decide)) hr (by rfl) DT.g DT.k DT.b .nil pass0 (pa_cons (pv 1) (pa_cons pe_int (pa_cons (pe_glob (v := .int 12) (by rfl) hMM ⟨_, rfl⟩) pa_nil)))))) (pss_one (ps_ret pe_bl)) pss_nil) (pss_cons (ps_set (i := 2) cAm.nd rfl (Or.inr rfl) (pe_call (GK.mono (by decide)) hr (by rfl) DK.g DK.k DK.b .nil pass0 (pa_cons (pe_ix ix_tup (pv 0) pe_int (fun _ _ => rfl)) pa_nil))) (pss_cons (ps_for PassesOwn.never rfl (pi_tup (pv 1)) (pg_name (i := 3) cAm.nd rfl (Or.inl rfl)) (pss_one (ps_if (PW.pt (pw_or (pt_not (pt_val (pe_call (GT.mono (by decide)) hr (by rfl) DT.g DT.k DT.b .nil pass0 (pa_cons (pv 3) (pa_cons pe_int (pa_cons pe_int pa_nil)))))) (pw_or (pt_not (pt_val (pe_callB call_isi (by rfl) N.nI boot_isinstance (pa_cons (pe_ix ix_tup (pv 3) pe_int (fun _ _ => rfl)) (pa_cons (pe_bltn (v := .ty "str") rfl N.ns (by decide +kernel) rfl) pa_nil))))) (pw_or1 (pt_cmp (pc_dnotin hu (pe_ix ix_tup (pv 3) pe_int (fun _ _ => rfl)) (pv 2))))))) (pss_one (ps_ret pe_bl)) pss_nil))) (pss_cons (ps_set (i := 4) cAm.nd rfl (Or.inr rfl) (pe_call (GO.mono (by decide)) hr (by rfl) DO.g DO.k DO.b .nil pass0 (pa_cons (pv 1) pa_nil))) (pss_one (ps_ret (pe_callB (cr_all (by rfl)) (by rfl) N.na (by decide +kernel) (pa_cons (pe_lc (own := [("kind", 5), ("rows", 6)]) (g := gTup K 2 (gCons (gName 5) (gCons (gName 6) gNil))) (tt := tYes) (by rfl) cAm.nd (pi_tup (pv 1)) (blkOk_by (own := [("kind", 5), ("rows", 6)]) (N := ["core", "thing", "makers", "measure", "kinds", "kind", "rows"]) (sc := defScope sAm) (by decide +kernel)) (fun _ _ _ _ _ => (pg_tup (by rfl) (pgs_cons (pg_name (i := 5) cAm.nd rfl (Or.inl rfl)) (pgs_cons (pg_name (i := 6) cAm.nd rfl (Or.inl rfl)) pgs_nil)))) (fun _ _ _ _ _ => pts_nil) (fun _ _ _ _ _ => (pe_call (GR.mono (by decide)) hr (by rfl) DR.g DR.k DR.b .nil pass0 (pa_cons (pv 4) (pa_cons (pe_dget hu (pv 2) (pv 5) (fun _ _ => rfl)) (pa_cons (pv 6) pa_nil)))))) pa_nil)))))))), ?_⟩
    have et0 := et
    cases ec with
    | @tup ac cs _ hac es =>
    cases es with
    | @cons _ c0 _ _ e0 es =>
    cases es with
    | @cons _ c1 _ _ e1 es =>
    cases es
    cases et with
    | @tup a xs _ ha em =>
    have hl := em.length
    rw [List.length_map] at hl
    have hle := mo.le
    have htu : isTu 0 12 (mssD mss) = true := by
      show (decide ((0 : Int) ≤ ((mss.map msD).length : Int)) && decide (((mss.map msD).length : Int) ≤ 12)) = true
      rw [List.length_map, Bool.and_eq_true, decide_eq_true_iff, decide_eq_true_iff]
      omega
    refine ⟨_, rfl, .ref a, mssD mss, 0, 12, rfl, et0.any, ?_⟩
    rw [htu]
    refine ⟨_, rfl, iteF ⟨_, rfl, ac, _, _, _, rfl, rfl, SqT.of hac, at_of (j := 0) rfl rfl, c0, ks, rfl, e0, ok.nd, ok.le, fun D ms H1 hD0 hD ek g1 => ?_⟩⟩
    have got : ∀ (m : Ms1), m ∈ mss → ∃ (kd : Kd1) (x : V), kd ∈ ks ∧ kd.1 = m.1 ∧ valV (dkD (ks.map (·.1)) ms) (Sum.inr m.1 : Key) = some x ∧ EncT H1 (mksD kd.2) x ∧ m.2.length = kd.2.length ∧ ∀ (i : Nat) (r : Row1) (mk : Mk1), m.2[i]? = some r → kd.2[i]? = some mk → RowOk (knS mss) mk.2 r := fun m hm => by
      obtain ⟨kd, hk, e, e2, e3⟩ := mo.ms m hm
      obtain ⟨i, hi⟩ := List.getElem?_of_mem hk
      obtain ⟨x, hx, ex⟩ := ek.got (i := i) (d := mksD kd.2) (by rw [List.getElem?_map, hi]; rfl)
      exact ⟨kd, x, hk, e, dkD_get ok.nd (by rw [List.getElem?_map, hi]; exact congrArg some e) hx, ex, e2, e3⟩
    refine ⟨_, rfl, a, rfl, ⟨_, SqT.of (g1.tup ha)⟩, ?_⟩
    refine for_tup (K := K) (xs := xs) (fun i σ' Hc => ∃ v3, σ' = [some (.ref ac), some (.ref a), some (.ref D), v3, none, none, none] ∧ Grow H1 Hc) ⟨_, rfl, Grow.refl _⟩ (fun i σ' Hc _ hp => ?_) (fun i z σ' Hc hz hp => ?_) (fun σ' Hc hp => ?_)
    · obtain ⟨_, _, g⟩ := hp
      exact SqT.of ((g1.trans g).tup ha)
    · obtain ⟨v3, rfl, g⟩ := hp
      obtain ⟨d1, hd1, ez⟩ := em.get hz
      obtain ⟨m, hm, rfl⟩ := map_get hd1
      have ez := ez.grow (g1.trans g)
      have ez0 := ez
      obtain ⟨kd, x, _, _, hv, _⟩ := got m (List.mem_of_getElem? hm)
      obtain ⟨_, _, kS, _⟩ := kitD (.str m.1)
      cases ez with
      | @tup b us _ hb eb =>
      cases eb with
      | @cons _ u0 _ _ f0 eb =>
      cases eb with
      | @cons _ u1 _ _ f1 eb =>
      cases eb
      cases f0 with
      | str _ hs0 =>
      refine ⟨_, rfl, .ref b, msD m, 2, 2, rfl, ez0.any, _, rfl, iteF ⟨_, rfl, b, _, _, _, rfl, rfl, SqT.of hb, at_of (j := 0) rfl rfl, _, _, _, _, _, rfl, .ty "str", .base (.str _), kit_ty kS, _, rfl, iteF ?_⟩⟩
      refine ⟨_, rfl, b, _, _, _, rfl, rfl, SqT.of hb, at_of (j := 0) rfl rfl, _, rfl, D, _, rfl, DGet.k (k := Sum.inr m.1) (g.dk hD), _, rfl, ?_⟩
      rw [hv]
      exact iteF ⟨_, rfl, g⟩
    · obtain ⟨v3, rfl, g⟩ := hp
      refine ⟨_, rfl, .ref a, mss, rfl, et0.grow (g1.trans g), hle, fun q H2 hq0 hq g2 => ?_⟩
      have g12 := (g1.trans g).trans g2
      have gD := g.trans g2
      refine ⟨_, rfl, a, rfl, ⟨_, SqT.of (g12.tup ha)⟩, fun E' hE => ?_⟩
      refine lc_tup (K := K) (xs := xs) (fun i Hc => Hc E' = some (.lst ((List.replicate i true).map V.bl)) ∧ Grow H2 Hc) ⟨upd_same, Grow.new hE⟩ (fun i Hc _ hp => SqT.of ((g12.trans hp.2).tup ha)) (fun i z Hc hz hp2 => ?_) (fun H3 hp2 => ?_)
      · obtain ⟨hacc, g3⟩ := hp2
        obtain ⟨d1, hd1, ez⟩ := em.get hz
        obtain ⟨m, hm, rfl⟩ := map_get hd1
        have ez := (ez.grow g12).grow g3
        obtain ⟨kd, x, hkd, hkn, hv, ex, e2, e3⟩ := got m (List.mem_of_getElem? hm)
        cases ez with
        | @tup b us _ hb eb =>
        cases eb with
        | @cons _ u0 _ _ f0 eb =>
        cases eb with
        | @cons _ u1 _ _ f1 eb =>
        cases eb
        cases f0
        refine ⟨b, _, rfl, SqT.of hb, rfl, _, _, rfl, _, _, rfl, rfl, rfl, ?_⟩
        unfold tYes
        have hget : DGet Hc D (.str m.1) (some x) := by
          rw [← hv]
          exact DGet.k (k := Sum.inr m.1) ((gD.trans g3).dk hD)
        refine iteT ⟨_, rfl, _, rfl, _, rfl, D, x, rfl, hget, _, rfl, q, x, _, knS mss, kd.2, m.2, rfl, g3.lst hq, (ex.grow gD).grow g3, f1, e2, (ok.m1 kd hkd).2, e3, fun H4 g4 => ⟨_, g4.lst hacc, ?_, ?_, (g3.trans g4).upd' hE⟩⟩
        · rw [List.length_map, List.length_replicate, sizeLine_eq]
          have := (List.getElem?_eq_some_iff.mp hm).1
          omega
        · rw [rep_push]
          exact upd_same
      · obtain ⟨hacc, g3⟩ := hp2
        refine ⟨E', _, rfl, SqL.of hacc, ?_⟩
        rw [rep_all]
        exact k _ (g12.trans g3)
theorem ok_nm {f fA : Addr} {fd fdA : FuncData} (F : Fun K "need_measures" "need_measures" sNm f fd)
    (GA' : FnOk P w K mg base CX0 7 fA fdA ["core", "thing"] spAm) (DA : Df K mg "are_measures" ["core", "thing"] fA fdA) : FnOk P w K mg base CX0 8 f fd ["core", "thing"] spNm := by
  refine F.ok (k := 7) cNm (fun vs H Q E h => ?_) (fun cdv A outer s H vs Q E hr h => ?_)
  · obtain ⟨_, _, _, _, rfl, _⟩ := h
    rfl
  · obtain ⟨xc, xt, ks, mss, rfl, ec, et, ok, mo, k⟩ := h
    refine ⟨_, (pss_one (ps_if (pt_not (pt_val (pe_call (GA'.mono (by decide)) hr (by rfl) DA.g DA.k DA.b .nil pass0 (pa_cons (pv 0) (pa_cons (pv 1) pa_nil))))) (pss_one ps_no) pss_nil)), ?_⟩
    exact ⟨_, rfl, _, rfl, xc, xt, ks, mss, rfl, ec, et, ok, mo, fun H1 g1 => ⟨_, rfl, iteF (k H1 g1)⟩⟩
end
end J1
set_option Elab.async false
set_option linter.all false
set_option maxRecDepth 100000
set_option maxHeartbeats 4000000
namespace J1
open PySem PySem.Spec PyProof.Rows L2 GxR GA HT
section
variable {prog : Program} {w : World} {A : Around} {E : Value → Shared → Prop} {s : Shared}
theorem places_rev (n : Nat) : Builtin.Slice.slicePlaces ((n : Int) - 1) (-1) (-1) = n := by
  unfold Builtin.Slice.slicePlaces
  rw [if_neg (by decide)]
  by_cases h : (n : Int) - 1 > -1
  · rw [if_pos h]
    have e : ((n : Int) - 1 - -1 - 1) / (- -1) + 1 = (n : Int) := by
      rw [show (- -1 : Int) = 1 by decide, Int.ediv_one]
      omega
    rw [e]
    omega
  · rw [if_neg h]
    have : n = 0 := by omega
    subst this
    rfl
theorem sliceApplied_rev {sl : Addr} {vl vu vs : Value} {n : Nat} {Q : Int × Int × Nat → Shared → Prop} (hs : s.heap.IsSliceOf sl vl vu vs) (pl : IsPart vl Option.none) (pu : IsPart vu Option.none) (ps : IsPart vs (some (-1)))
    (h : Q ((n : Int) - 1, -1, n) s) : wpAny (model prog w) A (Builtin.Slice.sliceApplied (.ref sl) (pure (n : Int))) Q E s := by
  obtain ⟨os, hos, hcs, hds⟩ := id hs
  unfold Builtin.Slice.sliceApplied Builtin.Slice.sliceFields
  refine wpAny_bind (wpAny_bind (wpAny_field hos hds (x := vl) rfl (wpAny_bind (wpAny_field hos hds (x := vu) rfl (wpAny_bind (wpAny_field hos hds (x := vs) rfl (wpAny_pure ?_)))))))
  refine wpAny_bind (slicePart_ ps ?_)
  show wpAny _ _ (if ((-1 : Int) == 0) = true then _ else _) _ _ s
  rw [if_neg (by decide)]
  refine wpAny_bind (slicePart_ pl (wpAny_bind (slicePart_ pu (wpAny_bind (wpAny_pure ?_)))))
  show wpAny _ _ (pure ((n : Int) - 1, (-1 : Int), Builtin.Slice.slicePlaces ((n : Int) - 1) (-1) (-1))) _ _ s
  rw [places_rev]
  exact wpAny_pure h
theorem getItem_tuple_rev {t sl : Addr} {items : Array Value} {vl vu vs : Value} {Q : Value → Shared → Prop} (ht : IsTup s.heap t items) (hs : s.heap.IsSliceOf sl vl vu vs) (pl : IsPart vl Option.none) (pu : IsPart vu Option.none) (ps : IsPart vs (some (-1)))
    (h : Q (.ref s.heap.objs.size) { s with heap := s.heap.push { cls := .type "tuple", data := .seq items.toList.reverse.toArray } })
    (hsz : items.size ≤ sizeLine) : wpAny (model prog w) A (getItem (.ref t) (.ref sl)) Q E s := by
  have htake : sizeOk (.seq items.toList.reverse.toArray) := by
    show items.toList.reverse.toArray.size ≤ sizeLine
    rw [List.size_toArray, List.length_reverse, Array.length_toList]
    exact hsz
  obtain ⟨os, hos, hcs, hds⟩ := id hs
  have hTs : s.TypeIs (.ref sl) "slice" := ⟨os, hos, hcs⟩
  unfold getItem
  try with_reducible refine wpAny_holding ?_
  first | refine wpAny_bind (wpAny_pure ?_) | skip
  refine wpAny_bind (wpAny_sequenceKey ht.typeIs (by decide) ?_)
  refine wpAny_bind (wpAny_callSpecial?_slot (name := Str.ofString "__getitem__") ht.typeIs PyProof.Rows.slot_tuple_getitem
    (wpAny_call_entry PyProof.Rows.slot_tuple_getitem ht.typeIs entry_tuple_getitem ?_ (args_tuple_getitem _ _)))
  show wpAny _ _ (Builtin.Tuple.tupleItemsOf (.ref t) >>= _) _ _ s
  refine wpAny_bind (tupleItemsOf_ ht ?_)
  refine wpAny_bind (wpAny_typeOf hTs ?_)
  rw [if_pos (by decide)]
  refine wpAny_bind (sliceApplied_rev hs pl pu ps ?_)
  have hno : ¬ ((((items.size : Int) - 1) == 0 && (-1 : Int) == 1 && items.size == items.size) = true) := by
    intro q
    rw [Bool.and_eq_true, Bool.and_eq_true] at q
    exact absurd q.1.2 (by decide)
  show wpAny _ _ (if (((items.size : Int) - 1) == 0 && (-1 : Int) == 1 && items.size == items.size) = true then _ else _) _ _ s
  have hpick : ((List.range items.size).filterMap fun (m : Nat) => items[(((items.size : Int) - 1) + (m : Int) * -1).toNat]?).toArray = items.toList.reverse.toArray := by
    have e1 : (List.range items.size).filterMap (fun (m : Nat) => items[(((items.size : Int) - 1) + (m : Int) * -1).toNat]?) = ((List.range items.size).map fun k => items.size - 1 - k).filterMap (items[·]?) := by
      rw [List.filterMap_map]
      apply congrArg (fun f => List.filterMap f (List.range items.size))
      funext m
      show items[(((items.size : Int) - 1) + (m : Int) * -1).toNat]? = items[items.size - 1 - m]?
      have : (((items.size : Int) - 1) + (m : Int) * -1).toNat = items.size - 1 - m := by omega
      rw [this]
    rw [e1, PySem.W.krv_range, List.filterMap_reverse, PySem.W.krv_all]
  rw [if_neg hno, hpick]
  first
    | exact wpAny_bind (m := Builtin.Tuple.tupleExact _) (wpAny_newObj_type (wpAny_pure ⟨_, rfl, wpAny_pure h⟩) htake)
    | exact wpAny_bind (m := Builtin.Tuple.tupleExact _) (wpAny_newObj_type (wpAny_bind (wpAny_pure (wpAny_pure ⟨_, rfl, wpAny_pure h⟩))) htake)
    | exact wpAny_bind (wpAny_bind (m := Builtin.Tuple.tupleExact _) (wpAny_newObj_type (wpAny_pure (wpAny_pure ⟨_, rfl, wpAny_pure h⟩)) htake))
    | exact wpAny_bind (wpAny_bind (m := Builtin.Tuple.tupleExact _) (wpAny_newObj_type (wpAny_pure ⟨_, rfl, wpAny_pure h⟩) htake))
end
section
variable {X : Cx}
def tRevT (K : PySem.W.Frag) (te : TE) : TE := fun σ H Q => te σ H fun x H1 => ∃ a xs, x = .ref a ∧ SqT K H1 a xs ∧ ∀ p, H1 p = Option.none → Q (.ref p) (upd H1 p (.tup xs.reverse))
/-- t[::-1] of a tuple -/
theorem pe_revT {e : Expr} {te : TE} {k : Nat} {p1 p2 p3 pos : Pos} (he : PE X e te) : PE X (.Subscript e (.Slice Option.none Option.none (some (.UnaryOp .USub (.Constant (.int 1) k p1) p2)) p3) pos) (tRevT X.K te) := by
  refine ⟨fun pins s σ H Q I h => ?_⟩
  refine Subscript_ (thn (he.run pins s σ H _ I h) fun v s1 ⟨x, H1, I1, r1, q1⟩ => ?_)
  obtain ⟨a, xs, ex, hx, q⟩ := q1
  subst ex
  cases r1
  have hst : PO X (some (.UnaryOp .USub (.Constant (.int 1) k p1) p2)) (tPart (tUn (rU fun i => .int (-i)) (tC (.int 1)))) := po_some (pe_un un_neg pe_int)
  refine wpAny_Slice (thn (po_none.run pins s1 σ H1 (fun o H2 => o = Option.none ∧ H2 = H1) I1 ⟨rfl, rfl⟩) fun vl s2 ⟨l, H2, I2, pl, el, e2⟩ => ?_)
  subst el e2
  refine thn (po_none.run pins s2 σ H2 (fun o H3 => o = Option.none ∧ H3 = H2) I2 ⟨rfl, rfl⟩) fun vu s3 ⟨u, H3, I3, pu, eu, e3⟩ => ?_
  subst eu e3
  refine thn (hst.run pins s3 σ H3 (fun o H4 => o = some (-1) ∧ H4 = H3) I3 ⟨1, rfl, -1, rfl, rfl, rfl⟩) fun vs s4 ⟨o, H4, I4, ps, eo, e4⟩ => ?_
  subst eo e4
  have I5 : Inv X pins σ H4 { s4 with heap := s4.heap.push { cls := .type "slice", data := .fields #[vl, vu, vs] } } := I4.kept (t' := s4.toks) fun b ob q => Heap.get?_push_of_some _ q
  obtain ⟨its, r, ht, hz⟩ := I5.tuple hx
  have hlen := r.length
  show wpAny (model X.prog X.w) X.A (subscriptTail e (.Slice Option.none Option.none (some (.UnaryOp .USub (.Constant (.int 1) k p1) p2)) p3) (.ref a) (.ref s4.heap.objs.size)) (EP X pins σ Q) X.xe { s4 with heap := s4.heap.push { cls := .type "slice", data := .fields #[vl, vu, vs] } }
  refine tail_any (ops := [.ref a, .ref s4.heap.objs.size]) ht.typeIs (PyProof.Rows.slot_tuple_getitem.lookup) ?_ (by with_unfolding_all rfl)
  refine getItem_tuple_rev ht (Heap.IsSliceOf.new _ vl vu vs) pl pu ps ?_ (by rw [List.size_toArray]; omega)
  refine ⟨.ref _, _, I5.laid (t' := s4.toks) (o := .tup xs.reverse) (fun b ob q => Heap.get?_push_of_some _ q) (Nat.le_refl _) ?_, rfl, q _ (I5.hok.fresh (Nat.le_refl _))⟩
  exact ⟨by rw [List.length_reverse]; exact hz, _, r.reverse, IsTup.new _ _⟩
end
/-- l.extend(t), t a tuple -/
theorem extend_tup (l : Addr) (items : Array Value) (n : Nat) (b : Addr) (items2 : Array Value) (n2 : Nat) (dd : Option Addr) (sl : Array (Option Value)) (hs0 : ¬(!items.isEmpty && Builtin.List.listTooLong (items.size + items2.size)) = true) (hs1 : items.size ≤ sizeLine) (hs2 : items.size + items2.size ≤ sizeLine + 1) :
    Meets (Builtin.«list.extend» ⟨[.ref l, .ref b], []⟩) (fun _ R s => s.heap.get? l = some { cls := .type "list", dict := none, data := .seq items n, slots := #[] } ∧ s.heap.get? b = some { cls := .type "tuple", dict := dd, data := .seq items2 n2, slots := sl } ∧ R (.ok (.ret Value.none)) { s with heap := s.heap.update l (Obj.mapSeq fun x => x ++ items2), toks := s.toks }) :=
  .of_wp fun prog w A R s h => by
    obtain ⟨hp, g, d, tk, os⟩ := s
    obtain ⟨hl, hb, h⟩ := h
    have k1 := AutoSeq1.idx_int
    have k3 := AutoSeq1.sub_list_list
    have k4 := AutoSeq1.sub_tuple_list
    have hz' : (items ++ items2).size ≤ sizeLine + 1 := by rw [Array.size_append]; exact hs2
    wp_walk using (wpAny_updateSeq hl rfl (hz := hs1) (_hz' := hz')), wpAny_loadPart' hl, wpAny_loadPart' hb
    exact ⟨_, rfl, h⟩
section
variable {X : Cx}
def rExtT (K : PySem.W.Frag) : V → List V → Hp → VK → Prop := fun x vs H Q => ∃ l b xs zs, x = .ref l ∧ vs = [.ref b] ∧ H l = some (.lst xs) ∧ SqT K H b zs ∧ xs.length + zs.length ≤ sizeLine ∧ Q .non (upd H l (.lst (xs ++ zs)))
theorem mt_extT : MtM X "list.extend" (rExtT X.K) := by
  intro pins s σ H x vs v us Q I rx rv h
  obtain ⟨l, b, xs, zs, rfl, rfl, hH, hB, hz, q⟩ := h
  cases rx
  obtain ⟨u, rfl, ru⟩ := rv.one
  cases ru
  obtain ⟨z, its, n, r, hl, e⟩ := I.lstM hH
  obtain ⟨its2, r2, ⟨⟨cls, dd, data, sl⟩, ho, hc, n2, hd⟩, _⟩ := I.tuple hB
  simp only at hc hd
  subst hc hd
  have hl2 := r2.length
  have hsz : its.toArray.size + its2.toArray.size ≤ sizeLine := by rw [List.size_toArray, List.size_toArray]; omega
  have hlong : ¬ (!its.toArray.isEmpty && Builtin.List.listTooLong (its.toArray.size + its2.toArray.size)) = true := by
    rw [notLongL hsz, Bool.and_false]
    exact Bool.false_ne_true
  refine call_meets F.slot_list_extend ⟨_, e, rfl⟩ F.entry_list_extend (F.args_list_extend_2 _ _)
    (extend_tup l its.toArray n b its2.toArray n2 dd sl hlong (by rw [List.size_toArray]; omega) (by omega)) ⟨e, ho, ?_⟩
  refine ⟨.non, _, I.lset (its' := its ++ its2) hH e (by simp) (r.append r2) ?_, rfl, q⟩
  rw [List.length_append]
  omega
end
end J1
set_option Elab.async false
set_option linter.all false
set_option maxRecDepth 100000
set_option maxHeartbeats 4000000
namespace J1
open PySem PySem.Spec PyProof.Rows L2 GxR GA ZS RZ
abbrev sFo : Stmt := top 50
theorem cFo : FnScope ["makers", "kind", "word"] ["makers", "kind", "word"] (defScope sFo) := ⟨rfl, rfl, rfl, by decide +kernel, rfl, by decide +kernel, by decide +kernel⟩
abbrev sAw : Stmt := top 49
theorem cAw : FnScope ["makers", "kind", "thing", "most", "wanted", "word", "fields"] ["makers", "kind", "thing", "most"] (defScope sAw) := ⟨rfl, rfl, rfl, by decide +kernel, rfl, by decide +kernel, by decide +kernel⟩
abbrev sNw : Stmt := top 57
theorem cNw : FnScope ["core", "kind", "thing"] ["core", "kind", "thing"] (defScope sNw) := ⟨rfl, rfl, rfl, by decide +kernel, rfl, by decide +kernel, by decide +kernel⟩
/-! ### words of a value -/
abbrev Wd := Int ⊕ Str
def wdV : Wd → V
  | .inl i => .int i
  | .inr s => .str s
def wdD : Wd → Da
  | .inl i => .int i
  | .inr s => .str s
abbrev MkL := List (Mk1 × Str)
def MkH (H : Hp) (D : Addr) (L : MkL) : Prop := ∃ ms, H D = some (.dK (dkD (L.map (·.1.1)) ms)) ∧ EncsT H (L.map mnD) ms
theorem MkH.grow {H H' : Hp} {D : Addr} {L : MkL} (h : MkH H D L) (g : Grow H H') : MkH H' D L := by
  obtain ⟨ms, h1, h2⟩ := h
  exact ⟨ms, g.dk h1, h2.grow g⟩
def FieldsOf (L : MkL) (kind : Str) : Wd → List Str → Prop
  | .inl _, fs => kind = "whole" ∧ fs = []
  | .inr m, fs => kind ≠ "whole" ∧ ((m, fs), kind) ∈ L
inductive Wants (L : MkL) : List Str → List Wd → Prop
  | nil : Wants L [] []
  | cons {kind : Str} {fs st : List Str} {wd : Wd} {ws : List Wd} (h : FieldsOf L kind wd fs) (t : Wants L (fs ++ st) ws) : Wants L (kind :: st) (wd :: ws)
theorem Wants.len {L : MkL} {st : List Str} {ws : List Wd} (h : Wants L st ws) : st.length ≤ ws.length := by
  induction h with
  | nil => exact Nat.le_refl _
  | cons h t ih =>
    rw [List.length_append] at ih
    rw [List.length_cons, List.length_cons]
    omega
theorem wd_v {B : Addr → Prop} {H : Hp} {wd : Wd} {z : V} (h : EncB B H (wdD wd) z) : z = wdV wd := by
  cases wd with
  | inl i => cases h; rfl
  | inr s => cases h; rfl
theorem strs_vals {B : Addr → Prop} {H : Hp} : ∀ {l : List Str} {xs : List V}, EncsB B H (l.map .str) xs → xs = l.map V.str
  | [], _, .nil => rfl
  | _ :: _, _, .cons e t => by
    cases e
    rw [List.map_cons, strs_vals t]
def spFo : Sp := fun vs H Q _ => ∃ (D : Addr) (L : MkL) (kind : Str) (wd : Wd) (fs : List Str), vs = [.ref D, .str kind, wdV wd] ∧ MkH H D L ∧ (L.map (·.1.1)).Nodup ∧ FieldsOf L kind wd fs ∧ ∀ a H', EncT H' (fsD fs) (.ref a) → Grow H H' → Q (.ref a) H'
def spAw : Sp := fun vs H Q _ => ∃ (D : Addr) (L : MkL) (kind : Str) (ws : List Wd) (most : Nat) (xt : V), vs = [.ref D, .str kind, xt, .int (most : Nat)] ∧ MkH H D L ∧ (L.map (·.1.1)).Nodup ∧ EncT H (.tup (ws.map wdD)) xt ∧ Wants L [kind] ws ∧ ws.length ≤ most ∧ most ≤ 100000 ∧ ∀ H', Grow H H' → Q (.bl true) H'
section
variable {P : Program} {w : World} {K : PySem.W.Frag} {mg : Str → Option Value} {base : Heap}
theorem ok_fo {f fI : Addr} {fd fdI : FuncData} {tW : Tok} (F : Fun K "_fields_of" "_fields_of" sFo f fd) (N : Gn K mg) (hW : mg "WHOLE" = some (.str "whole" tW))
    (GI : FnOk P w K mg base CX0 1 fI fdI ["thing"] (spF isInt)) (DI : Df K mg "is_integer" ["thing"] fI fdI) : FnOk P w K mg base CX0 2 f fd ["makers", "kind", "word"] spFo := by
  refine F.ok (k := 1) cFo (fun vs H Q E h => ?_) (fun cdv A outer s H vs Q E hr h => ?_)
  · obtain ⟨_, _, _, _, _, rfl, _⟩ := h
    rfl
  · obtain ⟨D, L, kind, wd, fs, rfl, hD, nd, hf, k⟩ := h
    have hu := hu_of hr
    refine ⟨_, (pss_cons (ps_if (pt_cmpR op_eq (pv 1) (pe_glob (v := .str "whole") (by rfl) hW ⟨_, rfl⟩) (nomark _)) (pss_one (ps_ret (pe_ifExp (pt_val (pe_call (GI.mono (by decide)) hr (by rfl) DI.g DI.k DI.b .nil pass0 (pa_cons (pv 2) pa_nil))) (pe_tup pa_nil) pe_non))) pss_nil) (pss_cons (ps_if (PW.pt (pw_or (pt_not (pt_val (pe_callB call_isi (by rfl) N.nI boot_isinstance (pa_cons (pv 2) (pa_cons (pe_bltn (v := .ty "str") rfl N.ns (by decide +kernel) rfl) pa_nil))))) (pw_or (pt_cmp (pc_dnotin hu (pv 2) (pv 0))) (pw_or1 (pt_cmpR op_ne (pe_ix ix_tup (pe_dget hu (pv 0) (pv 2) (fun _ _ => rfl)) pe_int (fun _ _ => rfl)) (pv 1) (nomark _)))))) (pss_one (ps_ret pe_non)) pss_nil) (pss_one (ps_ret (pe_ix ix_tup (pe_dget hu (pv 0) (pv 2) (fun _ _ => rfl)) pe_int (fun _ _ => rfl)))))), ?_⟩
    cases wd with
    | inl i =>
      obtain ⟨rfl, rfl⟩ := hf
      refine ⟨_, rfl, rfl, _, rfl, ifT rfl ⟨_, rfl, .int i, .int i, rfl, .int i, ?_⟩⟩
      refine ⟨_, rfl, iteT ⟨Nat.zero_le _, fun t ht => ?_⟩⟩
      exact k t _ (.tup upd_same .nil) (Grow.new ht)
    | inr m =>
      obtain ⟨hk, hm⟩ := hf
      obtain ⟨ms, hD, em⟩ := hD
      obtain ⟨i, hi⟩ := List.getElem?_of_mem hm
      obtain ⟨x, hx, ex⟩ := em.got (i := i) (d := mnD ((m, fs), kind)) (by rw [List.getElem?_map, hi]; rfl)
      have hv : valV (dkD (L.map (·.1.1)) ms) (Sum.inr m : Key) = some x := dkD_get nd (by rw [List.getElem?_map, hi]; rfl) hx
      have hget : DGet H D (.str m) (some x) := by
        rw [← hv]
        exact DGet.k (k := Sum.inr m) hD
      obtain ⟨_, _, kS, _⟩ := kitD (.str m)
      cases ex with
      | @tup b us _ hb eb =>
      cases eb with
      | @cons _ u0 _ _ f0 eb =>
      cases eb with
      | @cons _ u1 _ _ f1 eb =>
      cases eb
      cases f0
      have f1' := f1
      cases f1 with
      | @tup a zs _ ha ez =>
      refine ⟨_, rfl, rfl, _, rfl, ifF (fun z => hk (V.str.inj z)) ?_⟩
      refine ⟨_, rfl, _, _, _, _, _, rfl, .ty "str", .base (.str _), kit_ty kS, _, rfl, iteF ?_⟩
      refine ⟨_, rfl, _, rfl, D, _, rfl, hget, _, rfl, iteF ?_⟩
      refine ⟨_, rfl, _, rfl, D, _, rfl, hget, b, _, _, _, rfl, rfl, SqT.of hb, at_of (j := 0) rfl rfl, _, rfl, rfl, _, rfl, ?_⟩
      rw [decide_eq_true rfl]
      exact iteF ⟨_, rfl, _, rfl, D, _, rfl, hget, b, _, _, _, rfl, rfl, SqT.of hb, at_of (j := 1) rfl rfl, k a H f1' (Grow.refl H)⟩
theorem ok_aw {f fT fF : Addr} {fd fdT fdF : FuncData} (F : Fun K "are_words" "are_words" sAw f fd)
    (GT : FnOk P w K mg base CX0 1 fT fdT ["thing", "least", "most"] (spF3 isTu)) (DT : Df K mg "is_tuple" ["thing", "least", "most"] fT fdT)
    (GF : FnOk P w K mg base CX0 2 fF fdF ["makers", "kind", "word"] spFo) (DF : Df K mg "_fields_of" ["makers", "kind", "word"] fF fdF) : FnOk P w K mg base CX0 3 f fd ["makers", "kind", "thing", "most"] spAw := by
  refine F.ok (k := 2) cAw (fun vs H Q E h => ?_) (fun cdv A outer s H vs Q E hr h => ?_)
  · obtain ⟨_, _, _, _, _, _, rfl, _⟩ := h
    rfl
  · obtain ⟨D, L, kind, ws, most, xt, rfl, hD, nd, et, hw, hlen, hm, k⟩ := h
    refine ⟨_, (pss_cons (ps_if (pt_not (pt_val (pe_call (GT.mono (by decide)) hr (by rfl) DT.g DT.k DT.b .nil pass0 (pa_cons (pv 2) (pa_cons pe_int (pa_cons (pv 3) pa_nil)))))) (pss_one (ps_ret pe_bl)) pss_nil) (pss_cons (ps_set (i := 4) cAw.nd rfl (Or.inl rfl) (pe_lst (pa_cons (pv 1) pa_nil))) (pss_cons (ps_for PassesOwn.never rfl (pi_tup (pv 2)) (pg_name (i := 5) cAw.nd rfl (Or.inl rfl)) (pss_cons (ps_if (pt_not (pt_truth (pv 4) (fun _ => rfl))) (pss_one (ps_ret pe_bl)) pss_nil) (pss_cons (ps_set (i := 6) cAw.nd rfl (Or.inl rfl) (pe_call (GF.mono (by decide)) hr (by rfl) DF.g DF.k DF.b .nil pass0 (pa_cons (pv 0) (pa_cons (pe_bm0 PySem.F.plainAttrs_list PySem.F.slot_list_pop PySem.F.type_list_pop mt_pop (pv 4)) (pa_cons (pv 5) pa_nil))))) (pss_cons (ps_if (pt_cmpR op_isN (pv 6) pe_non (nomark _)) (pss_one (ps_ret pe_bl)) pss_nil) (pss_one (ps_expr (pe_bm PySem.F.plainAttrs_list PySem.F.slot_list_extend PySem.F.type_list_extend (r := rExtT K) mt_extT (pv 4) (pa_cons (pe_revT (pv 6)) pa_nil)))))))) (pss_one (ps_ret (pe_notT (pv 4))))))), ?_⟩
    have et0 := et
    cases et with
    | @tup a xs _ ha es =>
    have hl := es.length
    rw [List.length_map] at hl
    have h1 := hw.len
    rw [List.length_singleton] at h1
    have htu : isTu 1 (most : Nat) (.tup (ws.map wdD)) = true := by
      show (decide ((1 : Int) ≤ ((ws.map wdD).length : Int)) && decide (((ws.map wdD).length : Int) ≤ (most : Nat))) = true
      rw [List.length_map, Bool.and_eq_true, decide_eq_true_iff, decide_eq_true_iff]
      omega
    refine ⟨_, rfl, _, rfl, .ref a, _, _, _, rfl, et0.any, ?_⟩
    rw [htu]
    refine ⟨_, rfl, iteF ⟨_, rfl, (by show 1 ≤ sizeLine; decide), fun W hW => ⟨_, rfl, a, rfl, ⟨_, SqT.of ((Grow.new hW).tup ha)⟩, ?_⟩⟩⟩
    refine for_tup (K := K) (xs := xs) (fun i σ' Hc => ∃ v5 v6 st, σ' = [some (.ref D), some (.str kind), some (.ref a), some (.int (most : Nat)), some (.ref W), v5, v6] ∧ Hc W = some (.lst (st.reverse.map V.str)) ∧ Wants L st (ws.drop i) ∧ Grow H Hc) ⟨_, _, [kind], rfl, upd_same, hw, Grow.new hW⟩ (fun i σ' Hc _ hp => ?_) (fun i z σ' Hc hz hp => ?_) (fun σ' Hc hp => ?_)
    · obtain ⟨_, _, _, _, _, _, g⟩ := hp
      exact SqT.of (g.tup ha)
    · obtain ⟨v5, v6, st, rfl, hWc, hst, g⟩ := hp
      obtain ⟨d1, hd1, ez⟩ := es.get hz
      obtain ⟨wd, hwd, rfl⟩ := map_get hd1
      obtain rfl := wd_v ez
      have hil := (List.getElem?_eq_some_iff.mp hwd).1
      have hdr : ws.drop i = wd :: ws.drop (i + 1) := by
        rw [List.drop_eq_getElem_cons hil, (List.getElem?_eq_some_iff.mp hwd).2]
      rw [hdr] at hst
      cases hst with
      | @cons k0 fs st' _ _ hf ht =>
      have e1 : ((k0 :: st').reverse.map V.str) = st'.reverse.map V.str ++ [V.str k0] := by rw [List.reverse_cons, List.map_append]; rfl
      rw [e1] at hWc
      have htl := ht.len
      rw [List.length_append, List.length_drop] at htl
      refine ⟨_, rfl, true, .inl ⟨_, SqL.of hWc, by simp⟩, iteF ?_⟩
      refine ⟨_, rfl, _, rfl, .inl ⟨rfl, _, SqL.of hWc⟩, W, _, .str k0, rfl, rfl, hWc, by simp, ?_⟩
      have e2 : (st'.reverse.map V.str ++ [V.str k0]).dropLast = st'.reverse.map V.str := List.dropLast_concat
      rw [e2]
      have g1 := g.upd' hW (o := .lst (st'.reverse.map V.str))
      have hW1 := upd_same (H := Hc) (a := W) (o := .lst (st'.reverse.map V.str))
      generalize L2.upd Hc W (.lst (st'.reverse.map V.str)) = H1 at g1 hW1 ⊢
      refine ⟨_, rfl, D, L, k0, wd, fs, rfl, hD.grow g1, nd, hf, fun a' H2 ef g2 => ?_⟩
      cases ef with
      | @tup _ xf _ hxf efs =>
      have hfl := efs.length
      rw [List.length_map] at hfl
      have exf := strs_vals efs
      subst exf
      refine ⟨_, rfl, rfl, _, rfl, iteF ?_⟩
      refine ⟨_, rfl, .inl ⟨rfl, _, SqL.of (g2.lst hW1)⟩, _, rfl, a', _, rfl, SqT.of hxf, fun p hp => ?_⟩
      have gp := Grow.new (o := .tup (fs.map V.str).reverse) hp
      refine ⟨W, p, _, _, rfl, rfl, gp.lst (g2.lst hW1), SqT.of upd_same, ?_, ?_⟩
      · rw [List.length_map, List.length_reverse, List.length_reverse, List.length_map, sizeLine_eq]
        omega
      · refine ⟨_, _, fs ++ st', rfl, ?_, ht, ((g1.trans g2).trans gp).upd' hW⟩
        rw [upd_same, List.reverse_append, List.map_append, List.map_reverse, List.map_reverse]
    · obtain ⟨v5, v6, st, rfl, hWc, hst, g⟩ := hp
      rw [← hl, List.drop_length] at hst
      cases hst
      refine ⟨_, rfl, false, .inl ⟨_, SqL.of hWc, rfl⟩, ?_⟩
      exact k _ g
def spNw : Sp := fun vs H Q _ => ∃ (xc xt : V) (kind : Str) (ks : List Kd1) (ws : List Wd), vs = [xc, .str kind, xt] ∧ EncT H (coreD ks) xc ∧ KdsOk ks ∧ EncT H (.tup (ws.map wdD)) xt ∧ Wants (mksOf ks) [kind] ws ∧ ws.length ≤ 4000 ∧ ∀ H', Grow H H' → Q .non H'
theorem ok_nw {f fA fN : Addr} {fd fdA fdN : FuncData} {tM : Tok} (F : Fun K "need_words" "need_words" sNw f fd) (hMT : mg "MOST_TOLD" = some (.int 4000 tM))
    (GA' : FnOk P w K mg base CX0 3 fA fdA ["makers", "kind", "thing", "most"] spAw) (DA : Df K mg "are_words" ["makers", "kind", "thing", "most"] fA fdA)
    (GN : FnOk P w K mg base CX0 1 fN fdN ["kinds"] spMn) (DN : Df K mg "makers_by_name" ["kinds"] fN fdN) : FnOk P w K mg base CX0 4 f fd ["core", "kind", "thing"] spNw := by
  refine F.ok (k := 3) cNw (fun vs H Q E h => ?_) (fun cdv A outer s H vs Q E hr h => ?_)
  · obtain ⟨_, _, _, _, _, rfl, _⟩ := h
    rfl
  · obtain ⟨xc, xt, kind, ks, ws, rfl, ec, ok, ew, hw, hl, k⟩ := h
    refine ⟨_, (pss_one (ps_if (pt_not (pt_val (pe_call (GA'.mono (by decide)) hr (by rfl) DA.g DA.k DA.b .nil pass0 (pa_cons (pe_call (GN.mono (by decide)) hr (by rfl) DN.g DN.k DN.b .nil pass0 (pa_cons (pe_ix ix_tup (pv 0) pe_int (fun _ _ => rfl)) pa_nil)) (pa_cons (pv 1) (pa_cons (pv 2) (pa_cons (pe_glob (v := .int 4000) (by rfl) hMT ⟨_, rfl⟩) pa_nil))))))) (pss_one ps_no) pss_nil)), ?_⟩
    cases ec with
    | @tup ac cs _ hac es =>
    cases es with
    | @cons _ c0 _ _ e0 es =>
    cases es with
    | @cons _ c1 _ _ e1 es =>
    cases es
    refine ⟨_, rfl, ac, _, _, _, rfl, rfl, SqT.of hac, at_of (j := 0) rfl rfl, c0, ks, rfl, e0, ok.ndm, ok.ml, fun D ms H1 _ hD em g1 => ?_⟩
    refine ⟨_, rfl, _, rfl, D, mksOf ks, kind, ws, 4000, xt, rfl, ⟨ms, hD, em⟩, ok.ndm, ew.grow g1, hw, hl, by decide, fun H2 g2 => ⟨_, rfl, iteF (k H2 (g1.trans g2))⟩⟩
end
end J1
set_option Elab.async false
set_option linter.all false
set_option maxRecDepth 100000
set_option maxHeartbeats 4000000
namespace J1
open PySem PySem.Spec PyProof.Rows L2 GxR GA ZS
/-! ### what measures are of a value -/
/-- the row of the n-th measure for the maker m -/
def RowAt (ks : List Kd1) (mss : List Ms1) (n : Nat) (m : Str) (r : Row1) : Prop := ∃ (ms : Ms1) (k : Kd1) (mk : Mk1) (i : Nat), 1 ≤ n ∧ mss[n - 1]? = some ms ∧ k ∈ ks ∧ k.1 = ms.1 ∧ k.2[i]? = some mk ∧ mk.1 = m ∧ ms.2[i]? = some r
theorem nd_inj {α : Type} {l : List α} {f : α → Str} (h : (l.map f).Nodup) {i j : Nat} {a b : α} (ha : l[i]? = some a) (hb : l[j]? = some b) (e : f a = f b) : i = j := by
  obtain ⟨i1, e1⟩ := List.getElem?_eq_some_iff.mp ha
  obtain ⟨i2, e2⟩ := List.getElem?_eq_some_iff.mp hb
  rw [List.Nodup, List.pairwise_iff_getElem] at h
  rcases Nat.lt_trichotomy i j with q | q | q
  · refine absurd ?_ (h i j (by rw [List.length_map]; exact i1) (by rw [List.length_map]; exact i2) q)
    rw [List.getElem_map, List.getElem_map, e1, e2, e]
  · exact q
  · refine absurd ?_ (h j i (by rw [List.length_map]; exact i2) (by rw [List.length_map]; exact i1) q)
    rw [List.getElem_map, List.getElem_map, e1, e2, e]
theorem nd_mem {α : Type} {l : List α} {f : α → Str} (h : (l.map f).Nodup) {a b : α} (ha : a ∈ l) (hb : b ∈ l) (e : f a = f b) : a = b := by
  obtain ⟨i, hi⟩ := List.getElem?_of_mem ha
  obtain ⟨j, hj⟩ := List.getElem?_of_mem hb
  obtain rfl := nd_inj h hi hj e
  rw [hi] at hj
  exact Option.some.inj hj
theorem mk_nd {ks : List Kd1} (ok : KdsOk ks) {k : Kd1} (hk : k ∈ ks) : (k.2.map (·.1)).Nodup := by
  have h := ok.ndm
  have s : (k.2.map fun m => (m, k.1)).Sublist (mksOf ks) := by
    unfold mksOf
    exact List.sublist_flatten_of_mem (List.mem_map.mpr ⟨k, hk, rfl⟩)
  have e : (k.2.map fun m => (m, k.1)).map (·.1.1) = k.2.map (·.1) := by
    rw [List.map_map]
    rfl
  rw [← e]
  exact (s.map _).nodup h
theorem RowAt.uniq {ks : List Kd1} {mss : List Ms1} {n : Nat} {m : Str} {r r' : Row1} (ok : KdsOk ks) (h : RowAt ks mss n m r) (g : RowAt ks mss n m r') : r = r' := by
  obtain ⟨ms, k, mk, i, _, h2, h3, h4, h5, h6, h7⟩ := h
  obtain ⟨ms', k', mk', i', _, g2, g3, g4, g5, g6, g7⟩ := g
  rw [h2] at g2
  cases g2
  obtain rfl := nd_mem ok.nd h3 g3 (h4.trans g4.symm)
  obtain rfl := nd_inj (mk_nd ok h3) h5 g5 (h6.trans g6.symm)
  rw [h7] at g7
  exact Option.some.inj g7
theorem mks_kd {ks : List Kd1} {m : Mk1} {kind : Str} (h : (m, kind) ∈ mksOf ks) : ∃ k ∈ ks, k.1 = kind ∧ m ∈ k.2 := by
  unfold mksOf at h
  obtain ⟨l, hl, hm⟩ := List.mem_flatten.mp h
  obtain ⟨k, hk, rfl⟩ := List.mem_map.mp hl
  obtain ⟨m', hm', e⟩ := List.mem_map.mp hm
  cases e
  exact ⟨k, hk, rfl, hm'⟩
theorem mks_fn {ks : List Kd1} (ok : KdsOk ks) {m : Str} {fs fs' : List Str} {k k' : Str} (h : ((m, fs), k) ∈ mksOf ks) (g : ((m, fs'), k') ∈ mksOf ks) : fs = fs' ∧ k = k' := by
  have e := nd_mem (f := fun x : Mk1 × Str => x.1.1) ok.ndm h g rfl
  cases e
  exact ⟨rfl, rfl⟩
/-- what a row of a maker's is -/
theorem RowAt.ok {ks : List Kd1} {mss : List Ms1} {n : Nat} {m : Str} {r : Row1} {fs : List Str} {kind : Str} (ok : KdsOk ks) (mo : MsOk ks mss) (h : RowAt ks mss n m r) (hm : ((m, fs), kind) ∈ mksOf ks) : RowOk (knS mss) fs r ∧ (knS mss)[n]? = some kind := by
  obtain ⟨ms, k, mk, i, h1, h2, h3, h4, h5, h6, h7⟩ := h
  obtain ⟨k', hk', e1, _, e3⟩ := mo.ms ms (List.mem_of_getElem? h2)
  obtain rfl := nd_mem ok.nd h3 hk' (h4.trans e1.symm)
  obtain ⟨k2, hk2, e4, hm2⟩ := mks_kd hm
  have hmk : (mk, k.1) ∈ mksOf ks := by
    unfold mksOf
    exact List.mem_flatten.mpr ⟨_, List.mem_map.mpr ⟨k, h3, rfl⟩, List.mem_map.mpr ⟨mk, List.mem_of_getElem? h5, rfl⟩⟩
  obtain ⟨mn, mf⟩ := mk
  cases h6
  obtain ⟨rfl, rfl⟩ := mks_fn ok hm hmk
  refine ⟨e3 i r _ h7 h5, ?_⟩
  obtain ⟨n', rfl⟩ : ∃ n', n = n' + 1 := ⟨n - 1, by omega⟩
  show (mss.map (·.1))[n']? = _
  rw [Nat.add_sub_cancel] at h2
  rw [List.getElem?_map, h2, h4]
  rfl
/-- each measure of the kind has a row for each maker of it -/
theorem row_ex {ks : List Kd1} {mss : List Ms1} {n : Nat} {m : Str} {fs : List Str} {kind : Str} (ok : KdsOk ks) (mo : MsOk ks mss) (hm : ((m, fs), kind) ∈ mksOf ks) (hw : kind ≠ "whole") (hn : (knS mss)[n]? = some kind) : ∃ r, RowAt ks mss n m r := by
  match n, hn with
  | 0, hn => exact absurd (Option.some.inj hn).symm hw
  | n' + 1, hn =>
    have hn : (mss.map (·.1))[n']? = some kind := hn
    obtain ⟨ms, hms, e⟩ := map_get hn
    obtain ⟨k', hk', e1, e2, e3⟩ := mo.ms ms (List.mem_of_getElem? hms)
    obtain ⟨k, hk, e4, hmk⟩ := mks_kd hm
    obtain rfl := nd_mem ok.nd hk hk' (by rw [e4, e1, e])
    obtain ⟨i, hi⟩ := List.getElem?_of_mem hmk
    have hl := (List.getElem?_eq_some_iff.mp hi).1
    exact ⟨_, ms, k, (m, fs), i, by omega, hms, hk, e1, hi, rfl, List.getElem?_eq_getElem (by omega)⟩
open Classical in
noncomputable def rowF (ks : List Kd1) (mss : List Ms1) (n : Nat) (m : Str) : Row1 := if h : ∃ r, RowAt ks mss n m r then Classical.choose h else (0, [])
theorem rowF_eq {ks : List Kd1} {mss : List Ms1} {n : Nat} {m : Str} {r : Row1} (ok : KdsOk ks) (h : RowAt ks mss n m r) : rowF ks mss n m = r := by
  have e : ∃ r, RowAt ks mss n m r := ⟨r, h⟩
  unfold rowF
  rw [dif_pos e]
  exact RowAt.uniq ok (Classical.choose_spec e) h
open Classical in
noncomputable def fsF (L : MkL) (m : Str) : List Str := if h : ∃ fs k, ((m, fs), k) ∈ L then Classical.choose h else []
theorem fsF_eq {ks : List Kd1} {m : Str} {fs : List Str} {k : Str} (ok : KdsOk ks) (h : ((m, fs), k) ∈ mksOf ks) : fsF (mksOf ks) m = fs := by
  have e : ∃ fs k, ((m, fs), k) ∈ mksOf ks := ⟨fs, k, h⟩
  unfold fsF
  rw [dif_pos e]
  obtain ⟨k', hk'⟩ := Classical.choose_spec e
  exact (mks_fn ok hk' h).1
abbrev Fn := Nat → Int
def fnAt (fns : List Fn) (f n : Nat) : Int := (fns[f]?.getD fun _ => 0) n
def rowV (r : Row1) (fns : List Fn) : Int := r.1 + (r.2.map fun t => t.2.2 * fnAt fns t.1 t.2.1).sum
noncomputable def evS (ks : List Kd1) (mss : List Ms1) : List Wd → List Fn
  | [] => []
  | .inl i :: ws => (fun n => if n = 0 then i else 0) :: evS ks mss ws
  | .inr m :: ws => (fun n => rowV (rowF ks mss n m) ((evS ks mss ws).take (fsF (mksOf ks) m).length)) :: (evS ks mss ws).drop (fsF (mksOf ks) m).length
theorem evS_len {ks : List Kd1} {mss : List Ms1} (ok : KdsOk ks) {st : List Str} {ws : List Wd} (h : Wants (mksOf ks) st ws) : (evS ks mss ws).length = st.length := by
  induction h with
  | nil => rfl
  | @cons kind fs st wd ws hf t ih =>
    rw [List.length_append] at ih
    cases wd with
    | inl i =>
      obtain ⟨_, rfl⟩ := hf
      show (evS ks mss ws).length + 1 = st.length + 1
      rw [ih, List.length_nil, Nat.zero_add]
    | inr m =>
      obtain ⟨_, hm⟩ := hf
      show ((evS ks mss ws).drop (fsF (mksOf ks) m).length).length + 1 = st.length + 1
      rw [fsF_eq ok hm, List.length_drop, ih]
      omega
/-- the stacks of kinds ahead of each word -/
theorem Wants.path {L : MkL} {st : List Str} {ws : List Wd} (h : Wants L st ws) : ∃ S : Nat → List Str, S 0 = st ∧ (∀ i, i ≤ ws.length → Wants L (S i) (ws.drop i)) ∧ ∀ i wd, ws[i]? = some wd → ∃ kind fs st', S i = kind :: st' ∧ S (i + 1) = fs ++ st' ∧ FieldsOf L kind wd fs := by
  induction h with
  | nil => exact ⟨fun _ => [], rfl, fun i hi => by rw [List.drop_nil]; exact .nil, fun i wd h => nomatch h⟩
  | @cons kind fs st wd ws hf t ih =>
    obtain ⟨S, h0, h1, h2⟩ := ih
    refine ⟨fun i => match i with | 0 => kind :: st | j + 1 => S j, rfl, fun i hi => ?_, fun i wd' hw => ?_⟩
    · match i, hi with
      | 0, _ => exact .cons hf t
      | j + 1, hi => exact h1 j (by rw [List.length_cons] at hi; omega)
    · match i, hw with
      | 0, hw =>
        cases hw
        exact ⟨kind, fs, st, rfl, h0, hf⟩
      | j + 1, hw => exact h2 j wd' hw
end J1
set_option Elab.async false
set_option linter.all false
set_option maxRecDepth 100000
set_option maxHeartbeats 4000000
namespace J1
open PySem PySem.Spec PyProof.Rows L2 GxR GA ZS RZ
abbrev sRb : Stmt := top 61
theorem cRb : FnScope ["core", "measures", "makers", "number", "kind", "rows", "row", "maker", "_"] ["core", "measures"] (defScope sRb) := ⟨rfl, rfl, rfl, by decide +kernel, rfl, by decide +kernel, by decide +kernel⟩
/-! ### a dict of rows by number and maker -/
abbrev NM := Nat × Str
def ky (e : NM) : List Key := [Sum.inl (e.1 : Int), Sum.inr e.2]
theorem ky_inj {a b : NM} (h : ky a = ky b) : a = b := by
  unfold ky at h
  injection h with h1 h2
  injection h2 with h2 _
  obtain ⟨a1, a2⟩ := a
  obtain ⟨b1, b2⟩ := b
  have e1 : (a1 : Int) = (b1 : Int) := Sum.inl.inj h1
  have e2 : a2 = b2 := Sum.inr.inj h2
  rw [e2, Int.ofNat.inj e1]
def dtD (es : List NM) (ms : List V) : List (List Key × V) := (es.zip ms).map fun p => (ky p.1, p.2)
theorem dtD_len {es : List NM} {ms : List V} (h : es.length = ms.length) : (dtD es ms).length = es.length := by
  unfold dtD
  rw [List.length_map, List.length_zip]
  omega
theorem dtD_no : ∀ {es : List NM} {ms : List V} {n : NM}, n ∉ es → valV (dtD es ms) (ky n) = none
  | [], _, _, _ => rfl
  | _ :: _, [], _, _ => rfl
  | a :: r, m :: t, n, h => by
    have e : dtD (a :: r) (m :: t) = (ky a, m) :: dtD r t := rfl
    rw [e, valV_neg (fun z => h (by rw [← ky_inj z]; exact List.mem_cons_self))]
    exact dtD_no fun z => h (List.mem_cons_of_mem _ z)
theorem dtD_push {es : List NM} {ms : List V} {n : NM} {m : V} (h : n ∉ es) (hl : es.length = ms.length) : putK (dtD es ms) (ky n) m = dtD (es ++ [n]) (ms ++ [m]) := by
  rw [putK_new _ (dtD_no h)]
  unfold dtD
  rw [List.zip_append hl, List.map_append]
  rfl
theorem dtD_get {es : List NM} {ms : List V} {i : Nat} {k : List Key} {v : V} (h : (dtD es ms)[i]? = some (k, v)) : ∃ n, es[i]? = some n ∧ ms[i]? = some v ∧ k = ky n := by
  unfold dtD at h
  obtain ⟨p, hp, e⟩ := map_get h
  rw [List.getElem?_zip_eq_some] at hp
  cases e
  exact ⟨p.1, hp.1, hp.2, rfl⟩
abbrev En := NM × Row1
def spRb : Sp := fun vs H Q _ => ∃ (xc xm : V) (ks : List Kd1) (mss : List Ms1), vs = [xc, xm] ∧ EncT H (coreD ks) xc ∧ EncT H (mssD mss) xm ∧ KdsOk ks ∧ MsOk ks mss ∧
  ∀ (D : Addr) (es : List En) (ms : List V) (H' : Hp), H D = none → H' D = some (.dT (dtD (es.map (·.1)) ms)) → EncsT H' (es.map fun e => rowD e.2) ms → (∀ e ∈ es, RowAt ks mss e.1.1 e.1.2 e.2) → (∀ n m r, RowAt ks mss n m r → ((n, m), r) ∈ es) → es.length ≤ 96 → Grow H H' → Q (.ref D) H'
/-- the entries when i measures are gone through whole, and j rows of the next -/
structure RbI (ks : List Kd1) (mss : List Ms1) (i j : Nat) (es : List En) : Prop where
  at_ : ∀ e ∈ es, RowAt ks mss e.1.1 e.1.2 e.2
  lo : ∀ e ∈ es, e.1.1 ≤ i ∨ (e.1.1 = i + 1 ∧ ∃ (ms : Ms1) (k : Kd1) (mk : Mk1) (q : Nat), mss[i]? = some ms ∧ k ∈ ks ∧ k.1 = ms.1 ∧ k.2[q]? = some mk ∧ mk.1 = e.1.2 ∧ q < j)
  all : ∀ (n : Nat) (m : Str) (r : Row1) (ms : Ms1) (k : Kd1) (mk : Mk1) (q : Nat), 1 ≤ n → mss[n - 1]? = some ms → k ∈ ks → k.1 = ms.1 → k.2[q]? = some mk → mk.1 = m → ms.2[q]? = some r → (n ≤ i ∨ (n = i + 1 ∧ q < j)) → ((n, m), r) ∈ es
  le : es.length ≤ 8 * i + j
theorem RbI.push {ks : List Kd1} {mss : List Ms1} {i j : Nat} {es : List En} {ms : Ms1} {k : Kd1} {mk : Mk1} {r : Row1} (h : RbI ks mss i j es) (ok : KdsOk ks) (h1 : mss[i]? = some ms) (h2 : k ∈ ks) (h3 : k.1 = ms.1) (h4 : k.2[j]? = some mk) (h5 : ms.2[j]? = some r) : RbI ks mss i (j + 1) (es ++ [((i + 1, mk.1), r)]) ∧ (i + 1, mk.1) ∉ es.map (·.1) := by
  refine ⟨⟨fun e he => ?_, fun e he => ?_, fun n m r' ms' k' mk' q a1 a2 a3 a4 a5 a6 a7 a8 => ?_, ?_⟩, fun z => ?_⟩
  · rcases List.mem_append.mp he with z | z
    · exact h.at_ e z
    · rw [List.mem_singleton.mp z]
      exact ⟨ms, k, mk, j, Nat.succ_le_succ (Nat.zero_le _), h1, h2, h3, h4, rfl, h5⟩
  · rcases List.mem_append.mp he with z | z
    · rcases h.lo e z with y | ⟨y1, ms', k', mk', q, y2, y3, y4, y5, y6, y7⟩
      · exact .inl y
      · exact .inr ⟨y1, ms', k', mk', q, y2, y3, y4, y5, y6, by omega⟩
    · rw [List.mem_singleton.mp z]
      exact .inr ⟨rfl, ms, k, mk, j, h1, h2, h3, h4, rfl, Nat.lt_succ_self _⟩
  · by_cases c : n ≤ i ∨ (n = i + 1 ∧ q < j)
    · exact List.mem_append_left _ (h.all n m r' ms' k' mk' q a1 a2 a3 a4 a5 a6 a7 c)
    · have en : n = i + 1 := by omega
      have eq : q = j := by omega
      subst en eq
      rw [Nat.add_sub_cancel, h1] at a2
      cases a2
      obtain rfl := nd_mem ok.nd h2 a3 (h3.trans a4.symm)
      rw [h4] at a5
      cases a5
      rw [h5] at a7
      cases a7
      rw [a6]
      exact List.mem_append_right _ List.mem_cons_self
  · rw [List.length_append, List.length_singleton]
    have := h.le
    omega
  · obtain ⟨e, he, ee⟩ := List.mem_map.mp z
    rcases h.lo e he with y | ⟨y1, ms', k', mk', q, y2, y3, y4, y5, y6, y7⟩
    · rw [ee] at y
      omega
    · rw [h1] at y2
      cases y2
      obtain rfl := nd_mem ok.nd h2 y3 (h3.trans y4.symm)
      rw [ee] at y6
      have := nd_inj (mk_nd ok h2) h4 y5 y6.symm
      omega
theorem RbI.next {ks : List Kd1} {mss : List Ms1} {i j : Nat} {es : List En} (h : RbI ks mss i j es) (hj : j ≤ 8) (hl : ∀ ms, mss[i]? = some ms → ms.2.length ≤ j) : RbI ks mss (i + 1) 0 es := by
  refine ⟨h.at_, fun e he => ?_, fun n m r ms k mk q a1 a2 a3 a4 a5 a6 a7 a8 => h.all n m r ms k mk q a1 a2 a3 a4 a5 a6 a7 ?_, by have := h.le; omega⟩
  · rcases h.lo e he with y | ⟨y1, _⟩
    · exact .inl (by omega)
    · exact .inl (by omega)
  · rcases a8 with y | y
    · by_cases c : n ≤ i
      · exact .inl c
      · have en : n = i + 1 := by omega
        subst en
        have h1 := hl ms (by rw [Nat.add_sub_cancel] at a2; exact a2)
        have h2 := (List.getElem?_eq_some_iff.mp a7).1
        exact .inr ⟨rfl, by omega⟩
    · omega
def RbH (H Hc : Hp) (D : Addr) (es : List En) : Prop := ∃ ms, Hc D = some (.dT (dtD (es.map (·.1)) ms)) ∧ EncsT Hc (es.map fun e => rowD e.2) ms ∧ Grow H Hc
section
variable {P : Program} {w : World} {K : PySem.W.Frag} {mg : Str → Option Value} {base : Heap}
theorem ok_rb {f fK : Addr} {fd fdK : FuncData} (F : Fun K "rows_by_maker" "rows_by_maker" sRb f fd) (Z : Gz mg) (hEn : mg "enumerate" = none)
    (GK : FnOk P w K mg base CX0 1 fK fdK ["kinds"] spMk) (DK : Df K mg "makers_by_kind" ["kinds"] fK fdK) : FnOk P w K mg base CX0 2 f fd ["core", "measures"] spRb := by
  refine F.ok (k := 1) cRb (fun vs H Q E h => ?_) (fun cdv A outer s H vs Q E hr h => ?_)
  · obtain ⟨_, _, _, _, rfl, _⟩ := h
    rfl
  · obtain ⟨xc, xm, ks, mss, rfl, ec, em, ok, mo, k⟩ := h
    have hu := hu_of hr
    refine ⟨_, (pss_cons (ps_set (i := 2) cRb.nd rfl (Or.inr rfl) (pe_call (GK.mono (by decide)) hr (by rfl) DK.g DK.k DK.b .nil pass0 (pa_cons (pe_ix ix_tup (pv 0) pe_int (fun _ _ => rfl)) pa_nil))) (pss_one (ps_ret (DC2.pe_dc2T (own := [("number", 3), ("kind", 4), ("rows", 5), ("row", 6), ("maker", 7), ("_", 8)]) (vs2 := [6, 7, 8]) (g := gTup K 2 (gCons (gName 3) (gCons (gTup K 2 (gCons (gName 4) (gCons (gName 5) gNil))) gNil))) (g2 := gTup K 2 (gCons (gTup K 2 (gCons (gName 7) (gCons (gName 8) gNil))) (gCons (gName 6) gNil))) (tt := tYes) (tt2 := tYes) (wi2 := iZipA K (tCons (tDGet (tVar 2) (tVar 4)) (tCons (tVar 5) tNil))) (by rfl) hu cRb.nd (EK.pi_enumK (by rfl) hEn (pa_cons (pv 1) pa_nil) (pk_cons pe_int pk_nil)) (blkOk_by (own := [("number", 3), ("kind", 4), ("rows", 5), ("row", 6), ("maker", 7), ("_", 8)]) (N := ["core", "measures", "makers", "number", "kind", "rows", "row", "maker", "_"]) (sc := defScope sRb) (by decide +kernel)) (by decide) (fun _ _ _ _ _ => (pg_tup (by rfl) (pgs_cons (pg_name (i := 3) cRb.nd rfl (Or.inl rfl)) (pgs_cons (pg_tup (by rfl) (pgs_cons (pg_name (i := 4) cRb.nd rfl (Or.inl rfl)) (pgs_cons (pg_name (i := 5) cRb.nd rfl (Or.inl rfl)) pgs_nil))) pgs_nil)))) (fun _ _ _ _ _ => pts_nil) (fun _ _ _ _ _ => (pi_zipA (by rfl) Z.zip (pa_cons (pe_dget hu (pv 2) (pv 4) (fun _ _ => rfl)) (pa_cons (pv 5) pa_nil)))) (fun _ _ _ _ _ => (pg_tup (by rfl) (pgs_cons (pg_tup (by rfl) (pgs_cons (pg_name (i := 7) cRb.nd rfl (Or.inl rfl)) (pgs_cons (pg_name (i := 8) cRb.nd rfl (Or.inl rfl)) pgs_nil))) (pgs_cons (pg_name (i := 6) cRb.nd rfl (Or.inl rfl)) pgs_nil)))) (fun _ _ _ _ _ => pts_nil) (fun _ _ _ _ _ => (pe_tup (pa_cons (pv 3) (pa_cons (pv 7) pa_nil)))) (fun _ _ _ _ _ => (pv 6)))))), ?_⟩
    cases ec with
    | @tup ac cs _ hac es =>
    cases es with
    | @cons _ c0 _ _ e0 es =>
    cases es with
    | @cons _ c1 _ _ e1 es =>
    cases es
    cases em with
    | @tup a xs _ ha en =>
    have hl := en.length
    rw [List.length_map] at hl
    refine ⟨_, rfl, ac, _, _, _, rfl, rfl, SqT.of hac, at_of (j := 0) rfl rfl, c0, ks, rfl, e0, ok.nd, ok.le, fun D0 ms0 H1 hD0 hD1 ek g1 => ?_⟩
    refine ⟨_, rfl, a, xs, rfl, rfl, SqT.of (g1.tup ha), fun D hD => ?_⟩
    refine dc_it (EK.walk_ek (K := K) (xs := xs)) (fun i Hc => ∃ es, RbI ks mss i 0 es ∧ RbH H1 Hc D es) ⟨[], ⟨fun e he => (nomatch he), fun e he => (nomatch he), fun n m r ms k mk q a1 a2 a3 a4 a5 a6 a7 a8 => by omega, Nat.zero_le _⟩, [], upd_same, .nil, Grow.new hD⟩ (fun i Hc _ hp => ?_) (fun i x Hc H' hi hp y => ?_) (fun Hc hp => ?_)
    · obtain ⟨_, _, _, _, _, g⟩ := hp
      exact SqT.of (g.tup (g1.tup ha))
    · obtain ⟨es0, I, ms1, hDc, em1, g⟩ := hp
      obtain ⟨T, x1, x2, rfl, hT, rfl, e1, e2⟩ := y
      cases e1
      have e2 : xs[i]? = some x2 := e2
      obtain ⟨d1, hd1, ez⟩ := en.get e2
      obtain ⟨m, hm, rfl⟩ := map_get hd1
      obtain ⟨kd, hkd, ekd, elen, hrows⟩ := mo.ms m (List.mem_of_getElem? hm)
      obtain ⟨ki, hki⟩ := List.getElem?_of_mem hkd
      obtain ⟨xk, hxk, exk⟩ := ek.got (i := ki) (d := mksD kd.2) (by rw [List.getElem?_map, hki]; rfl)
      have hv : valV (dkD (ks.map (·.1)) ms0) (Sum.inr m.1 : Key) = some xk := by
        rw [← ekd]
        exact dkD_get ok.nd (by rw [List.getElem?_map, hki]; rfl) hxk
      have h8 := (ok.m1 kd hkd).2
      have gT := Grow.new (o := .tup [.int ((i : Nat) + 1 : Int), x2]) hT
      have g2 := g.trans gT
      have ez := ez.grow g1
      cases ez with
      | @tup b us _ hb eb =>
      cases eb with
      | @cons _ u0 _ _ f0 eb =>
      cases eb with
      | @cons _ u1 _ _ f1 eb =>
      cases eb
      cases f0
      cases f1 with
      | @tup br ys _ hbr er =>
      have hrl := er.length
      rw [List.length_map] at hrl
      cases exk with
      | @tup bk zs _ hbk ekk =>
      have hkl := ekk.length
      rw [List.length_map] at hkl
      have hT1 := upd_same (H := Hc) (a := T) (o := .tup [.int ((i : Nat) + 1 : Int), .ref b])
      have hD2 := g2.dk hD1
      have hDt : L2.upd Hc T (.tup [.int ((i : Nat) + 1 : Int), .ref b]) D = some (.dT (dtD (es0.map (·.1)) ms1)) := by rw [upd_ne (ne_of_none hDc hT)]; exact hDc
      have em2 := em1.grow gT
      generalize L2.upd Hc T (.tup [.int ((i : Nat) + 1 : Int), .ref b]) = H2 at hT1 hD2 hDt em2 g2 ⊢
      have hget : DGet H2 D0 (.str m.1) (some (V.ref bk)) := by
        rw [← hv]
        exact DGet.k (k := Sum.inr m.1) hD2
      refine ⟨T, _, rfl, SqT.of hT1, rfl, _, _, rfl, _, _, rfl, b, _, rfl, SqT.of (g2.tup hb), rfl, _, _, rfl, _, _, rfl, rfl, rfl, (by rw [wipe_put (by decide), wipe_put (by decide), wipe_put (by decide), wipe_again]), ?_⟩
      unfold tYes
      refine iteT ⟨_, rfl, _, rfl, D0, _, rfl, hget, _, rfl, bk, br, zs, ys, rfl, .inr ⟨SqT.of (g2.tup hbk), SqT.of (g2.tup hbr), ?_⟩⟩
      show DC2.dcInT _ _ _ _ _ D [some (.ref ac), some (.ref a), some (.ref D0), some (.int ((i : Nat) + 1 : Int)), some (.str m.1), some (.ref br), none, none, none] _ (ItzT K bk br) H2
      refine dc_it (walk34 (xs := zs) (ys := ys) (n := zs.length) (Nat.le_refl _) (by omega) (.inl (Nat.le_refl _)))
        (fun j Hc => ∃ es, RbI ks mss i j es ∧ RbH H1 Hc D es) ⟨es0, I, ms1, hDt, em2, g2⟩ (fun j Hc _ hp => ?_) (fun j x Hc H' hj hp y => ?_) (fun Hc hp => ?_)
      · obtain ⟨_, _, _, _, _, g3⟩ := hp
        exact ⟨SqT.of (g3.tup hbk), SqT.of (g3.tup hbr)⟩
      · obtain ⟨es1, I1, ms2, hDc, em3, g3⟩ := hp
        obtain ⟨T2, x1, x2, rfl, hT2, rfl, e1, e2⟩ := y
        have e1 : zs[j]? = some x1 := e1
        have e2 : ys[j]? = some x2 := e2
        obtain ⟨d2, hd2, ek1⟩ := ekk.get e1
        obtain ⟨mk, hmk, rfl⟩ := map_get hd2
        obtain ⟨d3, hd3, er1⟩ := er.get e2
        obtain ⟨r, hr3, rfl⟩ := map_get hd3
        obtain ⟨I2, hfr⟩ := I1.push ok hm hkd ekd hmk hr3
        have gT2 := Grow.new (o := .tup [x1, x2]) hT2
        have g4 := g3.trans gT2
        cases ek1 with
        | @tup b2 vs2 _ hb2 eb2 =>
        cases eb2 with
        | @cons _ v0 _ _ p0 eb2 =>
        cases eb2 with
        | @cons _ v1 _ _ p1 eb2 =>
        cases eb2
        cases p0
        have hT3 := upd_same (H := Hc) (a := T2) (o := .tup [.ref b2, x2])
        have hDt3 : L2.upd Hc T2 (.tup [.ref b2, x2]) D = some (.dT (dtD (es1.map (·.1)) ms2)) := by rw [upd_ne (ne_of_none hDc hT2)]; exact hDc
        have em4 := em3.grow gT2
        generalize L2.upd Hc T2 (.tup [.ref b2, x2]) = H3 at hT3 hDt3 em4 g4 ⊢
        refine ⟨T2, _, rfl, SqT.of hT3, rfl, _, _, rfl, b2, _, rfl, SqT.of (g4.tup hb2), rfl, _, _, rfl, _, _, rfl, rfl, _, _, rfl, rfl, (by rw [wipe_put (by decide), wipe_put (by decide), wipe_put (by decide), wipe_again]), ?_⟩
        refine iteT ?_
        show tTup (tCons (tVar 3) (tCons (tVar 7) tNil)) [some (.ref ac), some (.ref a), some (.ref D0), some (.int ((i : Nat) + 1 : Int)), some (.str m.1), some (.ref br), some x2, some (.str mk.1), some v1] H3 _
        refine ⟨_, rfl, _, rfl, (by show 2 ≤ sizeLine; decide), fun t ht => ?_⟩
        have gt := Grow.new (o := .tup [.int ((i : Nat) + 1 : Int), .str mk.1]) ht
        have hDt4 : L2.upd H3 t (.tup [.int ((i : Nat) + 1 : Int), .str mk.1]) D = some (.dT (dtD (es1.map (·.1)) ms2)) := by rw [upd_ne (ne_of_none hDt3 ht)]; exact hDt3
        have hml := em4.length
        rw [List.length_map] at hml
        have hlen : (dtD (es1.map (·.1)) ms2).length < sizeLine := by
          rw [dtD_len (by rw [List.length_map]; exact hml), List.length_map, sizeLine_eq]
          have := I1.le
          have := mo.le
          have := (List.getElem?_eq_some_iff.mp hm).1
          omega
        refine ⟨_, rfl, _, ky (i + 1, mk.1), t, rfl, upd_same, hDt4, hlen, _, I2, ms2 ++ [x2], ?_, ?_, (g4.trans gt).upd' hD⟩
        · rw [upd_same, List.map_append, dtD_push hfr (by rw [List.length_map]; exact hml)]
          rfl
        · rw [List.map_append]
          exact (encs_push (em4.grow gt) ((er1.grow g4).grow gt)).growW GrowW.upd (fun z => z) (fun xs z => by rw [hDt4] at z; cases z)
      · obtain ⟨es1, I1, h⟩ := hp
        refine ⟨es1, I1.next (by omega) fun ms hms => ?_, h⟩
        rw [hm] at hms
        cases hms
        omega
    · obtain ⟨es0, I, ms1, hDc, em1, g⟩ := hp
      refine k D es0 ms1 Hc (g1.none' hD) hDc em1 I.at_ (fun n m r h => ?_) ?_ (g1.trans g)
      · obtain ⟨ms, kd, mk, q, a1, a2, a3, a4, a5, a6, a7⟩ := h
        exact I.all n m r ms kd mk q a1 a2 a3 a4 a5 a6 a7 (.inl (by have := (List.getElem?_eq_some_iff.mp a2).1; omega))
      · have := I.le
        have := mo.le
        omega
end
end J1
set_option Elab.async false
set_option linter.all false
set_option maxRecDepth 100000
set_option maxHeartbeats 4000000
namespace J1
open PySem PySem.Spec PyProof.Rows L2 GxR GA ZS RZ
abbrev sRe : Stmt := top 64
theorem cRe : FnScope ["row", "parts", "const", "terms", "field", "number", "coefficient"] ["row", "parts"] (defScope sRe) := ⟨rfl, rfl, rfl, by decide +kernel, rfl, by decide +kernel, by decide +kernel⟩
/-- a list of dicts: what the fields' measures are, as far as the terms ask -/
def PartsOk (H : Hp) (p : Addr) (r : Row1) (fns : List Fn) : Prop := ∃ ds : List Addr, H p = some (.lst (ds.map V.ref)) ∧ ∀ t ∈ r.2, ∃ d kvs f, ds[t.1]? = some d ∧ fns[t.1]? = some f ∧ H d = some (.dK kvs) ∧ valV kvs (Sum.inl (t.2.1 : Nat)) = some (.int (f t.2.1))
def spRe : Sp := fun vs H Q _ => ∃ (xr : V) (p : Addr) (r : Row1) (fns : List Fn), vs = [xr, .ref p] ∧ EncT H (rowD r) xr ∧ PartsOk H p r fns ∧ r.2.length ≤ 12 ∧ (∀ t ∈ r.2, t.2.2.natAbs ≤ 1000000) ∧ ∀ H', Grow H H' → Q (.int (rowV r fns)) H'
section
variable {P : Program} {w : World} {K : PySem.W.Frag} {mg : Str → Option Value} {base : Heap}
theorem ok_re {f : Addr} {fd : FuncData} (F : Fun K "_reckoned" "_reckoned" sRe f fd) (hSum : mg "sum" = none) : FnOk P w K mg base CX0 1 f fd ["row", "parts"] spRe := by
  refine F.ok (k := 0) cRe (fun vs H Q E h => ?_) (fun cdv A outer s H vs Q E hr h => ?_)
  · obtain ⟨_, _, _, _, rfl, _⟩ := h
    rfl
  · obtain ⟨xr, p, r, fns, rfl, er, ⟨ds, hp, hds⟩, le, hc, k⟩ := h
    have hu := hu_of hr
    refine ⟨_, (pss_cons (ps_asg (pv 0) (pg_tup (by rfl) (pgs_cons (pg_name (i := 2) cRe.nd rfl (Or.inl rfl)) (pgs_cons (pg_name (i := 3) cRe.nd rfl (Or.inl rfl)) pgs_nil)))) (pss_one (ps_ret (pe_op op_add (pv 2) (pe_callB (cr_sum (by rfl)) (by rfl) hSum (by decide +kernel) (pa_cons (pe_lc (own := [("field", 4), ("number", 5), ("coefficient", 6)]) (g := gTup K 3 (gCons (gName 4) (gCons (gName 5) (gCons (gName 6) gNil)))) (tt := tYes) (by rfl) cRe.nd (pi_tup (pv 3)) (blkOk_by (own := [("field", 4), ("number", 5), ("coefficient", 6)]) (N := ["row", "parts", "const", "terms", "field", "number", "coefficient"]) (sc := defScope sRe) (by decide +kernel)) (fun _ _ _ _ _ => (pg_tup (by rfl) (pgs_cons (pg_name (i := 4) cRe.nd rfl (Or.inl rfl)) (pgs_cons (pg_name (i := 5) cRe.nd rfl (Or.inl rfl)) (pgs_cons (pg_name (i := 6) cRe.nd rfl (Or.inl rfl)) pgs_nil))))) (fun _ _ _ _ _ => pts_nil) (fun _ _ _ _ _ => (pe_op op_mul (pv 6) (pe_dget hu (pe_ix (r := rIxL K) ix_list (pv 1) (pv 4) (fun _ _ => rfl)) (pv 5) (fun _ _ => rfl))))) pa_nil)))))), ?_⟩
    cases er with
    | @tup ar ys _ har es =>
    cases es with
    | @cons _ y0 _ _ e0 es =>
    cases es with
    | @cons _ y1 _ _ e1 es =>
    cases es
    cases e0
    cases e1 with
    | @tup a xs _ ha et =>
    have hl := et.length
    rw [List.length_map] at hl
    refine ⟨_, rfl, ar, _, rfl, SqT.of har, rfl, _, _, rfl, _, _, rfl, rfl, ?_⟩
    refine ⟨_, rfl, _, rfl, a, rfl, ⟨_, SqT.of ha⟩, fun D hD => ?_⟩
    show ∃ W : Nat → Nat → Hp → Prop, _
    refine lc_tup (K := K) (xs := xs) (fun i Hc => Hc D = some (.lst (((r.2.take i).map fun t => t.2.2 * fnAt fns t.1 t.2.1).map V.int)) ∧ Grow H Hc) ⟨upd_same, Grow.new hD⟩ (fun i Hc _ hp => SqT.of (hp.2.tup ha)) (fun i z Hc hz hp2 => ?_) (fun H1 hp2 => ?_)
    · obtain ⟨hacc, g⟩ := hp2
      obtain ⟨d1, hd1, ez⟩ := et.get hz
      obtain ⟨t, ht, rfl⟩ := map_get hd1
      have htm := List.mem_of_getElem? ht
      obtain ⟨d, kvs, fn, h1, h2, h3, h4⟩ := hds t htm
      have hcb := hc t htm
      have ez := ez.grow g
      cases ez with
      | @tup b us _ hb eb =>
      cases eb with
      | @cons _ u0 _ _ f0 eb =>
      cases eb with
      | @cons _ u1 _ _ f1 eb =>
      cases eb with
      | @cons _ u2 _ _ f2 eb =>
      cases eb
      cases f0
      cases f1
      cases f2
      refine ⟨b, _, rfl, SqT.of hb, rfl, _, _, rfl, _, _, rfl, _, _, rfl, rfl, (by rw [wipe_put (by decide), wipe_put (by decide), wipe_put (by decide), wipe_again]), ?_⟩
      unfold tYes
      have hget : DGet Hc d (.int (t.2.1 : Nat)) (some (.int (fn t.2.1))) := by
        rw [← h4]
        exact DGet.k (k := Sum.inl (t.2.1 : Nat)) (g.dk h3)
      refine iteT ⟨_, rfl, _, rfl, _, rfl, p, _, _, _, rfl, rfl, SqL.of (g.lst hp), at_g (j := t.1) rfl (by rw [List.getElem?_map, h1]; rfl), _, rfl, d, _, rfl, hget, _, _, rfl, rfl, .inl ⟨by omega, by omega⟩, _, hacc, ?_, ?_, g.upd' hD⟩
      · rw [List.length_map, List.length_map, List.length_take, sizeLine_eq]
        omega
      · have e : fnAt fns t.1 t.2.1 = fn t.2.1 := by unfold fnAt; rw [h2]; rfl
        rw [upd_same, List.take_succ, ht, List.map_append, List.map_append, ← e]
        rfl
    · obtain ⟨hacc, g⟩ := hp2
      rw [← hl, List.take_length] at hacc
      exact ⟨D, _, rfl, SqL.of hacc, _, _, rfl, rfl, k H1 g⟩
end
end J1
set_option Elab.async false
set_option linter.all false
set_option maxRecDepth 100000
set_option maxHeartbeats 4000000
namespace J1
open PySem PySem.Spec PyProof.Rows L2 GxR GA ZS RZ
abbrev sWr : Stmt := top 63
theorem cWr : FnScope ["core", "measures", "numbers", "reached", "waiting", "number", "_", "terms", "inner", "found", "maker", "row"] ["core", "measures", "numbers"] (defScope sWr) := ⟨rfl, rfl, rfl, by decide +kernel, rfl, by decide +kernel, by decide +kernel⟩
def prD (q : Nat × Row1) : Da := .tup [.int (q.1 : Nat), rowD q.2]
def WrL (ks : List Kd1) (mss : List Ms1) (R : List Nat) (H : Hp) (m : Str) (p : Addr) : Prop := ∃ (xs : List V) (l : List (Nat × Row1)), H p = some (.lst xs) ∧ EncsT H (l.map prD) xs ∧ (∀ q ∈ l, RowAt ks mss q.1 m q.2 ∧ q.1 ∈ R) ∧ (∀ n r, n ∈ R → RowAt ks mss n m r → (n, r) ∈ l) ∧ l.length ≤ 96
def WrOk (ks : List Kd1) (mss : List Ms1) (R : List Nat) (H : Hp) (D : Addr) : Prop := ∃ (ns : List Str) (ps : List Addr), H D = some (.dK (dkD ns (ps.map V.ref))) ∧ ns.length = ps.length ∧ ns.Nodup ∧ (∀ n m r, n ∈ R → RowAt ks mss n m r → m ∈ ns) ∧ ∀ (j : Nat) (m : Str) (p : Addr), ns[j]? = some m → ps[j]? = some p → WrL ks mss R H m p
def Closed (ks : List Kd1) (mss : List Ms1) (R : List Nat) : Prop := ∀ n m r, n ∈ R → RowAt ks mss n m r → ∀ t ∈ r.2, t.2.1 ∈ R
def spWr : Sp := fun vs H Q _ => ∃ (xc xm : V) (pn : Addr) (n : Nat) (ks : List Kd1) (mss : List Ms1), vs = [xc, xm, .ref pn] ∧ EncT H (coreD ks) xc ∧ EncT H (mssD mss) xm ∧ KdsOk ks ∧ MsOk ks mss ∧ H pn = some (.lst [.int (n : Nat)]) ∧ n ≤ mss.length ∧
  ∀ (D : Addr) (R : List Nat) (H' : Hp), H D = none → WrOk ks mss R H' D → n ∈ R → Closed ks mss R → Grow H H' → Q (.ref D) H'
/-! ### the numbers that are reached -/
def rD (L : List Nat) : List (Key × V) := L.map fun (n : Nat) => ((Sum.inl (n : Int) : Key), V.bl true)
theorem rD_no : ∀ {L : List Nat} {n : Nat}, n ∉ L → valV (rD L) (Sum.inl (n : Int) : Key) = none
  | [], _, _ => rfl
  | a :: r, n, h => by
    have e : rD (a :: r) = ((Sum.inl (a : Int) : Key), V.bl true) :: rD r := rfl
    rw [e, valV_neg (fun z => h (by rw [← Int.ofNat.inj (Sum.inl.inj z)]; exact List.mem_cons_self))]
    exact rD_no fun z => h (List.mem_cons_of_mem _ z)
theorem rD_in : ∀ {L : List Nat} {n : Nat}, n ∈ L → valV (rD L) (Sum.inl (n : Int) : Key) = some (.bl true)
  | [], _, h => absurd h List.not_mem_nil
  | a :: r, n, h => by
    have e : rD (a :: r) = ((Sum.inl (a : Int) : Key), V.bl true) :: rD r := rfl
    by_cases q : a = n
    · subst q
      rw [e]
      exact valV_pos rfl
    · rw [e, valV_neg (fun z => q (Int.ofNat.inj (Sum.inl.inj z)))]
      exact rD_in ((List.mem_cons.mp h).resolve_left fun z => q z.symm)
theorem rD_push {L : List Nat} {n : Nat} (h : n ∉ L) : putK (rD L) (Sum.inl (n : Int) : Key) (.bl true) = rD (L ++ [n]) := by
  rw [putK_new _ (rD_no h)]
  unfold rD
  rw [List.map_append]
  rfl
theorem pigeon : ∀ (k : Nat) {L : List Nat}, L.Nodup → (∀ n ∈ L, n < k) → L.length ≤ k
  | 0, [], _, _ => Nat.le_refl _
  | 0, a :: _, _, h => absurd (h a List.mem_cons_self) (Nat.not_lt_zero _)
  | k + 1, L, nd, h => by
    have e : (L.erase k).length ≤ k := pigeon k (nd.erase k) fun n hn => by
      have h1 := h n (List.mem_of_mem_erase hn)
      have h2 : n ≠ k := fun z => by
        rw [z] at hn
        exact (List.Nodup.not_mem_erase nd) hn
      omega
    rw [List.length_erase] at e
    split at e <;> omega
def lenH (H : Hp) (a : Addr) : Nat := match H a with
  | some (.lst xs) => xs.length
  | some (.dK kvs) => kvs.length
  | _ => 0
theorem lenH_l {H : Hp} {a : Addr} {xs : List V} (h : H a = some (.lst xs)) : lenH H a = xs.length := by unfold lenH; rw [h]
theorem lenH_d {H : Hp} {a : Addr} {kvs : List (Key × V)} (h : H a = some (.dK kvs)) : lenH H a = kvs.length := by unfold lenH; rw [h]
/-- the while's state -/
structure WS (H Hc : Hp) (Dr W : Addr) (ks : List Kd1) (mss : List Ms1) (n : Nat) (L Wt : List Nat) : Prop where
  d : Hc Dr = some (.dK (rD L))
  w : Hc W = some (.lst (Wt.map fun (n : Nat) => V.int (n : Nat)))
  d0 : H Dr = none
  w0 : H W = none
  nd : L.Nodup
  lb : ∀ x ∈ L, x ≤ mss.length
  wb : ∀ x ∈ Wt, x ≤ mss.length
  cl : ∀ x m r, x ∈ L → RowAt ks mss x m r → ∀ t ∈ r.2, t.2.1 ∈ L ∨ t.2.1 ∈ Wt
  own : n ∈ L ∨ n ∈ Wt
  le : Wt.length ≤ 1 + 96 * L.length
  g : Grow H Hc
/-- the found rows, i entries gone through; Hw: the heap ahead -/
structure FI (Hw Hc : Hp) (Fd : Addr) (ks : List Kd1) (mss : List Ms1) (R : List Nat) (es : List En) (i b c : Nat) (ns : List Str) (ps : List Addr) : Prop where
  f : Hc Fd = some (.dK (dkD ns (ps.map V.ref)))
  len : ns.length = ps.length
  nd : ns.Nodup
  pnd : ps.Nodup
  pn : ∀ p ∈ ps, Hw p = none
  all : ∀ e ∈ es.take i, e.1.1 ∈ R → e.1.2 ∈ ns
  ls : ∀ (j : Nat) (m : Str) (p : Addr), ns[j]? = some m → ps[j]? = some p → ∃ (xs : List V) (l : List (Nat × Row1)), Hc p = some (.lst xs) ∧ EncsT Hc (l.map prD) xs ∧ (∀ q ∈ l, RowAt ks mss q.1 m q.2 ∧ q.1 ∈ R) ∧ (∀ e ∈ es.take i, e.1.1 ∈ R → e.1.2 = m → (e.1.1, e.2) ∈ l) ∧ l.length ≤ b
  le : ns.length ≤ c
  f0 : Hw Fd = none
  g : Grow Hw Hc
variable {Hw Hc H' : Hp} {Fd p : Addr} {ks : List Kd1} {mss : List Ms1} {R : List Nat} {es : List En} {i b c : Nat} {ns : List Str} {ps : List Addr} {m : Str}
theorem FI.grow (I : FI Hw Hc Fd ks mss R es i b c ns ps) (g : Grow Hc H') : FI Hw H' Fd ks mss R es i b c ns ps :=
  ⟨g.dk I.f, I.len, I.nd, I.pnd, I.pn, I.all, fun j m p h1 h2 => by
    obtain ⟨xs, l, a, b', c'⟩ := I.ls j m p h1 h2
    exact ⟨xs, l, g.lst a, b'.grow g, c'⟩, I.le, I.f0, I.g.trans g⟩
theorem FI.pair (I : FI Hw Hc Fd ks mss R es i b c ns ps) {j : Nat} (h : j < ps.length) : ∃ m, ns[j]? = some m := ⟨_, List.getElem?_eq_getElem (by rw [I.len]; exact h)⟩
/-- a new maker, with a new empty list -/
theorem FI.new (I : FI Hw Hc Fd ks mss R es i b c ns ps) (hm : m ∉ ns) (hp : Hc p = none) :
    FI Hw (L2.upd (L2.upd Hc p (.lst [])) Fd (.dK (dkD (ns ++ [m]) ((ps ++ [p]).map V.ref)))) Fd ks mss R es i b (c + 1) (ns ++ [m]) (ps ++ [p]) := by
  have hpp : p ∉ ps := fun z => by
    obtain ⟨j, hj⟩ := List.getElem?_of_mem z
    obtain ⟨m', hm'⟩ := I.pair (List.getElem?_eq_some_iff.mp hj).1
    obtain ⟨xs, _, a, _⟩ := I.ls j m' p hm' hj
    rw [hp] at a
    cases a
  have gp := Grow.new (o := .lst []) hp
  have hF := gp.dk I.f
  refine ⟨upd_same, by rw [List.length_append, List.length_append, I.len]; rfl, ?_, ?_, fun q hq => ?_, fun e he hr => List.mem_append_left _ (I.all e he hr), fun j m' p' h1 h2 => ?_, by rw [List.length_append, List.length_singleton]; have := I.le; omega, I.f0, (I.g.trans gp).upd' I.f0⟩
  · rw [List.nodup_append]
    exact ⟨I.nd, List.pairwise_singleton _ _, fun x hx y hy z => by rw [List.mem_singleton.mp hy] at z; rw [z] at hx; exact hm hx⟩
  · rw [List.nodup_append]
    exact ⟨I.pnd, List.pairwise_singleton _ _, fun x hx y hy z => by rw [List.mem_singleton.mp hy] at z; rw [z] at hx; exact hpp hx⟩
  · rcases List.mem_append.mp hq with z | z
    · exact I.pn q z
    · rw [List.mem_singleton.mp z]
      exact I.g.none' hp
  · by_cases hj : j < ns.length
    · rw [List.getElem?_append_left hj] at h1
      rw [List.getElem?_append_left (by rw [← I.len]; exact hj)] at h2
      obtain ⟨xs, l, a, b', c', d, e⟩ := I.ls j m' p' h1 h2
      have a2 := gp.lst a
      have n2 : p' ≠ Fd := fun z => by rw [z, hF] at a2; cases a2
      exact ⟨xs, l, by rw [upd_ne n2]; exact a2, (b'.grow gp).growW GrowW.upd (fun z => z) (noTupD hF), c', d, by omega⟩
    · rw [List.getElem?_append_right (by omega)] at h1
      rw [List.getElem?_append_right (by rw [← I.len]; omega)] at h2
      have hj0 : j - ns.length = 0 := by
        have := (List.getElem?_eq_some_iff.mp h1).1
        rw [List.length_singleton] at this
        omega
      rw [hj0] at h1
      rw [← I.len, hj0] at h2
      cases h1
      cases h2
      have n2 : p ≠ Fd := fun z => by rw [z, I.f] at hp; cases hp
      exact ⟨[], [], by rw [upd_ne n2]; exact upd_same, .nil, fun q hq => (nomatch hq), fun e he hr hm' => absurd (hm' ▸ I.all e he hr) hm, Nat.zero_le _⟩
theorem nd_ix {α : Type} {l : List α} (h : l.Nodup) {i j : Nat} {a : α} (ha : l[i]? = some a) (hb : l[j]? = some a) : i = j := by
  obtain ⟨i1, e1⟩ := List.getElem?_eq_some_iff.mp ha
  obtain ⟨i2, e2⟩ := List.getElem?_eq_some_iff.mp hb
  rw [List.Nodup, List.pairwise_iff_getElem] at h
  rcases Nat.lt_trichotomy i j with q | q | q
  · exact absurd (e1.trans e2.symm) (h i j i1 i2 q)
  · exact q
  · exact absurd (e2.trans e1.symm) (h j i i2 i1 q)
theorem take_mem {α : Type} {l : List α} {i : Nat} {a x : α} (h : l[i]? = some a) (hx : x ∈ l.take (i + 1)) : x ∈ l.take i ∨ x = a := by
  rw [List.take_succ, h] at hx
  rcases List.mem_append.mp hx with z | z
  · exact .inl z
  · exact .inr (List.mem_singleton.mp z)
/-- an entry whose number is not reached -/
theorem FI.skip (I : FI Hw Hc Fd ks mss R es i b c ns ps) {e : En} (he : es[i]? = some e) (hr : e.1.1 ∉ R) : FI Hw Hc Fd ks mss R es (i + 1) (b + 1) (c + 1) ns ps :=
  ⟨I.f, I.len, I.nd, I.pnd, I.pn, fun x hx h => (take_mem he hx).elim (fun z => I.all x z h) fun z => absurd (z ▸ h) hr, fun j m p h1 h2 => by
    obtain ⟨xs, l, a, b', c', d, le⟩ := I.ls j m p h1 h2
    exact ⟨xs, l, a, b', c', fun x hx h hm => (take_mem he hx).elim (fun z => d x z h hm) fun z => absurd (z ▸ h) hr, by omega⟩, by have := I.le; omega, I.f0, I.g⟩
/-- an entry is put to its maker's list -/
theorem FI.app (I : FI Hw Hc Fd ks mss R es i b c ns ps) {e : En} {j : Nat} {xs : List V} {x : V} (he : es[i]? = some e) (hr : e.1.1 ∈ R) (hra : RowAt ks mss e.1.1 e.1.2 e.2) (hj : ns[j]? = some e.1.2) (hp : ps[j]? = some p) (hxs : Hc p = some (.lst xs)) (hx : EncT Hc (prD (e.1.1, e.2)) x) :
    FI Hw (L2.upd Hc p (.lst (xs ++ [x]))) Fd ks mss R es (i + 1) (b + 1) c ns ps := by
  have nF : p ≠ Fd := fun z => by rw [z, I.f] at hxs; cases hxs
  refine ⟨by rw [upd_ne (Ne.symm nF)]; exact I.f, I.len, I.nd, I.pnd, I.pn, fun y hy h => (take_mem he hy).elim (fun z => I.all y z h) fun z => by rw [z]; exact List.mem_of_getElem? hj, fun j' m' p' h1 h2 => ?_, I.le, I.f0, I.g.upd' (I.pn p (List.mem_of_getElem? hp))⟩
  obtain ⟨xs', l, a, b', c', d, le⟩ := I.ls j' m' p' h1 h2
  have noT : ∀ ys, Hc p ≠ some (.tup ys) := fun ys z => by rw [hxs] at z; cases z
  by_cases q : j' = j
  · subst q
    rw [hj] at h1
    cases h1
    rw [hp] at h2
    cases h2
    rw [hxs] at a
    cases a
    refine ⟨_, l ++ [(e.1.1, e.2)], upd_same, ?_, fun y hy => ?_, fun y hy h hm => ?_, by rw [List.length_append, List.length_singleton]; omega⟩
    · rw [List.map_append]
      exact (encs_push b' hx).growW GrowW.upd (fun z => z) noT
    · rcases List.mem_append.mp hy with z | z
      · exact c' y z
      · rw [List.mem_singleton.mp z]
        exact ⟨hra, hr⟩
    · rcases take_mem he hy with z | z
      · exact List.mem_append_left _ (d y z h hm)
      · rw [z]
        exact List.mem_append_right _ List.mem_cons_self
  · have np : p' ≠ p := fun z => by
      rw [z] at h2
      exact q (nd_ix I.pnd h2 hp)
    refine ⟨xs', l, by rw [upd_ne np]; exact a, b'.growW GrowW.upd (fun z => z) noT, c', fun y hy h hm => ?_, by omega⟩
    rcases take_mem he hy with z | z
    · exact d y z h hm
    · rw [z] at hm
      rw [← hm] at h1
      exact absurd (nd_ix I.nd h1 hj) q
/-- what the comprehension of needed numbers has, i rows gone through and j terms of the next -/
structure AcI (mss : List Ms1) (ms : Ms1) (i j : Nat) (acc : List Nat) : Prop where
  all : ∀ q r, q < i → ms.2[q]? = some r → ∀ t ∈ r.2, t.2.1 ∈ acc
  cur : ∀ r q t, ms.2[i]? = some r → q < j → r.2[q]? = some t → t.2.1 ∈ acc
  lb : ∀ x ∈ acc, x ≤ mss.length
  le : acc.length ≤ 12 * i + j
theorem AcI.push {mss : List Ms1} {ms : Ms1} {i j : Nat} {acc : List Nat} (h : AcI mss ms i j acc) {r : Row1} {t : Tm} (h1 : ms.2[i]? = some r) (h2 : r.2[j]? = some t) (hb : t.2.1 ≤ mss.length) : AcI mss ms i (j + 1) (acc ++ [t.2.1]) := by
  refine ⟨fun q r' hq hr t' ht => List.mem_append_left _ (h.all q r' hq hr t' ht), fun r' q t' hr hq ht => ?_, fun x hx => ?_, by rw [List.length_append, List.length_singleton]; have := h.le; omega⟩
  · by_cases c : q < j
    · exact List.mem_append_left _ (h.cur r' q t' hr c ht)
    · have e : q = j := by omega
      subst e
      rw [h1] at hr
      cases hr
      rw [h2] at ht
      cases ht
      exact List.mem_append_right _ List.mem_cons_self
  · rcases List.mem_append.mp hx with z | z
    · exact h.lb x z
    · rw [List.mem_singleton.mp z]
      exact hb
theorem AcI.next {mss : List Ms1} {ms : Ms1} {i j : Nat} {acc : List Nat} (h : AcI mss ms i j acc) {r : Row1} (h1 : ms.2[i]? = some r) (h2 : r.2.length = j) (h3 : j ≤ 12) : AcI mss ms (i + 1) 0 acc := by
  refine ⟨fun q r' hq hr t ht => ?_, fun _ q _ _ hq => absurd hq (Nat.not_lt_zero _), h.lb, by have := h.le; omega⟩
  by_cases c : q < i
  · exact h.all q r' c hr t ht
  · have e : q = i := by omega
    subst e
    rw [h1] at hr
    cases hr
    obtain ⟨p, hp⟩ := List.getElem?_of_mem ht
    exact h.cur _ p t h1 (by have := (List.getElem?_eq_some_iff.mp hp).1; omega) hp
/-- the row of a measure: what its terms speak of -/
theorem ms_rows {ks : List Kd1} {mss : List Ms1} (ok : KdsOk ks) (mo : MsOk ks mss) {ms : Ms1} (h : ms ∈ mss) : ms.2.length ≤ 8 ∧ ∀ r ∈ ms.2, r.2.length ≤ 12 ∧ ∀ t ∈ r.2, t.2.1 ≤ mss.length := by
  obtain ⟨k, hk, e1, e2, e3⟩ := mo.ms ms h
  have h8 := (ok.m1 k hk).2
  refine ⟨by omega, fun r hr => ?_⟩
  obtain ⟨i, hi⟩ := List.getElem?_of_mem hr
  have hl := (List.getElem?_eq_some_iff.mp hi).1
  have ro := e3 i r _ hi (List.getElem?_eq_getElem (by omega : i < k.2.length))
  refine ⟨ro.le, fun t ht => ?_⟩
  obtain ⟨s, h1, _⟩ := (ro.ts t ht).bel
  have := (List.getElem?_eq_some_iff.mp h1).1
  unfold knS at this
  rw [List.length_cons, List.length_map] at this
  omega
section
variable {P : Program} {w : World} {K : PySem.W.Frag} {mg : Str → Option Value} {base : Heap}
theorem ok_wr {f fR : Addr} {fd fdR : FuncData} (F : Fun K "_wanted_rows" "_wanted_rows" sWr f fd) (hLi : mg "list" = none)
    (GR : FnOk P w K mg base CX0 2 fR fdR ["core", "measures"] spRb) (DR : Df K mg "rows_by_maker" ["core", "measures"] fR fdR) : FnOk P w K mg base CX0 3 f fd ["core", "measures", "numbers"] spWr := by
  refine F.ok (k := 2) cWr (fun vs H Q E h => ?_) (fun cdv A outer s H vs Q E hr h => ?_)
  · obtain ⟨_, _, _, _, _, _, rfl, _⟩ := h
    rfl
  · obtain ⟨xc, xm, pn, n, ks, mss, rfl, ec, em, ok, mo, hpn, hn, k⟩ := h
    have hu := hu_of hr
    refine ⟨_, (pss_cons (ps_set (i := 3) cWr.nd rfl (Or.inl rfl) pe_dnewK) (pss_cons (ps_set (i := 4) cWr.nd rfl (Or.inl rfl) (pe_callTy call_list_of (by rfl) hLi (by decide +kernel) (pa_cons (pv 2) pa_nil))) (pss_cons (ps_while PassesOwn.never (pt_truth (pv 4) (fun _ => rfl)) (pss_cons (ps_set (i := 5) cWr.nd rfl (Or.inl rfl) (pe_bm0 PySem.F.plainAttrs_list PySem.F.slot_list_pop PySem.F.type_list_pop mt_pop (pv 4))) (pss_one (ps_if (pt_cmp (pc_dnotin hu (pv 5) (pv 3))) (pss_cons (ps_dput hu (pv 3) (pv 5) pe_bl rfl) (pss_one (ps_if (pt_cmpR op_gt (pv 5) pe_int (nomark _)) (pss_one (ps_expr (pe_bm PySem.F.plainAttrs_list PySem.F.slot_list_extend PySem.F.type_list_extend mt_extend (pv 4) (pa_cons (pe_lc2 (own := [("_", 6), ("terms", 7), ("inner", 8)]) (vs1 := [6, 8]) (g := gTup K 2 (gCons (gName 6) (gCons (gName 7) gNil))) (g1 := gTup K 3 (gCons (gName 6) (gCons (gName 8) (gCons (gName 6) gNil)))) (tt := tYes) (tt1 := tYes) (wi1 := iTup K (tVar 7)) (by rfl) cWr.nd (pi_tup (pe_ix ix_tup (pe_ix ix_tup (pv 1) (pe_op op_sub (pv 5) pe_int) (fun _ _ => rfl)) pe_int (fun _ _ => rfl))) (blkOk_by (own := [("_", 6), ("terms", 7), ("inner", 8)]) (N := ["core", "measures", "numbers", "reached", "waiting", "number", "_", "terms", "inner", "found", "maker", "row"]) (sc := defScope sWr) (by decide +kernel)) (by decide) (fun _ _ _ _ _ => (pg_tup (by rfl) (pgs_cons (pg_name (i := 6) cWr.nd rfl (Or.inl rfl)) (pgs_cons (pg_name (i := 7) cWr.nd rfl (Or.inl rfl)) pgs_nil)))) (fun _ _ _ _ _ => pts_nil) (fun _ _ _ _ _ => (pi_tup (pv 7))) (fun _ _ _ _ _ => (pg_tup (by rfl) (pgs_cons (pg_name (i := 6) cWr.nd rfl (Or.inl rfl)) (pgs_cons (pg_name (i := 8) cWr.nd rfl (Or.inl rfl)) (pgs_cons (pg_name (i := 6) cWr.nd rfl (Or.inl rfl)) pgs_nil))))) (fun _ _ _ _ _ => pts_nil) (fun _ _ _ _ _ => (pv 8))) pa_nil)))) pss_nil))) pss_nil)))) (pss_cons (ps_set (i := 9) cWr.nd rfl (Or.inl rfl) pe_dnewK) (pss_cons (ps_for PassesOwn.never rfl (pi_itemsT (pe_lockV (pe_call (GR.mono (by decide)) hr (by rfl) DR.g DR.k DR.b .nil pass0 (pa_cons (pv 0) (pa_cons (pv 1) pa_nil))))) (pg_tup (by rfl) (pgs_cons (pg_tup (by rfl) (pgs_cons (pg_name (i := 5) cWr.nd rfl (Or.inl rfl)) (pgs_cons (pg_name (i := 10) cWr.nd rfl (Or.inl rfl)) pgs_nil))) (pgs_cons (pg_name (i := 11) cWr.nd rfl (Or.inl rfl)) pgs_nil))) (pss_one (ps_if (pt_cmp (pc_din hu (pv 5) (pv 3))) (pss_one (ps_expr (pe_bm PySem.F.plainAttrs_list PySem.F.slot_list_append PySem.F.type_list_append mt_append (pe_dsetd (pv 9) (pv 10) (pe_lst pa_nil) ⟨rfl, rfl, rfl, rfl⟩) (pa_cons (pe_tup (pa_cons (pv 5) (pa_cons (pv 11) pa_nil))) pa_nil)))) pss_nil))) (pss_one (ps_ret (pv 9)))))))), ?_⟩
    have em0 := em
    cases em with
    | @tup a xs _ ha en =>
    have hl := en.length
    rw [List.length_map] at hl
    refine fun Dr hDr => ?_
    have gDr := Grow.new (o := .dK []) hDr
    refine ⟨_, rfl, pn, _, rfl, .inl (SqL.of (gDr.lst hpn)), fun W hW => ?_⟩
    have hDW : Dr ≠ W := fun z => by rw [← z, upd_same] at hW; cases hW
    dsimp only [gName]
    unfold tSeq
    refine while_by (fun σ' Hc => ∃ v5 L Wt, σ' = [some xc, some (.ref a), some (.ref pn), some (.ref Dr), some (.ref W), v5, none, none, none, none, none, none] ∧ WS H Hc Dr W ks mss n L Wt) (fun _ Hc => (13 - lenH Hc Dr) * 200 + lenH Hc W)
      ⟨none, [], [n], rfl, by rw [upd_ne hDW]; exact upd_same, upd_same, hDr, gDr.none' hW, List.nodup_nil, fun x hx => (nomatch hx), fun x hx => by rw [List.mem_singleton.mp hx]; exact hn, fun x m r hx => (nomatch hx), .inr List.mem_cons_self, Nat.le_refl _, gDr.trans (Grow.new hW)⟩ (fun σ' Hc hp => ?_) ?_
    rotate_left
    · rintro σ' Hc Q1 Q2 hq ⟨v, e, b, t, q⟩
      exact ⟨v, e, b, t, hq _ _ q⟩
    obtain ⟨v5, L, Wt, rfl, S⟩ := hp
    have hle := mo.le
    have hL13 : L.length ≤ 13 := pigeon 13 S.nd fun x hx => by have := S.lb x hx; omega
    rcases List.eq_nil_or_concat Wt with rfl | ⟨Wt', y, rfl⟩
    · refine ⟨_, rfl, false, .inl ⟨_, SqL.of S.w, rfl⟩, iteF ?_⟩
      have hcl : Closed ks mss L := fun x m r hx hr t ht => (S.cl x m r hx hr t ht).elim id fun z => (nomatch z)
      have hnL : n ∈ L := S.own.elim id fun z => (nomatch z)
      refine fun Fd hFd => ?_
      have gF := Grow.new (o := .dK []) hFd
      have ec2 := (ec.grow S.g).grow gF
      have em2 := (em0.grow S.g).grow gF
      have hF1 := upd_same (H := Hc) (a := Fd) (o := .dK [])
      have hDF := gF.dk S.d
      generalize L2.upd Hc Fd (.dK []) = H1 at gF ec2 em2 hF1 hDF ⊢
      refine ⟨_, rfl, _, rfl, xc, _, ks, mss, rfl, ec2, em2, ok, mo, fun Db es ms H2 hDb hD2 ee eat eall ele g2 => ⟨Db, _, rfl, hD2, trivial, fun od => ⟨Db, od, _, rfl, upd_same, ?_⟩⟩⟩
      have ee2 : EncsT (L2.upd H2 Db (.frz od (.dT (dtD (es.map (·.1)) ms)))) (es.map fun e => rowD e.2) ms := ee.growW GrowW.upd (fun z => z) (fun xs z => by rw [hD2] at z; cases z)
      have I0 : FI Hc (L2.upd H2 Db (.frz od (.dT (dtD (es.map (·.1)) ms)))) Fd ks mss L es 0 0 0 [] [] := by
        refine ⟨?_, rfl, List.nodup_nil, List.nodup_nil, fun p hp => (nomatch hp), fun e he => (nomatch he), fun j m p h => (nomatch h), Nat.le_refl _, hFd, (gF.trans g2).upd' (gF.none' hDb)⟩
        have n1 : Fd ≠ Db := fun z => by rw [z] at hF1; rw [hF1] at hDb; cases hDb
        rw [upd_ne n1]
        exact g2.dk hF1
      have hml := ee2.length
      rw [List.length_map] at hml
      refine for_it (walk_itemsT (o := od)) (fun i σ' Hx => ∃ v5 v10 v11 ns ps, σ' = [some xc, some (.ref a), some (.ref pn), some (.ref Dr), some (.ref W), v5, none, none, none, some (.ref Fd), v10, v11] ∧ FI Hc Hx Fd ks mss L es i i i ns ps ∧ EncsT Hx (es.map fun e => rowD e.2) ms ∧ Hx Db = some (.frz od (.dT (dtD (es.map (·.1)) ms))))
        ⟨_, _, _, _, _, rfl, I0, ee2, upd_same⟩ (fun i σ' Hx _ hp => ?_) (fun i x σ' Hx H' hi hp y => ?_) (fun σ' Hx hp => ?_)
      · obtain ⟨_, _, _, _, _, _, _, _, z⟩ := hp
        exact z
      · obtain ⟨v5', v10, v11, ns, ps, rfl, I, ex, hfz⟩ := hp
        obtain ⟨T, ky0, v, q, hkv, rfl, hT, hq, rfl⟩ := y
        obtain ⟨nm, hes, hms, rfl⟩ := dtD_get hkv
        obtain ⟨e, he, rfl⟩ := map_get hes
        obtain ⟨d2, hd2, ev⟩ := ex.get hms
        rw [List.getElem?_map, he] at hd2
        cases hd2
        have hra := eat e (List.mem_of_getElem? he)
        have hi96 : i < 96 := by have := (List.getElem?_eq_some_iff.mp he).1; omega
        have gT := Grow.new (o := .tup [.ref q, v]) hT
        have hT1 := upd_same (H := Hx) (a := T) (o := .tup [.ref q, v])
        have hfz1 : L2.upd Hx T (.tup [.ref q, v]) Db = some (.frz od (.dT (dtD (es.map (·.1)) ms))) := by rw [upd_ne (ne_of_none hfz hT)]; exact hfz
        have I1 := I.grow gT
        have ex1 := ex.grow gT
        have ev1 := ev.grow gT
        have hq1 := gT.tup hq
        have hDr1 := I1.g.dk S.d
        generalize L2.upd Hx T (.tup [.ref q, v]) = H3 at hT1 hfz1 I1 ex1 ev1 hq1 hDr1 ⊢
        refine ⟨T, _, rfl, SqT.of hT1, rfl, _, _, rfl, q, _, rfl, SqT.of hq1, rfl, _, _, rfl, _, _, rfl, rfl, _, _, rfl, rfl, ?_⟩
        refine ⟨_, rfl, _, rfl, Dr, _, rfl, DGet.k (k := Sum.inl (e.1.1 : Int)) hDr1, _, rfl, ?_⟩
        by_cases hr : e.1.1 ∈ L
        · rw [rD_in hr]
          refine iteT ?_
          have fin : ∀ (Hz : Hp) (ns : List Str) (ps : List Addr) (j : Nat) (p : Addr) (c : Nat), FI Hc Hz Fd ks mss L es i i c ns ps → c ≤ i + 1 → ns[j]? = some e.1.2 → ps[j]? = some p → EncsT Hz (es.map fun e => rowD e.2) ms → EncT Hz (rowD e.2) v → Hz Db = some (.frz od (.dT (dtD (es.map (·.1)) ms))) →
              ∃ xs, Hz p = some (.lst xs) ∧ xs.length < sizeLine ∧ ∀ t, Hz t = none → ∃ v5 v10 v11 ns ps, [some xc, some (V.ref a), some (V.ref pn), some (V.ref Dr), some (V.ref W), some (V.int (e.1.1 : Nat)), none, none, none, some (V.ref Fd), some (V.str e.1.2), some v] = [some xc, some (V.ref a), some (V.ref pn), some (V.ref Dr), some (V.ref W), v5, none, none, none, some (V.ref Fd), v10, v11] ∧
                FI Hc (L2.upd (L2.upd Hz t (.tup [.int (e.1.1 : Nat), v])) p (.lst (xs ++ [.ref t]))) Fd ks mss L es (i + 1) (i + 1) (i + 1) ns ps ∧ EncsT (L2.upd (L2.upd Hz t (.tup [.int (e.1.1 : Nat), v])) p (.lst (xs ++ [.ref t]))) (es.map fun e => rowD e.2) ms ∧ L2.upd (L2.upd Hz t (.tup [.int (e.1.1 : Nat), v])) p (.lst (xs ++ [.ref t])) Db = some (.frz od (.dT (dtD (es.map (·.1)) ms))) := by
            intro Hz ns ps j p c J hc h1 h2 ez ev hfz
            obtain ⟨xs, l, a1, a2, _, _, a5⟩ := J.ls j _ p h1 h2
            have hxl := a2.length
            rw [List.length_map] at hxl
            refine ⟨xs, a1, by rw [sizeLine_eq]; omega, fun t ht => ?_⟩
            have gt := Grow.new (o := .tup [.int (e.1.1 : Nat), v]) ht
            have et : EncT (L2.upd Hz t (.tup [.int (e.1.1 : Nat), v])) (prD (e.1.1, e.2)) (.ref t) := .tup upd_same (.cons (.int _) (.cons (ev.grow gt) .nil))
            have a1' := gt.lst a1
            have K2 := (J.grow gt).app he hr hra h1 h2 a1' et
            have noT : ∀ ys, L2.upd Hz t (.tup [.int (e.1.1 : Nat), v]) p ≠ some (.tup ys) := fun ys z => by rw [a1'] at z; cases z
            have npD : Db ≠ p := fun z => by rw [← z, hfz] at a1; cases a1
            refine ⟨_, _, _, ns, ps, rfl, ⟨K2.f, K2.len, K2.nd, K2.pnd, K2.pn, K2.all, K2.ls, by have := K2.le; omega, K2.f0, K2.g⟩, (ez.grow gt).growW GrowW.upd (fun z => z) noT, ?_⟩
            rw [upd_ne npD, upd_ne (ne_of_none hfz ht)]
            exact hfz
          refine ⟨_, rfl, Fd, rfl, .inl ⟨_, .inl I1.f⟩, _, rfl, (by show 0 ≤ sizeLine; decide), fun p hp => ?_⟩
          have gp := Grow.new (o := .lst []) hp
          refine ⟨_, Sum.inr e.1.2, gp.dk I1.f, rfl, ?_, fun v2 hv2 => ?_, fun hn => ?_⟩
          · have h1 := dkD_len (ns := ns) (ms := ps.map V.ref)
            have := I1.le
            rw [sizeLine_eq]
            omega
          · have hmem : e.1.2 ∈ ns := Classical.byContradiction fun z => by rw [dkD_no z] at hv2; cases hv2
            obtain ⟨j, hj⟩ := List.getElem?_of_mem hmem
            have hjl := (List.getElem?_eq_some_iff.mp hj).1
            obtain ⟨p2, hp2⟩ : ∃ p2, ps[j]? = some p2 := ⟨_, List.getElem?_eq_getElem (by rw [← I1.len]; exact hjl)⟩
            rw [dkD_get (ms := ps.map V.ref) I1.nd hj (by rw [List.getElem?_map, hp2]; rfl)] at hv2
            cases hv2
            obtain ⟨xs, h1, h2, h3⟩ := fin _ ns ps j p2 i (I1.grow gp) (Nat.le_succ _) hj hp2 (ex1.grow gp) (ev1.grow gp) (by rw [upd_ne (ne_of_none hfz1 hp)]; exact hfz1)
            exact ⟨.inl ⟨rfl, _, SqL.of h1⟩, _, rfl, _, rfl, (by show 2 ≤ sizeLine; decide), fun t ht => ⟨p2, xs, .ref t, rfl, rfl, (Grow.new ht).lst h1, h2, h3 t ht⟩⟩
          · have hnm : e.1.2 ∉ ns := fun z => by
              obtain ⟨j, hj⟩ := List.getElem?_of_mem z
              have hjl := (List.getElem?_eq_some_iff.mp hj).1
              obtain ⟨p2, hp2⟩ : ∃ p2, ps[j]? = some p2 := ⟨_, List.getElem?_eq_getElem (by rw [← I1.len]; exact hjl)⟩
              rw [dkD_get (ms := ps.map V.ref) I1.nd hj (by rw [List.getElem?_map, hp2]; rfl)] at hn
              cases hn
            rw [dkD_push hnm (by rw [List.length_map]; exact I1.len)]
            have J := I1.new hnm hp
            rw [show ps.map V.ref ++ [V.ref p] = (ps ++ [p]).map V.ref by rw [List.map_append]; rfl]
            have hF2 := gp.dk I1.f
            have nFD : Db ≠ Fd := fun z => by rw [z, I1.f] at hfz1; cases hfz1
            obtain ⟨xs, h1, h2, h3⟩ := fin _ (ns ++ [e.1.2]) (ps ++ [p]) ns.length p (i + 1) J (Nat.le_refl _) (by rw [List.getElem?_append_right (Nat.le_refl _), Nat.sub_self]; rfl) (by rw [I1.len, List.getElem?_append_right (Nat.le_refl _), Nat.sub_self]; rfl)
              ((ex1.grow gp).growW GrowW.upd (fun z => z) (noTupD hF2)) ((ev1.grow gp).growW GrowW.upd (fun z => z) (noTupD hF2)) (by rw [upd_ne nFD, upd_ne (ne_of_none hfz1 hp)]; exact hfz1)
            exact ⟨.inl ⟨rfl, _, SqL.of h1⟩, _, rfl, _, rfl, (by show 2 ≤ sizeLine; decide), fun t ht => ⟨p, xs, .ref t, rfl, rfl, (Grow.new ht).lst h1, h2, h3 t ht⟩⟩
        · rw [rD_no hr]
          refine iteF ?_
          exact ⟨_, _, _, ns, ps, rfl, I1.skip he hr, ex1, hfz1⟩
      · obtain ⟨v5', v10, v11, ns, ps, rfl, I, ex, hfz⟩ := hp
        rw [dtD_len (by rw [List.length_map]; exact hml), List.length_map] at I
        refine ⟨_, rfl, k Fd L Hx (S.g.none' hFd) ⟨ns, ps, I.f, I.len, I.nd, fun x m r hx hr => ?_, fun j m p h1 h2 => ?_⟩ hnL hcl (S.g.trans I.g)⟩
        · have h := I.all ((x, m), r) (by rw [List.take_length]; exact eall x m r hr)
          exact h hx
        · obtain ⟨xs', l, a1, a2, a3, a4, a5⟩ := I.ls j m p h1 h2
          exact ⟨xs', l, a1, a2, a3, fun x r hx hr => a4 ((x, m), r) (by rw [List.take_length]; exact eall x m r hr) hx rfl, by omega⟩
    · have S' := S
      rw [List.concat_eq_append] at S
      have hWc := S.w
      rw [List.map_append] at hWc
      have hyb : y ≤ mss.length := S.wb y (List.mem_append_right _ List.mem_cons_self)
      refine ⟨_, rfl, true, .inl ⟨_, SqL.of hWc, by simp⟩, iteT ?_⟩
      refine ⟨_, rfl, .inl ⟨rfl, _, SqL.of hWc⟩, W, _, .int (y : Nat), rfl, rfl, hWc, by simp, ?_⟩
      rw [show (Wt'.map (fun (n : Nat) => V.int (n : Nat)) ++ [y].map (fun (n : Nat) => V.int (n : Nat))).dropLast = Wt'.map (fun (n : Nat) => V.int (n : Nat)) from List.dropLast_concat]
      have hW1 := upd_same (H := Hc) (a := W) (o := .lst (Wt'.map fun (n : Nat) => V.int (n : Nat)))
      have hD1 : L2.upd Hc W (.lst (Wt'.map fun (n : Nat) => V.int (n : Nat))) Dr = some (.dK (rD L)) := by rw [upd_ne hDW]; exact S.d
      have g1 := S.g.upd' S.w0 (o := .lst (Wt'.map fun (n : Nat) => V.int (n : Nat)))
      have hμ : (13 - lenH Hc Dr) * 200 + lenH Hc W = (13 - L.length) * 200 + (Wt'.length + 1) := by
        rw [lenH_l hWc, lenH_d S.d]
        unfold rD
        rw [List.length_map, List.length_append, List.length_map]
        rfl
      rw [hμ]
      generalize L2.upd Hc W (.lst (Wt'.map fun (n : Nat) => V.int (n : Nat))) = H1 at hW1 hD1 g1 ⊢
      have hwb : ∀ x ∈ Wt', x ≤ mss.length := fun x hx => S.wb x (List.mem_append_left _ hx)
      have hle2 := S.le
      rw [List.length_append, List.length_singleton] at hle2
      refine ⟨_, rfl, _, rfl, Dr, _, rfl, DGet.k (k := Sum.inl (y : Int)) hD1, _, rfl, ?_⟩
      by_cases hy : y ∈ L
      · rw [rD_in hy]
        refine iteF ?_
        refine ⟨⟨_, L, Wt', rfl, hD1, hW1, hDr, S.w0, S.nd, S.lb, hwb, fun x m r hx hr t ht => ?_, ?_, by omega, g1⟩, ?_⟩
        · rcases S.cl x m r hx hr t ht with z | z
          · exact .inl z
          · rcases List.mem_append.mp z with z | z
            · exact .inr z
            · rw [List.mem_singleton.mp z]
              exact .inl hy
        · rcases S.own with z | z
          · exact .inl z
          · rcases List.mem_append.mp z with z | z
            · exact .inr z
            · rw [List.mem_singleton.mp z]
              exact .inl hy
        · rw [lenH_l hW1, lenH_d hD1]
          unfold rD
          rw [List.length_map, List.length_map]
          omega
      · rw [rD_no hy]
        refine iteT ?_
        have hL12 : L.length + 1 ≤ 13 := by
          have nd2 : (L ++ [y]).Nodup := by
            rw [List.nodup_append]
            exact ⟨S.nd, List.pairwise_singleton _ _, fun p hp q hq => fun z => by rw [List.mem_singleton.mp hq] at z; rw [z] at hp; exact hy hp⟩
          have := pigeon 13 nd2 fun x hx => by
            rcases List.mem_append.mp hx with z | z
            · have := S.lb x z; omega
            · rw [List.mem_singleton.mp z]; omega
          rw [List.length_append, List.length_singleton] at this
          exact this
        refine ⟨_, rfl, _, rfl, Dr, _, rfl, DPut.k (k := Sum.inl (y : Int)) hD1 (by unfold rD; rw [List.length_map, sizeLine_eq]; omega), ?_⟩
        rw [rD_push hy]
        have hW2 : L2.upd H1 Dr (.dK (rD (L ++ [y]))) W = some (.lst (Wt'.map fun (n : Nat) => V.int (n : Nat))) := by rw [upd_ne (Ne.symm hDW)]; exact hW1
        have hD2 := upd_same (H := H1) (a := Dr) (o := .dK (rD (L ++ [y])))
        have g2 := g1.upd' hDr (o := .dK (rD (L ++ [y])))
        generalize L2.upd H1 Dr (.dK (rD (L ++ [y]))) = H2 at hW2 hD2 g2 ⊢
        have nd2 : (L ++ [y]).Nodup := by
          rw [List.nodup_append]
          exact ⟨S.nd, List.pairwise_singleton _ _, fun p hp q hq => fun z => by rw [List.mem_singleton.mp hq] at z; rw [z] at hp; exact hy hp⟩
        have lb2 : ∀ x ∈ L ++ [y], x ≤ mss.length := fun x hx => by
          rcases List.mem_append.mp hx with z | z
          · exact S.lb x z
          · rw [List.mem_singleton.mp z]; exact hyb
        have mv : ∀ {x : Nat}, x ∈ L ∨ x ∈ Wt' ++ [y] → x ∈ L ++ [y] ∨ x ∈ Wt' := fun {x} h => by
          rcases h with z | z
          · exact .inl (List.mem_append_left _ z)
          · rcases List.mem_append.mp z with z | z
            · exact .inr z
            · exact .inl (List.mem_append_right _ z)
        have fin : ∀ (acc : List Nat) (Hx : Hp), (∀ m r, RowAt ks mss y m r → ∀ t ∈ r.2, t.2.1 ∈ acc) → (∀ x ∈ acc, x ≤ mss.length) → acc.length ≤ 96 → Hx Dr = some (.dK (rD (L ++ [y]))) → Hx W = some (.lst ((Wt' ++ acc).map fun (n : Nat) => V.int (n : Nat))) → Grow H Hx →
            (∃ v5 L Wt, [some xc, some (V.ref a), some (V.ref pn), some (V.ref Dr), some (V.ref W), some (V.int (y : Nat)), none, none, none, none, none, none] = [some xc, some (V.ref a), some (V.ref pn), some (V.ref Dr), some (V.ref W), v5, none, none, none, none, none, none] ∧ WS H Hx Dr W ks mss n L Wt) ∧ (13 - lenH Hx Dr) * 200 + lenH Hx W < (13 - L.length) * 200 + (Wt'.length + 1) := by
          intro acc Hx c1 c2 c3 hDx hWx gx
          refine ⟨⟨_, L ++ [y], Wt' ++ acc, rfl, hDx, hWx, hDr, S.w0, nd2, lb2, fun x hx => ?_, fun x m r hx hr t ht => ?_, ?_, ?_, gx⟩, ?_⟩
          · rcases List.mem_append.mp hx with z | z
            · exact hwb x z
            · exact c2 x z
          · rcases List.mem_append.mp hx with z | z
            · rcases mv (S.cl x m r z hr t ht) with q | q
              · exact .inl q
              · exact .inr (List.mem_append_left _ q)
            · rw [List.mem_singleton.mp z] at hr
              exact .inr (List.mem_append_right _ (c1 m r hr t ht))
          · rcases mv S.own with q | q
            · exact .inl q
            · exact .inr (List.mem_append_left _ q)
          · rw [List.length_append, List.length_append, List.length_singleton]
            omega
          · rw [lenH_l hWx, lenH_d hDx]
            unfold rD
            rw [List.length_map, List.length_map, List.length_append, List.length_append, List.length_singleton]
            omega
        refine ⟨_, rfl, _, _, rfl, rfl, _, rfl, ?_⟩
        by_cases h0 : y = 0
        · subst h0
          rw [decide_eq_false (by decide)]
          refine iteF ?_
          exact fin [] H2 (fun m r hr t ht => by obtain ⟨_, _, _, _, z, _⟩ := hr; omega) (fun x hx => (nomatch hx)) (Nat.zero_le _) hD2 (by rw [List.append_nil]; exact hW2) g2
        · rw [decide_eq_true (show (0 : Int) < (y : Nat) by omega)]
          refine iteT ?_
          have hyl : y - 1 < mss.length := by omega
          obtain ⟨ms, hms⟩ : ∃ ms, mss[y - 1]? = some ms := ⟨_, List.getElem?_eq_getElem hyl⟩
          obtain ⟨xm, hxm, exm⟩ := en.got (i := y - 1) (d := msD ms) (by rw [List.getElem?_map, hms]; rfl)
          obtain ⟨r8, hrs⟩ := ms_rows ok mo (List.mem_of_getElem? hms)
          cases exm with
          | @tup b us _ hb eb =>
          cases eb with
          | @cons _ u0 _ _ f0 eb =>
          cases eb with
          | @cons _ u1 _ _ f1 eb =>
          cases eb
          cases f0
          cases f1 with
          | @tup br ys _ hbr er =>
          have hrl := er.length
          rw [List.length_map] at hrl
          refine ⟨_, rfl, .inl ⟨rfl, _, SqL.of hW2⟩, ?_⟩
          refine ⟨_, rfl, _, rfl, _, _, rfl, rfl, a, _, _, _, rfl, rfl, SqT.of (g2.tup ha), at_g (j := y - 1) (by omega) hxm, b, _, _, _, rfl, rfl, SqT.of (g2.tup hb), at_of (j := 1) rfl rfl, br, rfl, ⟨_, SqT.of (g2.tup hbr)⟩, fun D hD => ?_⟩
          refine walk_tup (K := K) (xs := ys) (fun i Hc => ∃ acc, AcI mss ms i 0 acc ∧ Hc D = some (.lst (acc.map fun (n : Nat) => V.int (n : Nat))) ∧ Grow H2 Hc) ⟨[], ⟨fun q r hq => absurd hq (Nat.not_lt_zero _), fun r q t _ hq => absurd hq (Nat.not_lt_zero _), fun x hx => (nomatch hx), Nat.zero_le _⟩, upd_same, Grow.new hD⟩ (fun i Hc _ hp => ?_) (fun i z Hc hz hp2 => ?_) (fun H3 hp2 => ?_)
          · obtain ⟨_, _, _, g3⟩ := hp
            exact SqT.of (g3.tup (g2.tup hbr))
          · obtain ⟨acc, I, hacc, g3⟩ := hp2
            obtain ⟨d2, hd2, ez⟩ := er.get hz
            obtain ⟨r, hr2, rfl⟩ := map_get hd2
            obtain ⟨r12, hts⟩ := hrs r (List.mem_of_getElem? hr2)
            cases ez with
            | @tup b2 vs2 _ hb2 eb2 =>
            cases eb2 with
            | @cons _ w0 _ _ p0 eb2 =>
            cases eb2 with
            | @cons _ w1 _ _ p1 eb2 =>
            cases eb2
            cases p0
            cases p1 with
            | @tup bt zs _ hbt et =>
            have htl := et.length
            rw [List.length_map] at htl
            refine ⟨b2, _, rfl, SqT.of (g3.tup (g2.tup hb2)), rfl, _, _, rfl, _, _, rfl, rfl, (by rw [wipe_put (by decide), wipe_put (by decide), wipe_again]), ?_⟩
            unfold tYes
            refine iteT ?_
            show iTup K (tVar 7) [some xc, some (V.ref a), some (V.ref pn), some (V.ref Dr), some (V.ref W), some (V.int (y : Nat)), some (V.int r.1), some (V.ref bt), none, none, none, none] Hc _
            refine ⟨_, rfl, bt, rfl, ⟨_, SqT.of (g3.tup (g2.tup hbt))⟩, ?_⟩
            refine walk_tup (K := K) (xs := zs) (fun j Hc => ∃ acc, AcI mss ms i j acc ∧ Hc D = some (.lst (acc.map fun (n : Nat) => V.int (n : Nat))) ∧ Grow H2 Hc) ⟨acc, I, hacc, g3⟩ (fun j Hc _ hp => ?_) (fun j z Hc hz hp2 => ?_) (fun H3 hp2 => ?_)
            · obtain ⟨_, _, _, g4⟩ := hp
              exact SqT.of (g4.tup (g2.tup hbt))
            · obtain ⟨acc, I, hacc, g4⟩ := hp2
              obtain ⟨d3, hd3, ew⟩ := et.get hz
              obtain ⟨t, ht, rfl⟩ := map_get hd3
              cases ew with
              | @tup b3 vs3 _ hb3 eb3 =>
              cases eb3 with
              | @cons _ t0 _ _ q0 eb3 =>
              cases eb3 with
              | @cons _ t1 _ _ q1 eb3 =>
              cases eb3 with
              | @cons _ t2 _ _ q2 eb3 =>
              cases eb3
              cases q0
              cases q1
              cases q2
              have I2 := I.push hr2 ht (hts t (List.mem_of_getElem? ht))
              refine ⟨b3, _, rfl, SqT.of (g4.tup (g2.tup hb3)), rfl, _, _, rfl, _, _, rfl, _, _, rfl, rfl, (by rw [wipe_put (by decide), wipe_put (by decide), wipe_put (by decide), wipe_again]), ?_⟩
              refine iteT ⟨_, rfl, _, hacc, ?_, _, I2, ?_, g4.upd' hD⟩
              · rw [List.length_map, sizeLine_eq]
                have h1 := I.le
                have h2 := (List.getElem?_eq_some_iff.mp hr2).1
                have h3 := (List.getElem?_eq_some_iff.mp ht).1
                omega
              · rw [upd_same, List.map_append]
                rfl
            · obtain ⟨acc, I, hacc, g4⟩ := hp2
              exact ⟨acc, I.next hr2 htl (by omega), hacc, g4⟩
          · obtain ⟨acc, I, hacc, g3⟩ := hp2
            have hlen : acc.length ≤ 96 := by have := I.le; omega
            refine ⟨W, D, _, _, rfl, rfl, g3.lst hW2, hacc, ?_, ?_⟩
            · rw [List.length_map, List.length_map, sizeLine_eq]
              omega
            · have hWD : W ≠ D := fun z => by rw [← z, hW2] at hD; cases hD
              refine fin acc _ (fun m r hr t ht => ?_) I.lb hlen (by rw [upd_ne hDW]; exact g3.dk hD2) (by rw [upd_same, List.map_append]) ((g2.trans g3).upd' S.w0)
              obtain ⟨ms', k', mk', i', _, a2, _, _, _, _, a7⟩ := hr
              rw [hms] at a2
              cases a2
              exact I.all i' r (by have := (List.getElem?_eq_some_iff.mp a7).1; omega) a7 t ht
end
end J1
set_option Elab.async false
set_option linter.all false
set_option maxRecDepth 100000
set_option maxHeartbeats 4000000
namespace J1
open PySem PySem.Spec PyProof.Rows L2 GxR GA ZS RZ
abbrev sMo : Stmt := top 62
theorem cMo : FnScope ["core", "measures", "numbers", "words", "fields", "maker", "_", "kinds", "wanted", "made", "word", "parts", "number", "row"] ["core", "measures", "numbers", "words"] (defScope sMo) := ⟨rfl, rfl, rfl, by decide +kernel, rfl, by decide +kernel, by decide +kernel⟩
def rLn (K : PySem.W.Frag) : List V → Hp → VK → Prop := fun xs H Q => ∃ p ys, xs = [V.ref p] ∧ (SqL K H p ys ∨ SqT K H p ys) ∧ Q (V.int (ys.length : Nat)) H
noncomputable def evV (ks : List Kd1) (mss : List Ms1) (ws : List Wd) (n : Nat) : Int := fnAt (evS ks mss ws) 0 n
def spMo : Sp := fun vs H Q _ => ∃ (xc xm xw : V) (pn : Addr) (n : Nat) (ks : List Kd1) (mss : List Ms1) (kind : Str) (ws : List Wd), vs = [xc, xm, .ref pn, xw] ∧ EncT H (coreD ks) xc ∧ EncT H (mssD mss) xm ∧ KdsOk ks ∧ MsOk ks mss ∧ H pn = some (.lst [.int (n : Nat)]) ∧ EncT H (.tup (ws.map wdD)) xw ∧ Wants (mksOf ks) [kind] ws ∧ (knS mss)[n]? = some kind ∧ ws.length ≤ 4000 ∧
  ∀ (d : Addr) (kvs : List (Key × V)) (H' : Hp), H' d = some (.dK kvs) → valV kvs (Sum.inl (n : Int) : Key) = some (.int (evV ks mss ws n)) → Grow H H' → Q (.ref d) H'
theorem wds_v {B : Addr → Prop} {H : Hp} : ∀ {l : List Wd} {xs : List V}, EncsB B H (l.map wdD) xs → xs = l.map wdV
  | [], _, .nil => rfl
  | a :: r, _, .cons e t => by
    rw [List.map_cons, wds_v t, wd_v e]
def DOk (mss : List Ms1) (R : List Nat) (H : Hp) (d : Addr) (k : Str) (f : Fn) : Prop := ∃ kvs, H d = some (.dK kvs) ∧ ∀ n, n ∈ R → (knS mss)[n]? = some k → valV kvs (Sum.inl (n : Int) : Key) = some (.int (f n))
theorem DOk.grow {mss : List Ms1} {R : List Nat} {H H' : Hp} {d : Addr} {k : Str} {f : Fn} (h : DOk mss R H d k f) (g : Grow H H') : DOk mss R H' d k f := by
  obtain ⟨kvs, a, b⟩ := h
  exact ⟨kvs, g.dk a, b⟩
theorem DOk.upd {mss : List Ms1} {R : List Nat} {H : Hp} {d M : Addr} {k : Str} {f : Fn} {ys zs : List V} (h : DOk mss R H d k f) (hM : H M = some (.lst ys)) : DOk mss R (L2.upd H M (.lst zs)) d k f := by
  obtain ⟨kvs, a, b⟩ := h
  exact ⟨kvs, by rw [upd_ne (fun z => by rw [z, hM] at a; cases a)]; exact a, b⟩
/-- a stack of dicts: the first is the one on the top -/
def Stk (mss : List Ms1) (R : List Nat) (H : Hp) (ds : List Addr) (st : List Str) (fns : List Fn) : Prop := ds.length = st.length ∧ ∀ (j : Nat) (d : Addr) (k : Str) (f : Fn), ds[j]? = some d → st[j]? = some k → fns[j]? = some f → DOk mss R H d k f
theorem Stk.grow {mss : List Ms1} {R : List Nat} {H H' : Hp} {ds : List Addr} {st : List Str} {fns : List Fn} (h : Stk mss R H ds st fns) (g : Grow H H') : Stk mss R H' ds st fns := ⟨h.1, fun j d k f a b c => (h.2 j d k f a b c).grow g⟩
theorem Stk.upd {mss : List Ms1} {R : List Nat} {H : Hp} {M : Addr} {ds : List Addr} {st : List Str} {fns : List Fn} {ys zs : List V} (h : Stk mss R H ds st fns) (hM : H M = some (.lst ys)) : Stk mss R (L2.upd H M (.lst zs)) ds st fns := ⟨h.1, fun j d k f a b c => (h.2 j d k f a b c).upd hM⟩
theorem Stk.push {mss : List Ms1} {R : List Nat} {H : Hp} {ds : List Addr} {st : List Str} {fns : List Fn} {d : Addr} {k : Str} {f : Fn} (h : Stk mss R H ds st fns) (g : DOk mss R H d k f) : Stk mss R H (d :: ds) (k :: st) (f :: fns) := by
  refine ⟨by rw [List.length_cons, List.length_cons, h.1], fun j d' k' f' a b c => ?_⟩
  match j, a, b, c with
  | 0, a, b, c =>
    cases a
    cases b
    cases c
    exact g
  | j + 1, a, b, c => exact h.2 j d' k' f' a b c
theorem Stk.drop {mss : List Ms1} {R : List Nat} {H : Hp} {ds : List Addr} {fs st : List Str} {fns : List Fn} (h : Stk mss R H ds (fs ++ st) fns) : Stk mss R H (ds.drop fs.length) st (fns.drop fs.length) := by
  have hl := h.1
  rw [List.length_append] at hl
  refine ⟨by rw [List.length_drop, hl]; omega, fun j d k f a b c => ?_⟩
  rw [List.getElem?_drop] at a c
  exact h.2 _ d k f a (by rw [List.getElem?_append_right (Nat.le_add_right _ _), Nat.add_sub_cancel_left]; exact b) c
def lensD (ks : List Kd1) : List V := (mksOf ks).map fun x => V.int (x.1.2.length : Nat)
theorem dkD_at {ns : List Str} {ms : List V} {i : Nat} {kv : Key × V} (h : (dkD ns ms)[i]? = some kv) : ∃ n m, ns[i]? = some n ∧ ms[i]? = some m ∧ kv = (Sum.inr n, m) := by
  unfold dkD at h
  obtain ⟨p, hp, e⟩ := map_get h
  rw [List.getElem?_zip_eq_some] at hp
  exact ⟨p.1, p.2, hp.1, hp.2, e⟩
theorem kn_whole {ks : List Kd1} {mss : List Ms1} (ok : KdsOk ks) (mo : MsOk ks mss) {n : Nat} (h : (knS mss)[n]? = some "whole") : n = 0 := by
  match n, h with
  | 0, _ => rfl
  | n' + 1, h =>
    have h : (mss.map (·.1))[n']? = some "whole" := h
    obtain ⟨ms, hms, e⟩ := map_get h
    obtain ⟨k, hk, e1, _⟩ := mo.ms ms (List.mem_of_getElem? hms)
    exact absurd (e1.trans e.symm) (hi_whole (ok.hi k hk))
section
variable {P : Program} {w : World} {K : PySem.W.Frag} {mg : Str → Option Value} {base : Heap}
theorem ok_mo {f fW fE fN : Addr} {fd fdW fdE fdN : FuncData} (F : Fun K "measures_of" "measures_of" sMo f fd) (N : Gn K mg) (hRg : mg "range" = none)
    (GN : FnOk P w K mg base CX0 1 fN fdN ["kinds"] spMn) (DN : Df K mg "makers_by_name" ["kinds"] fN fdN)
    (GE : FnOk P w K mg base CX0 1 fE fdE ["row", "parts"] spRe) (DE : Df K mg "_reckoned" ["row", "parts"] fE fdE)
    (GW : FnOk P w K mg base CX0 3 fW fdW ["core", "measures", "numbers"] spWr) (DW : Df K mg "_wanted_rows" ["core", "measures", "numbers"] fW fdW) : FnOk P w K mg base CX0 4 f fd ["core", "measures", "numbers", "words"] spMo := by
  refine F.ok (k := 3) cMo (fun vs H Q E h => ?_) (fun cdv A outer s H vs Q E hr h => ?_)
  · obtain ⟨_, _, _, _, _, _, _, _, _, rfl, _⟩ := h
    rfl
  · obtain ⟨xc, xm, xw, pn, n, ks, mss, kind, ws, rfl, ec, em, ok, mo, hpn, ew, hw, hkn, hlen, k⟩ := h
    have hu := hu_of hr
    refine ⟨_, (pss_cons (ps_setDc (i := 4) (own := [("maker", 5), ("_", 6), ("kinds", 7)]) (g := gTup K 2 (gCons (gName 5) (gCons (gTup K 2 (gCons (gName 6) (gCons (gName 7) gNil))) gNil))) (tt := tYes) (by rfl) cMo.nd rfl rfl (swd_true rfl rfl rfl (by decide +kernel)) (pi_items (pe_lockV (pe_call (GN.mono (by decide)) hr (by rfl) DN.g DN.k DN.b .nil pass0 (pa_cons (pe_ix ix_tup (pv 0) pe_int (fun _ _ => rfl)) pa_nil)))) (blkOk_by (own := [("maker", 5), ("_", 6), ("kinds", 7)]) (N := ["core", "measures", "numbers", "words", "fields", "maker", "_", "kinds", "wanted", "made", "word", "parts", "number", "row"]) (sc := defScope sMo) (by decide +kernel)) (fun _ _ _ _ _ => (pg_tup (by rfl) (pgs_cons (pg_name (i := 5) cMo.nd rfl (Or.inl rfl)) (pgs_cons (pg_tup (by rfl) (pgs_cons (pg_name (i := 6) cMo.nd rfl (Or.inl rfl)) (pgs_cons (pg_name (i := 7) cMo.nd rfl (Or.inl rfl)) pgs_nil))) pgs_nil)))) (fun _ _ _ _ _ => pts_nil) (fun _ _ _ _ _ => (pv 5)) (fun _ _ _ _ _ => (pe_callB (r := rLn K) call_len_seq (by rfl) N.nl PySem.boot_len (pa_cons (pv 7) pa_nil)))) (pss_cons (ps_set (i := 8) cMo.nd rfl (Or.inl rfl) (pe_call (GW.mono (by decide)) hr (by rfl) DW.g DW.k DW.b .nil pass0 (pa_cons (pv 0) (pa_cons (pv 1) (pa_cons (pv 2) pa_nil))))) (pss_cons (ps_set (i := 9) cMo.nd rfl (Or.inr rfl) (pe_lst pa_nil)) (pss_cons (ps_for PassesOwn.never rfl (pi_tup (pe_revT (pv 3))) (pg_name (i := 10) cMo.nd rfl (Or.inl rfl)) (pss_one (ps_if (pt_val (pe_callB call_isi (by rfl) N.nI boot_isinstance (pa_cons (pv 10) (pa_cons (pe_bltn (v := .ty "str") rfl N.ns (by decide +kernel) rfl) pa_nil)))) (pss_cons (ps_set (i := 11) cMo.nd rfl (Or.inr rfl) (pe_lc (own := [("_", 6)]) (g := gName 6) (tt := tYes) (by rfl) cMo.nd (pi_range1 (by rfl) hRg (pa_cons (pe_dget hu (pv 4) (pv 10) (fun _ _ => rfl)) pa_nil)) (blkOk_by (own := [("_", 6)]) (N := ["core", "measures", "numbers", "words", "fields", "maker", "_", "kinds", "wanted", "made", "word", "parts", "number", "row"]) (sc := defScope sMo) (by decide +kernel)) (fun _ _ _ _ _ => (pg_name (i := 6) cMo.nd rfl (Or.inl rfl))) (fun _ _ _ _ _ => pts_nil) (fun _ _ _ _ _ => (show PE _ _ (tBM0 K "list" rPop (tVar 9)) from (pe_bm0 (r := rPop) PySem.F.plainAttrs_list PySem.F.slot_list_pop PySem.F.type_list_pop mt_pop (pv 9)))))) (pss_one (ps_expr (pe_bm PySem.F.plainAttrs_list PySem.F.slot_list_append PySem.F.type_list_append mt_append (pv 9) (pa_cons (pe_dc (own := [("number", 12), ("row", 13)]) (g := gTup K 2 (gCons (gName 12) (gCons (gName 13) gNil))) (tt := tYes) (by rfl) cMo.nd (pi_list (pe_dget2 hu (pv 8) (pv 10) (pe_lst pa_nil) ⟨rfl, rfl, rfl, rfl⟩)) (blkOk_by (own := [("number", 12), ("row", 13)]) (N := ["core", "measures", "numbers", "words", "fields", "maker", "_", "kinds", "wanted", "made", "word", "parts", "number", "row"]) (sc := defScope sMo) (by decide +kernel)) (fun _ _ _ _ _ => (pg_tup (by rfl) (pgs_cons (pg_name (i := 12) cMo.nd rfl (Or.inl rfl)) (pgs_cons (pg_name (i := 13) cMo.nd rfl (Or.inl rfl)) pgs_nil)))) (fun _ _ _ _ _ => pts_nil) (fun _ _ _ _ _ => (pv 12)) (fun _ _ _ _ _ => (pe_call (GE.mono (by decide)) hr (by rfl) DE.g DE.k DE.b .nil pass0 (pa_cons (pv 13) (pa_cons (pv 11) pa_nil))))) pa_nil))))) (pss_one (ps_expr (pe_bm PySem.F.plainAttrs_list PySem.F.slot_list_append PySem.F.type_list_append mt_append (pv 9) (pa_cons (pe_disp (pps_cons pe_int (pv 10) pps_nil) (by rfl) (by rfl) (fun z => by cases z) (by decide)) pa_nil))))))) (pss_one (ps_ret (pe_ix ix_list (pv 9) pe_int (fun _ _ => rfl)))))))), ?_⟩
    have ec0 := ec
    cases ec with
    | @tup ac cs _ hac es =>
    cases es with
    | @cons _ c0 _ _ e0 es =>
    cases es with
    | @cons _ c1 _ _ e1 es =>
    cases es
    cases ew with
    | @tup aw xs _ haw ews =>
    have exs := wds_v ews
    subst exs
    have hnl : n ≤ mss.length := by
      have := (List.getElem?_eq_some_iff.mp hkn).1
      unfold knS at this
      rw [List.length_cons, List.length_map] at this
      omega
    have hml := ok.ml
    refine ⟨_, rfl, ac, _, _, _, rfl, rfl, SqT.of hac, at_of (j := 0) rfl rfl, c0, ks, rfl, e0, ok.ndm, ok.ml, fun D0 ms H1 hD0 hD1 ek g1 => ⟨D0, _, rfl, hD1, trivial, fun od => ⟨D0, od, _, rfl, upd_same, fun Fd hFd => ?_⟩⟩⟩
    have ek2 : EncsT (L2.upd H1 D0 (.frz od (.dK (dkD ((mksOf ks).map (·.1.1)) ms)))) ((mksOf ks).map mnD) ms := ek.growW GrowW.upd (fun z => z) (noTupD hD1)
    have g2 : Grow H (L2.upd H1 D0 (.frz od (.dK (dkD ((mksOf ks).map (·.1.1)) ms)))) := g1.upd' hD0
    have hz := upd_same (H := H1) (a := D0) (o := .frz od (.dK (dkD ((mksOf ks).map (·.1.1)) ms)))
    generalize L2.upd H1 D0 (.frz od (.dK (dkD ((mksOf ks).map (·.1.1)) ms))) = H2 at ek2 g2 hz hFd ⊢
    have hmsl := ek2.length
    rw [List.length_map] at hmsl
    have hkl : (dkD ((mksOf ks).map (·.1.1)) ms).length = (mksOf ks).length := by
      unfold dkD
      rw [List.length_map, List.length_zip, List.length_map]
      omega
    have hFD : Fd ≠ D0 := fun z => by rw [z, hz] at hFd; cases hFd
    refine dc_it (walk_items (o := od)) (fun i Hc => Hc Fd = some (.dK (dkD (((mksOf ks).map (·.1.1)).take i) ((lensD ks).take i))) ∧ Grow H Hc ∧ Hc D0 = some (.frz od (.dK (dkD ((mksOf ks).map (·.1.1)) ms))) ∧ EncsT Hc ((mksOf ks).map mnD) ms)
      ⟨upd_same, g2.upd' (g2.none' hFd), by rw [upd_ne (Ne.symm hFD)]; exact hz, ek2.grow (Grow.new hFd)⟩ (fun i Hc _ hp => hp.2.2.1) (fun i x Hc H' hi hp y => ?_) (fun Hc hp => ?_)
    · obtain ⟨hFc, g, hzc, ekc⟩ := hp
      obtain ⟨T, x1, x2, rfl, hT, rfl, e1, e2⟩ := y
      have hkv := List.getElem?_eq_getElem hi
      have e1 : (dkD ((mksOf ks).map (·.1.1)) ms)[i]?.map (fun kv => kV kv.1) = some x1 := e1
      have e2 : (dkD ((mksOf ks).map (·.1.1)) ms)[i]?.map Prod.snd = some x2 := e2
      rw [hkv] at e1 e2
      obtain ⟨nm, mv, h1, h2, h3⟩ := dkD_at hkv
      rw [h3] at e1 e2
      cases e1
      cases e2
      obtain ⟨mk, hmk, rfl⟩ := map_get h1
      obtain ⟨d2, hd2, ez⟩ := ekc.get h2
      rw [List.getElem?_map, hmk] at hd2
      cases hd2
      have gT := Grow.new (o := .tup [kV (Sum.inr mk.1.1), mv]) hT
      have hT1 := upd_same (H := Hc) (a := T) (o := .tup [kV (Sum.inr mk.1.1), mv])
      have hFc2 := gT.dk hFc
      have hzc2 : L2.upd Hc T (.tup [kV (Sum.inr mk.1.1), mv]) D0 = some (.frz od (.dK (dkD ((mksOf ks).map (·.1.1)) ms))) := by rw [upd_ne (ne_of_none hzc hT)]; exact hzc
      have ekc2 := ekc.grow gT
      have ez2 := ez.grow gT
      have g3 := g.trans gT
      generalize L2.upd Hc T (.tup [kV (Sum.inr mk.1.1), mv]) = H3 at hT1 hFc2 hzc2 ekc2 ez2 g3 ⊢
      cases ez2 with
      | @tup b us _ hb eb =>
      cases eb with
      | @cons _ u0 _ _ f0 eb =>
      cases eb with
      | @cons _ u1 _ _ f1 eb =>
      cases eb
      cases f0
      cases f1 with
      | @tup bf zs _ hbf ef =>
      have hfl := ef.length
      rw [List.length_map] at hfl
      refine ⟨T, _, rfl, SqT.of hT1, rfl, _, _, rfl, _, _, rfl, b, _, rfl, SqT.of hb, rfl, _, _, rfl, _, _, rfl, rfl, rfl, (by rw [wipe_put (by decide), wipe_put (by decide), wipe_put (by decide), wipe_again]), ?_⟩
      unfold tYes
      have hi2 : i < (mksOf ks).length := by rw [hkl] at hi; exact hi
      have hl1 : ((lensD ks).take i).length = (((mksOf ks).map (·.1.1)).take i).length := by
        unfold lensD
        rw [List.length_take, List.length_take, List.length_map, List.length_map]
      refine iteT ⟨_, rfl, _, rfl, bf, _, rfl, .inr (SqT.of hbf), _, Sum.inr mk.1.1, rfl, hFc2, ?_, ?_, g3.upd' (g2.none' hFd), by rw [upd_ne (Ne.symm hFD)]; exact hzc2, ekc2.growW GrowW.upd (fun z => z) (noTupD hFc2)⟩
      · have h1 := dkD_len (ns := ((mksOf ks).map (·.1.1)).take i) (ms := (lensD ks).take i)
        rw [List.length_take, List.length_map] at h1
        rw [sizeLine_eq]
        omega
      · have hno : mk.1.1 ∉ ((mksOf ks).map (·.1.1)).take i := by
          rw [← List.map_take]
          exact nd_take ok.ndm hmk
        have h4 : (lensD ks)[i]? = some (V.int (mk.1.2.length : Nat)) := by
          unfold lensD
          rw [List.getElem?_map, hmk]
          rfl
        rw [upd_same, dkD_push hno hl1.symm, List.take_succ, List.take_succ, h4, List.getElem?_map, hmk, hfl]
        rfl
    obtain ⟨hF, g, _, _⟩ := hp
    rw [hkl] at hF
    have e5 : (dkD (((mksOf ks).map (·.1.1)).take (mksOf ks).length) ((lensD ks).take (mksOf ks).length)) = dkD ((mksOf ks).map (·.1.1)) (lensD ks) := by
      rw [List.take_of_length_le (by rw [List.length_map]; exact Nat.le_refl _), List.take_of_length_le (by unfold lensD; rw [List.length_map]; exact Nat.le_refl _)]
    rw [e5] at hF
    refine ⟨_, rfl, _, rfl, _, rfl, .ref ac, xm, pn, n, ks, mss, rfl, ec0.grow g, em.grow g, ok, mo, g.lst hpn, hnl, fun Wd R H3 hWd wok hnR hcl g3 => ?_⟩
    refine ⟨(by show 0 ≤ sizeLine; decide), fun M hM => ?_⟩
    have haw3 := g3.tup (g.tup haw)
    have hF3 := g3.dk hF
    have g03 := g.trans g3
    have gM := Grow.new (o := .lst []) hM
    refine ⟨_, rfl, aw, _, rfl, SqT.of (gM.tup haw3), fun p hp => ⟨p, rfl, ⟨_, SqT.of upd_same⟩, ?_⟩⟩
    obtain ⟨S, hS0, hS1, hS2⟩ := hw.path
    have hpM : p ≠ M := fun z => by rw [z, upd_same] at hp; cases hp
    refine for_tup (K := K) (xs := (ws.map wdV).reverse) (fun i σ' Hc => ∃ v10 v11 ds, σ' = [some (.ref ac), some xm, some (.ref pn), some (.ref aw), some (.ref Fd), none, none, none, some (.ref Wd), some (.ref M), v10, v11, none, none] ∧ Hc M = some (.lst (ds.reverse.map V.ref)) ∧ Stk mss R Hc ds (S (ws.length - i)) (evS ks mss (ws.drop (ws.length - i))) ∧ Grow H3 Hc ∧ Hc p = some (.tup (ws.map wdV).reverse) ∧ ds.length ≤ 4000)
      ⟨none, none, [], rfl, by rw [upd_ne (Ne.symm hpM)]; exact upd_same, ?_, gM.trans (Grow.new hp), upd_same, Nat.zero_le _⟩ (fun i σ' Hc _ hp => ?_) (fun i z σ' Hc hz hp => ?_) (fun σ' Hc hp => ?_)
    · have h1 := hS1 ws.length (Nat.le_refl _)
      rw [List.drop_length] at h1
      rw [Nat.sub_zero, List.drop_length]
      cases e : S ws.length with
      | nil => exact ⟨rfl, fun j d k f h => (nomatch h)⟩
      | cons a b =>
        rw [e] at h1
        cases h1
    · obtain ⟨_, _, _, _, _, _, _, h, _⟩ := hp
      exact SqT.of h
    · obtain ⟨v10, v11, ds, rfl, hMc, stk, gc, hpc, hds⟩ := hp
      have hil := (List.getElem?_eq_some_iff.mp hz).1
      rw [List.length_reverse, List.length_map] at hil
      rw [List.getElem?_reverse (by rw [List.length_map]; exact hil), List.length_map] at hz
      obtain ⟨wd, hwd, rfl⟩ := map_get hz
      have e1 : ws.length - i = ws.length - 1 - i + 1 := by omega
      have e2 : ws.length - (i + 1) = ws.length - 1 - i := by omega
      rw [e1] at stk
      rw [e2]
      generalize ws.length - 1 - i = q at hwd stk ⊢
      obtain ⟨kind', fs, st', hk1, hk2, hf⟩ := hS2 q wd hwd
      have hql := (List.getElem?_eq_some_iff.mp hwd).1
      have hdr : ws.drop q = wd :: ws.drop (q + 1) := by
        rw [List.drop_eq_getElem_cons hql, (List.getElem?_eq_some_iff.mp hwd).2]
      have hw1 := hS1 (q + 1) hql
      have hel := evS_len (mss := mss) ok hw1
      have hln := (hS1 q (Nat.le_of_lt hql)).len
      rw [hk1, List.length_cons, List.length_drop] at hln
      rw [hk2] at stk hel
      rw [hk1, hdr]
      generalize hfn : evS ks mss (ws.drop (q + 1)) = fns at stk hel
      have hdl := stk.1
      cases wd with
      | inl v =>
        obtain ⟨rfl, rfl⟩ := hf
        obtain ⟨_, _, kS, _⟩ := kitD (.int v)
        refine ⟨_, rfl, _, _, _, _, _, rfl, .ty "str", .base (.int _), kit_ty kS, _, rfl, iteF ?_⟩
        refine ⟨_, rfl, .inl ⟨rfl, _, SqL.of hMc⟩, fun d hd => ?_⟩
        have gd := (Grow.new (o := .dK []) hd).upd' hd (o := .dK [((Sum.inl 0 : Key), V.int v)])
        refine ⟨_, rfl, upd_same, [(Sum.inl 0, .int v)], rfl, (by show 1 ≤ 15; decide), M, _, .ref d, rfl, rfl, gd.lst hMc, ?_, ?_⟩
        · rw [List.length_map, List.length_reverse, hdl, List.length_append, sizeLine_eq]
          show 0 + st'.length < _
          omega
        · have hd1 := upd_same (H := L2.upd Hc d (.dK [])) (a := d) (o := .dK [((Sum.inl 0 : Key), V.int v)])
          have hM1 := gd.lst hMc
          refine ⟨_, _, d :: ds, rfl, by rw [upd_same, List.reverse_cons, List.map_append]; rfl, ?_, (gc.trans gd).upd' hM, by rw [upd_ne hpM]; exact gd.tup hpc, by rw [List.length_cons, hdl, List.length_append, List.length_nil]; omega⟩
          show Stk mss R _ (d :: ds) ("whole" :: st') ((fun n => if n = 0 then v else 0) :: evS ks mss (ws.drop (q + 1)))
          rw [hfn]
          exact ((stk.grow gd).push ⟨_, hd1, fun n' _ hn' => by rw [kn_whole ok mo hn']; exact valV_pos rfl⟩).upd hM1
      | inr m =>
        obtain ⟨hkw, hm⟩ := hf
        obtain ⟨_, _, kS, _⟩ := kitD (.str m)
        refine ⟨_, rfl, _, _, _, _, _, rfl, .ty "str", .base (.str _), kit_ty kS, _, rfl, iteT ?_⟩
        have hFc := gc.dk hF3
        have hget : DGet Hc Fd (.str m) (some (.int (fs.length : Nat))) := by
          obtain ⟨i2, hi2⟩ := List.getElem?_of_mem hm
          have hv : valV (dkD ((mksOf ks).map (·.1.1)) (lensD ks)) (Sum.inr m : Key) = some (.int (fs.length : Nat)) := dkD_get ok.ndm (by rw [List.getElem?_map, hi2]; rfl) (by unfold lensD; rw [List.getElem?_map, hi2]; rfl)
          rw [← hv]
          exact DGet.k (k := Sum.inr m) hFc
        have hfl5 := ok.fl _ hm
        rw [List.length_append] at hdl hel
        refine ⟨_, rfl, _, rfl, Fd, _, rfl, hget, _, rfl, Int.le_trans (by decide) (Int.natCast_nonneg _), Int.lt_of_lt_of_le (show ((fs.length : Nat) : Int) < 9 by have : fs.length ≤ 5 := hfl5; omega) (by decide), fun P' hP' => ?_⟩
        rw [Int.toNat_natCast]
        have hPM : P' ≠ M := fun z => by rw [z, hMc] at hP'; cases hP'
        have hPp : P' ≠ p := fun z => by rw [z, hpc] at hP'; cases hP'
        have gP := Grow.new (o := .lst []) hP'
        refine dc_it (walk_range (lo := 0) (n := fs.length)) (fun j Hx => Hx P' = some (.lst ((ds.take j).map V.ref)) ∧ Hx M = some (.lst ((ds.drop j).reverse.map V.ref)) ∧ Grow H3 Hx ∧ Stk mss R Hx ds (fs ++ st') fns ∧ Hx p = some (.tup (ws.map wdV).reverse))
          ⟨upd_same, gP.lst hMc, gc.trans gP, stk.grow gP, gP.tup hpc⟩ (fun _ _ _ _ => trivial) (fun j x Hx H' hj hp y => ?_) (fun Hx hp => ?_)
        · obtain ⟨hPx, hMx, gx, stx, hpx⟩ := hp
          obtain ⟨e0, e9⟩ := y
          rw [e0]
          subst e9
          have hjd : j < ds.length := by omega
          have hdd : ds.drop j = ds[j] :: ds.drop (j + 1) := List.drop_eq_getElem_cons hjd
          have hdj : ds[j]? = some ds[j] := List.getElem?_eq_getElem hjd
          generalize ds[j] = dj at hdd hdj
          have e3 : (ds.drop j).reverse.map V.ref = (ds.drop (j + 1)).reverse.map V.ref ++ [V.ref dj] := by
            rw [hdd, List.reverse_cons, List.map_append]
            rfl
          rw [e3] at hMx
          refine ⟨(by rw [wipe_put (by decide), wipe_again]), ?_⟩
          unfold tYes
          refine iteT ⟨_, rfl, .inl ⟨rfl, _, SqL.of hMx⟩, M, _, .ref dj, rfl, rfl, hMx, by simp, ?_⟩
          rw [List.dropLast_concat]
          have hP1 : L2.upd Hx M (.lst ((ds.drop (j + 1)).reverse.map V.ref)) P' = some (.lst ((ds.take j).map V.ref)) := by rw [upd_ne hPM]; exact hPx
          refine ⟨_, hP1, ?_, ?_, ?_, ?_, (stx.upd hMx).upd hP1, ?_⟩
          · rw [List.length_map, List.length_take, sizeLine_eq]
            omega
          · rw [upd_same, List.take_succ, hdj, List.map_append]
            rfl
          · rw [upd_ne (Ne.symm hPM)]
            exact upd_same
          · exact (gx.upd' hM).upd' (gc.none' hP')
          · rw [upd_ne (Ne.symm hPp), upd_ne hpM]
            exact hpx
        obtain ⟨hPx, hMx, gx, stx, hpx⟩ := hp
        refine ⟨_, rfl, .inl ⟨rfl, _, SqL.of hMx⟩, ?_⟩
        obtain ⟨ns, ps, w1, w2, w3, w4, w5⟩ := wok
        have hWx := gx.dk w1
        refine ⟨_, rfl, Wd, rfl, .inl ⟨_, .inl hWx⟩, _, rfl, (by show 0 ≤ sizeLine; decide), fun q0 hq0 => ?_⟩
        have gq := Grow.new (o := .lst []) hq0
        have hMq := gq.lst hMx
        have hPq := gq.lst hPx
        have gq3 := gx.trans gq
        have stq := stx.grow gq
        have hpq := gq.tup hpx
        have hWq := gq.dk hWx
        have hq1 := upd_same (H := Hx) (a := q0) (o := .lst [])
        generalize L2.upd Hx q0 (.lst []) = Hq at gq hMq hPq gq3 stq hpq hWq hq1 ⊢
        obtain ⟨l0, xs0, l, b1, b2, b3, b4, b5, b6⟩ : ∃ (l0 : Addr) (xs0 : List V) (l : List (Nat × Row1)), (valV (dkD ns (ps.map V.ref)) (Sum.inr m : Key)).getD (.ref q0) = .ref l0 ∧ Hq l0 = some (.lst xs0) ∧ EncsT Hq (l.map prD) xs0 ∧ (∀ q ∈ l, RowAt ks mss q.1 m q.2 ∧ q.1 ∈ R) ∧ (∀ n r, n ∈ R → RowAt ks mss n m r → (n, r) ∈ l) ∧ l.length ≤ 96 := by
          by_cases hmn : m ∈ ns
          · obtain ⟨j, hj⟩ := List.getElem?_of_mem hmn
            have hjl := (List.getElem?_eq_some_iff.mp hj).1
            obtain ⟨p2, hp2⟩ : ∃ p2, ps[j]? = some p2 := ⟨_, List.getElem?_eq_getElem (by rw [← w2]; exact hjl)⟩
            obtain ⟨xs0, l, c1, c2, c3, c4, c5⟩ := w5 j m p2 hj hp2
            refine ⟨p2, xs0, l, ?_, gq3.lst c1, c2.grow gq3, c3, c4, c5⟩
            rw [dkD_get (ms := ps.map V.ref) w3 hj (by rw [List.getElem?_map, hp2]; rfl)]
            rfl
          · refine ⟨q0, [], [], by rw [dkD_no hmn]; rfl, hq1, .nil, fun q hq => (nomatch hq), fun n' r hn' hr => absurd (w4 n' m r hn' hr) hmn, Nat.zero_le _⟩
        have b3l := b3.length
        rw [List.length_map] at b3l
        refine ⟨_, DGet.k (k := Sum.inr m) hWq, ?_⟩
        rw [b1]
        refine ⟨l0, rfl, ⟨_, SqL.of b2⟩, fun D hD => ?_⟩
        refine dc_it (walk_list (K := K) (a := l0) (xs := xs0)) (fun i Hy => ∃ kvs, Hy D = some (.dK kvs) ∧ kvs.length ≤ i ∧ (∀ e ∈ l.take i, valV kvs (Sum.inl (e.1 : Int) : Key) = some (.int (rowV e.2 (fns.take fs.length)))) ∧ Grow Hq Hy)
          ⟨[], upd_same, Nat.zero_le _, fun e he => (nomatch he), Grow.new hD⟩ (fun i Hy _ hp => SqL.of (hp.choose_spec.2.2.2.lst b2)) (fun i x Hy H' hi hp y => ?_) (fun Hy hp => ?_)
        · obtain ⟨kvs, hDy, hkl2, hkv, gy⟩ := hp
          obtain ⟨e0, hx⟩ := y
          rw [e0]
          obtain ⟨d1, hd1, ez⟩ := b3.get hx
          obtain ⟨e, he, rfl⟩ := map_get hd1
          obtain ⟨hra, heR⟩ := b4 e (List.mem_of_getElem? he)
          obtain ⟨ro, hkn2⟩ := hra.ok ok mo hm
          have ez := ez.grow gy
          cases ez with
          | @tup b us _ hb eb =>
          cases eb with
          | @cons _ u0 _ _ f0 eb =>
          cases eb with
          | @cons _ u1 _ _ f1 eb =>
          cases eb
          cases f0
          refine ⟨b, _, rfl, SqT.of hb, rfl, _, _, rfl, _, _, rfl, rfl, (by rw [wipe_put (by decide), wipe_put (by decide), wipe_again]), ?_⟩
          unfold tYes
          refine iteT ⟨_, rfl, _, rfl, _, rfl, u1, P', e.2, fns.take fs.length, rfl, f1, ⟨ds.take fs.length, gy.lst hPq, fun t ht => ?_⟩, ro.le, fun t ht => (ro.ts t ht).cb, fun H' g' => ?_⟩
          · obtain ⟨s0, h1, h2⟩ := (ro.ts t ht).bel
            have hlt := (List.getElem?_eq_some_iff.mp h2).1
            have hd2 : ds[t.1]? = some _ := List.getElem?_eq_getElem (by omega)
            have hf2 : fns[t.1]? = some _ := List.getElem?_eq_getElem (by rw [hel]; omega)
            obtain ⟨kvs2, a1, a2⟩ := (stq.grow gy).2 t.1 _ s0 _ hd2 (by rw [List.getElem?_append_left hlt]; exact h2) hf2
            exact ⟨_, kvs2, _, by rw [List.getElem?_take_of_lt hlt]; exact hd2, by rw [List.getElem?_take_of_lt hlt]; exact hf2, a1, a2 _ (hcl e.1 m e.2 heR hra t ht) h1⟩
          · have hi96 : i < 96 := by
              have := (List.getElem?_eq_some_iff.mp he).1
              omega
            refine ⟨kvs, Sum.inl (e.1 : Int), rfl, g'.dk hDy, by rw [sizeLine_eq]; omega, _, upd_same, by have := length_putK kvs (Sum.inl (e.1 : Int) : Key) (V.int (rowV e.2 (fns.take fs.length))); omega, fun e2 he2 => ?_, (gy.trans g').upd' hD⟩
            rw [valV_put]
            by_cases hk : (Sum.inl (e2.1 : Int) : Key) = Sum.inl (e.1 : Int)
            · rw [if_pos hk]
              have en : e2.1 = e.1 := Int.ofNat.inj (Sum.inl.inj hk)
              have hra2 : RowAt ks mss e2.1 m e2.2 := by
                rcases take_mem he he2 with z | z
                · exact (b4 e2 (List.mem_of_mem_take z)).1
                · rw [z]; exact hra
              rw [en] at hra2
              rw [RowAt.uniq ok hra2 hra]
            · rw [if_neg hk]
              rcases take_mem he he2 with z | z
              · exact hkv e2 z
              · exact absurd (by rw [z]) hk
        · obtain ⟨kvs, hDy, hkl2, hkv, gy⟩ := hp
          rw [← b3l, List.take_length] at hkv
          have hMy := gy.lst hMq
          refine ⟨M, _, .ref D, rfl, rfl, hMy, ?_, ?_⟩
          · rw [List.length_map, List.length_reverse, List.length_drop, sizeLine_eq]
            omega
          · have gfin := (gq3.trans gy).upd' hM (o := .lst ((ds.drop fs.length).reverse.map V.ref ++ [V.ref D]))
            refine ⟨_, _, D :: ds.drop fs.length, rfl, by rw [upd_same, List.reverse_cons, List.map_append]; rfl, ?_, gfin, by rw [upd_ne hpM]; exact gy.tup hpq, by rw [List.length_cons, List.length_drop]; omega⟩
            show Stk mss R _ (D :: ds.drop fs.length) (kind' :: st') ((fun n => rowV (rowF ks mss n m) ((evS ks mss (ws.drop (q + 1))).take (fsF (mksOf ks) m).length)) :: (evS ks mss (ws.drop (q + 1))).drop (fsF (mksOf ks) m).length)
            rw [hfn, fsF_eq ok hm]
            refine (((stq.grow gy).drop).push ⟨kvs, hDy, fun n' hn' hk' => ?_⟩).upd hMy
            obtain ⟨r, hr'⟩ := row_ex ok mo hm hkw hk'
            rw [hkv _ (b5 n' r hn' hr'), rowF_eq ok hr']
    · obtain ⟨v10, v11, ds, rfl, hMc, stk, gc, hpc, hds⟩ := hp
      rw [List.length_reverse, List.length_map, Nat.sub_self, List.drop_zero, hS0] at stk
      have hel := evS_len (mss := mss) ok hw
      obtain ⟨d, rfl⟩ : ∃ d, ds = [d] := by
        have := stk.1
        match ds, this with
        | [d], _ => exact ⟨d, rfl⟩
      obtain ⟨fn, hfn⟩ : ∃ fn, (evS ks mss ws)[0]? = some fn := ⟨_, List.getElem?_eq_getElem (by rw [hel]; exact Nat.zero_lt_one)⟩
      obtain ⟨kvs, hd, hv⟩ := stk.2 0 d kind fn rfl rfl hfn
      refine ⟨_, rfl, M, _, _, _, rfl, rfl, SqL.of hMc, at_of (j := 0) rfl rfl, k d kvs Hc hd ?_ (g03.trans gc)⟩
      rw [hv n hnR hkn]
      unfold evV fnAt
      rw [hfn]
      rfl
end
end J1
set_option Elab.async false
set_option linter.all false
set_option maxRecDepth 100000
set_option maxHeartbeats 4000000
namespace J1
open PySem PySem.Spec PyProof.Rows L2 GxR GA ZS RZ
abbrev sMe : Stmt := top 54
theorem cMe : FnScope ["core", "measures", "number", "words"] ["core", "measures", "number", "words"] (defScope sMe) := ⟨rfl, rfl, rfl, by decide +kernel, rfl, by decide +kernel, by decide +kernel⟩
def spMe (T : Hp → Prop) : Sp := fun vs H Q _ => ∃ (xc xm xw : V) (n : Nat) (ks : List Kd1) (mss : List Ms1) (kind : Str) (ws : List Wd), vs = [xc, xm, .int (n : Nat), xw] ∧ EncT H (coreD ks) xc ∧ EncT H (mssD mss) xm ∧ KdsOk ks ∧ MsOk ks mss ∧ T H ∧ EncT H (.tup (ws.map wdD)) xw ∧ Wants (mksOf ks) [kind] ws ∧ (knS mss)[n]? = some kind ∧ ws.length ≤ 4000 ∧
  ∀ H', Grow H H' → Q (.int (evV ks mss ws n)) H'
section
variable {P : Program} {w : World} {K : PySem.W.Frag} {mg : Str → Option Value} {base : Heap}
theorem ok_me {f fC fM fB fW fK fO : Addr} {fd fdC fdM fdB fdW fdK fdO : FuncData} {T : Hp → Prop} (F : Fun K "measured" "measured" sMe f fd) (N : Gn K mg)
    (GC : FnOk P w K mg base CX0 12 fC fdC ["thing"] (spNc T)) (DC : Df K mg "need_core" ["thing"] fC fdC)
    (GM : FnOk P w K mg base CX0 8 fM fdM ["core", "thing"] spNm) (DM : Df K mg "need_measures" ["core", "thing"] fM fdM)
    (GB : FnOk P w K mg base CX0 2 fB fdB ["thing", "least", "most"] (spF3 isBet)) (DB : Df K mg "is_between" ["thing", "least", "most"] fB fdB)
    (GW : FnOk P w K mg base CX0 4 fW fdW ["core", "kind", "thing"] spNw) (DW : Df K mg "need_words" ["core", "kind", "thing"] fW fdW)
    (GK : FnOk P w K mg base CX0 1 fK fdK ["measures"] spKo) (DK : Df K mg "kinds_of" ["measures"] fK fdK)
    (GO : FnOk P w K mg base CX0 4 fO fdO ["core", "measures", "numbers", "words"] spMo) (DO : Df K mg "measures_of" ["core", "measures", "numbers", "words"] fO fdO) :
    FnOk P w K mg base CX0 13 f fd ["core", "measures", "number", "words"] (spMe T) := by
  refine F.ok (k := 12) cMe (fun vs H Q E h => ?_) (fun cdv A outer s H vs Q E hr h => ?_)
  · obtain ⟨_, _, _, _, _, _, _, _, rfl, _⟩ := h
    rfl
  · obtain ⟨xc, xm, xw, n, ks, mss, kind, ws, rfl, ec, em, ok, mo, hT, ew, hw, hkn, hlen, k⟩ := h
    have hu := hu_of hr
    refine ⟨_, (pss_cons (ps_expr (pe_call GC hr (by rfl) DC.g DC.k DC.b .nil pass0 (pa_cons (pv 0) pa_nil))) (pss_cons (ps_expr (pe_call (GM.mono (by decide)) hr (by rfl) DM.g DM.k DM.b .nil pass0 (pa_cons (pv 0) (pa_cons (pv 1) pa_nil)))) (pss_cons (ps_if (pt_not (pt_val (pe_call (GB.mono (by decide)) hr (by rfl) DB.g DB.k DB.b .nil pass0 (pa_cons (pv 2) (pa_cons pe_int (pa_cons (pe_callB call_len_seq (by rfl) N.nl PySem.boot_len (pa_cons (pv 1) pa_nil)) pa_nil)))))) (pss_one ps_no) pss_nil) (pss_cons (ps_expr (pe_call (GW.mono (by decide)) hr (by rfl) DW.g DW.k DW.b .nil pass0 (pa_cons (pv 0) (pa_cons (pe_ix ix_list (pe_call (GK.mono (by decide)) hr (by rfl) DK.g DK.k DK.b .nil pass0 (pa_cons (pv 1) pa_nil)) (pv 2) (fun _ _ => rfl)) (pa_cons (pv 3) pa_nil))))) (pss_one (ps_ret (pe_dget hu (pe_call (GO.mono (by decide)) hr (by rfl) DO.g DO.k DO.b .nil pass0 (pa_cons (pv 0) (pa_cons (pv 1) (pa_cons (pe_lst (pa_cons (pv 2) pa_nil)) (pa_cons (pv 3) pa_nil))))) (pv 2) (fun _ _ => rfl)))))))), ?_⟩
    have hnl : n ≤ mss.length := by
      have := (List.getElem?_eq_some_iff.mp hkn).1
      unfold knS at this
      rw [List.length_cons, List.length_map] at this
      omega
    refine ⟨_, rfl, xc, ks, rfl, ec, ok, hT, fun H1 g1 => ?_⟩
    refine ⟨_, rfl, _, rfl, xc, xm, ks, mss, rfl, ec.grow g1, em.grow g1, ok, mo, fun H2 g2 => ?_⟩
    have g12 := g1.trans g2
    have em2 := em.grow g12
    have em3 := em2
    cases em3 with
    | @tup a xs _ ha es =>
    have hl := es.length
    rw [List.length_map] at hl
    refine ⟨_, rfl, _, rfl, a, _, rfl, .inr (SqT.of ha), .int (n : Nat), .int (n : Nat), 0, _, rfl, .int _, ?_⟩
    rw [bet_ok (Int.natCast_nonneg _) (by omega)]
    refine ⟨_, rfl, iteF ?_⟩
    refine ⟨_, rfl, _, rfl, .ref a, mss, rfl, em2, mo.le, fun q H3 hq0 hq g3 => ?_⟩
    have g13 := g12.trans g3
    refine ⟨_, rfl, q, _, _, _, rfl, rfl, SqL.of hq, at_g (j := n) rfl (by rw [List.getElem?_map, hkn]; rfl), _, rfl, xc, xw, kind, ks, ws, rfl, ec.grow g13, ok, ew.grow g13, hw, hlen, fun H4 g4 => ?_⟩
    have g14 := g13.trans g4
    refine ⟨_, rfl, _, rfl, _, rfl, (by show 1 ≤ sizeLine; decide), fun pn hpn => ?_⟩
    have gp := g14.trans (Grow.new (o := .lst [.int (n : Nat)]) hpn)
    refine ⟨_, rfl, xc, .ref a, xw, pn, n, ks, mss, kind, ws, rfl, ec.grow gp, em.grow gp, ok, mo, upd_same, ew.grow gp, hw, hkn, hlen, fun d kvs H5 hd hv g5 => ?_⟩
    refine ⟨_, rfl, d, _, rfl, ?_, k H5 (gp.trans g5)⟩
    rw [← hv]
    exact DGet.k (k := Sum.inl (n : Int)) hd
end
end J1
set_option Elab.async false
set_option linter.all false
set_option maxRecDepth 100000
set_option maxHeartbeats 4000000
namespace J1
open PySem PySem.Spec PyProof.Rows L2 GxR GA ZS RZ
abbrev sSt : Stmt := top 65
theorem cSt : FnScope ["measure", "lot", "const", "terms", "_", "number", "coefficient"] ["measure", "lot"] (defScope sSt) := ⟨rfl, rfl, rfl, by decide +kernel, rfl, by decide +kernel, by decide +kernel⟩
/-- whether a measure has no number below 0, and terms of the lot alone -/
def tB (L : List Nat) (t : Tm) : Bool := decide (t.2.1 ∈ L) && decide (0 ≤ t.2.2)
def rB (L : List Nat) (r : Row1) : Bool := decide (0 ≤ r.1) && r.2.all (tB L)
def stB (L : List Nat) (m : Ms1) : Bool := m.2.all (rB L)
theorem Rd.grow {H H' : Hp} {a : Addr} {kvs : List (Key × V)} (h : Rd H a (.dK kvs)) (g : Grow H H') : Rd H' a (.dK kvs) := by
  rcases h with h | ⟨o, h⟩
  · exact .inl (g.dk h)
  · rcases g a _ h with q | ⟨⟨ps, q⟩, _⟩
    · exact .inr ⟨o, q⟩
    · cases q
theorem all_id {α : Type} (l : List α) (f : α → Bool) : (l.map f).all id = l.all f := by rw [List.all_map]; rfl
def spSt : Sp := fun vs H Q _ => ∃ (xm : V) (D : Addr) (m : Ms1) (L : List Nat), vs = [xm, .ref D] ∧ EncT H (msD m) xm ∧ Rd H D (.dK (rD L)) ∧ m.2.length ≤ 8 ∧ (∀ r ∈ m.2, r.2.length ≤ 12) ∧ ∀ H', Grow H H' → Q (.bl (stB L m)) H'
theorem walk_itt {K : PySem.W.Frag} {a : Addr} {xs : List V} : Walk (Itt K a) xs.length (fun H => SqT K H a xs) (YAt xs) := L2.walk_tup
section
variable {P : Program} {w : World} {K : PySem.W.Frag} {mg : Str → Option Value} {base : Heap}
theorem ok_st {f : Addr} {fd : FuncData} (F : Fun K "_stays" "_stays" sSt f fd) (N : Gn K mg) : FnOk P w K mg base CX0 1 f fd ["measure", "lot"] spSt := by
  refine F.ok (k := 0) cSt (fun vs H Q E h => ?_) (fun cdv A outer s H vs Q E hr h => ?_)
  · obtain ⟨_, _, _, _, rfl, _⟩ := h
    rfl
  · obtain ⟨xm, D, m, L, rfl, em, hD, h8, h12, k⟩ := h
    have hu := hu_of hr
    refine ⟨_, (pss_one (ps_ret (pe_callB (cr_all (by rfl)) (by rfl) N.na (by decide +kernel) (pa_cons (pe_lc (own := [("const", 2), ("terms", 3)]) (g := gTup K 2 (gCons (gName 2) (gCons (gName 3) gNil))) (tt := tYes) (by rfl) cSt.nd (pi_tup (pe_ix ix_tup (pv 0) pe_int (fun _ _ => rfl))) (blkOk_by (own := [("const", 2), ("terms", 3)]) (N := ["measure", "lot", "const", "terms", "_", "number", "coefficient"]) (sc := defScope sSt) (by decide +kernel)) (fun _ _ _ _ _ => (pg_tup (by rfl) (pgs_cons (pg_name (i := 2) cSt.nd rfl (Or.inl rfl)) (pgs_cons (pg_name (i := 3) cSt.nd rfl (Or.inl rfl)) pgs_nil)))) (fun _ _ _ _ _ => pts_nil) (fun _ _ _ _ _ => (pe_and (pe_cmpR op_ge (pv 2) pe_int (nomark _)) (pe_one (pe_callB (r := rAll K) (cr_all (by rfl)) (by rfl) N.na (by decide +kernel) (pa_cons (by exact (pe_lc (own := [("_", 4), ("number", 5), ("coefficient", 6)]) (wi := iTup K (tVar 3)) (g := gTup K 3 (gCons (gName 4) (gCons (gName 5) (gCons (gName 6) gNil)))) (tt := tYes) (by rfl) cSt.nd (pi_tup (pv 3)) (blkOk_by (own := [("_", 4), ("number", 5), ("coefficient", 6)]) (N := ["measure", "lot", "const", "terms", "_", "number", "coefficient"]) (sc := { kind := .function, names := [(".0", .local), ("const", .local), ("terms", .local), ("all", .globalImplicit), ("lot", .cell)], isGenerator := false, isCoroutine := false }) (by decide +kernel)) (fun _ _ _ _ _ => (pg_tup (by rfl) (pgs_cons (pg_name (i := 4) cSt.nd rfl (Or.inl rfl)) (pgs_cons (pg_name (i := 5) cSt.nd rfl (Or.inl rfl)) (pgs_cons (pg_name (i := 6) cSt.nd rfl (Or.inl rfl)) pgs_nil))))) (fun _ _ _ _ _ => pts_nil) (fun _ _ _ _ _ => (pe_and (pe_cmp (pc_din hu (pv 5) (pv 1))) (pe_one (pe_cmpR op_ge (pv 6) pe_int (nomark _))))))) pa_nil)))))) pa_nil)))), ?_⟩
    cases em with
    | @tup a xs _ ha es =>
    cases es with
    | @cons _ y0 _ _ e0 es =>
    cases es with
    | @cons _ y1 _ _ e1 es =>
    cases es
    cases e0
    cases e1 with
    | @tup b ys _ hb er =>
    have hrl := er.length
    rw [List.length_map] at hrl
    refine ⟨_, rfl, a, _, _, _, rfl, rfl, SqT.of ha, at_of (j := 1) rfl rfl, b, rfl, ⟨_, SqT.of hb⟩, fun A1 hA1 => ?_⟩
    refine lc_tup (K := K) (xs := ys) (fun i Hc => Hc A1 = some (.lst (((m.2.take i).map (rB L)).map V.bl)) ∧ Grow H Hc) ⟨upd_same, Grow.new hA1⟩ (fun i Hc _ hp => SqT.of (hp.2.tup hb)) (fun i z Hc hz hp => ?_) (fun H1 hp => ?_)
    · obtain ⟨hacc, g⟩ := hp
      obtain ⟨d1, hd1, ez⟩ := er.get hz
      obtain ⟨r, hr1, rfl⟩ := map_get hd1
      have hi8 := (List.getElem?_eq_some_iff.mp hr1).1
      have hrm := List.mem_of_getElem? hr1
      have ez := ez.grow g
      cases ez with
      | @tup c us _ hc ec =>
      cases ec with
      | @cons _ u0 _ _ f0 ec =>
      cases ec with
      | @cons _ u1 _ _ f1 ec =>
      cases ec
      cases f0
      cases f1 with
      | @tup bt ts _ hbt et =>
      have htl := et.length
      rw [List.length_map] at htl
      refine ⟨c, _, rfl, SqT.of hc, rfl, _, _, rfl, _, _, rfl, rfl, (by rw [wipe_put (by decide), wipe_put (by decide), wipe_again]), ?_⟩
      unfold tYes
      have fin : ∀ H2 : Hp, Grow Hc H2 → ∃ acc, H2 A1 = some (.lst acc) ∧ acc.length < sizeLine ∧ (L2.upd H2 A1 (.lst (acc ++ [V.bl (rB L r)])) A1 = some (.lst (((m.2.take (i + 1)).map (rB L)).map V.bl)) ∧ Grow H (L2.upd H2 A1 (.lst (acc ++ [V.bl (rB L r)])))) := fun H2 g2 => by
        refine ⟨_, g2.lst hacc, ?_, ?_, (g.trans g2).upd' hA1⟩
        · rw [List.length_map, List.length_map, List.length_take, sizeLine_eq]
          omega
        · rw [upd_same, List.take_succ, hr1, List.map_append, List.map_append]
          rfl
      refine iteT ⟨_, rfl, _, _, rfl, rfl, ?_⟩
      by_cases h0 : 0 ≤ r.1
      · have eb : rB L r = r.2.all (tB L) := by unfold rB; rw [decide_eq_true h0, Bool.true_and]
        rw [eb] at fin
        refine ⟨_, rfl, ?_⟩
        rw [decide_eq_true h0]
        refine iteT ⟨_, rfl, bt, rfl, ⟨_, SqT.of hbt⟩, fun A2 hA2 => ?_⟩
        refine dc_it (walk_itt (K := K) (a := bt) (xs := ts)) (fun j Hx => Hx A2 = some (.lst (((r.2.take j).map (tB L)).map V.bl)) ∧ Grow Hc Hx) ⟨upd_same, Grow.new hA2⟩ (fun j Hx _ hp => SqT.of (hp.2.tup hbt)) (fun j w1 Hx H' hjl hp y => ?_) (fun H2 hp => ?_)
        · obtain ⟨hacc2, g2⟩ := hp
          obtain ⟨e0, hw⟩ := y
          rw [e0]
          obtain ⟨d2, hd2, ew⟩ := et.get hw
          obtain ⟨t, ht, rfl⟩ := map_get hd2
          have hj12 := (List.getElem?_eq_some_iff.mp ht).1
          have h12' := h12 r hrm
          have ew := ew.grow g2
          cases ew with
          | @tup c2 vs2 _ hc2 ec2 =>
          cases ec2 with
          | @cons _ t0 _ _ q0 ec2 =>
          cases ec2 with
          | @cons _ t1 _ _ q1 ec2 =>
          cases ec2 with
          | @cons _ t2 _ _ q2 ec2 =>
          cases ec2
          cases q0
          cases q1
          cases q2
          refine ⟨c2, _, rfl, SqT.of hc2, rfl, _, _, rfl, _, _, rfl, _, _, rfl, rfl, (by rw [wipe_put (by decide), wipe_put (by decide), wipe_put (by decide), wipe_again]), ?_⟩
          have fin2 : ∃ acc, Hx A2 = some (.lst acc) ∧ acc.length < sizeLine ∧ (L2.upd Hx A2 (.lst (acc ++ [V.bl (tB L t)])) A2 = some (.lst (((r.2.take (j + 1)).map (tB L)).map V.bl)) ∧ Grow Hc (L2.upd Hx A2 (.lst (acc ++ [V.bl (tB L t)])))) := by
            refine ⟨_, hacc2, ?_, ?_, g2.upd' hA2⟩
            · rw [List.length_map, List.length_map, List.length_take, sizeLine_eq]
              omega
            · rw [upd_same, List.take_succ, ht, List.map_append, List.map_append]
              rfl
          have hDx := Rd.grow (Rd.grow hD g) g2
          refine iteT ⟨_, rfl, _, rfl, D, _, rfl, .inl ⟨_, Sum.inl ((t.2.1 : Nat) : Int), hDx, rfl, rfl⟩, ?_⟩
          by_cases hin : t.2.1 ∈ L
          · have e2 : tB L t = decide (0 ≤ t.2.2) := by unfold tB; rw [decide_eq_true hin, Bool.true_and]
            rw [e2] at fin2
            refine ⟨_, rfl, ?_⟩
            rw [rD_in hin]
            exact iteT ⟨_, rfl, _, _, rfl, rfl, fin2⟩
          · have e2 : tB L t = false := by unfold tB; rw [decide_eq_false hin, Bool.false_and]
            rw [e2] at fin2
            refine ⟨_, rfl, ?_⟩
            rw [rD_no hin]
            exact iteF fin2
        · obtain ⟨hacc2, g2⟩ := hp
          rw [← htl, List.take_length] at hacc2
          refine ⟨A2, _, rfl, SqL.of hacc2, ?_⟩
          rw [all_id]
          exact fin H2 g2
      · have eb : rB L r = false := by unfold rB; rw [decide_eq_false h0, Bool.false_and]
        rw [eb] at fin
        refine ⟨_, rfl, ?_⟩
        rw [decide_eq_false h0]
        exact iteF (fin Hc (Grow.refl _))
    · obtain ⟨hacc, g⟩ := hp
      rw [← hrl, List.take_length] at hacc
      refine ⟨A1, _, rfl, SqL.of hacc, ?_⟩
      rw [all_id]
      exact k H1 g
end
end J1
set_option Elab.async false
set_option linter.all false
set_option maxRecDepth 100000
set_option maxHeartbeats 4000000
namespace J1
open PySem PySem.Spec PyProof.Rows L2 GxR GA ZS RZ
/-! ### the numbers that may be below 0 -/
inductive Struck (mss : List Ms1) : Nat → Prop
  | zero : Struck mss 0
  | const {n : Nat} {ms : Ms1} {r : Row1} (h : mss[n]? = some ms) (hr : r ∈ ms.2) (hc : r.1 < 0) : Struck mss (n + 1)
  | coef {n : Nat} {ms : Ms1} {r : Row1} {t : Tm} (h : mss[n]? = some ms) (hr : r ∈ ms.2) (ht : t ∈ r.2) (hc : t.2.2 < 0) : Struck mss (n + 1)
  | term {n : Nat} {ms : Ms1} {r : Row1} {t : Tm} (h : mss[n]? = some ms) (hr : r ∈ ms.2) (ht : t ∈ r.2) (hs : Struck mss t.2.1) : Struck mss (n + 1)
noncomputable def nbL (mss : List Ms1) : List Nat := (List.range' 1 mss.length).filter fun n => @decide (¬ Struck mss n) (Classical.propDecidable _)
theorem nbL_mem {mss : List Ms1} {n : Nat} : n ∈ nbL mss ↔ 1 ≤ n ∧ n ≤ mss.length ∧ ¬ Struck mss n := by
  unfold nbL
  rw [List.mem_filter, List.mem_range'_1, @decide_eq_true_iff _ (Classical.propDecidable _)]
  constructor
  · rintro ⟨⟨a, b⟩, c⟩
    exact ⟨a, by omega, c⟩
  · rintro ⟨a, b, c⟩
    exact ⟨⟨a, by omega⟩, c⟩
theorem stB_false {L : List Nat} {m : Ms1} (h : stB L m = false) : ∃ r ∈ m.2, r.1 < 0 ∨ ∃ t ∈ r.2, t.2.1 ∉ L ∨ t.2.2 < 0 := by
  unfold stB at h
  rw [List.all_eq_false] at h
  obtain ⟨r, hr, h⟩ := h
  unfold rB at h
  refine ⟨r, hr, ?_⟩
  by_cases c : r.1 < 0
  · exact .inl c
  · have c' : decide (0 ≤ r.1) = true := decide_eq_true (by omega)
    rw [c', Bool.true_and, Bool.not_eq_true, List.all_eq_false] at h
    obtain ⟨t, ht, h⟩ := h
    refine .inr ⟨t, ht, ?_⟩
    unfold tB at h
    by_cases c2 : t.2.1 ∈ L
    · refine .inr ?_
      rw [decide_eq_true c2, Bool.true_and, decide_eq_true_iff] at h
      omega
    · exact .inl c2
theorem stB_true {L : List Nat} {m : Ms1} (h : stB L m = true) {r : Row1} (hr : r ∈ m.2) : 0 ≤ r.1 ∧ ∀ t ∈ r.2, t.2.1 ∈ L ∧ 0 ≤ t.2.2 := by
  unfold stB at h
  rw [List.all_eq_true] at h
  have h := h r hr
  unfold rB at h
  rw [Bool.and_eq_true, decide_eq_true_iff, List.all_eq_true] at h
  refine ⟨h.1, fun t ht => ?_⟩
  have h := h.2 t ht
  unfold tB at h
  rw [Bool.and_eq_true, decide_eq_true_iff, decide_eq_true_iff] at h
  exact h
/-- what is struck is rightly struck -/
theorem Struck.of {mss : List Ms1} {L : List Nat} {n : Nat} {ms : Ms1} (hL : ∀ x, x ≤ mss.length → x ∉ L → Struck mss x) (hb : ∀ r ∈ ms.2, ∀ t ∈ r.2, t.2.1 ≤ mss.length) (h : mss[n]? = some ms) (hs : stB L ms = false) : Struck mss (n + 1) := by
  obtain ⟨r, hr, h1 | ⟨t, ht, h2 | h2⟩⟩ := stB_false hs
  · exact .const h hr h1
  · exact .term h hr ht (hL _ (hb r hr t ht) h2)
  · exact .coef h hr ht h2
/-- what is left isn't struck -/
theorem Struck.not {mss : List Ms1} {L : List Nat} (h0 : 0 ∉ L) (hs : ∀ n ms, n + 1 ∈ L → mss[n]? = some ms → stB L ms = true) {x : Nat} (h : Struck mss x) : x ∉ L := by
  induction h with
  | zero => exact h0
  | const h hr hc => exact fun z => by have := (stB_true (hs _ _ z h) hr).1; omega
  | coef h hr ht hc => exact fun z => by have := ((stB_true (hs _ _ z h) hr).2 _ ht).2; omega
  | term h hr ht _ ih => exact fun z => ih ((stB_true (hs _ _ z h) hr).2 _ ht).1
theorem asc_eq : ∀ {l l' : List Int}, l.Pairwise (· < ·) → l'.Pairwise (· < ·) → (∀ x, x ∈ l ↔ x ∈ l') → l = l'
  | [], [], _, _, _ => rfl
  | [], b :: _, _, _, h => absurd ((h b).mpr List.mem_cons_self) List.not_mem_nil
  | a :: _, [], _, _, h => absurd ((h a).mp List.mem_cons_self) List.not_mem_nil
  | a :: r, b :: t, p, q, h => by
    rw [List.pairwise_cons] at p q
    have e : a = b := by
      rcases List.mem_cons.mp ((h a).mp List.mem_cons_self) with z | z
      · exact z
      · rcases List.mem_cons.mp ((h b).mpr List.mem_cons_self) with y | y
        · exact y.symm
        · have := p.1 b y
          have := q.1 a z
          omega
    subst e
    rw [asc_eq p.2 q.2 fun x => ?_]
    constructor
    · intro hx
      rcases List.mem_cons.mp ((h x).mp (List.mem_cons_of_mem _ hx)) with z | z
      · have := p.1 x hx
        omega
      · exact z
    · intro hx
      rcases List.mem_cons.mp ((h x).mpr (List.mem_cons_of_mem _ hx)) with z | z
      · have := q.1 x hx
        omega
      · exact z
theorem asc_of {l : List Int} (h : l.Pairwise (· ≤ ·)) (nd : l.Nodup) : l.Pairwise (· < ·) := by
  induction l with
  | nil => exact .nil
  | cons a r ih =>
    rw [List.pairwise_cons] at h
    rw [List.nodup_cons] at nd
    refine .cons (fun b hb => ?_) (ih h.2 nd.2)
    have h1 := h.1 b hb
    have h2 : a ≠ b := fun z => nd.1 (z ▸ hb)
    omega
theorem nbL_asc (mss : List Ms1) : ((nbL mss).map fun (n : Nat) => (n : Int)).Pairwise (· < ·) := by
  rw [List.pairwise_map]
  unfold nbL
  refine List.Pairwise.filter _ ?_
  exact (List.pairwise_lt_range' (s := 1) (n := mss.length)).imp fun h => Int.ofNat_lt.mpr h
end J1
set_option Elab.async false
set_option linter.all false
set_option maxRecDepth 100000
set_option maxHeartbeats 4000000
namespace J1
open PySem PySem.Spec PyProof.Rows L2 GxR GA ZS RZ
abbrev sNb : Stmt := top 55
theorem cNb : FnScope ["core", "measures", "lot", "number", "gone"] ["core", "measures"] (defScope sNb) := ⟨rfl, rfl, rfl, by decide +kernel, rfl, by decide +kernel, by decide +kernel⟩
def spNb (T : Hp → Prop) : Sp := fun vs H Q _ => ∃ (xc xm : V) (ks : List Kd1) (mss : List Ms1), vs = [xc, xm] ∧ EncT H (coreD ks) xc ∧ EncT H (mssD mss) xm ∧ KdsOk ks ∧ MsOk ks mss ∧ T H ∧
  ∀ (t : Addr) (H' : Hp), H' t = some (.tup ((nbL mss).map fun (n : Nat) => V.int (n : Nat))) → Grow H H' → Q (.ref t) H'
/-- the lot: what is left -/
structure LotI (mss : List Ms1) (L : List Nat) : Prop where
  nd : L.Nodup
  lo : ∀ x ∈ L, 1 ≤ x ∧ x ≤ mss.length
  st : ∀ x, x ≤ mss.length → x ∉ L → Struck mss x
theorem rD_del (L : List Nat) (n : Nat) : dropK (rD L) (Sum.inl (n : Int) : Key) = rD (L.filter fun x => decide (x ≠ n)) := by
  unfold dropK rD
  rw [List.filter_map]
  refine congrArg _ (List.filter_congr fun x _ => ?_)
  simp
  omega
def gB (mss : List Ms1) (L : List Nat) (n : Nat) : Bool := match mss[n - 1]? with
  | some ms => !stB L ms
  | none => false
theorem LotI.cut {mss : List Ms1} {L : List Nat} {ks : List Kd1} (I : LotI mss L) (ok : KdsOk ks) (mo : MsOk ks mss) : LotI mss (L.filter fun x => decide (x ∉ L.filter (gB mss L))) := by
  refine ⟨I.nd.filter _, fun x hx => I.lo x ((List.mem_filter.mp hx).1), fun x hx hn => ?_⟩
  by_cases hl : x ∈ L
  · have hg : x ∈ L.filter (gB mss L) := Classical.byContradiction fun z => hn (List.mem_filter.mpr ⟨hl, decide_eq_true z⟩)
    have hb := (List.mem_filter.mp hg).2
    have h1 := I.lo x hl
    obtain ⟨n, rfl⟩ : ∃ n, x = n + 1 := ⟨x - 1, by omega⟩
    unfold gB at hb
    rw [Nat.add_sub_cancel] at hb
    cases hms : mss[n]? with
    | none => rw [hms] at hb; cases hb
    | some ms =>
      rw [hms] at hb
      have hb : (!stB L ms) = true := hb
      refine Struck.of I.st (fun r hr t ht => ?_) hms (by simpa using hb)
      exact ((ms_rows ok mo (List.mem_of_getElem? hms)).2 r hr).2 t ht
  · exact I.st x hx hl
theorem LotI.fin {mss : List Ms1} {L : List Nat} (I : LotI mss L) (h : L.filter (gB mss L) = []) {n : Nat} : n ∈ L ↔ n ∈ nbL mss := by
  rw [nbL_mem]
  have h0 : 0 ∉ L := fun z => by have := (I.lo 0 z).1; omega
  have hs : ∀ n ms, n + 1 ∈ L → mss[n]? = some ms → stB L ms = true := fun n ms hn hms => by
    rw [List.filter_eq_nil_iff] at h
    have hb := h (n + 1) hn
    unfold gB at hb
    rw [Nat.add_sub_cancel, hms] at hb
    have hb : ¬ ((!stB L ms) = true) := hb
    simpa using hb
  constructor
  · intro hn
    exact ⟨(I.lo n hn).1, (I.lo n hn).2, fun z => Struck.not h0 hs z hn⟩
  · rintro ⟨a, b, c⟩
    exact Classical.byContradiction fun z => c (I.st n b z)
section
variable {P : Program} {w : World} {K : PySem.W.Frag} {mg : Str → Option Value} {base : Heap}
theorem ok_nb {f fC fM fS : Addr} {fd fdC fdM fdS : FuncData} {T : Hp → Prop} (F : Fun K "never_below" "never_below" sNb f fd) (N : Gn K mg) (hRg : mg "range" = none) (hLi : mg "list" = none) (hSo : mg "sorted" = none)
    (GC : FnOk P w K mg base CX0 12 fC fdC ["thing"] (spNc T)) (DC : Df K mg "need_core" ["thing"] fC fdC)
    (GM : FnOk P w K mg base CX0 8 fM fdM ["core", "thing"] spNm) (DM : Df K mg "need_measures" ["core", "thing"] fM fdM)
    (GS : FnOk P w K mg base CX0 1 fS fdS ["measure", "lot"] spSt) (DS : Df K mg "_stays" ["measure", "lot"] fS fdS) : FnOk P w K mg base CX0 13 f fd ["core", "measures"] (spNb T) := by
  refine F.ok (k := 12) cNb (fun vs H Q E h => ?_) (fun cdv A outer s H vs Q E hr h => ?_)
  · obtain ⟨_, _, _, _, rfl, _⟩ := h
    rfl
  · obtain ⟨xc, xm, ks, mss, rfl, ec, em, ok, mo, hT, k⟩ := h
    have hu := hu_of hr
    refine ⟨_, (pss_cons (ps_expr (pe_call GC hr (by rfl) DC.g DC.k DC.b .nil pass0 (pa_cons (pv 0) pa_nil))) (pss_cons (ps_expr (pe_call (GM.mono (by decide)) hr (by rfl) DM.g DM.k DM.b .nil pass0 (pa_cons (pv 0) (pa_cons (pv 1) pa_nil)))) (pss_cons (ps_set (i := 2) cNb.nd rfl (Or.inr rfl) (pe_dc (own := [("number", 3)]) (g := gName 3) (tt := tYes) (by rfl) cNb.nd (pi_range2 (by rfl) hRg (pa_cons pe_int (pa_cons (pe_op op_add (pe_callB call_len_seq (by rfl) N.nl PySem.boot_len (pa_cons (pv 1) pa_nil)) pe_int) pa_nil))) (blkOk_by (own := [("number", 3)]) (N := ["core", "measures", "lot", "number", "gone"]) (sc := defScope sNb) (by decide +kernel)) (fun _ _ _ _ _ => (pg_name (i := 3) cNb.nd rfl (Or.inl rfl))) (fun _ _ _ _ _ => pts_nil) (fun _ _ _ _ _ => (pv 3)) (fun _ _ _ _ _ => pe_bl))) (pss_cons (ps_lock (ps_setLc (i := 4) (own := [("number", 3)]) (g := gName 3) (by rfl) cNb.nd rfl rfl (sw_true rfl rfl rfl (by decide +kernel)) (pi_keys (pv 2)) (blkOk_by (own := [("number", 3)]) (N := ["core", "measures", "lot", "number", "gone"]) (sc := defScope sNb) (by decide +kernel)) (fun _ _ _ _ _ => (pg_name (i := 3) cNb.nd rfl (Or.inl rfl))) (fun _ _ _ _ _ => (pts_one (pt_not (pt_val (pe_call (GS.mono (by decide)) hr (by rfl) DS.g DS.k DS.b .nil pass0 (pa_cons (pe_ix (r := rIxT K) ix_tup (pv 1) (pe_op op_sub (pv 3) pe_int) (fun _ _ => rfl)) (pa_cons (pv 2) pa_nil))))))) (fun _ _ _ _ _ => (pv 3)))) (pss_cons (ps_while PassesOwn.never (pt_truth (pv 4) (fun _ => rfl)) (pss_cons (ps_for PassesOwn.never rfl (pi_list (pv 4)) (pg_name (i := 3) cNb.nd rfl (Or.inl rfl)) (pss_one (ps_ddel (pv 2) (pv 3)))) (pss_one (ps_lock (ps_setLc (i := 4) (own := [("number", 3)]) (g := gName 3) (by rfl) cNb.nd rfl rfl (sw_true rfl rfl rfl (by decide +kernel)) (pi_keys (pv 2)) (blkOk_by (own := [("number", 3)]) (N := ["core", "measures", "lot", "number", "gone"]) (sc := defScope sNb) (by decide +kernel)) (fun _ _ _ _ _ => (pg_name (i := 3) cNb.nd rfl (Or.inl rfl))) (fun _ _ _ _ _ => (pts_one (pt_not (pt_val (pe_call (GS.mono (by decide)) hr (by rfl) DS.g DS.k DS.b .nil pass0 (pa_cons (pe_ix (r := rIxT K) ix_tup (pv 1) (pe_op op_sub (pv 3) pe_int) (fun _ _ => rfl)) (pa_cons (pv 2) pa_nil))))))) (fun _ _ _ _ _ => (pv 3))))))) (pss_one (ps_ret (pe_callTy call_tuple_of (by rfl) N.nt (by decide +kernel) (pa_cons (pe_callB cr_sorted (by rfl) hSo (by decide +kernel) (pa_cons (pe_callTy (call_list_dK (by rfl)) (by rfl) hLi (by decide +kernel) (pa_cons (pv 2) pa_nil)) pa_nil)) pa_nil))))))))), ?_⟩
    have em0 := em
    cases em with
    | @tup a xs _ ha es0 =>
    have hl := es0.length
    rw [List.length_map] at hl
    have hle := mo.le
    refine ⟨_, rfl, xc, ks, rfl, ec, ok, hT, fun H1 g1 => ?_⟩
    refine ⟨_, rfl, _, rfl, xc, .ref a, ks, mss, rfl, ec.grow g1, em0.grow g1, ok, mo, fun H2 g2 => ?_⟩
    have g12 := g1.trans g2
    have ha0 := g12.tup ha
    have es := es0.grow g12
    refine ⟨_, rfl, a, _, rfl, .inr (SqT.of ha0), _, _, rfl, rfl, _, _, rfl, ⟨by decide, by decide, by omega, by omega⟩, ?_⟩
    rw [show ((((xs.length : Nat) : Int) + 1) - 1).toNat = xs.length by omega]
    refine fun Dl hDl0 => ?_
    refine dc_it (walk_range (lo := 1) (n := xs.length)) (fun i Hx => Hx Dl = some (.dK (rD (List.range' 1 i))) ∧ Grow H2 Hx) ⟨upd_same, Grow.new hDl0⟩ (fun _ _ _ _ => trivial) (fun i x Hx H' hi hp y => ?_) (fun Hc hp => ?_)
    · obtain ⟨hDx, g⟩ := hp
      obtain ⟨e0, e9⟩ := y
      rw [e0]
      subst e9
      refine ⟨(by rw [wipe_put (by decide), wipe_again]), ?_⟩
      unfold tYes
      have en : (1 : Int) + (i : Nat) = ((1 + i : Nat) : Int) := by omega
      refine iteT ⟨_, rfl, _, Sum.inl ((1 + i : Nat) : Int), by rw [← en]; rfl, hDx, ?_, ?_, g.upd' hDl0⟩
      · unfold rD
        rw [List.length_map, List.length_range', sizeLine_eq]
        omega
      · rw [upd_same, rD_push (fun z => by rw [List.mem_range'_1] at z; omega), ← List.range'_1_concat]
    obtain ⟨hD, gC⟩ := hp
    rw [← hl] at hD
    have LI0 : LotI mss (List.range' 1 mss.length) := ⟨List.nodup_range', fun x hx => by rw [List.mem_range'_1] at hx; omega, fun x hx hn => by
      have : x = 0 := by
        rcases Nat.eq_zero_or_pos x with z | z
        · exact z
        · exact absurd (List.mem_range'_1.mpr ⟨z, by omega⟩) hn
      rw [this]
      exact .zero⟩
    have L13 : ∀ L, LotI mss L → L.length ≤ 13 := fun L I => pigeon 13 I.nd fun x hx => by have := I.lo x hx; omega
    refine ⟨Dl, _, hD, trivial, fun od => ?_⟩
    have gF := gC.upd' hDl0 (o := .frz od (.dK (rD (List.range' 1 mss.length))))
    have hzF := upd_same (H := Hc) (a := Dl) (o := .frz od (.dK (rD (List.range' 1 mss.length))))
    generalize L2.upd Hc Dl (.frz od (.dK (rD (List.range' 1 mss.length)))) = HF at gF hzF ⊢
    refine ⟨_, rfl, Dl, od, rfl, .inl ⟨_, hzF, fun A hA => ?_⟩⟩
    have hAD : A ≠ Dl := fun z => by rw [z, hzF] at hA; cases hA
    have hrl : (rD (List.range' 1 mss.length)).length = (List.range' 1 mss.length).length := by unfold rD; rw [List.length_map]
    refine dc_it (walk_keys (o := od)) (fun i Hx => Hx A = some (.lst ((((List.range' 1 mss.length).take i).filter (gB mss (List.range' 1 mss.length))).map fun (n : Nat) => V.int (n : Nat))) ∧ Grow HF Hx) ⟨upd_same, Grow.new hA⟩ (fun i Hx _ hp => (hp.2 Dl _ hzF).elim id fun z => by obtain ⟨⟨_, z⟩, _⟩ := z; cases z) (fun i x Hx H' hi hp y => ?_) (fun Hx hp => ?_)
    · obtain ⟨hacc, g⟩ := hp
      obtain ⟨e0, ky, vv, hkv, rfl⟩ := y
      rw [e0]
      rw [hrl] at hi
      obtain ⟨n, hn⟩ : ∃ n, (List.range' 1 mss.length)[i]? = some n := ⟨_, List.getElem?_eq_getElem hi⟩
      have hkv2 : (rD (List.range' 1 mss.length))[i]? = some ((Sum.inl (n : Int) : Key), V.bl true) := by unfold rD; rw [List.getElem?_map, hn]; rfl
      rw [hkv2] at hkv
      cases hkv
      have hnb := (LI0).lo n (List.mem_of_getElem? hn)
      obtain ⟨ms, hms⟩ : ∃ ms, mss[n - 1]? = some ms := ⟨_, List.getElem?_eq_getElem (by omega)⟩
      obtain ⟨xi, hxi, exi⟩ := es.got (i := n - 1) (d := msD ms) (by rw [List.getElem?_map, hms]; rfl)
      obtain ⟨r8, r12⟩ := ms_rows ok mo (List.mem_of_getElem? hms)
      have hgb : gB mss (List.range' 1 mss.length) n = !stB (List.range' 1 mss.length) ms := by unfold gB; rw [hms]
      have hgx := gF.trans g
      refine ⟨(by rw [wipe_put (by decide), wipe_again]), ?_⟩
      refine ⟨_, rfl, _, rfl, _, _, rfl, rfl, a, _, _, _, rfl, rfl, SqT.of (hgx.tup ha0), at_g (j := n - 1) (by show ((n : Nat) : Int) - 1 = _; omega) hxi, _, rfl, xi, Dl, ms, (List.range' 1 mss.length), rfl, exi.grow hgx, .inr ⟨od, (g Dl _ hzF).elim id fun z => by obtain ⟨⟨_, z⟩, _⟩ := z; cases z⟩, r8, fun r hr => (r12 r hr).1, fun H3 g3 => ⟨_, rfl, ?_⟩⟩
      have e2 : ((List.range' 1 mss.length).take (i + 1)).filter (gB mss (List.range' 1 mss.length)) = ((List.range' 1 mss.length).take i).filter (gB mss (List.range' 1 mss.length)) ++ (if stB (List.range' 1 mss.length) ms = true then [] else [n]) := by
        rw [List.take_succ, hn, List.filter_append]
        show _ ++ [n].filter (gB mss (List.range' 1 mss.length)) = _
        rw [List.filter_cons, hgb]
        cases stB (List.range' 1 mss.length) ms <;> rfl
      cases hsb : stB (List.range' 1 mss.length) ms with
      | true =>
        rw [hsb, if_pos rfl, List.append_nil] at e2
        refine iteF ⟨?_, g.trans g3⟩
        rw [e2]
        exact g3.lst hacc
      | false =>
        rw [hsb, if_neg (by decide)] at e2
        refine iteT ⟨_, rfl, _, g3.lst hacc, ?_, ?_, (g.trans g3).upd' hA⟩
        · rw [List.length_map, sizeLine_eq]
          have h1 : (((List.range' 1 mss.length).take i).filter (gB mss (List.range' 1 mss.length))).length ≤ ((List.range' 1 mss.length).take i).length := List.length_filter_le _ _
          rw [List.length_take] at h1
          have := L13 _ LI0
          omega
        · rw [upd_same, e2, List.map_append]
          rfl
    obtain ⟨hacc, g⟩ := hp
    rw [hrl, List.take_length] at hacc
    have hzX : Hx Dl = some (.frz od (.dK (rD (List.range' 1 mss.length)))) := (g Dl _ hzF).elim id fun z => by obtain ⟨⟨_, z⟩, _⟩ := z; cases z
    refine ⟨hzX, ?_⟩
    have gX := (gF.trans g).upd' hDl0 (o := .dK (rD (List.range' 1 mss.length)))
    have hDX := upd_same (H := Hx) (a := Dl) (o := .dK (rD (List.range' 1 mss.length)))
    have hAX : L2.upd Hx Dl (.dK (rD (List.range' 1 mss.length))) A = some (.lst (((List.range' 1 mss.length).filter (gB mss (List.range' 1 mss.length))).map fun (n : Nat) => V.int (n : Nat))) := by rw [upd_ne hAD]; exact hacc
    generalize L2.upd Hx Dl (.dK (rD (List.range' 1 mss.length))) = HX at gX hDX hAX ⊢
    dsimp only [gName]
    unfold tSeq
    refine while_by (fun σ' Hw => ∃ v3 G0 L, σ' = [some xc, some (.ref a), some (.ref Dl), v3, some (.ref G0)] ∧ Hw Dl = some (.dK (rD L)) ∧ Hw G0 = some (.lst ((L.filter (gB mss L)).map fun (n : Nat) => V.int (n : Nat))) ∧ LotI mss L ∧ Grow H2 Hw) (fun _ Hw => lenH Hw Dl)
      ⟨_, A, _, rfl, hDX, hAX, LI0, gX⟩ (fun σ' Hw hp => ?_) ?_
    rotate_left
    · rintro σ' Hc Q1 Q2 hq ⟨v, e, b, t, q⟩
      exact ⟨v, e, b, t, hq _ _ q⟩
    obtain ⟨v3, G0, L, rfl, hDw, hGw, LI, gw⟩ := hp
    cases hG : L.filter (gB mss L) with
    | nil =>
      rw [hG] at hGw
      refine ⟨_, rfl, false, .inl ⟨_, SqL.of hGw, rfl⟩, iteF ?_⟩
      have eL : (rD L).map (fun kv => kV kv.1) = (L.map fun (n : Nat) => (n : Int)).map V.int := by
        unfold rD
        rw [List.map_map, List.map_map]
        rfl
      refine ⟨_, rfl, Dl, _, rfl, hDw, fun q hq => ?_⟩
      rw [eL]
      have gq := Grow.new (o := .lst ((L.map fun (n : Nat) => (n : Int)).map V.int)) hq
      refine ⟨q, _, rfl, SqL.of upd_same, by rw [List.length_map]; have := L13 L LI; omega, fun ns' p perm pw hp => ?_⟩
      have gp := Grow.new (o := .lst (ns'.map V.int)) hp
      have ndL : (L.map fun (n : Nat) => (n : Int)).Nodup := by
        rw [List.Nodup, List.pairwise_map]
        exact LI.nd.imp fun h z => h (Int.ofNat.inj z)
      have en : ns' = (nbL mss).map fun (n : Nat) => (n : Int) := by
        refine asc_eq (asc_of pw (perm.nodup_iff.mpr ndL)) (nbL_asc mss) fun x => ?_
        rw [perm.mem_iff, List.mem_map, List.mem_map]
        constructor
        · rintro ⟨n, h1, h2⟩
          exact ⟨n, (LI.fin hG).mp h1, h2⟩
        · rintro ⟨n, h1, h2⟩
          exact ⟨n, (LI.fin hG).mpr h1, h2⟩
      refine ⟨p, _, rfl, .inl ⟨SqL.of upd_same, fun t ht => ?_⟩⟩
      refine k t _ ?_ (((g12.trans gw).trans (gq.trans gp)).trans (Grow.new ht))
      rw [upd_same, en, List.map_map]
      rfl
    | cons g0 gr =>
      rw [hG] at hGw
      refine ⟨_, rfl, true, .inl ⟨_, SqL.of hGw, rfl⟩, iteT ?_⟩
      have hDG : Dl ≠ G0 := fun z => by rw [z, hGw] at hDw; cases hDw
      have ndG : (g0 :: gr).Nodup := by rw [← hG]; exact LI.nd.filter _
      have inL : ∀ n ∈ g0 :: gr, n ∈ L := fun n hn => by rw [← hG] at hn; exact (List.mem_filter.mp hn).1
      generalize hGl : g0 :: gr = G at hGw ndG inL hG
      have hg0 : g0 ∈ G := by rw [← hGl]; exact List.mem_cons_self
      refine ⟨_, rfl, G0, rfl, ⟨_, SqL.of hGw⟩, ?_⟩
      refine for_list (K := K) (xs := G.map fun (n : Nat) => V.int (n : Nat)) (fun j σ' Hx => ∃ v3, σ' = [some xc, some (.ref a), some (.ref Dl), v3, some (.ref G0)] ∧ Hx Dl = some (.dK (rD (L.filter fun x => decide (x ∉ G.take j)))) ∧ Hx G0 = some (.lst (G.map fun (n : Nat) => V.int (n : Nat))) ∧ Grow H2 Hx)
        ⟨_, rfl, by rw [hDw, List.filter_eq_self.mpr fun x _ => by rw [List.take_zero]; exact decide_eq_true List.not_mem_nil], hGw, gw⟩ (fun j σ' Hx _ hp => ?_) (fun j z σ' Hx hz hp => ?_) (fun σ' Hx hp => ?_)
      · obtain ⟨_, _, _, h, _⟩ := hp
        exact SqL.of h
      · obtain ⟨v3', rfl, hDx, hGx, gx⟩ := hp
        obtain ⟨n, hn, rfl⟩ := map_get hz
        have hnt : n ∉ G.take j := fun z => by
          obtain ⟨j', hj'⟩ := List.getElem?_of_mem z
          have hlt := (List.getElem?_eq_some_iff.mp hj').1
          rw [List.length_take] at hlt
          rw [List.getElem?_take_of_lt (by omega)] at hj'
          have := nd_ix ndG hj' hn
          omega
        have hmem : n ∈ L.filter fun x => decide (x ∉ G.take j) := List.mem_filter.mpr ⟨inL n (List.mem_of_getElem? hn), decide_eq_true hnt⟩
        refine ⟨_, rfl, _, rfl, Dl, _, Sum.inl (n : Int), rfl, hDx, rfl, by rw [rD_in hmem]; rfl, ?_⟩
        rw [rD_del, List.filter_filter]
        refine ⟨_, rfl, ?_, by rw [upd_ne (Ne.symm hDG)]; exact hGx, gx.upd' hDl0⟩
        rw [upd_same]
        refine congrArg (fun l => some (HO.dK (rD l))) (List.filter_congr fun x _ => ?_)
        rw [List.take_succ, hn, Bool.eq_iff_iff, Bool.and_eq_true, decide_eq_true_iff, decide_eq_true_iff, decide_eq_true_iff, List.mem_append]
        show x ≠ n ∧ x ∉ G.take j ↔ ¬ (x ∈ G.take j ∨ x ∈ [n])
        rw [List.mem_singleton]
        constructor
        · rintro ⟨h1, h2⟩ (h3 | h3)
          · exact h2 h3
          · exact h1 h3
        · intro h
          exact ⟨fun z => h (.inr z), fun z => h (.inl z)⟩
      · obtain ⟨v3', rfl, hDx, hGx, gx⟩ := hp
        rw [List.length_map, List.take_length] at hDx
        have LI' := LI.cut ok mo
        rw [hG] at LI'
        have hlt : (L.filter fun x => decide (x ∉ G)).length < L.length := by
          rw [List.length_filter_lt_length_iff_exists]
          exact ⟨g0, inL g0 hg0, by simpa using hg0⟩
        generalize (L.filter fun x => decide (x ∉ G)) = L' at hDx LI' hlt
        refine ⟨Dl, _, hDx, trivial, fun od => ?_⟩
        have gF := gx.upd' hDl0 (o := .frz od (.dK (rD L')))
        have hzF := upd_same (H := Hx) (a := Dl) (o := .frz od (.dK (rD L')))
        generalize L2.upd Hx Dl (.frz od (.dK (rD L'))) = HF at gF hzF ⊢
        refine ⟨_, rfl, Dl, od, rfl, .inl ⟨_, hzF, fun A hA => ?_⟩⟩
        have hAD : A ≠ Dl := fun z => by rw [z, hzF] at hA; cases hA
        have hrl : (rD L').length = L'.length := by unfold rD; rw [List.length_map]
        refine dc_it (walk_keys (o := od)) (fun i Hx => Hx A = some (.lst (((L'.take i).filter (gB mss L')).map fun (n : Nat) => V.int (n : Nat))) ∧ Grow HF Hx) ⟨upd_same, Grow.new hA⟩ (fun i Hx _ hp => (hp.2 Dl _ hzF).elim id fun z => by obtain ⟨⟨_, z⟩, _⟩ := z; cases z) (fun i x Hx H' hi hp y => ?_) (fun Hx hp => ?_)
        · obtain ⟨hacc, g⟩ := hp
          obtain ⟨e0, ky, vv, hkv, rfl⟩ := y
          rw [e0]
          rw [hrl] at hi
          obtain ⟨n, hn⟩ : ∃ n, L'[i]? = some n := ⟨_, List.getElem?_eq_getElem hi⟩
          have hkv2 : (rD L')[i]? = some ((Sum.inl (n : Int) : Key), V.bl true) := by unfold rD; rw [List.getElem?_map, hn]; rfl
          rw [hkv2] at hkv
          cases hkv
          have hnb := (LI').lo n (List.mem_of_getElem? hn)
          obtain ⟨ms, hms⟩ : ∃ ms, mss[n - 1]? = some ms := ⟨_, List.getElem?_eq_getElem (by omega)⟩
          obtain ⟨xi, hxi, exi⟩ := es.got (i := n - 1) (d := msD ms) (by rw [List.getElem?_map, hms]; rfl)
          obtain ⟨r8, r12⟩ := ms_rows ok mo (List.mem_of_getElem? hms)
          have hgb : gB mss L' n = !stB L' ms := by unfold gB; rw [hms]
          have hgx := gF.trans g
          refine ⟨(by rw [wipe_put (by decide), wipe_again]), ?_⟩
          refine ⟨_, rfl, _, rfl, _, _, rfl, rfl, a, _, _, _, rfl, rfl, SqT.of (hgx.tup ha0), at_g (j := n - 1) (by show ((n : Nat) : Int) - 1 = _; omega) hxi, _, rfl, xi, Dl, ms, L', rfl, exi.grow hgx, .inr ⟨od, (g Dl _ hzF).elim id fun z => by obtain ⟨⟨_, z⟩, _⟩ := z; cases z⟩, r8, fun r hr => (r12 r hr).1, fun H3 g3 => ⟨_, rfl, ?_⟩⟩
          have e2 : (L'.take (i + 1)).filter (gB mss L') = (L'.take i).filter (gB mss L') ++ (if stB L' ms = true then [] else [n]) := by
            rw [List.take_succ, hn, List.filter_append]
            show _ ++ [n].filter (gB mss L') = _
            rw [List.filter_cons, hgb]
            cases stB L' ms <;> rfl
          cases hsb : stB L' ms with
          | true =>
            rw [hsb, if_pos rfl, List.append_nil] at e2
            refine iteF ⟨?_, g.trans g3⟩
            rw [e2]
            exact g3.lst hacc
          | false =>
            rw [hsb, if_neg (by decide)] at e2
            refine iteT ⟨_, rfl, _, g3.lst hacc, ?_, ?_, (g.trans g3).upd' hA⟩
            · rw [List.length_map, sizeLine_eq]
              have h1 : ((L'.take i).filter (gB mss L')).length ≤ (L'.take i).length := List.length_filter_le _ _
              rw [List.length_take] at h1
              have := L13 _ LI'
              omega
            · rw [upd_same, e2, List.map_append]
              rfl
        obtain ⟨hacc, g⟩ := hp
        rw [hrl, List.take_length] at hacc
        have hzX : Hx Dl = some (.frz od (.dK (rD L'))) := (g Dl _ hzF).elim id fun z => by obtain ⟨⟨_, z⟩, _⟩ := z; cases z
        refine ⟨hzX, ?_⟩
        have gX := (gF.trans g).upd' hDl0 (o := .dK (rD L'))
        have hDX := upd_same (H := Hx) (a := Dl) (o := .dK (rD L'))
        have hAX : L2.upd Hx Dl (.dK (rD L')) A = some (.lst ((L'.filter (gB mss L')).map fun (n : Nat) => V.int (n : Nat))) := by rw [upd_ne hAD]; exact hacc
        generalize L2.upd Hx Dl (.dK (rD L')) = HX at gX hDX hAX ⊢
        refine ⟨⟨_, A, L', rfl, hDX, hAX, LI', gX⟩, ?_⟩
        rw [lenH_d hDX, lenH_d hDw]
        unfold rD
        rw [List.length_map, List.length_map]
        exact hlt
end
end J1
set_option Elab.async false
set_option linter.all false
set_option maxRecDepth 100000
set_option maxHeartbeats 4000000
namespace J1
open PySem PySem.Spec PyProof.Rows L2 GxR GA ZS RZ
abbrev lDr : Stmt := top 71
theorem cDr : FnScope ["_law_well_here", "_law_many", "_law_cell", "_law_one", "_law_two", "_law_got"] ["_law_well_here", "_law_many"] (defScope lDr) := ⟨rfl, rfl, rfl, by decide +kernel, rfl, by decide +kernel, by decide +kernel⟩
abbrev lWell : Stmt := top 70
theorem cWell : FnScope ["_law_script", "_law_at"] ["_law_script", "_law_at"] (defScope lWell) := ⟨rfl, rfl, rfl, by decide +kernel, rfl, by decide +kernel, by decide +kernel⟩
/-- the well at p: what is left of a cell, how many cells were taken, the cells at l; n: how many there were at most -/
structure Wl (H : Hp) (p l : Addr) (ns : List Int) (n : Nat) : Prop where
  ex : ∃ c a : Int, H p = some (.lst [.int c, .int a, .ref l]) ∧ 0 ≤ c ∧ 0 ≤ a ∧ a ≤ n
  cells : H l = some (.lst (ns.map V.int))
/-- what a draw promises: only the well changes -/
def spDr : Sp := fun vs H Q _ => ∃ (p l : Addr) (ns : List Int) (n : Nat) (m : Int), vs = [.ref p, .int m] ∧ 0 < m ∧ CDivW 0 m ∧ Wl H p l ns n ∧ n ≤ 1000000000000000000000000000000 ∧ p ≠ l ∧
  ∀ (r : Int) (H' : Hp), 0 ≤ r → r < m → Wl H' p l ns (n + 1) → GrowW p H H' → Q (.int r) H'
structure Gd (mg : Str → Option Value) : Prop where
  len : mg "len" = none
  abs : mg "abs" = none
  int : mg "int" = none
  list : mg "list" = none
  range : mg "range" = none
  tuple : mg "tuple" = none
  str : mg "str" = none
  max : mg "max" = none
theorem GrowW.refl' (w : Addr) (H : Hp) : GrowW w H H := fun _ _ _ h => .inl h
theorem cdw {m : Int} (h : 0 < m) (h2 : m.natAbs < 2 ^ 1000) : CDivW 0 m := wide_div h h2 (by decide) (by decide)
theorem nb34 {x : Int} (h0 : 0 ≤ x) (h1 : x < 10000000000000000000000000000000000000000) : x.natAbs < 2 ^ 300 :=
  Nat.lt_of_lt_of_le (show x.natAbs < 10000000000000000000000000000000000000000 by omega) (by decide)
theorem mw34 {x y : Int} (h0 : 0 ≤ x) (h1 : x < 10000000000000000000000000000000000000000) (k0 : 0 ≤ y) (k1 : y < 10000000000000000000000000000000000000000) : CMulW x y :=
  wide_mul (nb34 h0 h1) (nb34 k0 k1) (by decide) (by decide) (by decide)
section
variable {P : Program} {w : World} {K : PySem.W.Frag} {mg : Str → Option Value} {base : Heap}
theorem ok_draw {f : Addr} {fd : FuncData} (F : Fun K "_law_draw" "_law_draw" lDr f fd) (N : Gd mg) : FnOk P w K mg base CX0 1 f fd ["_law_well_here", "_law_many"] spDr := by
  refine F.ok cDr (fun vs H Q E h => ?_) (fun cdv A outer s H vs Q E hr h => ?_)
  · obtain ⟨p, l, ns, n, m, rfl, _⟩ := h
    rfl
  · obtain ⟨p, l, ns, n, m, rfl, hm, hm9, ⟨⟨c, a, hp, hc, ha, han⟩, hl⟩, hn, npl, kq⟩ := h
    refine ⟨_, (C8.pss_cut (ps_if (pt_cmpR op_eq (pe_ix ix_list (pv 0) pe_int (fun _ _ => rfl)) pe_int (nomark _)) (pss_cons (ps_set (i := 2) cDr.nd rfl (Or.inl rfl) pe_int) (C8.pss_cut (ps_if (pt_cmpR op_lt (pe_ix ix_list (pv 0) pe_int (fun _ _ => rfl)) (pe_callB call_len_seq (by rfl) N.len PySem.boot_len (pa_cons (pe_ix ix_list (pv 0) pe_int (fun _ _ => rfl)) pa_nil)) (nomark _)) (pss_one (ps_set (i := 2) cDr.nd rfl (Or.inl rfl) (pe_callB call_abs (by rfl) N.abs (by decide +kernel) (pa_cons (pe_ix ix_list (pe_ix ix_list (pv 0) pe_int (fun _ _ => rfl)) (pe_ix ix_list (pv 0) pe_int (fun _ _ => rfl)) (fun _ _ => rfl)) pa_nil)))) pss_nil) (C8.pss_cut (ps_if (pt_cmpR op_lt (pv 2) (pe_op op_pow pe_int pe_int) (nomark _)) (pss_cons (ps_set (i := 3) cDr.nd rfl (Or.inl rfl) (pe_op op_mod (pe_op op_mulW (pe_op op_add (pe_op op_add (pe_op op_mod (pv 2) pe_int) (pe_op op_mul pe_int (pe_ix ix_list (pv 0) pe_int (fun _ _ => rfl)))) pe_int) (pe_op op_add (pe_op op_mul pe_int (pe_ix ix_list (pv 0) pe_int (fun _ _ => rfl))) pe_int)) pe_int)) (pss_cons (ps_set (i := 4) cDr.nd rfl (Or.inl rfl) (pe_op op_mod (pe_op op_mulW (pe_op op_add (pv 3) pe_int) (pe_op op_add (pe_op op_add (pv 3) (pe_ix ix_list (pv 0) pe_int (fun _ _ => rfl))) pe_int)) pe_int)) (pss_one (ps_set (i := 2) cDr.nd rfl (Or.inl rfl) (pe_op op_add (pe_op op_fdiv (pe_op op_add (pe_op op_mulW (pv 4) pe_int) (pe_op op_mod (pe_op op_mulW (pv 3) (pv 3)) pe_int)) pe_int) pe_int))))) pss_nil) (pss_cons (ps_asg (pv 2) (pg_sub (pv 0) pe_int set_list)) (pss_one (ps_asg (pe_op op_add (pe_ix ix_list (pv 0) pe_int (fun _ _ => rfl)) pe_int) (pg_sub (pv 0) pe_int set_list))))))) pss_nil) (pss_cons (ps_set (i := 5) cDr.nd rfl (Or.inl rfl) (pe_op op_mod (pe_callTy call_int1 (by rfl) N.int (by decide +kernel) (pa_cons (pe_ix ix_list (pv 0) pe_int (fun _ _ => rfl)) pa_nil)) (pv 1))) (pss_cons (ps_asg (pe_op op_fdivW (pe_callTy call_int1 (by rfl) N.int (by decide +kernel) (pa_cons (pe_ix ix_list (pv 0) pe_int (fun _ _ => rfl)) pa_nil)) (pv 1)) (pg_sub (pv 0) pe_int set_list)) (pss_one (ps_ret (pv 5)))))), ?_⟩
    refine ⟨fun σ' H' => ∃ (c' a' : Int) (v2 v3 v4 : Option V), σ' = [some (.ref p), some (.int m), v2, v3, v4, none] ∧ H' p = some (.lst [.int c', .int a', .ref l]) ∧ 0 ≤ c' ∧ 0 ≤ a' ∧ a' ≤ n + 1 ∧ GrowW p H H', ?_, ?_⟩
    · refine ⟨_, rfl, p, _, _, _, rfl, rfl, SqL.of hp, at_of (j := 0) rfl rfl, rfl, _, rfl, ?_⟩
      refine ite2 (fun _ => ?_) (fun _ => ?_)
      · refine ⟨fun σ' H' => ∃ c1 : Int, 0 ≤ c1 ∧ σ' = [some (.ref p), some (.int m), some (.int c1), none, none, none] ∧ H' = H, ?_, ?_⟩
        · refine ⟨_, rfl, p, _, _, _, rfl, rfl, SqL.of hp, at_of (j := 1) rfl rfl, _, rfl, p, _, _, _, rfl, rfl, SqL.of hp, at_of (j := 2) rfl rfl, l, _, rfl, .inl (SqL.of hl), _, _, rfl, rfl, _, rfl, ?_⟩
          refine ite2 (fun hlt => ?_) (fun _ => ?_)
          · have hlt := of_decide_eq_true hlt
            rw [List.length_map] at hlt
            have hj : a.toNat < ns.length := by omega
            refine ⟨_, rfl, p, _, _, _, rfl, rfl, SqL.of hp, at_of (j := 2) rfl rfl, _, rfl, p, _, _, _, rfl, rfl, SqL.of hp, at_of (j := 1) rfl rfl, l, _, _, _, rfl, rfl, SqL.of hl, at_of (j := a.toNat) (v := V.int ns[a.toNat]) (by omega) (by rw [List.getElem?_map, List.getElem?_eq_getElem hj]; rfl), _, rfl, ?_⟩
            refine ⟨if ns[a.toNat] < 0 then -ns[a.toNat] else ns[a.toNat], ?_, rfl, rfl⟩
            split <;> omega
          · exact ⟨7, by decide, rfl, rfl⟩
        · intro σ' H1 hh
          obtain ⟨c1, hc1, e1, e2⟩ := hh
          subst e1
          subst e2
          refine ⟨fun σ' H' => ∃ (c2 : Int) (v3 v4 : Option V), 0 ≤ c2 ∧ σ' = [some (.ref p), some (.int m), some (.int c2), v3, v4, none] ∧ H' = H1, ?_, ?_⟩
          · refine ⟨_, rfl, _, _, rfl, rfl, ⟨by decide, by decide, by decide⟩, _, _, rfl, rfl, _, rfl, ?_⟩
            refine ite2 (fun hlt => ?_) (fun _ => ?_)
            · have b1 : 0 ≤ c1 % 2147483629 ∧ c1 % 2147483629 < 2147483629 := ⟨Int.emod_nonneg _ (by decide), Int.emod_lt_of_pos _ (by decide)⟩
              have X0 : 0 ≤ (c1 % 2147483629 + 3 * a + 11) * (2 * a + 48271) % 99999999977 := Int.emod_nonneg _ (by decide)
              have X1 : (c1 % 2147483629 + 3 * a + 11) * (2 * a + 48271) % 99999999977 < 99999999977 := Int.emod_lt_of_pos _ (by decide)
              refine ⟨_, rfl, _, _, rfl, rfl, (show (0 : Int) < 2147483629 by decide), _, rfl, p, _, _, _, rfl, rfl, SqL.of hp, at_of (j := 1) rfl rfl, _, _, rfl, rfl, .inl ⟨by decide, by decide⟩, _, _, rfl, rfl, _, _, rfl, rfl, _, rfl, p, _, _, _, rfl, rfl, SqL.of hp, at_of (j := 1) rfl rfl, _, _, rfl, rfl, .inl ⟨by decide, by decide⟩, _, _, rfl, rfl, _, _, rfl, rfl, mw34 (by omega) (by omega) (by omega) (by omega), _, _, rfl, rfl, (show (0 : Int) < 99999999977 by decide), ?_⟩
              dsimp only
              generalize (c1 % 2147483629 + 3 * a + 11) * (2 * a + 48271) % 99999999977 = X at X0 X1 ⊢
              have Y0 : 0 ≤ (X + 7919) * (X + a + 12347) % 99999999943 := Int.emod_nonneg _ (by decide)
              have Y1 : (X + 7919) * (X + a + 12347) % 99999999943 < 99999999943 := Int.emod_lt_of_pos _ (by decide)
              refine ⟨_, rfl, _, _, rfl, rfl, _, rfl, _, rfl, p, _, _, _, rfl, rfl, SqL.of hp, at_of (j := 1) rfl rfl, _, _, rfl, rfl, _, _, rfl, rfl, _, _, rfl, rfl, mw34 (by omega) (by omega) (by omega) (by omega), _, _, rfl, rfl, (show (0 : Int) < 99999999943 by decide), ?_⟩
              dsimp only
              generalize (X + 7919) * (X + a + 12347) % 99999999943 = Y at Y0 Y1 ⊢
              refine ⟨_, rfl, _, _, rfl, rfl, mw34 (by omega) (by omega) (by omega) (by omega), _, rfl, _, rfl, _, _, rfl, rfl, mw34 (by omega) (by omega) (by omega) (by omega), _, _, rfl, rfl, (show (0 : Int) < 99999999907 by decide), _, _, rfl, rfl, _, _, rfl, rfl, ⟨by decide, by decide⟩, _, _, rfl, rfl, ?_⟩
              dsimp only
              have Z0 : 0 ≤ X * X % 99999999907 := Int.emod_nonneg _ (by decide)
              have W0 : 0 ≤ (Y * 99999999977 + X * X % 99999999907) / 13 := Int.ediv_nonneg (by omega) (by decide)
              exact ⟨_, _, _, Int.add_nonneg W0 (show (0 : Int) ≤ 1 by decide), rfl, rfl⟩
            · exact ⟨c1, _, _, hc1, rfl, rfl⟩
          · intro σ2 H2 hh
            obtain ⟨c2, v3, v4, hc2, e1, e2⟩ := hh
            subst e1
            subst e2
            refine ⟨_, rfl, _, rfl, p, _, _, 0, rfl, rfl, hp, rfl, ?_⟩
            refine ⟨_, rfl, p, _, 1, _, rfl, rfl, SqL.of upd_same, rfl, _, _, rfl, rfl, _, rfl, p, _, _, 1, rfl, rfl, upd_same, rfl, ?_⟩
            exact ⟨c2, a + 1, _, _, _, rfl, upd_same, hc2, by omega, by omega, GrowW.upd.trans' GrowW.upd⟩
      · exact ⟨c, a, none, none, none, rfl, hp, hc, ha, by omega, GrowW.refl' p H⟩
    · rintro σ' H' ⟨c', a', v2, v3, v4, rfl, hp', hc', ha', han', kp⟩
      refine ⟨_, rfl, p, _, _, _, rfl, rfl, SqL.of hp', at_of (j := 0) rfl rfl, .inl ⟨_, rfl, _, rfl, _, _, rfl, rfl, hm, ?_⟩⟩
      refine ⟨_, rfl, p, _, _, _, rfl, rfl, SqL.of hp', at_of (j := 0) rfl rfl, .inl ⟨_, rfl, _, rfl, _, _, rfl, rfl, hm9, _, rfl, p, _, _, 0, rfl, rfl, hp', rfl, ?_⟩⟩
      refine ⟨_, rfl, kq _ _ (Int.emod_nonneg _ (by omega)) (Int.emod_lt_of_pos _ hm) ⟨⟨c' / m, a', upd_same, Int.ediv_nonneg hc' (by omega), ha', by omega⟩, ?_⟩ (kp.trans' GrowW.upd)⟩
      rw [upd_ne npl.symm]
      rcases kp l _ npl.symm hl with q | ⟨⟨ps, q⟩, _⟩
      · exact q
      · cases q
end
theorem Wl.grow {H H' : Hp} {p l : Addr} {ns : List Int} {n : Nat} (W : Wl H p l ns n) (g : Grow H H') : Wl H' p l ns n := by
  obtain ⟨⟨c, a, h, r⟩, hl⟩ := W
  exact ⟨⟨c, a, g.lst h, r⟩, g.lst hl⟩
theorem Wl.more {H : Hp} {p l : Addr} {ns : List Int} {n m : Nat} (W : Wl H p l ns n) (h : n ≤ m) : Wl H p l ns m := by
  obtain ⟨⟨c, a, h0, h1, h2, h3⟩, hl⟩ := W
  exact ⟨⟨c, a, h0, h1, h2, by omega⟩, hl⟩
theorem Wl.pl {H : Hp} {p l : Addr} {ns : List Int} {n : Nat} (W : Wl H p l ns n) : ∃ ys, H p = some (.lst ys) := by
  obtain ⟨⟨c, a, h, _⟩, _⟩ := W
  exact ⟨_, h⟩
theorem Wl.np {H : Hp} {p l q : Addr} {ns : List Int} {n : Nat} (W : Wl H p l ns n) (h : H q = Option.none) : q ≠ p ∧ q ≠ l := by
  obtain ⟨⟨c, a, h1, _⟩, h2⟩ := W
  exact ⟨fun z => (by rw [z, h1] at h; cases h), fun z => (by rw [z, h2] at h; cases h)⟩
theorem Wl.upd {H : Hp} {p l q : Addr} {ns : List Int} {n : Nat} {o : HO} (W : Wl H p l ns n) (hp : q ≠ p) (hl : q ≠ l) : Wl (L2.upd H q o) p l ns n := by
  obtain ⟨⟨c, a, h, r⟩, h2⟩ := W
  exact ⟨⟨c, a, by rw [upd_ne hp.symm]; exact h, r⟩, by rw [upd_ne hl.symm]; exact h2⟩
theorem GrowW.lst {w : Addr} {H H' : Hp} (g : GrowW w H H') {a : Addr} {xs : List V} (n : a ≠ w) (h : H a = some (.lst xs)) : H' a = some (.lst xs) := by
  rcases g a _ n h with q | ⟨⟨ps, q⟩, _⟩
  · exact q
  · cases q
theorem GrowW.tup {w : Addr} {H H' : Hp} (g : GrowW w H H') {a : Addr} {xs ys : List V} (hw : H w = some (.lst ys)) (h : H a = some (.tup xs)) : H' a = some (.tup xs) := by
  have n : a ≠ w := fun z => by rw [z, hw] at h; cases h
  rcases g a _ n h with q | ⟨⟨ps, q⟩, _⟩
  · exact q
  · cases q
theorem GrowW.but {p q : Addr} {H0 H : Hp} {o : HO} (g : GrowW p H0 H) (hq : H0 q = Option.none) : GrowW p H0 (L2.upd H q o) := fun a u n h => by
  have m : a ≠ q := fun z => by rw [z, hq] at h; cases h
  rcases g a u n h with r | ⟨r1, ps, r2, r3⟩
  · exact .inl (by rw [upd_ne m]; exact r)
  · exact .inr ⟨r1, ps, by rw [upd_ne m]; exact r2, r3⟩
theorem GrowW.new {p q : Addr} {H : Hp} {o : HO} (hq : H q = Option.none) : GrowW p H (L2.upd H q o) := (Grow.new hq).w
theorem GrowW.none' {w : Addr} {H H' : Hp} (g : GrowW w H H') {a : Addr} (n : a ≠ w) (h : H' a = Option.none) : H a = Option.none := by
  cases e : H a with
  | none => rfl
  | some o =>
    rcases g a o n e with q | ⟨_, ps, q, _⟩
    · rw [h] at q; cases q
    · rw [h] at q; cases q
theorem noTup {H : Hp} {p : Addr} {ys : List V} (h : H p = some (.lst ys)) : ∀ xs, H p ≠ some (.tup xs) := fun xs z => by rw [h] at z; cases z
theorem EncB.gw {w : Addr} {ys : List V} {H H' : Hp} {d : Da} {x : V} (e : EncT H d x) (g : GrowW w H H') (h : H w = some (.lst ys)) : EncT H' d x := e.growW g (fun z => z) (noTup h)
theorem EncsB.gw {w : Addr} {ys : List V} {H H' : Hp} {d : List Da} {x : List V} (e : EncsT H d x) (g : GrowW w H H') (h : H w = some (.lst ys)) : EncsT H' d x := e.growW g (fun z => z) (noTup h)
def spWell (K : PySem.W.Frag) : Sp := fun vs H Q _ => ∃ (a : Addr) (ns : List Int), vs = [.ref a, .int 0] ∧ SqL K H a (ns.map V.int) ∧ ∀ p l H', Wl H' p l ns 0 → p ≠ l → Grow H H' → Q (.ref p) H'
section
variable {P : Program} {w : World} {K : PySem.W.Frag} {mg : Str → Option Value} {base : Heap}
theorem ok_well {f : Addr} {fd : FuncData} (F : Fun K "_law_well" "_law_well" lWell f fd) (N : Gd mg) : FnOk P w K mg base CX0 1 f fd ["_law_script", "_law_at"] (spWell K) := by
  refine F.ok (k := 0) cWell (fun vs H Q E h => ?_) (fun cdv A outer s H vs Q E hr h => ?_)
  · obtain ⟨a, ns, rfl, _⟩ := h
    rfl
  · obtain ⟨a, ns, rfl, hS, k⟩ := h
    refine ⟨_, (pss_one (ps_ret (pe_lst (pa_cons pe_int (pa_cons (pv 1) (pa_cons (pe_callTy call_list_of (by rfl) N.list (by decide +kernel) (pa_cons (pv 0) pa_nil)) pa_nil)))))), ?_⟩
    refine ⟨_, rfl, _, rfl, a, _, rfl, .inl hS, fun l hl => ⟨(by show 3 ≤ sizeLine; decide), fun p hp => ?_⟩⟩
    have npl : l ≠ p := ne_of_none upd_same hp
    exact k p l _ ⟨⟨0, 0, upd_same, by decide, by decide, by decide⟩, by rw [upd_ne npl]; exact upd_same⟩ npl.symm ((Grow.new hl).trans (Grow.new hp))
end
end J1
set_option Elab.async false
set_option linter.all false
set_option maxRecDepth 100000
set_option maxHeartbeats 4000000
namespace J1
open PySem PySem.Spec PyProof.Rows L2 GxR GA ZS RZ
abbrev lSk : Stmt := top 81
theorem cSk : FnScope ["_law_measures_here", "_law_struck_here", "_law_k", "_law_number_here", "_law_const", "_law_terms", "_law_bad", "_law_f", "_law_n", "_law_times_here"] ["_law_measures_here"] (defScope lSk) := ⟨rfl, rfl, rfl, by decide +kernel, rfl, by decide +kernel, by decide +kernel⟩
def rNeNil (K : PySem.W.Frag) : R2 := fun x y H Q => ∃ a b xs, x = .ref a ∧ y = .ref b ∧ SqL K H a xs ∧ SqL K H b [] ∧ Q (.bl (!xs.isEmpty)) H
section
variable {X : Cx}
theorem op_neNil (hu : X.A.units < cLine) : OpR X (compareOp .NotEq) (rNeNil X.K) := by
  intro pins s σ H x y v u Q I rx ry h
  obtain ⟨a, b, xs, rfl, rfl, ha, hb, q⟩ := h
  obtain rfl : v = .ref a := rx
  obtain rfl : u = .ref b := ry
  obtain ⟨ia, ra, pa, _⟩ := I.list ha
  obtain ⟨ib, rb, pb, _⟩ := I.list hb
  cases rb
  cases ra with
  | nil => exact SeqAt.RcNeAt.lists (e := fun _ => true) pa.isList pb.isList rfl hu (fun j h1 _ => absurd h1 (by simp)) X.prog X.w X.xe _ ⟨.bl false, H, I, rfl, q⟩
  | cons r t => exact SeqAt.RcNeAt.lists_lengths pa.isList pb.isList (by simp) hu X.prog X.w X.xe _ ⟨.bl true, H, I, rfl, q⟩
end
/-! ### the law's list of struck numbers -/
def badR (S : List Nat) (r : Row1) : Prop := r.1 < 0 ∨ ∃ t ∈ r.2, t.2.2 < 0 ∨ t.2.1 ∈ S
def ClosedS (mss : List Ms1) (S : List Nat) : Prop := ∀ (n : Nat) (ms : Ms1) (r : Row1), mss[n]? = some ms → r ∈ ms.2 → badR S r → n + 1 ∈ S
structure SkB (mss : List Ms1) (S : List Nat) : Prop where
  nd : S.Nodup
  lo : ∀ x ∈ S, x ≤ mss.length ∧ Struck mss x
  zr : 0 ∈ S
/-- a round: i numbers gone through, j rows of the next -/
structure SkI (mss : List Ms1) (S0 S : List Nat) (i j : Nat) : Prop where
  b : SkB mss S
  gr : S = S0 ∨ S0.length < S.length
  ck : S = S0 → ∀ (n : Nat) (ms : Ms1) (q : Nat) (r : Row1), mss[n]? = some ms → ms.2[q]? = some r → (n < i ∨ (n = i ∧ q < j)) → badR S0 r → n + 1 ∈ S0
  cl : ClosedS mss S0 → S = S0
theorem SkI.keep {mss : List Ms1} {S0 S : List Nat} {i j : Nat} {ms : Ms1} {r : Row1} (I : SkI mss S0 S i j) (h1 : mss[i]? = some ms) (h2 : ms.2[j]? = some r) (h : i + 1 ∈ S ∨ ¬ badR S r) : SkI mss S0 S i (j + 1) := by
  refine ⟨I.b, I.gr, fun e n ms' q r' a1 a2 a3 a4 => ?_, I.cl⟩
  by_cases c : n < i ∨ (n = i ∧ q < j)
  · exact I.ck e n ms' q r' a1 a2 c a4
  · have e1 : n = i := by omega
    have e2 : q = j := by omega
    subst e1 e2
    rw [h1] at a1
    cases a1
    rw [h2] at a2
    cases a2
    rcases h with h | h
    · rw [← e]; exact h
    · rw [e] at h
      exact absurd a4 h
theorem SkI.add {mss : List Ms1} {S0 S : List Nat} {i j : Nat} {ms : Ms1} {r : Row1} (I : SkI mss S0 S i j) (h1 : mss[i]? = some ms) (h2 : ms.2[j]? = some r) (hn : i + 1 ∉ S) (h : badR S r) : SkI mss S0 (S ++ [i + 1]) i (j + 1) := by
  have hrm := List.mem_of_getElem? h2
  have hi := (List.getElem?_eq_some_iff.mp h1).1
  have hl : S0.length < (S ++ [i + 1]).length := by
    rw [List.length_append, List.length_singleton]
    rcases I.gr with e | e
    · rw [e]; omega
    · omega
  refine ⟨⟨?_, fun x hx => ?_, List.mem_append_left _ I.b.zr⟩, .inr hl, fun e => by rw [e] at hl; omega, fun hc => ?_⟩
  · rw [List.nodup_append]
    exact ⟨I.b.nd, List.pairwise_singleton _ _, fun a ha b hb z => by
      have e1 : b = i + 1 := List.mem_singleton.mp hb
      rw [z, e1] at ha
      exact hn ha⟩
  · rcases List.mem_append.mp hx with z | z
    · exact I.b.lo x z
    · rw [List.mem_singleton.mp z]
      refine ⟨hi, ?_⟩
      rcases h with h | ⟨t, ht, h | h⟩
      · exact .const h1 hrm h
      · exact .coef h1 hrm ht h
      · exact .term h1 hrm ht (I.b.lo _ h).2
  · exfalso
    have e := I.cl hc
    rw [e] at h hn
    exact hn (hc i ms r h1 hrm h)
theorem SkI.next {mss : List Ms1} {S0 S : List Nat} {i j : Nat} {ms : Ms1} (I : SkI mss S0 S i j) (h1 : mss[i]? = some ms) (h2 : ms.2.length ≤ j) : SkI mss S0 S (i + 1) 0 := by
  refine ⟨I.b, I.gr, fun e n ms' q r a1 a2 a3 a4 => I.ck e n ms' q r a1 a2 ?_ a4, I.cl⟩
  by_cases c : n < i
  · exact .inl c
  · have e1 : n = i := by omega
    subst e1
    rw [h1] at a1
    cases a1
    have := (List.getElem?_eq_some_iff.mp a2).1
    exact .inr ⟨rfl, by omega⟩
theorem SkI.round {mss : List Ms1} {S0 S : List Nat} {k : Nat} (I : SkI mss S0 S mss.length 0) (h : ClosedS mss S0 ∨ k + 1 ≤ S0.length) : ClosedS mss S ∨ k + 1 + 1 ≤ S.length := by
  by_cases hc : ClosedS mss S0
  · rw [I.cl hc]
    exact .inl hc
  · have hk := h.resolve_left hc
    rcases I.gr with e | e
    · refine absurd (fun n ms r a1 a2 a3 => ?_) hc
      obtain ⟨q, hq⟩ := List.getElem?_of_mem a2
      exact I.ck e n ms q r a1 hq (.inl (List.getElem?_eq_some_iff.mp a1).1) a3
    · exact .inr (by omega)
theorem sk_fin {mss : List Ms1} {S : List Nat} (B : SkB mss S) (h : ClosedS mss S ∨ mss.length + 1 + 1 ≤ S.length) {n : Nat} : n ∈ S ↔ n ≤ mss.length ∧ Struck mss n := by
  have hc : ClosedS mss S := by
    rcases h with h | h
    · exact h
    · have := pigeon (mss.length + 1) B.nd fun x hx => Nat.lt_succ_of_le (B.lo x hx).1
      omega
  refine ⟨fun hn => B.lo n hn, fun hn => ?_⟩
  have h2 := hn.2
  clear hn
  induction h2 with
  | zero => exact B.zr
  | const h hr hc' => exact hc _ _ _ h hr (.inl hc')
  | coef h hr ht hc' => exact hc _ _ _ h hr (.inr ⟨_, ht, .inl hc'⟩)
  | term h hr ht _ ih => exact hc _ _ _ h hr (.inr ⟨_, ht, .inr ih⟩)
def spSk : Sp := fun vs H Q _ => ∃ (xm : V) (ks : List Kd1) (mss : List Ms1), vs = [xm] ∧ EncT H (mssD mss) xm ∧ KdsOk ks ∧ MsOk ks mss ∧
  ∀ (q : Addr) (S : List Nat) (H' : Hp), H' q = some (.lst (S.map fun (n : Nat) => V.int (n : Nat))) → (∀ n, n ∈ S ↔ n ≤ mss.length ∧ Struck mss n) → S.length ≤ 13 → Grow H H' → Q (.ref q) H'
theorem inV_nat (S : List Nat) (n : Nat) : inV (.int (n : Nat)) (S.map fun (n : Nat) => V.int (n : Nat)) = decide (n ∈ S) := by
  unfold inV
  rw [List.any_map, Bool.eq_iff_iff, List.any_eq_true, decide_eq_true_iff]
  constructor
  · rintro ⟨y, hy, e⟩
    have e : ((y : Int) == (n : Int)) = true := e
    rw [beq_iff_eq] at e
    rw [← Int.ofNat.inj e]
    exact hy
  · intro h
    exact ⟨n, h, beq_self_eq_true (n : Int)⟩
theorem flat_nat (S : List Nat) : (S.map fun (n : Nat) => V.int (n : Nat)).all flatV = true := by
  rw [List.all_map]
  exact List.all_eq_true.mpr fun _ _ => rfl
def tBad (S : List Nat) (t : Tm) : Bool := decide (t.2.2 < 0) || decide (t.2.1 ∈ S)
section
variable {P : Program} {w : World} {K : PySem.W.Frag} {mg : Str → Option Value} {base : Heap}
theorem ok_sk {f : Addr} {fd : FuncData} (F : Fun K "_law_struck" "_law_struck" lSk f fd) (M : Gd mg) : FnOk P w K mg base CX0 2 f fd ["_law_measures_here"] spSk := by
  refine F.ok (k := 1) cSk (fun vs H Q E h => ?_) (fun cdv A outer s H vs Q E hr h => ?_)
  · obtain ⟨_, _, _, rfl, _⟩ := h
    rfl
  · obtain ⟨xm, ks, mss, rfl, em, ok, mo, k⟩ := h
    have hu := hu_of hr
    refine ⟨_, (pss_cons (ps_set (i := 1) cSk.nd rfl (Or.inr rfl) (pe_lst (pa_cons pe_int pa_nil))) (pss_cons (ps_for PassesOwn.never rfl (pi_range1 (by rfl) M.range (pa_cons (pe_op op_add (pe_callB call_len_seq (by rfl) M.len PySem.boot_len (pa_cons (pv 0) pa_nil)) pe_int) pa_nil)) (pg_name (i := 2) cSk.nd rfl (Or.inl rfl)) (pss_one (ps_for PassesOwn.never rfl (pi_range2 (by rfl) M.range (pa_cons pe_int (pa_cons (pe_op op_add (pe_callB call_len_seq (by rfl) M.len PySem.boot_len (pa_cons (pv 0) pa_nil)) pe_int) pa_nil))) (pg_name (i := 3) cSk.nd rfl (Or.inl rfl)) (pss_one (ps_for PassesOwn.never rfl (pi_tup (pe_ix ix_tup (pe_ix ix_tup (pv 0) (pe_op op_sub (pv 3) pe_int) (fun _ _ => rfl)) pe_int (fun _ _ => rfl))) (pg_tup (by rfl) (pgs_cons (pg_name (i := 4) cSk.nd rfl (Or.inl rfl)) (pgs_cons (pg_name (i := 5) cSk.nd rfl (Or.inl rfl)) pgs_nil))) (pss_cons (ps_setLc (i := 6) (own := [("_law_f", 7), ("_law_n", 8), ("_law_times_here", 9)]) (g := gTup K 3 (gCons (gName 7) (gCons (gName 8) (gCons (gName 9) gNil)))) (by rfl) cSk.nd rfl rfl (sw_true rfl rfl rfl (by decide +kernel)) (pi_tup (pv 5)) (blkOk_by (own := [("_law_f", 7), ("_law_n", 8), ("_law_times_here", 9)]) (N := ["_law_measures_here", "_law_struck_here", "_law_k", "_law_number_here", "_law_const", "_law_terms", "_law_bad", "_law_f", "_law_n", "_law_times_here"]) (sc := defScope lSk) (by decide +kernel)) (fun _ _ _ _ _ => (pg_tup (by rfl) (pgs_cons (pg_name (i := 7) cSk.nd rfl (Or.inl rfl)) (pgs_cons (pg_name (i := 8) cSk.nd rfl (Or.inl rfl)) (pgs_cons (pg_name (i := 9) cSk.nd rfl (Or.inl rfl)) pgs_nil))))) (fun _ _ _ _ _ => (pts_one (PW.pt (pw_or (pt_cmpR op_lt (pv 9) pe_int (nomark _)) (pw_or1 (pt_cmpR (r := rIn K false) op_in_seq (pv 8) (pv 1) (by rfl))))))) (fun _ _ _ _ _ => (pv 8))) (pss_one (ps_if (PW.pt (pw_and (pt_cmpR op_notIn_seq (pv 3) (pv 1) (by rfl)) (pw_and1 (PW.pt (pw_or (pt_cmpR op_lt (pv 4) pe_int (nomark _)) (pw_or1 (pt_cmpR (op_neNil (Nat.lt_of_succ_lt (hu_of hr))) (pv 6) (pe_lst pa_nil) (nomark _)))))))) (pss_one (ps_expr (pe_bm PySem.F.plainAttrs_list PySem.F.slot_list_append PySem.F.type_list_append mt_append (pv 1) (pa_cons (pv 3) pa_nil)))) pss_nil)))))))) (pss_one (ps_ret (pv 1))))), ?_⟩
    cases em with
    | @tup a xs _ ha es =>
    have hl := es.length
    rw [List.length_map] at hl
    have hle := mo.le
    refine ⟨(by show 1 ≤ sizeLine; decide), fun Sq hSq0 => ?_⟩
    have g0 := Grow.new (o := .lst [.int 0]) hSq0
    have B0 : SkB mss [0] := ⟨List.pairwise_singleton _ _, fun x hx => by rw [List.mem_singleton.mp hx]; exact ⟨Nat.zero_le _, .zero⟩, List.mem_cons_self⟩
    refine ⟨_, rfl, a, _, rfl, .inr (SqT.of (g0.tup ha)), _, _, rfl, rfl, _, rfl, by omega, by omega, ?_⟩
    rw [show (((xs.length : Nat) : Int) + 1).toNat = mss.length + 1 by omega]
    refine for_range (n := mss.length + 1) (fun kk σ' Hc => ∃ v2 v3 v4 v5 v6 S, σ' = [some (.ref a), some (.ref Sq), v2, v3, v4, v5, v6, none, none, none] ∧ Hc Sq = some (.lst (S.map fun (n : Nat) => V.int (n : Nat))) ∧ SkB mss S ∧ (ClosedS mss S ∨ kk + 1 ≤ S.length) ∧ Grow H Hc)
      ⟨_, _, _, _, _, [0], rfl, upd_same, B0, .inr (Nat.le_refl _), g0⟩ (fun kk σ' Hc hkk hp => ?_) (fun σ' Hc hp => ?_)
    · obtain ⟨v2, v3, v4, v5, v6, S0, rfl, hSc, B, hcl, g⟩ := hp
      refine ⟨_, rfl, a, _, rfl, .inr (SqT.of (g.tup ha)), _, _, rfl, rfl, _, _, rfl, ⟨by decide, by decide, by omega, by omega⟩, ?_⟩
      rw [show ((((xs.length : Nat) : Int) + 1) - 1).toNat = mss.length by omega]
      refine for_range (n := mss.length) (fun i σ' Hc => ∃ v3 v4 v5 v6 S, σ' = [some (.ref a), some (.ref Sq), some (.int ((0 : Int) + (kk : Nat))), v3, v4, v5, v6, none, none, none] ∧ Hc Sq = some (.lst (S.map fun (n : Nat) => V.int (n : Nat))) ∧ SkI mss S0 S i 0 ∧ Grow H Hc)
        ⟨_, _, _, _, S0, rfl, hSc, ⟨B, .inl rfl, fun _ n ms q r _ _ h => by omega, fun _ => rfl⟩, g⟩ (fun i σ' Hc hi hp => ?_) (fun σ' Hc hp => ?_)
      · obtain ⟨v3, v4, v5, v6, S, rfl, hSc, I, g⟩ := hp
        obtain ⟨ms, hms⟩ : ∃ ms, mss[i]? = some ms := ⟨_, List.getElem?_eq_getElem hi⟩
        obtain ⟨xi, hxi, exi⟩ := es.got (i := i) (d := msD ms) (by rw [List.getElem?_map, hms]; rfl)
        obtain ⟨r8, r12⟩ := ms_rows ok mo (List.mem_of_getElem? hms)
        cases exi with
        | @tup b us _ hb eb =>
        cases eb with
        | @cons _ u0 _ _ f0 eb =>
        cases eb with
        | @cons _ u1 _ _ f1 eb =>
        cases eb
        cases f0
        cases f1 with
        | @tup br ys _ hbr er =>
        have hrl := er.length
        rw [List.length_map] at hrl
        refine ⟨_, rfl, _, rfl, _, _, rfl, rfl, a, _, _, _, rfl, rfl, SqT.of (g.tup ha), at_g (j := i) (by omega) hxi, b, _, _, _, rfl, rfl, SqT.of (g.tup hb), at_of (j := 1) rfl rfl, br, rfl, ⟨_, SqT.of (g.tup hbr)⟩, ?_⟩
        refine for_tup (K := K) (xs := ys) (fun j σ' Hc => ∃ v4 v5 v6 S, σ' = [some (.ref a), some (.ref Sq), some (.int ((0 : Int) + (kk : Nat))), some (.int ((1 : Int) + (i : Nat))), v4, v5, v6, none, none, none] ∧ Hc Sq = some (.lst (S.map fun (n : Nat) => V.int (n : Nat))) ∧ SkI mss S0 S i j ∧ Grow H Hc)
          ⟨_, _, _, S, rfl, hSc, I, g⟩ (fun j σ' Hc _ hp => ?_) (fun j z σ' Hc hz hp => ?_) (fun σ' Hc hp => ?_)
        · obtain ⟨_, _, _, _, _, _, _, g⟩ := hp
          exact SqT.of (g.tup hbr)
        · obtain ⟨v4, v5, v6, S, rfl, hSc, I, g⟩ := hp
          obtain ⟨d1, hd1, ez⟩ := er.get hz
          obtain ⟨r, hr1, rfl⟩ := map_get hd1
          have hrm := List.mem_of_getElem? hr1
          have hr12 := (r12 r hrm).1
          have hS13 : S.length ≤ 13 := pigeon 13 I.b.nd fun x hx => by have := (I.b.lo x hx).1; omega
          cases ez with
          | @tup c vs2 _ hc ec =>
          cases ec with
          | @cons _ w0 _ _ p0 ec =>
          cases ec with
          | @cons _ w1 _ _ p1 ec =>
          cases ec
          cases p0
          cases p1 with
          | @tup bt ts _ hbt et =>
          have htl := et.length
          rw [List.length_map] at htl
          refine ⟨c, _, rfl, SqT.of (g.tup hc), rfl, _, _, rfl, _, _, rfl, rfl, ?_⟩
          refine ⟨_, rfl, bt, rfl, ⟨_, SqT.of (g.tup hbt)⟩, fun A hA => ?_⟩
          refine dc_it (walk_itt (K := K) (a := bt) (xs := ts)) (fun q Hx => Hx A = some (.lst (((r.2.take q).filter (tBad S)).map fun t => V.int (t.2.1 : Nat))) ∧ Grow Hc Hx) ⟨upd_same, Grow.new hA⟩ (fun q Hx _ hp => SqT.of (hp.2.tup (g.tup hbt))) (fun q y Hx H' hq hp yy => ?_) (fun Hx hp => ?_)
          · obtain ⟨hacc, gx⟩ := hp
            obtain ⟨e0, hw⟩ := yy
            rw [e0]
            obtain ⟨d2, hd2, ew⟩ := et.get hw
            obtain ⟨t, ht, rfl⟩ := map_get hd2
            have hq12 := (List.getElem?_eq_some_iff.mp ht).1
            cases ew with
            | @tup c2 vs3 _ hc2 ec2 =>
            cases ec2 with
            | @cons _ t0 _ _ q0 ec2 =>
            cases ec2 with
            | @cons _ t1 _ _ q1 ec2 =>
            cases ec2 with
            | @cons _ t2 _ _ q2 ec2 =>
            cases ec2
            cases q0
            cases q1
            cases q2
            have e2 : (r.2.take (q + 1)).filter (tBad S) = (r.2.take q).filter (tBad S) ++ (if tBad S t = true then [t] else []) := by
              rw [List.take_succ, ht, List.filter_append]
              show _ ++ [t].filter (tBad S) = _
              rw [List.filter_cons]
              cases tBad S t <;> rfl
            have yes : tBad S t = true → ∃ acc, Hx A = some (.lst acc) ∧ acc.length < sizeLine ∧ (L2.upd Hx A (.lst (acc ++ [V.int (t.2.1 : Nat)])) A = some (.lst (((r.2.take (q + 1)).filter (tBad S)).map fun t => V.int (t.2.1 : Nat))) ∧ Grow Hc (L2.upd Hx A (.lst (acc ++ [V.int (t.2.1 : Nat)])))) := fun hb => by
              rw [hb, if_pos rfl] at e2
              refine ⟨_, hacc, ?_, ?_, gx.upd' hA⟩
              · rw [List.length_map, sizeLine_eq]
                have h1 : ((r.2.take q).filter (tBad S)).length ≤ (r.2.take q).length := List.length_filter_le _ _
                rw [List.length_take] at h1
                omega
              · rw [upd_same, e2, List.map_append]
                rfl
            have no : tBad S t = false → Hx A = some (.lst (((r.2.take (q + 1)).filter (tBad S)).map fun t => V.int (t.2.1 : Nat))) ∧ Grow Hc Hx := fun hb => by
              rw [hb, if_neg (by decide), List.append_nil] at e2
              rw [e2]
              exact ⟨hacc, gx⟩
            refine ⟨c2, _, rfl, SqT.of (gx.tup (g.tup hc2)), rfl, _, _, rfl, _, _, rfl, _, _, rfl, rfl, (by rw [wipe_put (by decide), wipe_put (by decide), wipe_put (by decide), wipe_again]), ?_⟩
            refine ⟨_, rfl, _, _, rfl, rfl, _, rfl, ite2 (fun h => ?_) (fun h => ?_)⟩
            · exact iteT ⟨_, rfl, yes (by unfold tBad; rw [h, Bool.true_or])⟩
            · have h' : decide (t.2.2 < 0) = false := Bool.eq_false_iff.mpr h
              refine ⟨_, rfl, _, rfl, Sq, _, rfl, .inl (SqL.of (gx.lst hSc)), rfl, flat_nat S, _, rfl, ?_⟩
              rw [inV_nat]
              by_cases hin : t.2.1 ∈ S
              · rw [decide_eq_true hin]
                exact iteT ⟨_, rfl, yes (by unfold tBad; rw [decide_eq_true hin, Bool.or_true])⟩
              · rw [decide_eq_false hin]
                exact iteF (no (by unfold tBad; rw [h', decide_eq_false hin]; rfl))
          · obtain ⟨hacc, gx⟩ := hp
            rw [← htl, List.take_length] at hacc
            have hSx := gx.lst hSc
            have ggx := g.trans gx
            have en : (1 : Int) + (i : Nat) = ((i + 1 : Nat) : Int) := by omega
            have keep : ∀ Hz : Hp, Grow Hx Hz → (i + 1 ∈ S ∨ ¬ badR S r) → ∃ v4 v5 v6 S, [some (V.ref a), some (V.ref Sq), some (V.int ((0 : Int) + (kk : Nat))), some (V.int ((1 : Int) + (i : Nat))), some (V.int r.1), some (V.ref bt), some (V.ref A), none, none, none] = [some (V.ref a), some (V.ref Sq), some (V.int ((0 : Int) + (kk : Nat))), some (V.int ((1 : Int) + (i : Nat))), v4, v5, v6, none, none, none] ∧ Hz Sq = some (.lst (S.map fun (n : Nat) => V.int (n : Nat))) ∧ SkI mss S0 S i (j + 1) ∧ Grow H Hz :=
              fun Hz gz h => ⟨_, _, _, S, rfl, gz.lst hSx, I.keep hms hr1 h, ggx.trans gz⟩
            have add : ∀ Hz : Hp, Grow Hx Hz → i + 1 ∉ S → badR S r → ∃ v4 v5 v6 S', [some (V.ref a), some (V.ref Sq), some (V.int ((0 : Int) + (kk : Nat))), some (V.int ((1 : Int) + (i : Nat))), some (V.int r.1), some (V.ref bt), some (V.ref A), none, none, none] = [some (V.ref a), some (V.ref Sq), some (V.int ((0 : Int) + (kk : Nat))), some (V.int ((1 : Int) + (i : Nat))), v4, v5, v6, none, none, none] ∧ L2.upd Hz Sq (.lst ((S.map fun (n : Nat) => V.int (n : Nat)) ++ [V.int ((1 : Int) + (i : Nat))])) Sq = some (.lst (S'.map fun (n : Nat) => V.int (n : Nat))) ∧ SkI mss S0 S' i (j + 1) ∧ Grow H (L2.upd Hz Sq (.lst ((S.map fun (n : Nat) => V.int (n : Nat)) ++ [V.int ((1 : Int) + (i : Nat))]))) :=
              fun Hz gz hn h => ⟨_, _, _, S ++ [i + 1], rfl, by rw [upd_same, List.map_append, en]; rfl, I.add hms hr1 hn h, (ggx.trans gz).upd' hSq0⟩
            have slen : (S.map fun (n : Nat) => V.int (n : Nat)).length < sizeLine := by rw [List.length_map, sizeLine_eq]; omega
            refine ⟨_, rfl, _, rfl, Sq, _, rfl, .inl (SqL.of hSx), rfl, flat_nat S, _, rfl, ?_⟩
            rw [en, inV_nat, ← en]
            by_cases hin : i + 1 ∈ S
            · rw [decide_eq_true hin]
              refine iteF ?_
              exact iteF (keep Hx (Grow.refl _) (.inl hin))
            · rw [decide_eq_false hin]
              refine iteT ⟨_, rfl, _, _, rfl, rfl, _, rfl, ite2 (fun h => ?_) (fun h => ?_)⟩
              · exact iteT ⟨_, rfl, .inl ⟨rfl, _, SqL.of hSx⟩, _, rfl, Sq, _, _, rfl, rfl, hSx, slen, add Hx (Grow.refl _) hin (.inl (of_decide_eq_true h))⟩
              · refine ⟨_, rfl, (by show 0 ≤ sizeLine; decide), fun e he => ?_⟩
                have ge := Grow.new (o := .lst []) he
                refine ⟨A, e, _, rfl, rfl, SqL.of (ge.lst hacc), SqL.of upd_same, _, rfl, ?_⟩
                cases hf : r.2.filter (tBad S) with
                | nil =>
                  refine iteF ?_
                  refine keep _ ge (.inr fun hb => ?_)
                  rcases hb with hb | ⟨t, ht, hb⟩
                  · exact h (decide_eq_true hb)
                  · rw [List.filter_eq_nil_iff] at hf
                    refine hf t ht ?_
                    unfold tBad
                    rcases hb with hb | hb
                    · rw [decide_eq_true hb, Bool.true_or]
                    · rw [decide_eq_true hb, Bool.or_true]
                | cons t tr =>
                  have htm : t ∈ r.2.filter (tBad S) := by rw [hf]; exact List.mem_cons_self
                  obtain ⟨ht, hb⟩ := List.mem_filter.mp htm
                  unfold tBad at hb
                  rw [Bool.or_eq_true, decide_eq_true_iff, decide_eq_true_iff] at hb
                  exact iteT ⟨_, rfl, .inl ⟨rfl, _, SqL.of (ge.lst hSx)⟩, _, rfl, Sq, _, _, rfl, rfl, ge.lst hSx, slen, add _ ge hin (.inr ⟨t, ht, hb⟩)⟩
        · obtain ⟨v4, v5, v6, S, rfl, hSc, I, g⟩ := hp
          exact ⟨_, _, _, _, S, rfl, hSc, I.next hms (by omega), g⟩
      · obtain ⟨v3, v4, v5, v6, S, rfl, hSc, I, g⟩ := hp
        exact ⟨_, _, _, _, _, S, rfl, hSc, I.b, I.round hcl, g⟩
    · obtain ⟨v2, v3, v4, v5, v6, S, rfl, hSc, B, hcl, g⟩ := hp
      exact ⟨_, rfl, k Sq S Hc hSc (fun n => sk_fin B hcl) (pigeon 13 B.nd fun x hx => by have := (B.lo x hx).1; omega) g⟩
end
end J1
set_option Elab.async false
set_option linter.all false
set_option maxRecDepth 100000
set_option maxHeartbeats 4000000
namespace J1
open PySem PySem.Spec PyProof.Rows L2 GxR GA ZS RZ
abbrev lNa : Stmt := top 72
theorem cNa : FnScope ["_law_well_here", "_law_high", "_law_used", "_law_first", "_law_name_here", "_law_k", "_law_at"] ["_law_well_here", "_law_high", "_law_used"] (defScope lNa) := ⟨rfl, rfl, rfl, by decide +kernel, rfl, by decide +kernel, by decide +kernel⟩
def cl (s : Str) : List Nat := s.cps.toList
theorem cl_inj {a b : Str} (h : cl a = cl b) : a = b := by
  cases a; cases b
  exact congrArg Str.mk (Array.toList_inj.mp h)
theorem cl_app (a b : Str) : cl (a ++ b) = cl a ++ cl b := by
  show (a ++ b).cps.toList = _
  rw [Str.cps_append, Array.toList_append]
  rfl
theorem len_cl (a : Str) : a.length = (cl a).length := by
  show a.cps.size = _
  rw [← Array.length_toList]
  rfl
theorem app_len (a b : Str) : (a ++ b).length = a.length + b.length := by
  rw [len_cl, len_cl, len_cl, cl_app, List.length_append]
theorem log_ok {i : Int} (hi : i.natAbs < 10 ^ 13) : i.natAbs.log2 < 1920 := by
  by_cases h0 : i.natAbs = 0
  · rw [h0]; decide
  · exact Nat.lt_of_lt_of_le ((Nat.log2_lt h0).mpr (Nat.lt_trans hi (show (10 : Nat) ^ 13 < 2 ^ 60 by decide))) (by decide)
theorem cl_take (s : Str) (k : Nat) : cl (cutS s none (some (k : Int))) = (cl s).take k := by
  show (((cl s).drop (HT.sIx s.length 0 none)).take (HT.sIx s.length s.length (some (k : Int)) - HT.sIx s.length 0 none)).toArray.toList = _
  have h1 : HT.sIx s.length 0 none = 0 := rfl
  rw [h1, HT.sIx_nat, List.drop_zero, Nat.sub_zero, List.toList_toArray]
  by_cases h : k ≤ s.length
  · rw [Nat.min_eq_left h]
  · rw [Nat.min_eq_right (by omega), List.take_of_length_le (by rw [← len_cl]; omega), List.take_of_length_le (by rw [← len_cl]; omega)]
theorem cl_drop (s : Str) (k : Nat) (hk : k ≤ (cl s).length) : cl (cutS s (some (k : Int)) none) = (cl s).drop k := by
  show (((cl s).drop (HT.sIx s.length 0 (some (k : Int)))).take (HT.sIx s.length s.length none - HT.sIx s.length 0 (some (k : Int)))).toArray.toList = _
  have h1 : HT.sIx s.length s.length none = s.length := rfl
  rw [h1, HT.sIx_nat, List.toList_toArray, len_cl, Nat.min_eq_left hk, List.take_of_length_le]
  rw [List.length_drop]
  exact Nat.le_refl _
theorem words_big : ∀ w ∈ wordsL, ∀ c ∈ w.cps.toList, 58 ≤ c := by decide +kernel
theorem not_word {s : Str} (h : ∃ c ∈ cl s, c < 58) : inV (.str s) (wordsL.map V.str) = false := by
  rw [inV_str, Bool.eq_false_iff]
  intro z
  obtain ⟨c, hc, hlt⟩ := h
  have := words_big s (List.contains_iff_mem.mp z) c hc
  omega
/-! ### names with a number within -/
def ltS : Str := "abcxyzABCXYZ"
def ltL : List Nat := cl ltS
def upS : Str := "ABCDEFGHIJKLMNOPQRSTUVWXYZ"
def loS : Str := "abcdefghijklmnopqrstuvwxyz"
def upL : List Nat := cl upS
def dg (n : Nat) : List Nat := cl (Str.ofString (toString (n : Int)))
theorem lt_ok : ∀ c ∈ ltL, 64 < c ∧ c < 128 ∧ Unicode.isAlnum c = true := by decide +kernel
theorem up_ok : ∀ c ∈ upL, 64 < c ∧ c < 128 ∧ Unicode.isAlnum c = true ∧ Txt.isalpha ⟨#[c]⟩ = true ∧ Txt.isupper ⟨#[c]⟩ = true := by decide +kernel
theorem dg_ok : ∀ n : Fin 20, 1 ≤ (dg n.val).length ∧ (dg n.val).length ≤ 2 ∧ ∀ c ∈ dg n.val, c < 58 ∧ Unicode.isAlnum c = true := by decide +kernel
theorem dg_inj : ∀ n m : Fin 20, dg n.val = dg m.val → n = m := by decide +kernel
structure NmN (n : Nat) (s : Str) : Prop where
  ex : ∃ c a b, cl s = c :: (a ++ (dg n ++ b)) ∧ c ∈ upL ∧ (∀ k ∈ a, k ∈ ltL) ∧ (∀ k ∈ b, k ∈ ltL) ∧ a.length + b.length ≤ 6
theorem NmN.digits {n : Nat} (hn : n < 20) {s : Str} (h : NmN n s) : (cl s).filter (fun k => decide (k < 58)) = dg n := by
  obtain ⟨c, a, b, e, hc, ha, hb, _⟩ := h.ex
  have h1 := (up_ok c hc).1
  have fa : ∀ l : List Nat, (∀ k ∈ l, k ∈ ltL) → l.filter (fun k => decide (k < 58)) = [] := fun l hl => by
    rw [List.filter_eq_nil_iff]
    intro k hk z
    have := (lt_ok k (hl k hk)).1
    have := of_decide_eq_true z
    omega
  have fd : (dg n).filter (fun k => decide (k < 58)) = dg n := by
    rw [List.filter_eq_self]
    exact fun k hk => decide_eq_true ((dg_ok ⟨n, hn⟩).2.2 k hk).1
  rw [e, List.filter_cons, List.filter_append, List.filter_append, fa a ha, fa b hb, fd]
  have : ¬ (decide (c < 58) = true) := fun z => by have := of_decide_eq_true z; omega
  rw [if_neg this]
  simp
theorem NmN.inj {n m : Nat} (hn : n < 20) (hm : m < 20) {s : Str} (h : NmN n s) (g : NmN m s) : n = m := by
  have e := (h.digits hn).symm.trans (g.digits hm)
  exact congrArg Fin.val (dg_inj ⟨n, hn⟩ ⟨m, hm⟩ e)
theorem NmN.hi {n : Nat} (hn : n < 20) {s : Str} (h : NmN n s) : isHig (.str s) = true := by
  have hd := h.digits hn
  obtain ⟨c, a, b, e, hc, ha, hb, hl⟩ := h.ex
  obtain ⟨d1, d2, d3⟩ := dg_ok ⟨n, hn⟩
  have d2 : (dg n).length ≤ 2 := d2
  have d1 : 1 ≤ (dg n).length := d1
  obtain ⟨q1, q2, q3, q4, q5⟩ := up_ok c hc
  have hlen : (cl s).length ≤ 9 := by
    rw [e, List.length_cons, List.length_append, List.length_append]
    omega
  have hpos : 1 ≤ (cl s).length := by rw [e, List.length_cons]; omega
  have all : ∀ k ∈ cl s, k < 128 ∧ Unicode.isAlnum k = true := fun k hk => by
    rw [e] at hk
    rcases List.mem_cons.mp hk with rfl | hk
    · exact ⟨q2, q3⟩
    · rcases List.mem_append.mp hk with hk | hk
      · exact (lt_ok k (ha k hk)).2
      · rcases List.mem_append.mp hk with hk | hk
        · have := d3 k hk
          exact ⟨by omega, this.2⟩
        · exact (lt_ok k (hb k hk)).2
  have eh : head1 s = ⟨#[c]⟩ := by
    unfold head1
    have e' : s.cps.toList = c :: (a ++ (dg n ++ b)) := e
    rw [e']
    rfl
  have a1 : Txt.isascii s = true := by
    show s.cps.all (fun c => decide (c < 128)) = true
    rw [← Array.all_toList, List.all_eq_true]
    exact fun k hk => decide_eq_true (all k hk).1
  have a2 : Txt.isalnum s = true := by
    show (decide (s.length > 0) && s.cps.all Unicode.isAlnum) = true
    rw [Bool.and_eq_true, ← Array.all_toList, List.all_eq_true]
    exact ⟨decide_eq_true (by rw [len_cl]; omega), fun k hk => (all k hk).2⟩
  have hw : inV (.str s) (wordsL.map V.str) = false := by
    refine not_word ?_
    obtain ⟨k, hk⟩ := List.exists_mem_of_length_pos (l := dg n) (by omega)
    have hk2 : k ∈ (cl s).filter (fun k => decide (k < 58)) := by rw [hd]; exact hk
    rw [List.mem_filter] at hk2
    exact ⟨k, hk2.1, of_decide_eq_true hk2.2⟩
  show (isNamS s && Txt.isupper (head1 s)) = true
  rw [eh, q5, Bool.and_true]
  unfold isNamS
  rw [eh, a1, a2, q4, hw, decide_eq_true (by rw [len_cl]; omega), decide_eq_true (by rw [len_cl]; omega)]
  rfl
theorem NmN.s {n : Nat} (hn : n < 20) {s : Str} (h : NmN n s) : SOk s := by
  obtain ⟨c, a, b, e, hc, ha, hb, hl⟩ := h.ex
  obtain ⟨d1, d2, d3⟩ := dg_ok ⟨n, hn⟩
  have d2 : (dg n).length ≤ 2 := d2
  refine ⟨?_, fun k hk => ?_⟩
  · rw [len_cl, e, List.length_cons, List.length_append, List.length_append]
    omega
  · have hk : k ∈ cl s := hk
    rw [e] at hk
    rcases List.mem_cons.mp hk with rfl | hk
    · have := (up_ok k hc).2.1; omega
    · rcases List.mem_append.mp hk with hk | hk
      · have := (lt_ok k (ha k hk)).2.1; omega
      · rcases List.mem_append.mp hk with hk | hk
        · have := (d3 k hk).1; omega
        · have := (lt_ok k (hb k hk)).2.1; omega
/-- all stays but what stands at two places -/
def Grow2 (p u : Addr) (H H' : Hp) : Prop := ∀ a o, a ≠ p → a ≠ u → H a = some o → H' a = some o ∨ (∃ ps, o = .tbl ps) ∧ TabG H' a
theorem GrowW.two {p u : Addr} {H H' : Hp} (g : GrowW p H H') : Grow2 p u H H' := fun a o n _ h => g a o n h
theorem Grow2.trans {p u : Addr} {H H1 H2 : Hp} (x : Grow2 p u H H1) (y : Grow2 p u H1 H2) : Grow2 p u H H2 := fun a o n m h => by
  rcases x a o n m h with h1 | ⟨h1, ps, q, z⟩
  · exact y a o n m h1
  · rcases y a _ n m q with q2 | ⟨_, q2⟩
    · exact .inr ⟨h1, ps, q2, z⟩
    · exact .inr ⟨h1, q2⟩
theorem Grow2.upd {p u : Addr} {H : Hp} {o : HO} : Grow2 p u H (L2.upd H u o) := fun a q _ m h => .inl (by rw [upd_ne m]; exact h)
/-- the second one is new -/
theorem Grow2.w {p u : Addr} {H0 H H' : Hp} (g : GrowW p H0 H) (x : Grow2 p u H H') (h : H0 u = none) : GrowW p H0 H' := fun a o n e => by
  have m : a ≠ u := fun z => by rw [z, h] at e; cases e
  rcases g a o n e with q | ⟨q, ps, q2, q3⟩
  · exact x a o n m q
  · rcases x a _ n m q2 with z | ⟨_, z⟩
    · exact .inr ⟨q, ps, z, q3⟩
    · exact .inr ⟨q, z⟩
def spNa : Sp := fun vs H Q _ => ∃ (p l U : Addr) (ns : List Int) (n : Nat) (us : List Str), vs = [.ref p, .int 1, .ref U] ∧ Wl H p l ns n ∧ p ≠ l ∧ U ≠ p ∧ U ≠ l ∧ H U = some (.lst (us.map V.str)) ∧ us.length < 20 ∧ n + 10 ≤ 1000000000000000000000000000000 ∧
  ∀ (s : Str) (H' : Hp), NmN us.length s → H' U = some (.lst ((us ++ [s]).map V.str)) → Wl H' p l ns (n + 10) → Grow2 p U H H' → Q (.str s) H'
section
variable {P : Program} {w : World} {K : PySem.W.Frag} {mg : Str → Option Value} {base : Heap}
theorem ok_na {f fD : Addr} {fd fdD : FuncData} (F : Fun K "_law_name" "_law_name" lNa f fd) (N : Gd mg) (GD : FnOk P w K mg base CX0 1 fD fdD ["_law_well_here", "_law_many"] spDr) (DD : Df K mg "_law_draw" ["_law_well_here", "_law_many"] fD fdD) :
    FnOk P w K mg base CX0 2 f fd ["_law_well_here", "_law_high", "_law_used"] spNa := by
  refine F.ok (k := 1) cNa (fun vs H Q E h => ?_) (fun cdv A outer s H vs Q E hr h => ?_)
  · obtain ⟨_, _, _, _, _, _, rfl, _⟩ := h
    rfl
  · obtain ⟨p, l, U, ns, n, us, rfl, W, npl, nUp, nUl, hU, hul, hn, k⟩ := h
    refine ⟨_, (pss_cons (ps_set (i := 3) cNa.nd rfl (Or.inl rfl) (pe_ix ix_list (pe_lst (pa_cons pe_str (pa_cons pe_str pa_nil))) (pv 1) (fun _ _ => rfl))) (pss_cons (ps_set (i := 4) cNa.nd rfl (Or.inl rfl) pe_str) (pss_cons (ps_for PassesOwn.never rfl (pi_range1 (by rfl) N.range (pa_cons (pe_call (GD.mono (by decide)) hr (by rfl) DD.g DD.k DD.b .nil pass0 (pa_cons (pv 0) (pa_cons pe_int pa_nil))) pa_nil)) (pg_name (i := 5) cNa.nd rfl (Or.inl rfl)) (pss_one (ps_set (i := 4) cNa.nd rfl (Or.inl rfl) (pe_op op_add_str (pv 4) (pe_ix ix_str pe_str (pe_call (GD.mono (by decide)) hr (by rfl) DD.g DD.k DD.b .nil pass0 (pa_cons (pv 0) (pa_cons pe_int pa_nil))) (fun _ _ => rfl)))))) (pss_cons (ps_set (i := 6) cNa.nd rfl (Or.inl rfl) (pe_call (GD.mono (by decide)) hr (by rfl) DD.g DD.k DD.b .nil pass0 (pa_cons (pv 0) (pa_cons (pe_op op_add (pe_callB call_len_str (by rfl) N.len PySem.boot_len (pa_cons (pv 4) pa_nil)) pe_int) pa_nil)))) (pss_cons (ps_expr (pe_bm PySem.F.plainAttrs_list PySem.F.slot_list_append PySem.F.type_list_append mt_append (pv 2) (pa_cons (pe_op op_add_str (pe_op op_add_str (pe_op op_add_str (pe_ix ix_str (pv 3) (pe_call (GD.mono (by decide)) hr (by rfl) DD.g DD.k DD.b .nil pass0 (pa_cons (pv 0) (pa_cons pe_int pa_nil))) (fun _ _ => rfl)) (pe_slice sl_str (pv 4) po_none (po_some (pv 6)))) (pe_callTy call_str_int (by rfl) N.str (by decide +kernel) (pa_cons (pe_callB call_len_seq (by rfl) N.len PySem.boot_len (pa_cons (pv 2) pa_nil)) pa_nil))) (pe_slice sl_str (pv 4) (po_some (pv 6)) po_none)) pa_nil))) (pss_one (ps_ret (pe_ix ix_list (pv 2) (pe_un un_neg pe_int) (fun _ _ => rfl))))))))), ?_⟩
    refine ⟨(by show 2 ≤ sizeLine; decide), fun D hD => ?_⟩
    have g0 := Grow.new (o := .lst [.str loS, .str upS]) hD
    refine ⟨_, rfl, D, _, _, _, rfl, rfl, SqL.of upd_same, at_of (j := 1) rfl rfl, ?_⟩
    have hD1 := (W.np hD).1
    have W0 := W.grow g0
    have hU0 := g0.lst hU
    refine ⟨_, rfl, p, l, ns, n, 7, rfl, by decide, cdw (by decide) (by decide), W0, by omega, npl, fun r H1 r0 r1 W1 g1 => ?_⟩
    obtain ⟨r, rfl⟩ : ∃ j : Nat, r = (j : Int) := ⟨r.toNat, by omega⟩
    have hU1 := g1.lst nUp hU0
    have G1 : Grow2 p U H H1 := (g0.w.trans' g1).two
    refine ⟨_, rfl, Int.le_trans (by decide) r0, Int.lt_of_lt_of_le r1 (by decide), ?_⟩
    rw [Int.toNat_natCast]
    refine for_range (n := r) (fun i σ' Hc => ∃ v5 s, σ' = [some (.ref p), some (.int 1), some (.ref U), some (.str upS), some (.str s), v5, none] ∧ (∀ k ∈ cl s, k ∈ ltL) ∧ (cl s).length = i ∧ Wl Hc p l ns (n + 1 + i) ∧ Hc U = some (.lst (us.map V.str)) ∧ Grow2 p U H Hc)
      ⟨_, "", rfl, fun k h => (nomatch h), rfl, W1, hU1, G1⟩ (fun i σ' Hc hi hp => ?_) (fun σ' Hc hp => ?_)
    · obtain ⟨v5, s, rfl, hs, hsl, Wc, hUc, gc⟩ := hp
      refine ⟨_, rfl, _, rfl, p, l, ns, n + 1 + i, 12, rfl, by decide, cdw (by decide) (by decide), Wc, by omega, npl, fun r2 H2 a0 a1 W2 g2 => ?_⟩
      have hj : r2.toNat < ltL.length := by show r2.toNat < 12; omega
      have hat : atI ltS.cps.toList r2 = some (ltL[r2.toNat]) := at_g (j := r2.toNat) (by omega) (List.getElem?_eq_getElem hj)
      refine ⟨ltS, r2, _, rfl, rfl, (by show 12 ≤ sizeLine; decide), hat, _, _, rfl, rfl, ?_, ?_⟩
      · rw [len_cl, hsl, sizeLine_eq]
        show i + 1 ≤ _
        omega
      · refine ⟨_, _, rfl, fun k hk => ?_, ?_, W2, g2.lst nUp hUc, gc.trans g2.two⟩
        · rw [cl_app] at hk
          rcases List.mem_append.mp hk with h | h
          · exact hs k h
          · have : k = ltL[r2.toNat] := by simpa using (show k ∈ [ltL[r2.toNat]] from h)
            rw [this]
            exact List.getElem_mem hj
        · rw [cl_app, List.length_append, hsl]
          rfl
    · obtain ⟨v5, s, rfl, hs, hsl, Wc, hUc, gc⟩ := hp
      have hr7 : r < 7 := by omega
      have sz : s.length ≤ sizeLine := by rw [len_cl, hsl, sizeLine_eq]; omega
      refine ⟨_, rfl, _, rfl, s, rfl, sz, _, _, rfl, rfl, p, l, ns, n + 1 + r, ((s.length : Nat) : Int) + 1, rfl, by omega, cdw (by omega) (Nat.lt_of_lt_of_le (show (((s.length : Nat) : Int) + 1).natAbs < 8 by rw [len_cl, hsl]; omega) (by decide)), Wc, by omega, npl, fun at' H3 a0 a1 W3 g3 => ?_⟩
      obtain ⟨at', rfl⟩ : ∃ j : Nat, at' = (j : Int) := ⟨at'.toNat, by omega⟩
      have hat : at' ≤ (cl s).length := by rw [len_cl] at a1; omega
      have hU3 := g3.lst nUp hUc
      refine ⟨_, rfl, .inl ⟨rfl, _, SqL.of hU3⟩, _, rfl, _, rfl, p, l, ns, n + 1 + r + 1, 26, rfl, by decide, cdw (by decide) (by decide), W3, by omega, npl, fun r3 H4 b0 b1 W4 g4 => ?_⟩
      have hU4 := g4.lst nUp hU3
      have hj : r3.toNat < upL.length := by show r3.toNat < 26; omega
      have hat3 : atI upS.cps.toList r3 = some (upL[r3.toNat]) := at_g (j := r3.toNat) (by omega) (List.getElem?_eq_getElem hj)
      refine ⟨upS, r3, _, rfl, rfl, (by show 26 ≤ sizeLine; decide), hat3, _, rfl, ?_⟩
      dsimp only [tNoPart]
      have t1 : (cutS s none (some (at' : Int))).length ≤ 6 := by
        rw [len_cl, cl_take, List.length_take]
        omega
      have t2 : (cutS s (some (at' : Int)) none).length ≤ 6 := by
        rw [len_cl, cl_drop s at' hat, List.length_drop]
        omega
      obtain ⟨d1, d2, d3⟩ := dg_ok ⟨us.length, hul⟩
      have d2 : (Str.ofString (toString ((us.length : Nat) : Int))).length ≤ 2 := by rw [len_cl]; exact d2
      have l1 : (⟨#[upL[r3.toNat]]⟩ : Str).length = 1 := rfl
      refine ⟨_, rfl, _, rfl, s, rfl, sz, _, _, rfl, rfl, by rw [l1, sizeLine_eq]; omega, _, rfl, U, _, rfl, .inl (SqL.of hU4), _, rfl, ?_, _, _, rfl, rfl, ?_, _, rfl, _, rfl, _, rfl, ?_⟩
      · rw [List.length_map]
        exact log_ok (by omega)
      · rw [List.length_map, app_len, l1, sizeLine_eq]
        omega
      dsimp only [tNoPart]
      refine ⟨s, rfl, sz, _, _, rfl, rfl, ?_, U, _, _, rfl, rfl, hU4, ?_, ?_⟩
      · rw [List.length_map, app_len, app_len, l1, sizeLine_eq]
        omega
      · rw [List.length_map, sizeLine_eq]
        omega
      rw [List.length_map]
      obtain ⟨nm, hnm⟩ : ∃ nm, nm = ((⟨#[upL[r3.toNat]]⟩ : Str) ++ cutS s none (some (at' : Int)) ++ Str.ofString (toString ((us.length : Nat) : Int))) ++ cutS s (some (at' : Int)) none := ⟨_, rfl⟩
      rw [← hnm]
      have hN : NmN us.length nm := by
        refine ⟨upL[r3.toNat], (cl s).take at', (cl s).drop at', ?_, List.getElem_mem hj, fun k hk => hs k (List.mem_of_mem_take hk), fun k hk => hs k (List.mem_of_mem_drop hk), ?_⟩
        · rw [hnm, cl_app, cl_app, cl_app, cl_take, cl_drop s at' hat, List.append_assoc, List.append_assoc]
          rfl
        · rw [List.length_take, List.length_drop]
          omega
      have W5 : Wl (L2.upd H4 U (.lst (us.map V.str ++ [.str nm]))) p l ns (n + 10) := (W4.upd nUp nUl).more (by omega)
      have G5 : Grow2 p U H (L2.upd H4 U (.lst (us.map V.str ++ [.str nm]))) := ((gc.trans g3.two).trans g4.two).trans Grow2.upd
      exact ⟨_, rfl, 1, rfl, U, _, _, _, rfl, rfl, SqL.of upd_same, atI_last _ _, k nm _ hN (by rw [upd_same, List.map_append]; rfl) W5 G5⟩
end
end J1
set_option Elab.async false
set_option linter.all false
set_option maxRecDepth 100000
set_option maxHeartbeats 4000000
namespace J1
open PySem PySem.Spec PyProof.Rows L2 GxR GA ZS RZ
abbrev lKd : Stmt := top 73
theorem cKd : FnScope ["_law_well_here", "_law_used", "_law_marks", "_law_made", "_law_names", "_law_k", "_law_name_here", "_law_makers", "_law_m", "_law_fields", "_law_f", "_law_pick", "_law_turn"] ["_law_well_here"] (defScope lKd) := ⟨rfl, rfl, rfl, by decide +kernel, rfl, by decide +kernel, by decide +kernel⟩
/-- names, each with its own number within -/
def Nms (us : List Str) : Prop := ∀ (j : Nat) (s : Str), us[j]? = some s → NmN j s
theorem Nms.snoc {us : List Str} {s : Str} (h : Nms us) (g : NmN us.length s) : Nms (us ++ [s]) := by
  intro j t e
  by_cases hj : j < us.length
  · rw [List.getElem?_append_left hj] at e
    exact h j t e
  · rw [List.getElem?_append_right (by omega)] at e
    have h0 : j - us.length = 0 := by
      have := (List.getElem?_eq_some_iff.mp e).1
      rw [List.length_singleton] at this
      omega
    rw [h0] at e
    cases e
    rw [show j = us.length by omega]
    exact g
theorem Nms.nodup {us : List Str} (h : Nms us) (hl : us.length ≤ 20) : us.Nodup := by
  show us.Pairwise (· ≠ ·)
  rw [List.pairwise_iff_getElem]
  intro i j hi hj hij e
  have g1 := h i _ (List.getElem?_eq_getElem hi)
  have g2 := h j _ (List.getElem?_eq_getElem hj)
  rw [e] at g1
  have := g1.inj (by omega) (by omega) g2
  omega
theorem Nms.hi {us : List Str} (h : Nms us) (hl : us.length ≤ 20) {s : Str} (hs : s ∈ us) : isHig (.str s) = true ∧ SOk s := by
  obtain ⟨j, e⟩ := List.getElem?_of_mem hs
  have hj := (List.getElem?_eq_some_iff.mp e).1
  exact ⟨(h j s e).hi (by omega), (h j s e).s (by omega)⟩
/-- a kind as it is drawn: a maker of wholes among its own -/
def KdB (nms : List Str) (k : Kd1) : Prop := 1 ≤ k.2.length ∧ k.2.length ≤ 3 ∧ (∀ m ∈ k.2, m.2.length ≤ 3 ∧ ∀ f ∈ m.2, f = "whole" ∨ f ∈ nms) ∧ ∃ m ∈ k.2, ∀ f ∈ m.2, f = "whole"
structure KSt (H Hc : Hp) (p l L0 M D : Addr) (ns : List Int) (n : Nat) (nms mm ex : List Str) (ks : List Kd1) : Prop where
  w : Wl Hc p l ns n
  l0 : Hc L0 = some (.lst (nms.map V.str))
  m : Hc M = some (.lst (mm.map V.str))
  d : ∃ xs, Hc D = some (.lst xs) ∧ EncsT Hc (ks.map kdD) xs
  g : GrowW p H Hc
  nm : Nms mm
  pm : ((mksOf ks).map (·.1.1) ++ ex).Perm mm
  kb : ∀ k ∈ ks, KdB nms k
section
variable {H Hc H' : Hp} {p l L0 M D : Addr} {ns : List Int} {n n' : Nat} {nms mm ex : List Str} {ks : List Kd1}
theorem KSt.grow (S : KSt H Hc p l L0 M D ns n nms mm ex ks) (g : Grow Hc H') (h : n ≤ n') : KSt H H' p l L0 M D ns n' nms mm ex ks := by
  obtain ⟨xs, h1, h2⟩ := S.d
  exact ⟨(S.w.grow g).more h, g.lst S.l0, g.lst S.m, ⟨xs, g.lst h1, h2.grow g⟩, S.g.trans' g.w, S.nm, S.pm, S.kb⟩
theorem KSt.gw (S : KSt H Hc p l L0 M D ns n nms mm ex ks) (g : GrowW p Hc H') (w : Wl H' p l ns n') (a : L0 ≠ p) (b : M ≠ p) (c : D ≠ p) : KSt H H' p l L0 M D ns n' nms mm ex ks := by
  obtain ⟨xs, h1, h2⟩ := S.d
  obtain ⟨ys, hy⟩ := S.w.pl
  exact ⟨w, g.lst a S.l0, g.lst b S.m, ⟨xs, g.lst c h1, h2.gw g hy⟩, S.g.trans' g, S.nm, S.pm, S.kb⟩
/-- a list of the def's own is written -/
theorem KSt.put (S : KSt H Hc p l L0 M D ns n nms mm ex ks) {q : Addr} {o : HO} (h0 : H q = none) {zs : List V} (hq : Hc q = some (.lst zs)) (a : q ≠ p) (a' : q ≠ l) (b : q ≠ L0) (c : q ≠ M) (d : q ≠ D) : KSt H (L2.upd Hc q o) p l L0 M D ns n nms mm ex ks := by
  obtain ⟨xs, h1, h2⟩ := S.d
  exact ⟨S.w.upd a a', by rw [upd_ne b.symm]; exact S.l0, by rw [upd_ne c.symm]; exact S.m, ⟨xs, by rw [upd_ne d.symm]; exact h1, h2.growW GrowW.upd (fun z => z) (noTup hq)⟩, S.g.but h0, S.nm, S.pm, S.kb⟩
theorem cutV_drop (xs : List V) (n : Nat) (h : n ≤ xs.length) : cutV xs (some (n : Int)) none = xs.drop n := by
  unfold cutV
  rw [HT.sIx_none, HT.sIx_nat, Nat.min_eq_left h, List.take_of_length_le]
  rw [List.length_drop]
  exact Nat.le_refl _
theorem encs_drop {B : Addr → Prop} {H : Hp} : ∀ {d : List Da} {x : List V} (_ : EncsB B H d x) (n : Nat), EncsB B H (d.drop n) (x.drop n)
  | _, _, h, 0 => h
  | _, _, .nil, _ + 1 => .nil
  | _, _, .cons _ t, n + 1 => encs_drop t n
theorem encs_take {B : Addr → Prop} {H : Hp} : ∀ {d : List Da} {x : List V} (_ : EncsB B H d x) (n : Nat), EncsB B H (d.take n) (x.take n)
  | _, _, _, 0 => .nil
  | _, _, .nil, _ + 1 => .nil
  | _, _, .cons a t, n + 1 => .cons a (encs_take t n)
theorem EncsB.app {B : Addr → Prop} {H : Hp} : ∀ {d e : List Da} {x y : List V} (_ : EncsB B H d x) (_ : EncsB B H e y), EncsB B H (d ++ e) (x ++ y)
  | _, _, _, _, .nil, g => g
  | _, _, _, _, .cons a t, g => .cons a (EncsB.app t g)
/-- two places changed, one behind the other -/
theorem Grow2.cut {p u : Addr} {H H' : Hp} {o : HO} (g : Grow2 p u H H') (h : H' u = some o) : ∃ Hm, GrowW p H Hm ∧ H' = L2.upd Hm u o ∧ Hm u = H u := by
  refine ⟨fun a => if a = u then H u else H' a, fun a o' n e => ?_, ?_, if_pos rfl⟩
  · by_cases hu : a = u
    · rw [hu] at e ⊢
      exact .inl (by show (if u = u then H u else H' u) = _; rw [if_pos rfl]; exact e)
    · have hs : (if a = u then H u else H' a) = H' a := if_neg hu
      rcases g a o' n hu e with q | ⟨q, ps, q2, q3⟩
      · exact .inl (by show (if a = u then H u else H' a) = _; rw [hs]; exact q)
      · exact .inr ⟨q, ps, by show (if a = u then H u else H' a) = _; rw [hs]; exact q2, q3⟩
  · funext a
    by_cases hu : a = u
    · rw [hu, upd_same, h]
    · rw [upd_ne hu]
      exact (if_neg hu).symm
theorem EncsB.g2 {p u : Addr} {H H' : Hp} {ys zs ws : List V} {d : List Da} {x : List V} (e : EncsT H d x) (g : Grow2 p u H H') (hp : H p = some (.lst ys)) (hu : H u = some (.lst zs)) (hu' : H' u = some (.lst ws)) : EncsT H' d x := by
  obtain ⟨Hm, g1, e1, e2⟩ := g.cut hu'
  rw [e1]
  exact (e.gw g1 hp).growW GrowW.upd (fun z => z) (noTup (by rw [e2]; exact hu))
theorem Grow2.lst {p u : Addr} {H H' : Hp} (g : Grow2 p u H H') {a : Addr} {xs : List V} (n : a ≠ p) (m : a ≠ u) (h : H a = some (.lst xs)) : H' a = some (.lst xs) := by
  rcases g a _ n m h with q | ⟨⟨_, q⟩, _⟩
  · exact q
  · cases q
theorem KSt.name (S : KSt H Hc p l L0 M D ns n nms mm ex ks) {s : Str} (g : Grow2 p M Hc H') (hM : H' M = some (.lst ((mm ++ [s]).map V.str))) (w : Wl H' p l ns n') (hs : NmN mm.length s) (h0 : H M = none) (a : L0 ≠ p) (b : L0 ≠ M) (c : D ≠ p) (d : D ≠ M) : KSt H H' p l L0 M D ns n' nms (mm ++ [s]) (ex ++ [s]) ks := by
  obtain ⟨xs, h1, h2⟩ := S.d
  obtain ⟨ys, hy⟩ := S.w.pl
  refine ⟨w, g.lst a b S.l0, hM, ⟨xs, g.lst c d h1, h2.g2 g hy S.m hM⟩, g.w S.g h0, S.nm.snoc hs, ?_, S.kb⟩
  rw [← List.append_assoc]
  exact S.pm.append_right _
end
def spKd : Sp := fun vs H Q _ => ∃ (p l : Addr) (ns : List Int) (n : Nat), vs = [.ref p] ∧ Wl H p l ns n ∧ p ≠ l ∧ n + 400 ≤ 1000000000000000000000000000000 ∧
  ∀ (x : V) (ks : List Kd1) (H' : Hp), EncT H' (ksD ks) x → KdsOk ks → 1 ≤ ks.length → ks.length ≤ 3 → (∀ k ∈ ks, KdB (ks.map (·.1)) k) → Wl H' p l ns (n + 400) → GrowW p H H' → Q x H'
section
variable {P : Program} {w : World} {K : PySem.W.Frag} {mg : Str → Option Value} {base : Heap}
theorem ok_kd {f fD fN : Addr} {fd fdD fdN : FuncData} (F : Fun K "_law_kinds" "_law_kinds" lKd f fd) (N : Gd mg) (GD : FnOk P w K mg base CX0 1 fD fdD ["_law_well_here", "_law_many"] spDr) (DD : Df K mg "_law_draw" ["_law_well_here", "_law_many"] fD fdD)
    (GNa : FnOk P w K mg base CX0 2 fN fdN ["_law_well_here", "_law_high", "_law_used"] spNa) (DNa : Df K mg "_law_name" ["_law_well_here", "_law_high", "_law_used"] fN fdN) :
    FnOk P w K mg base CX0 3 f fd ["_law_well_here"] spKd := by
  refine F.ok (k := 2) cKd (fun vs H Q E h => ?_) (fun cdv A outer s H vs Q E hr h => ?_)
  · obtain ⟨_, _, _, _, rfl, _⟩ := h
    rfl
  · obtain ⟨p, l, ns, n, rfl, W, npl, hn, k⟩ := h
    refine ⟨_, (pss_cons (ps_set (i := 1) cKd.nd rfl (Or.inr rfl) (pe_lst pa_nil)) (pss_cons (ps_set (i := 2) cKd.nd rfl (Or.inl rfl) (pe_lst pa_nil)) (pss_cons (ps_set (i := 3) cKd.nd rfl (Or.inl rfl) (pe_lst pa_nil)) (pss_cons (ps_setLc (i := 4) (own := [("_law_k", 5)]) (g := gName 5) (tt := tYes) (by rfl) cKd.nd rfl rfl (sw_true rfl rfl rfl (by decide +kernel)) (pi_range1 (by rfl) N.range (pa_cons (pe_op op_add pe_int (pe_call (GD.mono (by decide)) hr (by rfl) DD.g DD.k DD.b .nil pass0 (pa_cons (pv 0) (pa_cons pe_int pa_nil)))) pa_nil)) (blkOk_by (own := [("_law_k", 5)]) (N := ["_law_well_here", "_law_used", "_law_marks", "_law_made", "_law_names", "_law_k", "_law_name_here", "_law_makers", "_law_m", "_law_fields", "_law_f", "_law_pick", "_law_turn"]) (sc := defScope lKd) (by decide +kernel)) (fun _ _ _ _ _ => (pg_name (i := 5) cKd.nd rfl (Or.inl rfl))) (fun _ _ _ _ _ => pts_nil) (fun _ _ _ _ _ => (pe_call (GNa.mono (by decide)) hr (by rfl) DNa.g DNa.k DNa.b .nil pass0 (pa_cons (pv 0) (pa_cons pe_int (pa_cons (pv 1) pa_nil)))))) (pss_cons (ps_for PassesOwn.never rfl (pi_list (pv 4)) (pg_name (i := 6) cKd.nd rfl (Or.inl rfl)) (pss_cons (ps_set (i := 7) cKd.nd rfl (Or.inl rfl) (pe_lst pa_nil)) (pss_cons (ps_for PassesOwn.never rfl (pi_range1 (by rfl) N.range (pa_cons (pe_op op_add pe_int (pe_call (GD.mono (by decide)) hr (by rfl) DD.g DD.k DD.b .nil pass0 (pa_cons (pv 0) (pa_cons pe_int pa_nil)))) pa_nil)) (pg_name (i := 8) cKd.nd rfl (Or.inl rfl)) (pss_cons (ps_set (i := 9) cKd.nd rfl (Or.inl rfl) (pe_lst pa_nil)) (pss_cons (ps_for PassesOwn.never rfl (pi_range1 (by rfl) N.range (pa_cons (pe_call (GD.mono (by decide)) hr (by rfl) DD.g DD.k DD.b .nil pass0 (pa_cons (pv 0) (pa_cons pe_int pa_nil))) pa_nil)) (pg_name (i := 10) cKd.nd rfl (Or.inl rfl)) (pss_cons (ps_set (i := 11) cKd.nd rfl (Or.inl rfl) (pe_call (GD.mono (by decide)) hr (by rfl) DD.g DD.k DD.b .nil pass0 (pa_cons (pv 0) (pa_cons (pe_op op_add (pe_callB call_len_seq (by rfl) N.len PySem.boot_len (pa_cons (pv 4) pa_nil)) pe_int) pa_nil)))) (pss_one (ps_if (PW.pt (pw_or (pt_cmpR op_eq (pv 8) pe_int (nomark _)) (pw_or1 (pt_cmpR op_eq (pv 11) (pe_callB call_len_seq (by rfl) N.len PySem.boot_len (pa_cons (pv 4) pa_nil)) (nomark _))))) (pss_one (ps_expr (pe_bm PySem.F.plainAttrs_list PySem.F.slot_list_append PySem.F.type_list_append mt_append (pv 9) (pa_cons pe_str pa_nil)))) (pss_one (ps_expr (pe_bm PySem.F.plainAttrs_list PySem.F.slot_list_append PySem.F.type_list_append mt_append (pv 9) (pa_cons (pe_ix ix_list (pv 4) (pv 11) (fun _ _ => rfl)) pa_nil)))))))) (pss_one (ps_expr (pe_bm PySem.F.plainAttrs_list PySem.F.slot_list_append PySem.F.type_list_append mt_append (pv 7) (pa_cons (pe_tup (pa_cons (pe_call (GNa.mono (by decide)) hr (by rfl) DNa.g DNa.k DNa.b .nil pass0 (pa_cons (pv 0) (pa_cons pe_int (pa_cons (pv 2) pa_nil)))) (pa_cons (pe_callTy call_tuple_of (by rfl) N.tuple (by decide +kernel) (pa_cons (pv 9) pa_nil)) pa_nil))) pa_nil))))))) (pss_cons (ps_set (i := 12) cKd.nd rfl (Or.inl rfl) (pe_call (GD.mono (by decide)) hr (by rfl) DD.g DD.k DD.b .nil pass0 (pa_cons (pv 0) (pa_cons (pe_callB call_len_seq (by rfl) N.len PySem.boot_len (pa_cons (pv 7) pa_nil)) pa_nil)))) (pss_one (ps_expr (pe_bm PySem.F.plainAttrs_list PySem.F.slot_list_append PySem.F.type_list_append mt_append (pv 3) (pa_cons (pe_tup (pa_cons (pv 6) (pa_cons (pe_callTy call_tuple_of (by rfl) N.tuple (by decide +kernel) (pa_cons (pe_op op_cat (pe_slice sl_list (pv 7) (po_some (pv 12)) po_none) (pe_slice sl_list (pv 7) po_none (po_some (pv 12)))) pa_nil)) pa_nil))) pa_nil)))))))) (pss_one (ps_ret (pe_callTy call_tuple_of (by rfl) N.tuple (by decide +kernel) (pa_cons (pv 3) pa_nil))))))))), ?_⟩
    have z0 : 0 ≤ sizeLine := Nat.zero_le _
    refine ⟨z0, fun U hU => ⟨z0, fun M hM => ⟨z0, fun D hD => ?_⟩⟩⟩
    have k1 := Grow.new (o := .lst []) hU
    have k2 := Grow.new (o := .lst []) hM
    have k3 := Grow.new (o := .lst []) hD
    have nUp := (W.np hU).1
    have nUl := (W.np hU).2
    have nMp := ((W.grow k1).np hM).1
    have nMl := ((W.grow k1).np hM).2
    have nDp := (((W.grow k1).grow k2).np hD).1
    have nDl := (((W.grow k1).grow k2).np hD).2
    have nMU : M ≠ U := fun z => by rw [z, upd_same] at hM; cases hM
    have nDM : D ≠ M := fun z => by rw [z, upd_same] at hD; cases hD
    have nDU : D ≠ U := fun z => by rw [z, upd_ne nMU.symm, upd_same] at hD; cases hD
    have hM0 : H M = none := k1.none' hM
    have hD0 : H D = none := (k1.trans k2).none' hD
    have gg := (k1.trans k2).trans k3
    have hU1 := k3.lst (k2.lst (upd_same (H := H) (a := U) (o := .lst [])))
    have hM1 := k3.lst (upd_same (H := upd H U (.lst [])) (a := M) (o := .lst []))
    have hD1 := upd_same (H := upd (upd H U (.lst [])) M (.lst [])) (a := D) (o := .lst [])
    generalize upd (upd (upd H U (.lst [])) M (.lst [])) D (.lst []) = H1 at gg hU1 hM1 hD1 ⊢
    refine ⟨_, rfl, p, l, ns, n, 3, rfl, by decide, cdw (by decide) (by decide), W.grow gg, by omega, npl, fun r H2 r0 r1 W2 g2 => ?_⟩
    obtain ⟨r, rfl⟩ : ∃ j : Nat, r = (j : Int) := ⟨r.toNat, by omega⟩
    have eT : ((1 : Int) + (r : Nat)).toNat = r + 1 := by omega
    refine ⟨_, _, rfl, rfl, _, rfl, Int.le_trans (by decide) (by omega : (0 : Int) ≤ 1 + (r : Nat)), Int.lt_of_lt_of_le (by omega : (1 : Int) + (r : Nat) < 4) (by decide), fun L0 hL0 => ?_⟩
    rw [eT]
    have nL0p := (W2.np hL0).1
    have nL0l := (W2.np hL0).2
    have hU2 := g2.lst nUp hU1
    have hM2 := g2.lst nMp hM1
    have hD2 := g2.lst nDp hD1
    have nUL : U ≠ L0 := fun z => by rw [← z, hU2] at hL0; cases hL0
    have nML : M ≠ L0 := fun z => by rw [← z, hM2] at hL0; cases hL0
    have nDL : D ≠ L0 := fun z => by rw [← z, hD2] at hL0; cases hL0
    have g02 := gg.w.trans' g2
    have hL00 := g02.none' nL0p hL0
    have kL := Grow.new (o := .lst []) hL0
    refine lc_range (n := r + 1) (fun i Hc => ∃ us : List Str, us.length = i ∧ Nms us ∧ Hc L0 = some (.lst (us.map V.str)) ∧ Hc U = some (.lst (us.map V.str)) ∧ Hc M = some (.lst []) ∧ Hc D = some (.lst []) ∧ Wl Hc p l ns (n + 1 + 10 * i) ∧ GrowW p H Hc)
      ⟨[], rfl, fun j s h => (nomatch h), upd_same, kL.lst hU2, kL.lst hM2, kL.lst hD2, W2.grow kL, g02.trans' kL.w⟩ (fun i Hc hi hp => ?_) (fun H3 hp => ?_)
    · obtain ⟨us, hul, hus, hLc, hUc, hMc, hDc, Wc, gc⟩ := hp
      refine ⟨wipe_set, ?_⟩
      unfold tYes
      refine iteT ⟨_, rfl, _, rfl, p, l, U, ns, n + 1 + 10 * i, us, rfl, Wc, npl, nUp, nUl, hUc, by omega, by omega, fun nm H4 hN hU4 W4 g4 => ?_⟩
      have st : ∀ q : Addr, q ≠ p → q ≠ U → ∀ xs, Hc q = some (.lst xs) → H4 q = some (.lst xs) := fun q h1 h2 xs h => by
        rcases g4 q _ h1 h2 h with z | ⟨⟨_, z⟩, _⟩
        · exact z
        · cases z
      have hL4 := st L0 nL0p nUL.symm _ hLc
      have hM4 := st M nMp nMU _ hMc
      have hD4 := st D nDp nDU _ hDc
      have g04 := g4.w gc hU
      refine ⟨_, hL4, ?_, us ++ [nm], by rw [List.length_append, hul]; rfl, hus.snoc hN, by rw [upd_same, List.map_append]; rfl, by rw [upd_ne nUL]; exact hU4, by rw [upd_ne nML]; exact hM4, by rw [upd_ne nDL]; exact hD4, (W4.upd nL0p nL0l).more (by omega), g04.but hL00⟩
      rw [List.length_map, sizeLine_eq]
      omega
    · obtain ⟨nms, hnl, hnms, hL3, hU3, hM3, hD3, W3, g3⟩ := hp
      have hr3 : r < 3 := by omega
      refine ⟨_, rfl, L0, rfl, ⟨_, SqL.of hL3⟩, ?_⟩
      refine for_list (K := K) (xs := nms.map V.str) (fun i σ' Hc => ∃ v6 v7 v8 v9 v10 v11 v12, ∃ (mm : List Str) (ks : List Kd1), σ' = [some (.ref p), some (.ref U), some (.ref M), some (.ref D), some (.ref L0), none, v6, v7, v8, v9, v10, v11, v12] ∧ ks.map (·.1) = nms.take i ∧ mm.length ≤ 3 * i ∧ KSt H Hc p l L0 M D ns (n + 40 + 100 * i) nms mm [] ks)
        ⟨_, _, _, _, _, _, _, [], [], rfl, rfl, Nat.le_refl _, ⟨W3.more (by omega), hL3, hM3, ⟨[], hD3, .nil⟩, g3, fun j s h => (nomatch h), .refl _, fun k h => (nomatch h)⟩⟩ (fun i σ' Hc _ hp => ?_) (fun i z σ' Hc hz hp => ?_) (fun σ' Hc hp => ?_)
      · obtain ⟨_, _, _, _, _, _, _, _, _, _, _, _, S⟩ := hp
        exact SqL.of S.l0
      · obtain ⟨v6, v7, v8, v9, v10, v11, v12, mm, ks, rfl, hks, hml, S⟩ := hp
        obtain ⟨nm, hnm, rfl⟩ : ∃ nm, nms[i]? = some nm ∧ z = .str nm := by
          rw [List.getElem?_map] at hz
          cases e : nms[i]? with
          | none => rw [e] at hz; cases hz
          | some x => rw [e] at hz; cases hz; exact ⟨x, rfl, rfl⟩
        have hi3 : i < r + 1 := by
          have := (List.getElem?_eq_some_iff.mp hnm).1
          omega
        refine ⟨z0, fun A hA => ?_⟩
        have kA := Grow.new (o := .lst []) hA
        have nAp := (S.w.np hA).1
        have nAl := (S.w.np hA).2
        have nAL : A ≠ L0 := fun z => by rw [z, S.l0] at hA; cases hA
        have nAM : A ≠ M := fun z => by rw [z, S.m] at hA; cases hA
        have nAD : A ≠ D := fun z => by rw [z, S.d.choose_spec.1] at hA; cases hA
        have hA0 := S.g.none' nAp hA
        have S1 := S.grow kA (Nat.le_refl _)
        refine ⟨_, rfl, p, l, ns, n + 40 + 100 * i, 3, rfl, by decide, cdw (by decide) (by decide), S1.w, by omega, npl, fun r2 H4 a0 a1 W4 g4 => ?_⟩
        obtain ⟨r2, rfl⟩ : ∃ j : Nat, r2 = (j : Int) := ⟨r2.toNat, by omega⟩
        have eT2 : ((1 : Int) + (r2 : Nat)).toNat = r2 + 1 := by omega
        have S4 := S1.gw g4 W4 nL0p nMp nDp
        have hA4 := g4.lst nAp (upd_same (H := Hc) (a := A) (o := .lst []))
        refine ⟨_, _, rfl, rfl, _, rfl, Int.le_trans (by decide) (by omega : (0 : Int) ≤ 1 + (r2 : Nat)), Int.lt_of_lt_of_le (by omega : (1 : Int) + (r2 : Nat) < 4) (by decide), ?_⟩
        rw [eT2]
        refine for_range (n := r2 + 1) (fun m σ' Hc => ∃ v8 v9 v10 v11 v12, ∃ (mm : List Str) (mks : List Mk1) (xa : List V), σ' = [some (.ref p), some (.ref U), some (.ref M), some (.ref D), some (.ref L0), none, some (.str nm), some (.ref A), v8, v9, v10, v11, v12] ∧ mks.length = m ∧ mm.length ≤ 3 * i + m ∧ Hc A = some (.lst xa) ∧ EncsT Hc (mks.map mkD) xa ∧ (∀ mk ∈ mks, mk.2.length ≤ 3 ∧ ∀ f ∈ mk.2, f = "whole" ∨ f ∈ nms) ∧ (m ≠ 0 → ∃ mk ∈ mks, ∀ f ∈ mk.2, f = "whole") ∧ KSt H Hc p l L0 M D ns (n + 40 + 100 * i + 1 + 25 * m) nms mm (mks.map (·.1)) ks)
          ⟨_, _, _, _, _, mm, [], [], rfl, rfl, hml, hA4, .nil, fun mk h => (nomatch h), fun z => absurd rfl z, S4⟩ (fun m σ' Hc hm hp => ?_) (fun σ' Hc hp => ?_)
        · obtain ⟨v8, v9, v10, v11, v12, mm, mks, xa, rfl, hmk, hml, hAc, ea, hall, hwh, S⟩ := hp
          have hm3 : m < 3 := by omega
          refine ⟨z0, fun B hB => ?_⟩
          have kB := Grow.new (o := .lst []) hB
          have nBp := (S.w.np hB).1
          have nBl := (S.w.np hB).2
          have nBL : B ≠ L0 := fun z => by rw [z, S.l0] at hB; cases hB
          have nBM : B ≠ M := fun z => by rw [z, S.m] at hB; cases hB
          have nBD : B ≠ D := fun z => by rw [z, S.d.choose_spec.1] at hB; cases hB
          have nBA : B ≠ A := fun z => by rw [z, hAc] at hB; cases hB
          have hB0 := S.g.none' nBp hB
          have S1 := S.grow kB (Nat.le_refl _)
          refine ⟨_, rfl, p, l, ns, n + 40 + 100 * i + 1 + 25 * m, 4, rfl, by decide, cdw (by decide) (by decide), S1.w, by omega, npl, fun r3 H5 b0 b1 W5 g5 => ?_⟩
          obtain ⟨r3, rfl⟩ : ∃ j : Nat, r3 = (j : Int) := ⟨r3.toNat, by omega⟩
          have S5 := S1.gw g5 W5 nL0p nMp nDp
          have hB5 := g5.lst nBp (upd_same (H := Hc) (a := B) (o := .lst []))
          have hA5 := g5.lst nAp (kB.lst hAc)
          obtain ⟨yp, hyp⟩ := S1.w.pl
          have ea5 := (ea.grow kB).gw g5 hyp
          refine ⟨_, rfl, Int.le_trans (by decide) b0, Int.lt_of_lt_of_le b1 (by decide), ?_⟩
          rw [Int.toNat_natCast]
          refine for_range (n := r3) (fun fi σ' Hc => ∃ v10 v11 v12, ∃ fs : List Str, σ' = [some (.ref p), some (.ref U), some (.ref M), some (.ref D), some (.ref L0), none, some (.str nm), some (.ref A), some (.int ((0 : Int) + (m : Nat))), some (.ref B), v10, v11, v12] ∧ fs.length = fi ∧ Hc B = some (.lst (fs.map V.str)) ∧ Hc A = some (.lst xa) ∧ EncsT Hc (mks.map mkD) xa ∧ (∀ f ∈ fs, f = "whole" ∨ f ∈ nms) ∧ (m = 0 → ∀ f ∈ fs, f = "whole") ∧ KSt H Hc p l L0 M D ns (n + 40 + 100 * i + 1 + 25 * m + 1 + fi) nms mm (mks.map (·.1)) ks)
            ⟨_, _, _, [], rfl, rfl, hB5, hA5, ea5, fun f h => (nomatch h), fun _ f h => (nomatch h), S5⟩ (fun fi σ' Hc hfi hp => ?_) (fun σ' Hc hp => ?_)
          · obtain ⟨v10, v11, v12, fs, rfl, hfl, hBc, hAc, ea, hf1, hf2, S⟩ := hp
            refine ⟨_, rfl, _, rfl, L0, _, rfl, .inl (SqL.of S.l0), _, _, rfl, rfl, p, l, ns, n + 40 + 100 * i + 1 + 25 * m + 1 + fi, (((nms.map V.str).length : Nat) : Int) + 1, rfl, by omega, cdw (by omega) (Nat.lt_of_lt_of_le (show ((((nms.map V.str).length : Nat) : Int) + 1).natAbs < 8 by rw [List.length_map]; omega) (by decide)), S.w, by omega, npl, fun pk H6 c0 c1 W6 g6 => ?_⟩
            obtain ⟨pk, rfl⟩ : ∃ j : Nat, pk = (j : Int) := ⟨pk.toNat, by omega⟩
            obtain ⟨yp, hyp⟩ := S.w.pl
            have S6 := S.gw g6 W6 nL0p nMp nDp
            have hB6 := g6.lst nBp hBc
            have hA6 := g6.lst nAp hAc
            have ea6 := ea.gw g6 hyp
            have hBlen : (fs.map V.str).length < sizeLine := by rw [List.length_map, sizeLine_eq]; omega
            have nx : ∀ f : Str, (f = "whole" ∨ f ∈ nms) → (m = 0 → f = "whole") → (fs ++ [f]).length = fi + 1 ∧ L2.upd H6 B (.lst (fs.map V.str ++ [.str f])) B = some (.lst ((fs ++ [f]).map V.str)) ∧ L2.upd H6 B (.lst (fs.map V.str ++ [.str f])) A = some (.lst xa) ∧ EncsT (L2.upd H6 B (.lst (fs.map V.str ++ [.str f]))) (mks.map mkD) xa ∧ (∀ g ∈ fs ++ [f], g = "whole" ∨ g ∈ nms) ∧ (m = 0 → ∀ g ∈ fs ++ [f], g = "whole") ∧ KSt H (L2.upd H6 B (.lst (fs.map V.str ++ [.str f]))) p l L0 M D ns (n + 40 + 100 * i + 1 + 25 * m + 1 + (fi + 1)) nms mm (mks.map (·.1)) ks := fun f h1 h2 => by
              refine ⟨by rw [List.length_append, hfl]; rfl, by rw [upd_same, List.map_append]; rfl, by rw [upd_ne nBA.symm]; exact hA6, ea6.growW GrowW.upd (fun z => z) (noTup hB6), fun g hg => ?_, fun hm0 g hg => ?_, S6.put hB0 hB6 nBp nBl nBL nBM nBD⟩
              · rcases List.mem_append.mp hg with h | h
                · exact hf1 g h
                · rw [List.mem_singleton.mp h]; exact h1
              · rcases List.mem_append.mp hg with h | h
                · exact hf2 hm0 g h
                · rw [List.mem_singleton.mp h]; exact h2 hm0
            refine ⟨_, rfl, rfl, _, rfl, ?_⟩
            by_cases hm0 : m = 0
            · refine ifT (by rw [hm0]; rfl) ⟨_, rfl, .inl ⟨rfl, _, SqL.of hB6⟩, B, _, _, rfl, rfl, hB6, hBlen, ?_⟩
              exact ⟨_, _, _, fs ++ [("whole" : Str)], rfl, nx "whole" (.inl rfl) fun _ => rfl⟩
            · refine ifF (fun z => hm0 (by have := V.int.inj z; omega)) ?_
              refine ⟨_, rfl, _, rfl, L0, _, rfl, .inl (SqL.of S6.l0), rfl, _, rfl, ?_⟩
              by_cases hpk : pk = nms.length
              · refine ifT (by rw [hpk, List.length_map]) ⟨_, rfl, .inl ⟨rfl, _, SqL.of hB6⟩, B, _, _, rfl, rfl, hB6, hBlen, ?_⟩
                exact ⟨_, _, _, fs ++ [("whole" : Str)], rfl, nx "whole" (.inl rfl) fun _ => rfl⟩
              · rw [List.length_map] at c1
                have hlt : pk < nms.length := by omega
                refine ifF (fun z => hpk (by have := V.int.inj z; rw [List.length_map] at this; omega)) ⟨_, rfl, .inl ⟨rfl, _, SqL.of hB6⟩, _, rfl, _, rfl, L0, _, _, _, rfl, rfl, SqL.of S6.l0, at_g (j := pk) rfl (by rw [List.getElem?_map, List.getElem?_eq_getElem hlt]; rfl), B, _, _, rfl, rfl, hB6, hBlen, ?_⟩
                exact ⟨_, _, _, fs ++ [nms[pk]], rfl, nx _ (.inr (List.getElem_mem hlt)) fun z => absurd z hm0⟩
          · obtain ⟨v10, v11, v12, fs, rfl, hfl, hBc, hAc, ea, hf1, hf2, S⟩ := hp
            obtain ⟨yp, hyp⟩ := S.w.pl
            refine ⟨_, rfl, .inl ⟨rfl, _, SqL.of hAc⟩, _, rfl, _, rfl, p, l, M, ns, n + 40 + 100 * i + 1 + 25 * m + 1 + r3, mm, rfl, S.w, npl, nMp, nMl, S.m, by omega, by omega, fun nm2 H7 hN hM7 W7 g7 => ?_⟩
            have S7 := S.name g7 hM7 W7 hN hM0 nL0p nML.symm nDp nDM
            have hB7 := g7.lst nBp nBM hBc
            have hA7 := g7.lst nAp nAM hAc
            have ea7 := ea.g2 g7 hyp S.m hM7
            refine ⟨_, rfl, B, _, rfl, .inl ⟨SqL.of hB7, fun t ht => ⟨(by show 2 ≤ sizeLine; decide), fun u hu => ?_⟩⟩⟩
            have kt := Grow.new (o := .tup (fs.map V.str)) ht
            have ku := Grow.new (o := .tup [.str nm2, .ref t]) hu
            have ktu := kt.trans ku
            have S8 := S7.grow ktu (Nat.le_refl _)
            have hA8 := ktu.lst hA7
            have ea8 := ea7.grow ktu
            have hsk : ∀ f ∈ fs, SOk f := fun f hf => by
              rcases hf1 f hf with z | z
              · rw [z]; exact ⟨by decide, by decide⟩
              · exact (hnms.hi (by omega) z).2
            have efs : ∀ (Hx : Hp) (gs : List Str), (∀ f ∈ gs, SOk f) → EncsT Hx (gs.map .str) (gs.map V.str) := fun Hx gs => by
              induction gs with
              | nil => intro _; exact .nil
              | cons g r ih => intro h; exact .cons (.str _ (h g List.mem_cons_self)) (ih fun f hf => h f (List.mem_cons_of_mem _ hf))
            have et : EncT (L2.upd (L2.upd H7 t (.tup (fs.map V.str))) u (.tup [.str nm2, .ref t])) (mkD (nm2, fs)) (.ref u) := .tup upd_same (.cons (.str _ (hN.s (by omega))) (.cons (.tup (ku.tup upd_same) (efs _ fs hsk)) .nil))
            have hal := ea8.length
            rw [List.length_map] at hal
            generalize L2.upd (L2.upd H7 t (.tup (fs.map V.str))) u (.tup [.str nm2, .ref t]) = H8 at S8 hA8 ea8 et ⊢
            refine ⟨A, _, _, rfl, rfl, hA8, by rw [sizeLine_eq]; omega, ?_⟩
            have S9 := S8.put (o := .lst (xa ++ [.ref u])) hA0 hA8 nAp nAl nAL nAM nAD
            refine ⟨_, _, _, _, _, mm ++ [nm2], mks ++ [(nm2, fs)], xa ++ [.ref u], rfl, by rw [List.length_append, hmk]; rfl, by rw [List.length_append]; show mm.length + 1 ≤ _; omega, upd_same, ?_, fun mk h => ?_, fun _ => ?_, ?_⟩
            · rw [List.map_append]
              exact (encs_push ea8 et).growW GrowW.upd (fun z => z) (noTup hA8)
            · rcases List.mem_append.mp h with h | h
              · exact hall mk h
              · rw [List.mem_singleton.mp h]
                exact ⟨by show fs.length ≤ 3; omega, hf1⟩
            · by_cases hm0 : m = 0
              · exact ⟨(nm2, fs), List.mem_append_right _ List.mem_cons_self, hf2 hm0⟩
              · obtain ⟨mk, h1, h2⟩ := hwh hm0
                exact ⟨mk, List.mem_append_left _ h1, h2⟩
            · rw [List.map_append]
              exact ⟨S9.w.more (by omega), S9.l0, S9.m, S9.d, S9.g, S9.nm, S9.pm, S9.kb⟩
        · obtain ⟨v8, v9, v10, v11, v12, mm, mks, xa, rfl, hmk, hml, hAc, ea, hall, hwh, S⟩ := hp
          obtain ⟨yp, hyp⟩ := S.w.pl
          have hal := ea.length
          rw [List.length_map] at hal
          refine ⟨_, rfl, _, rfl, A, _, rfl, .inl (SqL.of hAc), p, l, ns, n + 40 + 100 * i + 1 + 25 * (r2 + 1), ((xa.length : Nat) : Int), rfl, by omega, cdw (by omega) (Nat.lt_of_lt_of_le (show (((xa.length : Nat) : Int)).natAbs < 8 by omega) (by decide)), S.w, by omega, npl, fun tn H6 c0 c1 W6 g6 => ?_⟩
          obtain ⟨tn, rfl⟩ : ∃ j : Nat, tn = (j : Int) := ⟨tn.toNat, by omega⟩
          have htn : tn ≤ xa.length := by omega
          have S6 := S.gw g6 W6 nL0p nMp nDp
          have hA6 := g6.lst nAp hAc
          have ea6 := ea.gw g6 hyp
          obtain ⟨xd, hD6, ed⟩ := S6.d
          refine ⟨_, rfl, .inl ⟨rfl, _, SqL.of hD6⟩, _, rfl, _, rfl, _, rfl, _, rfl, ?_⟩
          dsimp only [tNoPart]
          refine ⟨A, _, rfl, SqL.of hA6, fun q1 hq1 => ?_⟩
          rw [cutV_drop xa tn htn]
          refine ⟨_, rfl, ?_⟩
          dsimp only [tNoPart]
          have j1 := Grow.new (o := .lst (xa.drop tn)) hq1
          refine ⟨_, rfl, _, rfl, A, _, rfl, SqL.of (j1.lst hA6), fun q2 hq2 => ?_⟩
          rw [cutV_take xa tn htn]
          have j2 := Grow.new (o := .lst (xa.take tn)) hq2
          refine ⟨q1, q2, _, _, rfl, rfl, j2.lst upd_same, upd_same, ?_, fun q3 hq3 => ?_⟩
          · rw [List.length_drop, List.length_take, sizeLine_eq]
            omega
          have j3 := Grow.new (o := .lst (xa.drop tn ++ xa.take tn)) hq3
          refine ⟨q3, _, rfl, .inl ⟨SqL.of upd_same, fun t ht => ⟨(by show 2 ≤ sizeLine; decide), fun u hu => ?_⟩⟩⟩
          have kt := Grow.new (o := .tup (xa.drop tn ++ xa.take tn)) ht
          have ku := Grow.new (o := .tup [.str nm, .ref t]) hu
          have j123 := (j1.trans j2).trans j3
          have jt := j123.trans kt
          have jall := jt.trans ku
          have S8 := S6.grow jall (Nat.le_refl _)
          have hD8 := jall.lst hD6
          have ed8 := ed.grow jall
          have exx : EncsT H6 ((mks.drop tn ++ mks.take tn).map mkD) (xa.drop tn ++ xa.take tn) := by
            rw [List.map_append, List.map_drop, List.map_take]
            exact (encs_drop ea6 tn).app (encs_take ea6 tn)
          have hnmk := hnms.hi (by omega) (List.mem_of_getElem? hnm)
          have ek : EncT (L2.upd (L2.upd (L2.upd (L2.upd (L2.upd H6 q1 (.lst (xa.drop tn))) q2 (.lst (xa.take tn))) q3 (.lst (xa.drop tn ++ xa.take tn))) t (.tup (xa.drop tn ++ xa.take tn))) u (.tup [.str nm, .ref t])) (kdD (nm, mks.drop tn ++ mks.take tn)) (.ref u) :=
            .tup upd_same (.cons (.str _ hnmk.2) (.cons (.tup (ku.tup upd_same) (exx.grow jall)) .nil))
          have hdl := ed8.length
          rw [List.length_map] at hdl
          have hkl : ks.length = i := by
            have := congrArg List.length hks
            rw [List.length_map, List.length_take] at this
            have := (List.getElem?_eq_some_iff.mp hnm).1
            omega
          generalize L2.upd (L2.upd (L2.upd (L2.upd (L2.upd H6 q1 (.lst (xa.drop tn))) q2 (.lst (xa.take tn))) q3 (.lst (xa.drop tn ++ xa.take tn))) t (.tup (xa.drop tn ++ xa.take tn))) u (.tup [.str nm, .ref t]) = H8 at S8 hD8 ed8 ek ⊢
          refine ⟨D, _, _, rfl, rfl, hD8, by rw [sizeLine_eq]; omega, ?_⟩
          have hmem : ∀ mk, mk ∈ mks.drop tn ++ mks.take tn ↔ mk ∈ mks := fun mk => by
            rw [List.mem_append, Or.comm, ← List.mem_append, List.take_append_drop]
          refine ⟨_, _, _, _, _, _, _, mm, ks ++ [(nm, mks.drop tn ++ mks.take tn)], rfl, ?_, by omega, ⟨?_, ?_, ?_, ⟨xd ++ [.ref u], upd_same, ?_⟩, S8.g.but hD0, S8.nm, ?_, fun kd h => ?_⟩⟩
          · rw [List.map_append, hks, List.take_succ, hnm]
            rfl
          · exact (S8.w.upd nDp nDl).more (by omega)
          · rw [upd_ne nDL.symm]; exact S8.l0
          · rw [upd_ne nDM.symm]; exact S8.m
          · rw [List.map_append]
            exact (encs_push ed8 ek).growW GrowW.upd (fun z => z) (noTup hD8)
          · rw [List.append_nil]
            have e1 : (mksOf (ks ++ [(nm, mks.drop tn ++ mks.take tn)])).map (·.1.1) = (mksOf ks).map (·.1.1) ++ (mks.drop tn ++ mks.take tn).map (·.1) := by
              unfold mksOf
              rw [List.map_append, List.flatten_append, List.map_append]
              simp
              rfl
            rw [e1]
            refine List.Perm.trans (List.Perm.append_left _ ?_) S8.pm
            have e2 : mks.map (·.1) = (mks.take tn ++ mks.drop tn).map (·.1) := by rw [List.take_append_drop]
            rw [e2]
            exact List.perm_append_comm.map _
          · rcases List.mem_append.mp h with h | h
            · exact S8.kb kd h
            · rw [List.mem_singleton.mp h]
              have hlen : (mks.drop tn ++ mks.take tn).length = mks.length := by rw [List.length_append, List.length_drop, List.length_take]; omega
              refine ⟨by show 1 ≤ (mks.drop tn ++ mks.take tn).length; omega, by show (mks.drop tn ++ mks.take tn).length ≤ 3; omega, fun mk h => hall mk ((hmem mk).mp h), ?_⟩
              obtain ⟨mk, h1, h2⟩ := hwh (by omega)
              exact ⟨mk, (hmem mk).mpr h1, h2⟩
      · obtain ⟨v6, v7, v8, v9, v10, v11, v12, mm, ks, rfl, hks, hml, S⟩ := hp
        rw [List.length_map] at hks hml S
        rw [List.take_length] at hks
        obtain ⟨xd, hD9, ed⟩ := S.d
        refine ⟨_, rfl, D, _, rfl, .inl ⟨SqL.of hD9, fun t ht => ?_⟩⟩
        have kt := Grow.new (o := .tup xd) ht
        have hkl : ks.length = nms.length := by rw [← hks, List.length_map]
        have hpm := S.pm
        rw [List.append_nil] at hpm
        have hmn : mm.Nodup := S.nm.nodup (by omega)
        have hml2 : (mksOf ks).length = mm.length := by
          have := hpm.length_eq
          rw [List.length_map] at this
          exact this
        have hmk : ∀ m ∈ mksOf ks, ∃ kd ∈ ks, m.1 ∈ kd.2 ∧ m.2 = kd.1 := fun m hm => by
          unfold mksOf at hm
          rw [List.mem_flatten] at hm
          obtain ⟨l', h1, h2⟩ := hm
          obtain ⟨kd, hk, rfl⟩ := List.mem_map.mp h1
          obtain ⟨mk, h3, rfl⟩ := List.mem_map.mp h2
          exact ⟨kd, hk, h3, rfl⟩
        refine k (.ref t) ks _ (.tup upd_same (ed.grow kt)) ⟨?_, (hpm.nodup_iff).mpr hmn, fun kd hk => ?_, fun m hm => ?_, fun m hm => ?_, fun m hm f hf => ?_, fun kd hk => ?_, by omega, by omega⟩ (by omega) (by omega) (fun kd hk => by rw [hks]; exact S.kb kd hk) ((S.w.grow kt).more (by omega)) (S.g.trans' kt.w)
        · rw [hks]; exact hnms.nodup (by omega)
        · have : kd.1 ∈ nms := by rw [← hks]; exact List.mem_map.mpr ⟨kd, hk, rfl⟩
          exact (hnms.hi (by omega) this).1
        · have : m.1.1 ∈ mm := hpm.mem_iff.mp (List.mem_map.mpr ⟨m, hm, rfl⟩)
          exact (S.nm.hi (by omega) this).1
        · obtain ⟨kd, hk, h1, _⟩ := hmk m hm
          have := ((S.kb kd hk).2.2.1 m.1 h1).1
          omega
        · obtain ⟨kd, hk, h1, _⟩ := hmk m hm
          rw [hks]
          exact ((S.kb kd hk).2.2.1 m.1 h1).2 f hf
        · have := (S.kb kd hk).1
          have := (S.kb kd hk).2.1
          omega
end
end J1
set_option Elab.async false
set_option linter.all false
set_option maxRecDepth 100000
set_option maxHeartbeats 4000000
namespace J1
open PySem PySem.Spec PyProof.Rows L2 GxR GA ZS RZ
abbrev lTi : Stmt := top 75
theorem cTi : FnScope ["_law_well_here", "_law_pick"] ["_law_well_here"] (defScope lTi) := ⟨rfl, rfl, rfl, by decide +kernel, rfl, by decide +kernel, by decide +kernel⟩
abbrev lNu : Stmt := top 78
theorem cNu : FnScope ["_law_well_here", "_law_shape"] ["_law_well_here"] (defScope lNu) := ⟨rfl, rfl, rfl, by decide +kernel, rfl, by decide +kernel, by decide +kernel⟩
abbrev lFt : Stmt := top 76
theorem cFt : FnScope ["_law_kinds_here", "_law_number_here", "_law_kind"] ["_law_kinds_here", "_law_number_here", "_law_kind"] (defScope lFt) := ⟨rfl, rfl, rfl, by decide +kernel, rfl, by decide +kernel, by decide +kernel⟩
def spTi : Sp := fun vs H Q _ => ∃ (p l : Addr) (ns : List Int) (n : Nat), vs = [.ref p] ∧ Wl H p l ns n ∧ p ≠ l ∧ n + 5 ≤ 1000000000000000000000000000000 ∧
  ∀ (r : Int) (H' : Hp), r ≠ 0 → r.natAbs ≤ 1000000 → Wl H' p l ns (n + 5) → GrowW p H H' → Q (.int r) H'
def spNu : Sp := fun vs H Q _ => ∃ (p l : Addr) (ns : List Int) (n : Nat), vs = [.ref p] ∧ Wl H p l ns n ∧ p ≠ l ∧ n + 5 ≤ 1000000000000000000000000000000 ∧
  ∀ (r : Int) (H' : Hp), r.natAbs ≤ 1000000000000 → Wl H' p l ns (n + 5) → GrowW p H H' → Q (.int r) H'
def spFt : Sp := fun vs H Q _ => ∃ (p : Addr) (own : List Str) (n : Nat) (s : Str), vs = [.ref p, .int (n : Nat), .str s] ∧ H p = some (.lst (own.map V.str)) ∧ n ≤ own.length ∧ Q (.bl (decide ((("whole" : Str) :: own)[n]? = some s))) H
section
variable {P : Program} {w : World} {K : PySem.W.Frag} {mg : Str → Option Value} {base : Heap}
theorem ok_ft {f : Addr} {fd : FuncData} (F : Fun K "_law_fits" "_law_fits" lFt f fd) : FnOk P w K mg base CX0 1 f fd ["_law_kinds_here", "_law_number_here", "_law_kind"] spFt := by
  refine F.ok (k := 0) cFt (fun vs H Q E h => ?_) (fun cdv A outer s H vs Q E hr h => ?_)
  · obtain ⟨_, _, _, _, rfl, _⟩ := h
    rfl
  · obtain ⟨p, own, n, s, rfl, hp, hn, k⟩ := h
    refine ⟨_, (pss_cons (ps_if (pt_cmpR op_eq (pv 1) pe_int (nomark _)) (pss_one (ps_ret (pe_cmpR op_eq (pv 2) pe_str (nomark _)))) pss_nil) (pss_one (ps_ret (pe_cmpR op_eq (pe_ix ix_list (pv 0) (pe_op op_sub (pv 1) pe_int) (fun _ _ => rfl)) (pv 2) (nomark _))))), ?_⟩
    refine ⟨_, rfl, rfl, _, rfl, ?_⟩
    by_cases h0 : n = 0
    · subst h0
      refine ifT rfl ⟨_, rfl, rfl, ?_⟩
      show Q (.bl (decide (V.str s = V.str "whole"))) H
      rw [show decide (V.str s = V.str "whole") = decide ((("whole" : Str) :: own)[0]? = some s) from decide_eq_decide.mpr ⟨fun z => congrArg some (V.str.inj z).symm, fun z => congrArg V.str (Option.some.inj z).symm⟩]
      exact k
    · refine ifF (fun z => h0 (by have := V.int.inj z; omega)) ?_
      obtain ⟨m, rfl⟩ : ∃ m, n = m + 1 := ⟨n - 1, by omega⟩
      have hm : m < own.length := by omega
      refine ⟨_, rfl, _, rfl, _, _, rfl, rfl, p, _, _, _, rfl, rfl, SqL.of hp, at_g (j := m) (by omega) (by rw [List.getElem?_map, List.getElem?_eq_getElem hm]; rfl), _, rfl, rfl, ?_⟩
      show Q (.bl (decide (V.str own[m] = V.str s))) H
      rw [show decide (V.str own[m] = V.str s) = decide ((("whole" : Str) :: own)[m + 1]? = some s) from decide_eq_decide.mpr ⟨fun z => by rw [List.getElem?_cons_succ, List.getElem?_eq_getElem hm, V.str.inj z], fun z => by
        rw [List.getElem?_cons_succ, List.getElem?_eq_getElem hm] at z
        rw [Option.some.inj z]⟩]
      exact k
theorem ok_ti {f fD : Addr} {fd fdD : FuncData} (F : Fun K "_law_times" "_law_times" lTi f fd) (GD : FnOk P w K mg base CX0 1 fD fdD ["_law_well_here", "_law_many"] spDr) (DD : Df K mg "_law_draw" ["_law_well_here", "_law_many"] fD fdD) :
    FnOk P w K mg base CX0 2 f fd ["_law_well_here"] spTi := by
  refine F.ok (k := 1) cTi (fun vs H Q E h => ?_) (fun cdv A outer s H vs Q E hr h => ?_)
  · obtain ⟨_, _, _, _, rfl, _⟩ := h
    rfl
  · obtain ⟨p, l, ns, n, rfl, W, npl, hn, k⟩ := h
    refine ⟨_, (pss_cons (ps_set (i := 1) cTi.nd rfl (Or.inl rfl) (pe_call (GD.mono (by decide)) hr (by rfl) DD.g DD.k DD.b .nil pass0 (pa_cons (pv 0) (pa_cons pe_int pa_nil)))) (pss_cons (ps_if (pt_cmpR op_gt (pv 1) pe_int (nomark _)) (pss_one (ps_ret (pe_ix ix_list (pe_lst (pa_cons (pe_op op_add pe_int (pe_call (GD.mono (by decide)) hr (by rfl) DD.g DD.k DD.b .nil pass0 (pa_cons (pv 0) (pa_cons pe_int pa_nil)))) (pa_cons (pe_op op_sub (pe_call (GD.mono (by decide)) hr (by rfl) DD.g DD.k DD.b .nil pass0 (pa_cons (pv 0) (pa_cons pe_int pa_nil))) (pe_op op_pow pe_int pe_int)) pa_nil))) (pe_op op_sub (pv 1) pe_int) (fun _ _ => rfl)))) pss_nil) (pss_one (ps_ret (pe_ix ix_list (pe_lst (pa_cons pe_int (pa_cons pe_int (pa_cons (pe_un un_neg pe_int) (pa_cons pe_int (pa_cons (pe_un un_neg pe_int) (pa_cons pe_int pa_nil))))))) (pv 1) (fun _ _ => rfl)))))), ?_⟩
    refine ⟨_, rfl, p, l, ns, n, 8, rfl, by decide, cdw (by decide) (by decide), W, by omega, npl, fun r H1 r0 r1 W1 g1 => ?_⟩
    refine ⟨_, rfl, _, _, rfl, rfl, _, rfl, ?_⟩
    by_cases h5 : r > 5
    · refine ifT h5 ⟨_, rfl, p, l, ns, n + 1, 2, rfl, by decide, cdw (by decide) (by decide), W1, by omega, npl, fun a H2 a0 a1 W2 g2 => ⟨_, _, rfl, rfl, _, rfl, p, l, ns, n + 1 + 1, 2, rfl, by decide, cdw (by decide) (by decide), W2, by omega, npl, fun b H3 b0 b1 W3 g3 => ?_⟩⟩
      refine ⟨_, _, rfl, rfl, ⟨by decide, by decide, by decide⟩, _, _, rfl, rfl, (by show 2 ≤ sizeLine; decide), fun q hq => ?_⟩
      have e6 : (10 : Int) ^ (Int.toNat 6) = 1000000 := by decide
      rw [e6]
      have gq := Grow.new (o := .lst [.int (999999 + a), .int (b - 1000000)]) hq
      have G := ((g1.trans' g2).trans' g3).trans' gq.w
      obtain ⟨v, hv0, hv1, hat⟩ : ∃ v : Int, v ≠ 0 ∧ v.natAbs ≤ 1000000 ∧ atI [V.int (999999 + a), V.int (b - 1000000)] (r - 6) = some (V.int v) := by
        have : r - 6 = 0 ∨ r - 6 = 1 := by omega
        rcases this with h | h
        · exact ⟨999999 + a, by omega, by omega, by rw [h]; rfl⟩
        · exact ⟨b - 1000000, by omega, by omega, by rw [h]; rfl⟩
      refine ⟨_, rfl, _, _, rfl, rfl, q, _, _, _, rfl, rfl, SqL.of upd_same, hat, k v _ hv0 hv1 ((W3.grow gq).more (by omega)) G⟩
    · refine ifF h5 ⟨1, rfl, 3, rfl, (by show 6 ≤ sizeLine; decide), fun q hq => ?_⟩
      have gq := Grow.new (o := .lst [.int 1, .int 1, .int (-1), .int 2, .int (-3), .int 1]) hq
      have G := g1.trans' gq.w
      obtain ⟨v, hv0, hv1, hat⟩ : ∃ v : Int, v ≠ 0 ∧ v.natAbs ≤ 1000000 ∧ atI [V.int 1, V.int 1, V.int (-1), V.int 2, V.int (-3), V.int 1] r = some (V.int v) := by
        have : r = 0 ∨ r = 1 ∨ r = 2 ∨ r = 3 ∨ r = 4 ∨ r = 5 := by omega
        rcases this with h | h | h | h | h | h <;> subst h
        · exact ⟨1, by decide, by decide, rfl⟩
        · exact ⟨1, by decide, by decide, rfl⟩
        · exact ⟨-1, by decide, by decide, rfl⟩
        · exact ⟨2, by decide, by decide, rfl⟩
        · exact ⟨-3, by decide, by decide, rfl⟩
        · exact ⟨1, by decide, by decide, rfl⟩
      exact ⟨_, rfl, q, _, _, _, rfl, rfl, SqL.of upd_same, hat, k v _ hv0 hv1 ((W1.grow gq).more (by omega)) G⟩
theorem ok_nu {f fD : Addr} {fd fdD : FuncData} (F : Fun K "_law_number" "_law_number" lNu f fd) (GD : FnOk P w K mg base CX0 1 fD fdD ["_law_well_here", "_law_many"] spDr) (DD : Df K mg "_law_draw" ["_law_well_here", "_law_many"] fD fdD) :
    FnOk P w K mg base CX0 2 f fd ["_law_well_here"] spNu := by
  refine F.ok (k := 1) cNu (fun vs H Q E h => ?_) (fun cdv A outer s H vs Q E hr h => ?_)
  · obtain ⟨_, _, _, _, rfl, _⟩ := h
    rfl
  · obtain ⟨p, l, ns, n, rfl, W, npl, hn, k⟩ := h
    refine ⟨_, (pss_cons (ps_set (i := 1) cNu.nd rfl (Or.inl rfl) (pe_call (GD.mono (by decide)) hr (by rfl) DD.g DD.k DD.b .nil pass0 (pa_cons (pv 0) (pa_cons pe_int pa_nil)))) (pss_cons (ps_if (pt_cmpR op_eq (pv 1) pe_int (nomark _)) (pss_one (ps_ret pe_int)) pss_nil) (pss_cons (ps_if (pt_cmpR op_eq (pv 1) pe_int (nomark _)) (pss_one (ps_ret (pe_op op_sub (pe_op op_pow pe_int pe_int) (pe_call (GD.mono (by decide)) hr (by rfl) DD.g DD.k DD.b .nil pass0 (pa_cons (pv 0) (pa_cons pe_int pa_nil)))))) pss_nil) (pss_cons (ps_if (pt_cmpR op_eq (pv 1) pe_int (nomark _)) (pss_one (ps_ret (pe_op op_sub (pe_call (GD.mono (by decide)) hr (by rfl) DD.g DD.k DD.b .nil pass0 (pa_cons (pv 0) (pa_cons pe_int pa_nil))) (pe_op op_pow pe_int pe_int)))) pss_nil) (pss_cons (ps_if (pt_cmpR op_eq (pv 1) pe_int (nomark _)) (pss_one (ps_ret (pe_op op_sub (pe_call (GD.mono (by decide)) hr (by rfl) DD.g DD.k DD.b .nil pass0 (pa_cons (pv 0) (pa_cons pe_int pa_nil))) (pe_op op_pow pe_int pe_int)))) pss_nil) (pss_one (ps_ret (pe_op op_sub (pe_call (GD.mono (by decide)) hr (by rfl) DD.g DD.k DD.b .nil pass0 (pa_cons (pv 0) (pa_cons pe_int pa_nil))) pe_int)))))))), ?_⟩
    refine ⟨_, rfl, p, l, ns, n, 7, rfl, by decide, cdw (by decide) (by decide), W, by omega, npl, fun r H1 r0 r1 W1 g1 => ?_⟩
    have e12 : (10 : Int) ^ (Int.toNat 12) = 1000000000000 := by decide
    have cp : CPow 10 12 := ⟨by decide, by decide, by decide⟩
    refine ⟨_, rfl, rfl, _, rfl, ite2 (fun _ => k 0 H1 (by decide) (W1.more (by omega)) g1) (fun _ => ?_)⟩
    refine ⟨_, rfl, rfl, _, rfl, ite2 (fun _ => ?_) (fun _ => ?_)⟩
    · refine ⟨_, _, rfl, rfl, cp, _, rfl, p, l, ns, n + 1, 3, rfl, by decide, cdw (by decide) (by decide), W1, by omega, npl, fun a H2 a0 a1 W2 g2 => ⟨_, _, rfl, rfl, ?_⟩⟩
      rw [e12]
      exact k _ H2 (by omega) (W2.more (by omega)) (g1.trans' g2)
    refine ⟨_, rfl, rfl, _, rfl, ite2 (fun _ => ?_) (fun _ => ?_)⟩
    · refine ⟨_, rfl, p, l, ns, n + 1, 3, rfl, by decide, cdw (by decide) (by decide), W1, by omega, npl, fun a H2 a0 a1 W2 g2 => ⟨_, _, rfl, rfl, cp, _, _, rfl, rfl, ?_⟩⟩
      rw [e12]
      exact k _ H2 (by omega) (W2.more (by omega)) (g1.trans' g2)
    refine ⟨_, rfl, rfl, _, rfl, ite2 (fun _ => ?_) (fun _ => ?_)⟩
    · refine ⟨_, rfl, p, l, ns, n + 1, 2000000000001, rfl, by decide, cdw (by decide) (by decide), W1, by omega, npl, fun a H2 a0 a1 W2 g2 => ⟨_, _, rfl, rfl, cp, _, _, rfl, rfl, ?_⟩⟩
      rw [e12]
      exact k _ H2 (by omega) (W2.more (by omega)) (g1.trans' g2)
    · refine ⟨_, rfl, p, l, ns, n + 1, 19, rfl, by decide, cdw (by decide) (by decide), W1, by omega, npl, fun a H2 a0 a1 W2 g2 => ⟨_, _, rfl, rfl, ?_⟩⟩
      exact k _ H2 (by omega) (W2.more (by omega)) (g1.trans' g2)
end
end J1
set_option Elab.async false
set_option linter.all false
set_option maxRecDepth 100000
set_option maxHeartbeats 4000000
namespace J1
open PySem PySem.Spec PyProof.Rows L2 GxR GA ZS RZ
abbrev lMs : Stmt := top 77
theorem cMs : FnScope ["_law_well_here", "_law_kinds_here", "_law_count", "_law_owners", "_law_n", "_law_measures_here", "_law_owner", "_law_rows", "_law_maker", "_law_fields", "_law_name_here", "_law_makers", "_law_terms", "_law_f", "_law_number_here", "_law_const"] ["_law_well_here", "_law_kinds_here"] (defScope lMs) := ⟨rfl, rfl, rfl, by decide +kernel, rfl, by decide +kernel, by decide +kernel⟩
def rLen (K : PySem.W.Frag) : List V → Hp → VK → Prop := fun xs H Q => ∃ p ys, xs = [V.ref p] ∧ (SqL K H p ys ∨ SqT K H p ys) ∧ Q (V.int (ys.length : Nat)) H
theorem prLt_of {a b : Pr} (h : a.1 < b.1 ∨ (a.1 = b.1 ∧ a.2 < b.2)) : prLt a b := by
  show (if a.1 = b.1 then (if a.2 = b.2 then HT.lexLt [] [] else decide (a.2 < b.2)) else decide (a.1 < b.1)) = true
  rcases h with h | ⟨h, g⟩
  · rw [if_neg (by omega), decide_eq_true h]
  · rw [if_pos h, if_neg (by omega), decide_eq_true g]
structure NSt (H Hc : Hp) (p l O Z : Addr) (ns : List Int) (n : Nat) (own : List Str) (mss : List Ms1) : Prop where
  w : Wl Hc p l ns n
  o : Hc O = some (.lst (own.map V.str))
  z : ∃ xs, Hc Z = some (.lst xs) ∧ EncsT Hc (mss.map msD) xs
  g : GrowW p H Hc
section
variable {H Hc H' : Hp} {p l O Z : Addr} {ns : List Int} {n n' : Nat} {own : List Str} {mss : List Ms1}
theorem NSt.grow (S : NSt H Hc p l O Z ns n own mss) (g : Grow Hc H') (h : n ≤ n') : NSt H H' p l O Z ns n' own mss := by
  obtain ⟨xs, h1, h2⟩ := S.z
  exact ⟨(S.w.grow g).more h, g.lst S.o, ⟨xs, g.lst h1, h2.grow g⟩, S.g.trans' g.w⟩
theorem NSt.gw (S : NSt H Hc p l O Z ns n own mss) (g : GrowW p Hc H') (w : Wl H' p l ns n') (a : O ≠ p) (b : Z ≠ p) : NSt H H' p l O Z ns n' own mss := by
  obtain ⟨xs, h1, h2⟩ := S.z
  obtain ⟨ys, hy⟩ := S.w.pl
  exact ⟨w, g.lst a S.o, ⟨xs, g.lst b h1, h2.gw g hy⟩, S.g.trans' g⟩
theorem NSt.put (S : NSt H Hc p l O Z ns n own mss) {q : Addr} {o : HO} (h0 : H q = none) {zs : List V} (hq : Hc q = some (.lst zs)) (a : q ≠ p) (a' : q ≠ l) (b : q ≠ O) (c : q ≠ Z) : NSt H (L2.upd Hc q o) p l O Z ns n own mss := by
  obtain ⟨xs, h1, h2⟩ := S.z
  exact ⟨S.w.upd a a', by rw [upd_ne b.symm]; exact S.o, ⟨xs, by rw [upd_ne c.symm]; exact h1, h2.growW GrowW.upd (fun z => z) (noTup hq)⟩, S.g.but h0⟩
theorem NSt.more (S : NSt H Hc p l O Z ns n own mss) (h : n ≤ n') : NSt H Hc p l O Z ns n' own mss := ⟨S.w.more h, S.o, S.z, S.g⟩
end
def MsB (kn : List Str) (ks : List Kd1) (m : Ms1) : Prop := ∃ k ∈ ks, k.1 = m.1 ∧ m.2.length = k.2.length ∧ ∀ (i : Nat) (r : Row1) (mk : Mk1), m.2[i]? = some r → k.2[i]? = some mk → RowOk kn mk.2 r
def spMs : Sp := fun vs H Q _ => ∃ (p l : Addr) (ns : List Int) (n : Nat) (x : V) (ks : List Kd1), vs = [.ref p, x] ∧ Wl H p l ns n ∧ p ≠ l ∧ EncT H (ksD ks) x ∧ KdsOk ks ∧ 1 ≤ ks.length ∧ ks.length ≤ 3 ∧ (∀ k ∈ ks, KdB (ks.map (·.1)) k) ∧ n + 20000 ≤ 1000000000000000000000000000000 ∧
  ∀ (y : V) (mss : List Ms1) (H' : Hp), EncT H' (mssD mss) y → MsOk ks mss → Wl H' p l ns (n + 20000) → GrowW p H H' → Q y H'
section
variable {P : Program} {w : World} {K : PySem.W.Frag} {mg : Str → Option Value} {base : Heap}
theorem ok_ms {f fD fF fT : Addr} {fd fdD fdF fdT : FuncData} (F : Fun K "_law_measures" "_law_measures" lMs f fd) (M : Gd mg) (GD : FnOk P w K mg base CX0 1 fD fdD ["_law_well_here", "_law_many"] spDr) (DD : Df K mg "_law_draw" ["_law_well_here", "_law_many"] fD fdD)
    (GF : FnOk P w K mg base CX0 1 fF fdF ["_law_kinds_here", "_law_number_here", "_law_kind"] spFt) (DF : Df K mg "_law_fits" ["_law_kinds_here", "_law_number_here", "_law_kind"] fF fdF)
    (GT : FnOk P w K mg base CX0 2 fT fdT ["_law_well_here"] spTi) (DT : Df K mg "_law_times" ["_law_well_here"] fT fdT) :
    FnOk P w K mg base CX0 3 f fd ["_law_well_here", "_law_kinds_here"] spMs := by
  refine F.ok (k := 2) cMs (fun vs H Q E h => ?_) (fun cdv A outer s H vs Q E hr h => ?_)
  · obtain ⟨_, _, _, _, _, _, rfl, _⟩ := h
    rfl
  · obtain ⟨p, l, ns, n, x, ks, rfl, W, npl, ek, ok, k1, k3, kb, hn, k⟩ := h
    refine ⟨_, (pss_cons (ps_set (i := 2) cMs.nd rfl (Or.inl rfl) (pe_ix ix_list (pe_lst (pa_cons (pe_call (GD.mono (by decide)) hr (by rfl) DD.g DD.k DD.b .nil pass0 (pa_cons (pv 0) (pa_cons pe_int pa_nil))) (pa_cons pe_int pa_nil))) (pe_callTy call_int1 (by rfl) M.int (by decide +kernel) (pa_cons (pe_cmpR op_eq (pe_call (GD.mono (by decide)) hr (by rfl) DD.g DD.k DD.b .nil pass0 (pa_cons (pv 0) (pa_cons pe_int pa_nil))) pe_int (nomark _)) pa_nil)) (fun _ _ => rfl))) (pss_cons (ps_setLc (i := 3) (own := [("_law_n", 4)]) (g := gName 4) (tt := tYes) (by rfl) cMs.nd rfl rfl (sw_true rfl rfl rfl (by decide +kernel)) (pi_range1 (by rfl) M.range (pa_cons (pv 2) pa_nil)) (blkOk_by (own := [("_law_n", 4)]) (N := ["_law_well_here", "_law_kinds_here", "_law_count", "_law_owners", "_law_n", "_law_measures_here", "_law_owner", "_law_rows", "_law_maker", "_law_fields", "_law_name_here", "_law_makers", "_law_terms", "_law_f", "_law_number_here", "_law_const"]) (sc := defScope lMs) (by decide +kernel)) (fun _ _ _ _ _ => (pg_name (i := 4) cMs.nd rfl (Or.inl rfl))) (fun _ _ _ _ _ => pts_nil) (fun _ _ _ _ _ => (pe_ix (r := rIxT K) ix_tup (pe_ix (r := rIxT K) ix_tup (pv 1) (pe_call (GD.mono (by decide)) hr (by rfl) DD.g DD.k DD.b .nil pass0 (pa_cons (pv 0) (pa_cons (pe_callB (r := rLen K) call_len_seq (by rfl) M.len PySem.boot_len (pa_cons (pv 1) pa_nil)) pa_nil))) (fun _ _ => rfl)) pe_int (fun _ _ => rfl)))) (pss_cons (ps_set (i := 5) cMs.nd rfl (Or.inl rfl) (pe_lst pa_nil)) (pss_cons (ps_for PassesOwn.never rfl (pi_list (pv 3)) (pg_name (i := 6) cMs.nd rfl (Or.inr rfl)) (pss_cons (ps_set (i := 7) cMs.nd rfl (Or.inl rfl) (pe_lst pa_nil)) (pss_cons (ps_for PassesOwn.never rfl (pi_tup (pe_ix ix_list (pe_lc (own := [("_law_name_here", 10), ("_law_makers", 11)]) (g := gTup K 2 (gCons (gName 10) (gCons (gName 11) gNil))) (by rfl) cMs.nd (pi_tup (pv 1)) (blkOk_by (own := [("_law_name_here", 10), ("_law_makers", 11)]) (N := ["_law_well_here", "_law_kinds_here", "_law_count", "_law_owners", "_law_n", "_law_measures_here", "_law_owner", "_law_rows", "_law_maker", "_law_fields", "_law_name_here", "_law_makers", "_law_terms", "_law_f", "_law_number_here", "_law_const"]) (sc := defScope lMs) (by decide +kernel)) (fun _ _ _ _ _ => (pg_tup (by rfl) (pgs_cons (pg_name (i := 10) cMs.nd rfl (Or.inl rfl)) (pgs_cons (pg_name (i := 11) cMs.nd rfl (Or.inl rfl)) pgs_nil)))) (fun _ _ _ _ _ => (pts_one (pt_cmpR op_eq (pv 10) (pv 6) (nomark _)))) (fun _ _ _ _ _ => (pv 11))) pe_int (fun _ _ => rfl))) (pg_tup (by rfl) (pgs_cons (pg_name (i := 8) cMs.nd rfl (Or.inl rfl)) (pgs_cons (pg_name (i := 9) cMs.nd rfl (Or.inl rfl)) pgs_nil))) (pss_cons (ps_set (i := 12) cMs.nd rfl (Or.inl rfl) (pe_lst pa_nil)) (pss_cons (ps_for PassesOwn.never rfl (pi_range1 (by rfl) M.range (pa_cons (pe_callB call_len_seq (by rfl) M.len PySem.boot_len (pa_cons (pv 9) pa_nil)) pa_nil)) (pg_name (i := 13) cMs.nd rfl (Or.inl rfl)) (pss_one (ps_for PassesOwn.never rfl (pi_range1 (by rfl) M.range (pa_cons (pe_op op_add (pv 2) pe_int) pa_nil)) (pg_name (i := 14) cMs.nd rfl (Or.inl rfl)) (pss_one (ps_if (PW.pt (pw_and (pt_val (pe_call (GF.mono (by decide)) hr (by rfl) DF.g DF.k DF.b .nil pass0 (pa_cons (pv 3) (pa_cons (pv 14) (pa_cons (pe_ix ix_tup (pv 9) (pv 13) (fun _ _ => rfl)) pa_nil))))) (pw_and (pt_cmpR op_eq (pe_call (GD.mono (by decide)) hr (by rfl) DD.g DD.k DD.b .nil pass0 (pa_cons (pv 0) (pa_cons pe_int pa_nil))) pe_int (nomark _)) (pw_and1 (pt_cmpR op_lt (pe_callB call_len_seq (by rfl) M.len PySem.boot_len (pa_cons (pv 12) pa_nil)) pe_int (nomark _)))))) (pss_one (ps_expr (pe_bm PySem.F.plainAttrs_list PySem.F.slot_list_append PySem.F.type_list_append mt_append (pv 12) (pa_cons (pe_tup (pa_cons (pv 13) (pa_cons (pv 14) (pa_cons (pe_call (GT.mono (by decide)) hr (by rfl) DT.g DT.k DT.b .nil pass0 (pa_cons (pv 0) pa_nil)) pa_nil)))) pa_nil)))) pss_nil))))) (pss_cons (ps_set (i := 15) cMs.nd rfl (Or.inl rfl) (pe_ix ix_list (pe_lst (pa_cons (pe_op op_sub (pe_call (GD.mono (by decide)) hr (by rfl) DD.g DD.k DD.b .nil pass0 (pa_cons (pv 0) (pa_cons pe_int pa_nil))) pe_int) (pa_cons (pe_op op_sub (pe_op op_pow pe_int pe_int) (pe_op op_mul (pe_op op_mul pe_int (pe_op op_pow pe_int pe_int)) (pe_call (GD.mono (by decide)) hr (by rfl) DD.g DD.k DD.b .nil pass0 (pa_cons (pv 0) (pa_cons pe_int pa_nil))))) pa_nil))) (pe_callTy call_int1 (by rfl) M.int (by decide +kernel) (pa_cons (pe_cmpR op_eq (pe_call (GD.mono (by decide)) hr (by rfl) DD.g DD.k DD.b .nil pass0 (pa_cons (pv 0) (pa_cons pe_int pa_nil))) pe_int (nomark _)) pa_nil)) (fun _ _ => rfl))) (pss_one (ps_expr (pe_bm PySem.F.plainAttrs_list PySem.F.slot_list_append PySem.F.type_list_append mt_append (pv 7) (pa_cons (pe_tup (pa_cons (pv 15) (pa_cons (pe_callTy call_tuple_of (by rfl) M.tuple (by decide +kernel) (pa_cons (pv 12) pa_nil)) pa_nil))) pa_nil)))))))) (pss_one (ps_expr (pe_bm PySem.F.plainAttrs_list PySem.F.slot_list_append PySem.F.type_list_append mt_append (pv 5) (pa_cons (pe_tup (pa_cons (pv 6) (pa_cons (pe_callTy call_tuple_of (by rfl) M.tuple (by decide +kernel) (pa_cons (pv 7) pa_nil)) pa_nil))) pa_nil))))))) (pss_one (ps_ret (pe_callTy call_tuple_of (by rfl) M.tuple (by decide +kernel) (pa_cons (pv 5) pa_nil)))))))), ?_⟩
    obtain ⟨yp, hyp⟩ := W.pl
    have ek0 := ek
    cases ek with
    | @tup xk xs _ hx es =>
    have hl := es.length
    rw [List.length_map] at hl
    refine ⟨_, rfl, p, l, ns, n, 5, rfl, by decide, cdw (by decide) (by decide), W, by omega, npl, fun a H1 a0 a1 W1 g1 => ⟨(by show 2 ≤ sizeLine; decide), fun q hq => ?_⟩⟩
    have gq := Grow.new (o := .lst [.int a, .int 12]) hq
    have nqp := (W1.np hq).1
    refine ⟨_, rfl, p, l, ns, n + 1, 9, rfl, by decide, cdw (by decide) (by decide), W1.grow gq, by omega, npl, fun b H2 b0 b1 W2 g2 => ?_⟩
    obtain ⟨c, hc12, hat⟩ : ∃ c : Nat, c ≤ 12 ∧ atI [V.int a, V.int 12] (if decide (V.int b = V.int 0) = true then (1 : Int) else 0) = some (V.int (c : Nat)) := by
      by_cases hb : b = 0
      · exact ⟨12, by decide, by rw [hb]; rfl⟩
      · refine ⟨a.toNat, by omega, ?_⟩
        rw [if_neg (fun z => hb (V.int.inj (of_decide_eq_true z)))]
        show some (V.int a) = _
        rw [show a = ((a.toNat : Nat) : Int) by omega]
        rfl
    refine ⟨rfl, .inr ⟨_, rfl, q, _, _, _, rfl, rfl, SqL.of (g2.lst nqp upd_same), hat, ?_⟩⟩
    have gA := (g1.trans' gq.w).trans' g2
    -- the owners
    refine ⟨_, rfl, _, rfl, Int.le_trans (by decide) (Int.natCast_nonneg c), Int.lt_of_lt_of_le (by omega : ((c : Nat) : Int) < 13) (by decide), fun O hO => ?_⟩
    rw [Int.toNat_natCast]
    have nOp := (W2.np hO).1
    have nOl := (W2.np hO).2
    have hO0 := gA.none' nOp hO
    have kO := Grow.new (o := .lst []) hO
    refine lc_range (n := c) (fun i Hc => ∃ own : List Str, own.length = i ∧ Hc O = some (.lst (own.map V.str)) ∧ (∀ o ∈ own, ∃ kd ∈ ks, kd.1 = o) ∧ Wl Hc p l ns (n + 2 + i) ∧ GrowW p H Hc)
      ⟨[], rfl, upd_same, fun o h => (nomatch h), W2.grow kO, gA.trans' kO.w⟩ (fun i Hc hi hp => ?_) (fun H3 hp => ?_)
    · obtain ⟨own, hol, hOc, hall, Wc, gc⟩ := hp
      have hxc := gc.tup hyp hx
      refine ⟨wipe_set, ?_⟩
      unfold tYes
      refine iteT ⟨_, rfl, _, rfl, _, rfl, xk, _, rfl, .inr (SqT.of hxc), p, l, ns, n + 2 + i, ((xs.length : Nat) : Int), rfl, by omega, cdw (by omega) (Nat.lt_of_lt_of_le (show (((xs.length : Nat) : Int)).natAbs < 8 by omega) (by decide)), Wc, by omega, npl, fun d H4 d0 d1 W4 g4 => ?_⟩
      obtain ⟨d, rfl⟩ : ∃ j : Nat, d = (j : Int) := ⟨d.toNat, by omega⟩
      have hd : d < xs.length := by omega
      obtain ⟨d1', hd1', ez⟩ := es.get (List.getElem?_eq_getElem hd)
      obtain ⟨kd, hkd, rfl⟩ := map_get hd1'
      have g04 := gc.trans' g4
      have hx4 := g04.tup hyp hx
      have ez := ez.gw g04 hyp
      generalize hxd : xs[d] = xd at ez
      cases ez with
      | @tup bb us _ hb eb =>
      cases eb with
      | @cons _ u0 _ _ f0 eb =>
      cases eb with
      | @cons _ u1 _ _ f1 eb =>
      cases eb
      cases f0
      refine ⟨xk, _, _, _, rfl, rfl, SqT.of hx4, at_g (j := d) rfl (by rw [List.getElem?_eq_getElem hd, hxd]), bb, _, _, _, rfl, rfl, SqT.of hb, at_of (j := 0) rfl rfl, _, g4.lst nOp hOc, ?_, own ++ [kd.1], by rw [List.length_append, hol]; rfl, by rw [upd_same, List.map_append]; rfl, fun o h => ?_, (W4.upd nOp nOl).more (by omega), g04.but hO0⟩
      · rw [List.length_map, hol, sizeLine_eq]
        omega
      · rcases List.mem_append.mp h with h | h
        · exact hall o h
        · rw [List.mem_singleton.mp h]
          exact ⟨kd, List.mem_of_getElem? hkd, rfl⟩
    · obtain ⟨own, hol, hO3, hown, W3, g3⟩ := hp
      refine ⟨Nat.zero_le _, fun Z hZ => ?_⟩
      have nZp := (W3.np hZ).1
      have nZl := (W3.np hZ).2
      have nZO : Z ≠ O := fun z => by rw [z, hO3] at hZ; cases hZ
      have hZ0 := g3.none' nZp hZ
      have kZ := Grow.new (o := .lst []) hZ
      refine ⟨_, rfl, O, rfl, ⟨_, SqL.of (kZ.lst hO3)⟩, ?_⟩
      refine for_list (K := K) (xs := own.map V.str) (fun i σ' Hc => ∃ v6 v7 v8 v9 v12 v13 v14 v15, ∃ mss : List Ms1, σ' = [some (.ref p), some (.ref xk), some (.int (c : Nat)), some (.ref O), none, some (.ref Z), v6, v7, v8, v9, none, none, v12, v13, v14, v15] ∧ mss.map (·.1) = own.take i ∧ (∀ m ∈ mss, MsB ("whole" :: own) ks m) ∧ NSt H Hc p l O Z ns (n + 20 + 1500 * i) own mss)
        ⟨_, _, _, _, _, _, _, _, [], rfl, rfl, fun m h => (nomatch h), ⟨(W3.grow kZ).more (by omega), kZ.lst hO3, ⟨[], upd_same, .nil⟩, g3.trans' kZ.w⟩⟩ (fun i σ' Hc _ hp => ?_) (fun i z σ' Hc hz hp => ?_) (fun σ' Hc hp => ?_)
      · obtain ⟨_, _, _, _, _, _, _, _, _, _, _, _, S⟩ := hp
        exact SqL.of S.o
      · obtain ⟨v6, v7, v8, v9, v12, v13, v14, v15, mss, rfl, hms, hmb, S⟩ := hp
        obtain ⟨nm, hnm, rfl⟩ : ∃ nm, own[i]? = some nm ∧ z = .str nm := by
          rw [List.getElem?_map] at hz
          cases e : own[i]? with
          | none => rw [e] at hz; cases hz
          | some x => rw [e] at hz; cases hz; exact ⟨x, rfl, rfl⟩
        have hic := (List.getElem?_eq_some_iff.mp hnm).1
        obtain ⟨kd, hkd, hkn⟩ := hown nm (List.mem_of_getElem? hnm)
        refine ⟨Nat.zero_le _, fun R hR => ?_⟩
        have nRp := (S.w.np hR).1
        have nRl := (S.w.np hR).2
        have nRO : R ≠ O := fun z => by rw [z, S.o] at hR; cases hR
        have nRZ : R ≠ Z := fun z => by rw [z, S.z.choose_spec.1] at hR; cases hR
        have hR0 := S.g.none' nRp hR
        have kR := Grow.new (o := .lst []) hR
        have S1 := S.grow kR (Nat.le_refl _)
        have hR1 := upd_same (H := Hc) (a := R) (o := .lst [])
        generalize L2.upd Hc R (.lst []) = H4 at S1 hR1 ⊢
        have hx4 := S1.g.tup hyp hx
        refine ⟨_, rfl, xk, rfl, ⟨_, SqT.of hx4⟩, fun D hD => ?_⟩
        have kD := Grow.new (o := .lst []) hD
        refine lc_tup (K := K) (xs := xs) (fun j Hx => ∃ (sel : List Kd1) (zs : List V), Hx D = some (.lst zs) ∧ EncsT H (sel.map fun k => mksD k.2) zs ∧ (∀ k ∈ sel, k ∈ ks ∧ k.1 = nm) ∧ ((∃ k ∈ ks.take j, k.1 = nm) → sel ≠ []) ∧ zs.length ≤ j ∧ Grow H4 Hx) ⟨[], [], upd_same, .nil, fun k h => (nomatch h), fun ⟨k, h, _⟩ => (nomatch h), Nat.le_refl _, kD⟩ (fun j Hx _ hp => SqT.of (hp.choose_spec.choose_spec.2.2.2.2.2.tup hx4)) (fun j y Hx hy hp => ?_) (fun Hx hp => ?_)
        · obtain ⟨sel, zs, hacc, ez, hsel, hne, hzl, gx⟩ := hp
          obtain ⟨d1, hd1, ey⟩ := es.get hy
          obtain ⟨kj, hkj, rfl⟩ := map_get hd1
          have hj := (List.getElem?_eq_some_iff.mp hkj).1
          cases ey with
          | @tup bb us _ hb eb =>
          cases eb with
          | @cons _ u0 _ _ f0 eb =>
          cases eb with
          | @cons _ u1 _ _ f1 eb =>
          cases eb
          cases f0
          refine ⟨bb, _, rfl, SqT.of (gx.tup (S1.g.tup hyp hb)), rfl, _, _, rfl, _, _, rfl, rfl, rfl, ?_⟩
          refine ⟨_, rfl, _, rfl, rfl, _, rfl, ?_⟩
          by_cases hk : kj.1 = nm
          · refine ifT (congrArg V.str hk) ⟨_, rfl, _, hacc, by rw [sizeLine_eq]; omega, sel ++ [kj], zs ++ [u1], upd_same, ?_, fun k h => ?_, fun _ => by simp, by rw [List.length_append]; show zs.length + 1 ≤ _; omega, gx.upd' hD⟩
            · rw [List.map_append]
              exact encs_push ez f1
            · rcases List.mem_append.mp h with h | h
              · exact hsel k h
              · rw [List.mem_singleton.mp h]; exact ⟨List.mem_of_getElem? hkj, hk⟩
          · refine ifF (fun z => hk (V.str.inj z)) ⟨sel, zs, hacc, ez, hsel, fun ⟨k, h, e⟩ => ?_, by omega, gx⟩
            rw [List.take_succ, hkj] at h
            rcases List.mem_append.mp h with h | h
            · exact hne ⟨k, h, e⟩
            · have : k = kj := by simpa using h
              rw [this] at e
              exact absurd e hk
        · obtain ⟨sel, zs, hacc, ez, hsel, hne, hzl, gx⟩ := hp
          rw [← hl, List.take_length] at hne
          have hne := hne ⟨kd, hkd, hkn⟩
          obtain ⟨k0, sel', rfl⟩ := List.exists_cons_of_ne_nil hne
          cases ez with
          | @cons _ z0 _ zs' ez0 _ =>
          obtain ⟨hk0, hk0n⟩ := hsel k0 List.mem_cons_self
          have S2 := S1.grow gx (Nat.le_refl _)
          have hR2 := gx.lst hR1
          cases ez0 with
          | @tup am xm _ ham em =>
          have hml := em.length
          rw [List.length_map] at hml
          have hkb := kb k0 hk0
          refine ⟨D, _, _, _, rfl, rfl, SqL.of hacc, at_of (j := 0) rfl rfl, am, rfl, ⟨_, SqT.of (S2.g.tup hyp ham)⟩, ?_⟩
          refine for_tup (K := K) (xs := xm) (fun j σ' Hc => ∃ v8 v9 v12 v13 v14 v15, ∃ (rs : List Row1) (xr : List V), σ' = [some (.ref p), some (.ref xk), some (.int (c : Nat)), some (.ref O), none, some (.ref Z), some (.str nm), some (.ref R), v8, v9, none, none, v12, v13, v14, v15] ∧ rs.length = j ∧ Hc R = some (.lst xr) ∧ EncsT Hc (rs.map rowD) xr ∧ (∀ (a : Nat) (r : Row1) (mk : Mk1), rs[a]? = some r → k0.2[a]? = some mk → RowOk ("whole" :: own) mk.2 r) ∧ NSt H Hc p l O Z ns (n + 20 + 1500 * i + 450 * j) own mss)
            ⟨_, _, _, _, _, _, [], [], rfl, rfl, hR2, .nil, fun a r mk h => (nomatch h), S2⟩ (fun j σ' Hc _ hp => ?_) (fun j y σ' Hc hy hp => ?_) (fun σ' Hc hp => ?_)
          · obtain ⟨_, _, _, _, _, _, _, _, _, _, _, _, _, S⟩ := hp
            exact SqT.of (S.g.tup hyp ham)
          · obtain ⟨v8, v9, v12, v13, v14, v15, rs, xr, rfl, hrs, hRc, er, hrow, S⟩ := hp
            obtain ⟨d2, hd2, ey⟩ := em.get hy
            obtain ⟨mk, hmk, rfl⟩ := map_get hd2
            have hmkb := (hkb.2.2.1 mk (List.mem_of_getElem? hmk)).1
            have hj3 : j < 3 := by
              have := (List.getElem?_eq_some_iff.mp hmk).1
              have := hkb.2.1
              omega
            cases ey with
            | @tup bb us _ hb eb =>
            cases eb with
            | @cons _ u0 _ _ f0 eb =>
            cases eb with
            | @cons _ u1 _ _ f1 eb =>
            cases eb
            cases f0
            cases f1 with
            | @tup af xf _ haf ef =>
            have exf := strs_vals ef
            subst exf
            refine ⟨bb, _, rfl, SqT.of (S.g.tup hyp hb), rfl, _, _, rfl, _, _, rfl, rfl, ?_⟩
            refine ⟨Nat.zero_le _, fun T hT => ?_⟩
            have nTp := (S.w.np hT).1
            have nTl := (S.w.np hT).2
            have nTO : T ≠ O := fun z => by rw [z, S.o] at hT; cases hT
            have nTZ : T ≠ Z := fun z => by rw [z, S.z.choose_spec.1] at hT; cases hT
            have nTR : T ≠ R := fun z => by rw [z, hRc] at hT; cases hT
            have hT0 := S.g.none' nTp hT
            have kT := Grow.new (o := .lst []) hT
            have S3 := S.grow kT (Nat.le_refl _)
            have hT3 := upd_same (H := Hc) (a := T) (o := .lst [])
            have hR3 := kT.lst hRc
            have er3 := er.grow kT
            have haf3 := S3.g.tup hyp haf
            generalize L2.upd Hc T (.lst []) = H5 at S3 hT3 hR3 er3 haf3 ⊢
            refine ⟨_, rfl, af, _, rfl, .inr (SqT.of haf3), _, rfl, Int.le_trans (by decide) (Int.natCast_nonneg _), Int.lt_of_lt_of_le (by rw [List.length_map]; omega : (((mk.2.map V.str).length : Nat) : Int) < 6) (by decide), ?_⟩
            rw [Int.toNat_natCast, List.length_map]
            refine for_range (n := mk.2.length) (fun fi σ' Hc => ∃ v13 v14 v15, ∃ (ts : List Tm) (xt : List V), σ' = [some (.ref p), some (.ref xk), some (.int (c : Nat)), some (.ref O), none, some (.ref Z), some (.str nm), some (.ref R), some (.str mk.1), some (.ref af), none, none, some (.ref T), v13, v14, v15] ∧ ts.length ≤ 5 ∧ Hc T = some (.lst xt) ∧ EncsT Hc (ts.map tmD) xt ∧ Hc R = some (.lst xr) ∧ EncsT Hc (rs.map rowD) xr ∧ (∀ t ∈ ts, TmOk ("whole" :: own) mk.2 t ∧ t.1 < fi) ∧ (ts.map prT).Pairwise prLt ∧ NSt H Hc p l O Z ns (n + 20 + 1500 * i + 450 * j + 140 * fi) own mss)
              ⟨_, _, _, [], [], rfl, Nat.zero_le _, hT3, .nil, hR3, er3, fun t h => (nomatch h), .nil, S3⟩ (fun fi σ' Hc hfi hp => ?_) (fun σ' Hc hp => ?_)
            · obtain ⟨v13, v14, v15, ts, xt, rfl, h5, hTc, et, hRc, er, hts, hpw, S⟩ := hp
              have eT : (((c : Nat) : Int) + 1).toNat = c + 1 := by omega
              refine ⟨_, rfl, _, _, rfl, rfl, _, rfl, Int.le_trans (by decide) (by omega : (0 : Int) ≤ ((c : Nat) : Int) + 1), Int.lt_of_lt_of_le (by omega : ((c : Nat) : Int) + 1 < 14) (by decide), ?_⟩
              rw [eT]
              refine for_range (n := c + 1) (fun nu σ' Hc => ∃ v14 v15, ∃ (ts : List Tm) (xt : List V), σ' = [some (.ref p), some (.ref xk), some (.int (c : Nat)), some (.ref O), none, some (.ref Z), some (.str nm), some (.ref R), some (.str mk.1), some (.ref af), none, none, some (.ref T), some (.int ((0 : Int) + (fi : Nat))), v14, v15] ∧ ts.length ≤ 5 ∧ Hc T = some (.lst xt) ∧ EncsT Hc (ts.map tmD) xt ∧ Hc R = some (.lst xr) ∧ EncsT Hc (rs.map rowD) xr ∧ (∀ t ∈ ts, TmOk ("whole" :: own) mk.2 t ∧ (t.1 < fi ∨ (t.1 = fi ∧ t.2.1 < nu))) ∧ (ts.map prT).Pairwise prLt ∧ NSt H Hc p l O Z ns (n + 20 + 1500 * i + 450 * j + 140 * fi + 10 * nu) own mss)
                ⟨_, _, ts, xt, rfl, h5, hTc, et, hRc, er, fun t h => ⟨(hts t h).1, .inl (hts t h).2⟩, hpw, S⟩ (fun nu σ' Hc hnu hp => ?_) (fun σ' Hc hp => ?_)
              · obtain ⟨v14, v15, ts, xt, rfl, h5, hTc, et, hRc, er, hts, hpw, S⟩ := hp
                obtain ⟨yp1, hyp1⟩ := S.w.pl
                obtain ⟨fld, hfld⟩ : ∃ fld, mk.2[fi]? = some fld := ⟨_, List.getElem?_eq_getElem hfi⟩
                have ez0 : ((0 : Int) + (nu : Nat)) = (nu : Nat) := by omega
                refine ⟨_, rfl, _, rfl, _, rfl, _, rfl, af, _, _, _, rfl, rfl, SqT.of (S.g.tup hyp haf), at_g (j := fi) (by omega) (by rw [List.getElem?_map, hfld]; rfl), O, own, nu, fld, by rw [ez0]; rfl, S.o, by omega, ?_⟩
                refine ⟨_, rfl, ?_⟩
                by_cases hfit : (("whole" : Str) :: own)[nu]? = some fld
                · refine ifT hfit ⟨_, rfl, p, l, ns, _, 2, rfl, by decide, cdw (by decide) (by decide), S.w, by omega, npl, fun r H6 r0 r1 W6 g6 => ⟨rfl, _, rfl, ?_⟩⟩
                  have S6 := S.gw g6 W6 nOp nZp
                  have hT6 := g6.lst nTp hTc
                  have hR6 := g6.lst nRp hRc
                  have et6 := et.gw g6 hyp1
                  have er6 := er.gw g6 hyp1
                  obtain ⟨yp2, hyp2⟩ := S6.w.pl
                  have htl := et.length
                  rw [List.length_map] at htl
                  refine ite2 (fun _ => ?_) (fun _ => iteF ⟨_, _, ts, xt, rfl, h5, hT6, et6, hR6, er6, fun t h => ⟨(hts t h).1, by have := (hts t h).2; omega⟩, hpw, S6.more (by omega)⟩)
                  refine ⟨_, rfl, T, _, rfl, .inl (SqL.of hT6), _, _, rfl, rfl, _, rfl, ?_⟩
                  by_cases h4 : ts.length < 5
                  · refine ifT (by omega) ⟨_, rfl, .inl ⟨rfl, _, SqL.of hT6⟩, _, rfl, _, rfl, _, rfl, p, l, ns, _, rfl, S6.w, npl, by omega, fun cf H7 c0 cb W7 g7 => ⟨(by show 3 ≤ sizeLine; decide), fun u hu => ?_⟩⟩
                    have S7 := S6.gw g7 W7 nOp nZp
                    have hT7 := g7.lst nTp hT6
                    have hR7 := g7.lst nRp hR6
                    have et7 := et6.gw g7 hyp2
                    have er7 := er6.gw g7 hyp2
                    have ku := Grow.new (o := .tup [.int ((0 : Int) + (fi : Nat)), .int ((0 : Int) + (nu : Nat)), .int cf]) hu
                    have S8 := S7.grow ku (Nat.le_refl _)
                    have hT8 := ku.lst hT7
                    have hR8 := ku.lst hR7
                    have et8 := et7.grow ku
                    have er8 := er7.grow ku
                    have ew : EncT (L2.upd H7 u (.tup [.int ((0 : Int) + (fi : Nat)), .int ((0 : Int) + (nu : Nat)), .int cf])) (tmD (fi, nu, cf)) (.ref u) := by
                      have h0 := upd_same (H := H7) (a := u) (o := .tup [.int ((0 : Int) + (fi : Nat)), .int ((0 : Int) + (nu : Nat)), .int cf])
                      rw [show ((0 : Int) + (fi : Nat)) = (fi : Nat) by omega, ez0] at h0 ⊢
                      exact .tup h0 (.cons (.int _) (.cons (.int _) (.cons (.int _) .nil)))
                    generalize L2.upd H7 u (.tup [.int ((0 : Int) + (fi : Nat)), .int ((0 : Int) + (nu : Nat)), .int cf]) = H8 at S8 hT8 hR8 et8 er8 ew ⊢
                    refine ⟨T, _, _, rfl, rfl, hT8, by rw [sizeLine_eq]; omega, ?_⟩
                    refine ⟨_, _, ts ++ [(fi, nu, cf)], xt ++ [.ref u], rfl, by rw [List.length_append]; show ts.length + 1 ≤ 5; omega, upd_same, ?_, by rw [upd_ne nTR.symm]; exact hR8, er8.growW GrowW.upd (fun z => z) (noTup hT8), fun t h => ?_, ?_, (S8.put hT0 hT8 nTp nTl nTO nTZ).more (by omega)⟩
                    · rw [List.map_append]
                      exact (encs_push et8 ew).growW GrowW.upd (fun z => z) (noTup hT8)
                    · rcases List.mem_append.mp h with h | h
                      · exact ⟨(hts t h).1, by have := (hts t h).2; omega⟩
                      · rw [List.mem_singleton.mp h]
                        exact ⟨⟨⟨fld, hfit, hfld⟩, c0, cb⟩, .inr ⟨rfl, Nat.lt_succ_self nu⟩⟩
                    · rw [List.map_append, List.pairwise_append]
                      refine ⟨hpw, List.pairwise_singleton _ _, fun a ha b hb => ?_⟩
                      obtain ⟨t, ht, rfl⟩ := List.mem_map.mp ha
                      have hb : b = prT (fi, nu, cf) := by simpa using hb
                      rw [hb]
                      refine prLt_of ?_
                      have := (hts t ht).2
                      show ((t.1 : Nat) : Int) < ((fi : Nat) : Int) ∨ (((t.1 : Nat) : Int) = ((fi : Nat) : Int) ∧ ((t.2.1 : Nat) : Int) < ((nu : Nat) : Int))
                      omega
                  · refine ifF (by omega) ⟨_, _, ts, xt, rfl, h5, hT6, et6, hR6, er6, fun t h => ⟨(hts t h).1, by have := (hts t h).2; omega⟩, hpw, S6.more (by omega)⟩
                · refine ifF hfit ⟨_, _, ts, xt, rfl, h5, hTc, et, hRc, er, fun t h => ⟨(hts t h).1, by have := (hts t h).2; omega⟩, hpw, S.more (by omega)⟩
              · obtain ⟨v14, v15, ts, xt, rfl, h5, hTc, et, hRc, er, hts, hpw, S⟩ := hp
                exact ⟨_, _, _, ts, xt, rfl, h5, hTc, et, hRc, er, fun t h => ⟨(hts t h).1, by have := (hts t h).2; omega⟩, hpw, S.more (by omega)⟩
            · obtain ⟨v13, v14, v15, ts, xt, rfl, h5, hTc, et, hRc, er, hts, hpw, S⟩ := hp
              obtain ⟨yp1, hyp1⟩ := S.w.pl
              refine ⟨_, rfl, p, l, ns, _, 9, rfl, by decide, cdw (by decide) (by decide), S.w, by omega, npl, fun a H6 a0 a1 W6 g6 => ⟨_, _, rfl, rfl, ?_⟩⟩
              have S6 := S.gw g6 W6 nOp nZp
              have hT6 := g6.lst nTp hTc
              have hR6 := g6.lst nRp hRc
              have et6 := et.gw g6 hyp1
              have er6 := er.gw g6 hyp1
              obtain ⟨yp2, hyp2⟩ := S6.w.pl
              have cp6 : CPow 10 6 := ⟨by decide, by decide, by decide⟩
              have e6 : (10 : Int) ^ (Int.toNat 6) = 1000000 := by decide
              refine ⟨_, _, rfl, rfl, cp6, _, _, rfl, rfl, cp6, _, _, rfl, rfl, .inl ⟨by decide, by decide⟩, _, rfl, p, l, ns, _, 2, rfl, by decide, cdw (by decide) (by decide), S6.w, by omega, npl, fun b H7 b0 b1 W7 g7 => ⟨_, _, rfl, rfl, .inl ⟨by decide, by decide⟩, _, _, rfl, rfl, (by show 2 ≤ sizeLine; decide), fun q hq => ?_⟩⟩
              rw [e6]
              have S7 := S6.gw g7 W7 nOp nZp
              have hT7 := g7.lst nTp hT6
              have hR7 := g7.lst nRp hR6
              have et7 := et6.gw g7 hyp2
              have er7 := er6.gw g7 hyp2
              have gq := Grow.new (o := .lst [.int (a - 4), .int (1000000 - 2 * 1000000 * b)]) hq
              have nqp := (S7.w.np hq).1
              have S8 := S7.grow gq (Nat.le_refl _)
              have hq8 := upd_same (H := H7) (a := q) (o := .lst [.int (a - 4), .int (1000000 - 2 * 1000000 * b)])
              have hT8 := gq.lst hT7
              have hR8 := gq.lst hR7
              have et8 := et7.grow gq
              have er8 := er7.grow gq
              generalize L2.upd H7 q (.lst [.int (a - 4), .int (1000000 - 2 * 1000000 * b)]) = H8 at S8 hq8 hT8 hR8 et8 er8 gq ⊢
              obtain ⟨yp3, hyp3⟩ := S8.w.pl
              refine ⟨_, rfl, p, l, ns, _, 7, rfl, by decide, cdw (by decide) (by decide), S8.w, by omega, npl, fun d H9 d0 d1 W9 g9 => ?_⟩
              have S9 := S8.gw g9 W9 nOp nZp
              have hT9 := g9.lst nTp hT8
              have hR9 := g9.lst nRp hR8
              have et9 := et8.gw g9 hyp3
              have er9 := er8.gw g9 hyp3
              obtain ⟨cv, hcv, hat⟩ : ∃ cv : Int, cv.natAbs ≤ 1000000 ∧ atI [V.int (a - 4), V.int (1000000 - 2 * 1000000 * b)] (if decide (V.int d = V.int 0) = true then (1 : Int) else 0) = some (V.int cv) := by
                by_cases hd : d = 0
                · exact ⟨1000000 - 2 * 1000000 * b, by omega, by rw [hd]; rfl⟩
                · refine ⟨a - 4, by omega, ?_⟩
                  rw [if_neg (fun z => hd (V.int.inj (of_decide_eq_true z)))]
                  rfl
              refine ⟨rfl, .inr ⟨_, rfl, q, _, _, _, rfl, rfl, SqL.of (g9.lst nqp hq8), hat, ?_⟩⟩
              refine ⟨_, rfl, .inl ⟨rfl, _, SqL.of hR9⟩, _, rfl, _, rfl, T, _, rfl, .inl ⟨SqL.of hT9, fun t ht => ⟨(by show 2 ≤ sizeLine; decide), fun u hu => ?_⟩⟩⟩
              have kt := Grow.new (o := .tup xt) ht
              have ku := Grow.new (o := .tup [.int cv, .ref t]) hu
              have ktu := kt.trans ku
              have S10 := S9.grow ktu (Nat.le_refl _)
              have hR10 := ktu.lst hR9
              have er10 := er9.grow ktu
              have ew : EncT (L2.upd (L2.upd H9 t (.tup xt)) u (.tup [.int cv, .ref t])) (rowD (cv, ts)) (.ref u) := .tup upd_same (.cons (.int _) (.cons (.tup (ku.tup upd_same) (et9.grow ktu)) .nil))
              have hxrl := er10.length
              rw [List.length_map] at hxrl
              generalize L2.upd (L2.upd H9 t (.tup xt)) u (.tup [.int cv, .ref t]) = H10 at S10 hR10 er10 ew ktu ⊢
              refine ⟨R, _, _, rfl, rfl, hR10, by rw [sizeLine_eq]; omega, ?_⟩
              refine ⟨_, _, _, _, _, _, rs ++ [(cv, ts)], xr ++ [.ref u], rfl, by rw [List.length_append, hrs]; rfl, upd_same, ?_, fun a' r' mk' h1 h2 => ?_, (S10.put hR0 hR10 nRp nRl nRO nRZ).more (by omega)⟩
              · rw [List.map_append]
                exact (encs_push er10 ew).growW GrowW.upd (fun z => z) (noTup hR10)
              · by_cases ha' : a' < rs.length
                · rw [List.getElem?_append_left ha'] at h1
                  exact hrow a' r' mk' h1 h2
                · rw [List.getElem?_append_right (by omega)] at h1
                  have h0 : a' - rs.length = 0 := by
                    have := (List.getElem?_eq_some_iff.mp h1).1
                    rw [List.length_singleton] at this
                    omega
                  rw [h0] at h1
                  cases h1
                  rw [show a' = j by omega, hmk] at h2
                  cases h2
                  exact ⟨hcv, fun t h => (hts t h).1, by show ts.length ≤ 12; omega, hpw⟩
          · obtain ⟨v8, v9, v12, v13, v14, v15, rs, xr, rfl, hrs, hRc, er, hrow, S⟩ := hp
            obtain ⟨xz, hZc, ez⟩ := S.z
            have hzl2 := ez.length
            rw [List.length_map] at hzl2
            have hmsl : mss.length = i := by
              have := congrArg List.length hms
              rw [List.length_map, List.length_take] at this
              omega
            have hk3 := hkb.2.1
            refine ⟨_, rfl, .inl ⟨rfl, _, SqL.of hZc⟩, _, rfl, _, rfl, R, _, rfl, .inl ⟨SqL.of hRc, fun t ht => ⟨(by show 2 ≤ sizeLine; decide), fun u hu => ?_⟩⟩⟩
            have kt := Grow.new (o := .tup xr) ht
            have ku := Grow.new (o := .tup [.str nm, .ref t]) hu
            have ktu := kt.trans ku
            have S9 := S.grow ktu (Nat.le_refl _)
            have hZ9 := ktu.lst hZc
            have ez9 := ez.grow ktu
            have hnk : SOk nm := by
              obtain ⟨j0, hj0⟩ := List.getElem?_of_mem hk0
              obtain ⟨x0, hx0, ex0⟩ := es.got (i := j0) (d := kdD k0) (by rw [List.getElem?_map, hj0]; rfl)
              cases ex0 with
              | tup _ eb0 =>
              cases eb0 with
              | cons e00 _ =>
              cases e00 with
              | str _ h0 => rw [← hk0n]; exact h0
            have em9 : EncT (L2.upd (L2.upd Hc t (.tup xr)) u (.tup [.str nm, .ref t])) (msD (nm, rs)) (.ref u) := .tup upd_same (.cons (.str _ hnk) (.cons (.tup (ku.tup upd_same) (er.grow ktu)) .nil))
            generalize L2.upd (L2.upd Hc t (.tup xr)) u (.tup [.str nm, .ref t]) = H9 at S9 hZ9 ez9 em9 ⊢
            refine ⟨Z, _, _, rfl, rfl, hZ9, by rw [sizeLine_eq]; omega, ?_⟩
            refine ⟨_, _, _, _, _, _, _, _, mss ++ [(nm, rs)], rfl, ?_, fun m h => ?_, ⟨(S9.w.upd nZp nZl).more (by omega), by rw [upd_ne nZO.symm]; exact S9.o, ⟨xz ++ [.ref u], upd_same, ?_⟩, S9.g.but hZ0⟩⟩
            · rw [List.map_append, hms, List.take_succ, hnm]
              rfl
            · rcases List.mem_append.mp h with h | h
              · exact hmb m h
              · rw [List.mem_singleton.mp h]
                exact ⟨k0, hk0, hk0n, by show rs.length = _; omega, hrow⟩
            · rw [List.map_append]
              exact (encs_push ez9 em9).growW GrowW.upd (fun z => z) (noTup hZ9)
      · obtain ⟨v6, v7, v8, v9, v12, v13, v14, v15, mss, rfl, hms, hmb, S⟩ := hp
        rw [List.length_map] at hms S
        rw [List.take_length] at hms
        obtain ⟨xz, hZ9, ez⟩ := S.z
        refine ⟨_, rfl, Z, _, rfl, .inl ⟨SqL.of hZ9, fun t ht => ?_⟩⟩
        have kt := Grow.new (o := .tup xz) ht
        have hml : mss.length = own.length := by rw [← hms, List.length_map]
        refine k (.ref t) mss _ (.tup upd_same (ez.grow kt)) ⟨by omega, fun m hm => ?_⟩ ((S.w.grow kt).more (by omega)) (S.g.trans' kt.w)
        have := hmb m hm
        unfold knS
        rw [hms]
        exact this
end
end J1
set_option Elab.async false
set_option linter.all false
set_option maxRecDepth 100000
set_option maxHeartbeats 4000000
namespace J1
open PySem PySem.Spec PyProof.Rows L2 GxR GA ZS RZ
abbrev lRa : Stmt := top 80
theorem cRa : FnScope ["_law_well_here", "_law_measures_here", "_law_made", "_law_kind", "_law_rows", "_law_turned", "_law_const", "_law_terms", "_law_f", "_law_n", "_law_times_here"] ["_law_well_here", "_law_measures_here"] (defScope lRa) := ⟨rfl, rfl, rfl, by decide +kernel, rfl, by decide +kernel, by decide +kernel⟩
/-! ### measures made of measures, row by row -/
def RowR (r r' : Row1) : Prop := ∀ kn fs, RowOk kn fs r → RowOk kn fs r'
def MsR (m m' : Ms1) : Prop := m'.1 = m.1 ∧ m'.2.length = m.2.length ∧ ∀ (j : Nat) (r r' : Row1), m.2[j]? = some r → m'.2[j]? = some r' → RowR r r'
theorem msok_map {ks : List Kd1} {mss mss' : List Ms1} (mo : MsOk ks mss) (hl : mss'.length = mss.length) (h : ∀ (j : Nat) (m m' : Ms1), mss[j]? = some m → mss'[j]? = some m' → MsR m m') : MsOk ks mss' := by
  have hk : knS mss' = knS mss := by
    unfold knS
    refine congrArg _ (List.ext_getElem? fun j => ?_)
    rw [List.getElem?_map, List.getElem?_map]
    by_cases c : j < mss.length
    · have e1 : mss[j]? = some _ := List.getElem?_eq_getElem c
      have e2 : mss'[j]? = some _ := List.getElem?_eq_getElem (by omega : j < mss'.length)
      rw [e1, e2]
      exact congrArg some (h j _ _ e1 e2).1
    · rw [List.getElem?_eq_none (by omega), List.getElem?_eq_none (by omega)]
  refine ⟨by rw [hl]; exact mo.le, fun m' hm' => ?_⟩
  obtain ⟨j, hj⟩ := List.getElem?_of_mem hm'
  have hjl := (List.getElem?_eq_some_iff.mp hj).1
  have e1 : mss[j]? = some _ := List.getElem?_eq_getElem (by omega : j < mss.length)
  obtain ⟨a1, a2, a3⟩ := h j _ _ e1 hj
  obtain ⟨k, hk1, b1, b2, b3⟩ := mo.ms _ (List.mem_of_getElem? e1)
  refine ⟨k, hk1, b1.trans a1.symm, a2.trans b2, fun i r' mk hr' hk' => ?_⟩
  have hil := (List.getElem?_eq_some_iff.mp hr').1
  have e2 := List.getElem?_eq_getElem (by omega : i < (mss[j]'(by omega)).2.length)
  rw [hk]
  exact a3 i _ _ e2 hr' _ _ (b3 i _ mk e2 hk')
def ab (i : Int) : Int := if i < 0 then -i else i
theorem ab_abs (i : Int) : (ab i).natAbs = i.natAbs := by
  unfold ab
  split <;> omega
def tAb (t : Tm) : Tm := (t.1, t.2.1, ab t.2.2)
def rAb (r : Row1) : Row1 := (ab r.1, (r.2.filter fun t => decide (0 < t.2.1)).map tAb)
theorem rAb_ok (r : Row1) : RowR r (rAb r) := by
  intro kn fs h
  refine ⟨by show (ab r.1).natAbs ≤ _; rw [ab_abs]; exact h.cb, fun t ht => ?_, ?_, ?_⟩
  · obtain ⟨t0, h0, rfl⟩ := List.mem_map.mp ht
    have q := h.ts t0 (List.mem_filter.mp h0).1
    refine ⟨q.bel, ?_, by show (ab t0.2.2).natAbs ≤ _; rw [ab_abs]; exact q.cb⟩
    have := q.c0
    have e := ab_abs t0.2.2
    show ab t0.2.2 ≠ 0
    omega
  · show ((r.2.filter _).map tAb).length ≤ 12
    rw [List.length_map]
    exact Nat.le_trans (List.length_filter_le _ _) h.le
  · show (((r.2.filter _).map tAb).map _).Pairwise prLt
    rw [List.map_map]
    exact h.asc.sublist (List.filter_sublist.map (fun t : Tm => (((t.1 : Nat) : Int), ((t.2.1 : Nat) : Int))))
structure OSt (H Hc : Hp) (p l O : Addr) (ns : List Int) (n : Nat) (ds : List Da) : Prop where
  w : Wl Hc p l ns n
  o : ∃ xs, Hc O = some (.lst xs) ∧ EncsT Hc ds xs
  op : O ≠ p
  ol : O ≠ l
  o0 : H O = none
  g : GrowW p H Hc
section
variable {H Hc H' : Hp} {p l O Z : Addr} {ns : List Int} {n n' : Nat} {ds : List Da}
theorem OSt.grow (S : OSt H Hc p l O ns n ds) (g : Grow Hc H') : OSt H H' p l O ns n ds := by
  obtain ⟨xs, h1, h2⟩ := S.o
  exact ⟨S.w.grow g, ⟨xs, g.lst h1, h2.grow g⟩, S.op, S.ol, S.o0, S.g.trans' g.w⟩
theorem OSt.gw (S : OSt H Hc p l O ns n ds) (g : GrowW p Hc H') (w : Wl H' p l ns n') : OSt H H' p l O ns n' ds := by
  obtain ⟨xs, h1, h2⟩ := S.o
  obtain ⟨ys, hy⟩ := S.w.pl
  exact ⟨w, ⟨xs, g.lst S.op h1, h2.gw g hy⟩, S.op, S.ol, S.o0, S.g.trans' g⟩
/-- another list is written -/
theorem OSt.put (S : OSt H Hc p l O ns n ds) {q : Addr} {o : HO} (h0 : H q = none) {zs : List V} (hq : Hc q = some (.lst zs)) (a : q ≠ p) (a' : q ≠ l) (b : q ≠ O) : OSt H (L2.upd Hc q o) p l O ns n ds := by
  obtain ⟨xs, h1, h2⟩ := S.o
  exact ⟨S.w.upd a a', ⟨xs, by rw [upd_ne b.symm]; exact h1, h2.growW GrowW.upd (fun z => z) (noTup hq)⟩, S.op, S.ol, S.o0, S.g.but h0⟩
/-- the list itself -/
theorem OSt.app (S : OSt H Hc p l O ns n ds) {xs : List V} {d : Da} {x : V} (hO : Hc O = some (.lst xs)) (e : EncT Hc d x) : OSt H (L2.upd Hc O (.lst (xs ++ [x]))) p l O ns n (ds ++ [d]) := by
  obtain ⟨xs', h1, h2⟩ := S.o
  rw [hO] at h1
  cases h1
  exact ⟨S.w.upd S.op S.ol, ⟨_, upd_same, (encs_push h2 e).growW GrowW.upd (fun z => z) (noTup hO)⟩, S.op, S.ol, S.o0, S.g.but S.o0⟩
theorem OSt.len (S : OSt H Hc p l O ns n ds) {xs : List V} (hO : Hc O = some (.lst xs)) : ds.length = xs.length := by
  obtain ⟨xs', h1, h2⟩ := S.o
  rw [hO] at h1
  cases h1
  exact h2.length
end
def spRa : Sp := fun vs H Q _ => ∃ (p l : Addr) (ns : List Int) (n : Nat) (xm : V) (ks : List Kd1) (mss : List Ms1), vs = [.ref p, xm] ∧ Wl H p l ns n ∧ p ≠ l ∧ EncT H (mssD mss) xm ∧ KdsOk ks ∧ MsOk ks mss ∧ n + 100 ≤ 1000000000000000000000000000000 ∧
  ∀ (y : V) (mss' : List Ms1) (H' : Hp), EncT H' (mssD mss') y → MsOk ks mss' → Wl H' p l ns (n + 100) → GrowW p H H' → Q y H'
section
variable {P : Program} {w : World} {K : PySem.W.Frag} {mg : Str → Option Value} {base : Heap}
theorem ok_ra {f fD : Addr} {fd fdD : FuncData} (F : Fun K "_law_raised" "_law_raised" lRa f fd) (M : Gd mg) (GD : FnOk P w K mg base CX0 1 fD fdD ["_law_well_here", "_law_many"] spDr) (DD : Df K mg "_law_draw" ["_law_well_here", "_law_many"] fD fdD) :
    FnOk P w K mg base CX0 2 f fd ["_law_well_here", "_law_measures_here"] spRa := by
  refine F.ok (k := 1) cRa (fun vs H Q E h => ?_) (fun cdv A outer s H vs Q E hr h => ?_)
  · obtain ⟨_, _, _, _, _, _, _, rfl, _⟩ := h
    rfl
  · obtain ⟨p, l, ns, n, xm, ks, mss, rfl, W, npl, em, ok, mo, hn, k⟩ := h
    have hu := hu_of hr
    refine ⟨_, (pss_cons (ps_set (i := 2) cRa.nd rfl (Or.inl rfl) (pe_lst pa_nil)) (pss_cons (ps_for PassesOwn.never rfl (pi_tup (pv 1)) (pg_tup (by rfl) (pgs_cons (pg_name (i := 3) cRa.nd rfl (Or.inl rfl)) (pgs_cons (pg_name (i := 4) cRa.nd rfl (Or.inl rfl)) pgs_nil))) (pss_cons (ps_set (i := 5) cRa.nd rfl (Or.inl rfl) (pe_lst pa_nil)) (pss_cons (ps_for PassesOwn.never rfl (pi_tup (pv 4)) (pg_tup (by rfl) (pgs_cons (pg_name (i := 6) cRa.nd rfl (Or.inl rfl)) (pgs_cons (pg_name (i := 7) cRa.nd rfl (Or.inl rfl)) pgs_nil))) (C8.pss_cut (ps_if (pt_cmpR op_gt (pe_call (GD.mono (by decide)) hr (by rfl) DD.g DD.k DD.b .nil pass0 (pa_cons (pv 0) (pa_cons pe_int pa_nil))) pe_int (nomark _)) (pss_cons (ps_set (i := 6) cRa.nd rfl (Or.inl rfl) (pe_callB call_abs (by rfl) M.abs (by decide +kernel) (pa_cons (pv 6) pa_nil))) (pss_one (ps_setLc (i := 7) (own := [("_law_f", 8), ("_law_n", 9), ("_law_times_here", 10)]) (g := gTup K 3 (gCons (gName 8) (gCons (gName 9) (gCons (gName 10) gNil)))) (by rfl) cRa.nd rfl rfl (sw_true rfl rfl rfl (by decide +kernel)) (pi_tup (pv 7)) (blkOk_by (own := [("_law_f", 8), ("_law_n", 9), ("_law_times_here", 10)]) (N := ["_law_well_here", "_law_measures_here", "_law_made", "_law_kind", "_law_rows", "_law_turned", "_law_const", "_law_terms", "_law_f", "_law_n", "_law_times_here"]) (sc := defScope lRa) (by decide +kernel)) (fun _ _ _ _ _ => (pg_tup (by rfl) (pgs_cons (pg_name (i := 8) cRa.nd rfl (Or.inl rfl)) (pgs_cons (pg_name (i := 9) cRa.nd rfl (Or.inl rfl)) (pgs_cons (pg_name (i := 10) cRa.nd rfl (Or.inl rfl)) pgs_nil))))) (fun _ _ _ _ _ => (pts_one (pt_cmpR op_gt (pv 9) pe_int (nomark _)))) (fun _ _ _ _ _ => (pe_tup (pa_cons (pv 8) (pa_cons (pv 9) (pa_cons (pe_callB call_abs (by rfl) M.abs (by decide +kernel) (pa_cons (pv 10) pa_nil)) pa_nil)))))))) pss_nil) (pss_one (ps_expr (pe_bm PySem.F.plainAttrs_list PySem.F.slot_list_append PySem.F.type_list_append mt_append (pv 5) (pa_cons (pe_tup (pa_cons (pv 6) (pa_cons (pe_callTy call_tuple_of (by rfl) M.tuple (by decide +kernel) (pa_cons (pv 7) pa_nil)) pa_nil))) pa_nil)))))) (pss_one (ps_expr (pe_bm PySem.F.plainAttrs_list PySem.F.slot_list_append PySem.F.type_list_append mt_append (pv 2) (pa_cons (pe_tup (pa_cons (pv 3) (pa_cons (pe_callTy call_tuple_of (by rfl) M.tuple (by decide +kernel) (pa_cons (pv 5) pa_nil)) pa_nil))) pa_nil))))))) (pss_one (ps_ret (pe_callTy call_tuple_of (by rfl) M.tuple (by decide +kernel) (pa_cons (pv 2) pa_nil)))))), ?_⟩
    cases em with
    | @tup a xs _ ha es =>
    have hl := es.length
    rw [List.length_map] at hl
    have hle := mo.le
    refine ⟨Nat.zero_le _, fun O hO => ?_⟩
    have gO := Grow.new (o := .lst []) hO
    obtain ⟨nOp, nOl⟩ := W.np hO
    obtain ⟨yp, hyp⟩ := W.pl
    refine ⟨_, rfl, a, rfl, ⟨_, SqT.of (gO.tup ha)⟩, ?_⟩
    refine for_tup (K := K) (xs := xs) (fun i σ' Hc => ∃ v3 v4 v5 v6 v7 acc, σ' = [some (.ref p), some (.ref a), some (.ref O), v3, v4, v5, v6, v7, none, none, none] ∧ acc.length = i ∧ (∀ (j : Nat) (m m' : Ms1), mss[j]? = some m → acc[j]? = some m' → MsR m m') ∧ OSt H Hc p l O ns (n + 8 * i) (acc.map msD))
      ⟨_, _, _, _, _, [], rfl, rfl, fun _ _ _ _ h => (nomatch h), W.grow gO, ⟨[], upd_same, .nil⟩, nOp, nOl, hO, gO.w⟩ (fun i σ' Hc _ hp => ?_) (fun i z σ' Hc hz hp => ?_) (fun σ' Hc hp => ?_)
    · obtain ⟨_, _, _, _, _, _, _, _, _, S⟩ := hp
      exact SqT.of (S.g.tup hyp ha)
    · obtain ⟨v3, v4, v5, v6, v7, acc, rfl, hal, hacc, S⟩ := hp
      obtain ⟨d1, hd1, ez⟩ := es.get hz
      obtain ⟨m, hm, rfl⟩ := map_get hd1
      obtain ⟨r8, r12⟩ := ms_rows ok mo (List.mem_of_getElem? hm)
      have hi12 := (List.getElem?_eq_some_iff.mp hm).1
      have ez := ez.gw S.g hyp
      cases ez with
      | @tup b us _ hb eb =>
      cases eb with
      | @cons _ u0 _ _ f0 eb =>
      cases eb with
      | @cons _ u1 _ _ f1 eb =>
      cases eb
      cases f0 with
      | str kn hkn =>
      cases f1 with
      | @tup br ys _ hbr er =>
      have hrl := er.length
      rw [List.length_map] at hrl
      obtain ⟨yc, hyc⟩ := S.w.pl
      refine ⟨b, _, rfl, SqT.of hb, rfl, _, _, rfl, _, _, rfl, rfl, Nat.zero_le _, fun Z hZ => ?_⟩
      have gZ := Grow.new (o := .lst []) hZ
      obtain ⟨nZp, nZl⟩ := S.w.np hZ
      obtain ⟨ox, hox, oxe⟩ := S.o
      have nZO : Z ≠ O := fun z => by rw [z, hox] at hZ; cases hZ
      have hZ0 := S.g.none' nZp hZ
      refine ⟨_, rfl, br, rfl, ⟨_, SqT.of (gZ.tup hbr)⟩, ?_⟩
      have hyZ := gZ.lst hyc
      have hbrZ := gZ.tup hbr
      have erZ := er.grow gZ
      have SZ : OSt H (L2.upd Hc Z (.lst [])) p l Z ns (n + 8 * i) [] := ⟨S.w.grow gZ, ⟨[], upd_same, .nil⟩, nZp, nZl, hZ0, S.g.trans' gZ.w⟩
      have SO := S.grow gZ
      generalize L2.upd Hc Z (.lst []) = HZ at gZ hyZ hbrZ erZ SZ SO ⊢
      refine for_tup (K := K) (xs := ys) (fun j σ' Hx => ∃ v6 v7 rs, σ' = [some (.ref p), some (.ref a), some (.ref O), some (.str m.1), some (.ref br), some (.ref Z), v6, v7, none, none, none] ∧ rs.length = j ∧ (∀ (q : Nat) (r r' : Row1), m.2[q]? = some r → rs[q]? = some r' → RowR r r') ∧ OSt H Hx p l O ns (n + 8 * i + j) (acc.map msD) ∧ OSt H Hx p l Z ns (n + 8 * i + j) (rs.map rowD) ∧ Hx br = some (.tup ys) ∧ EncsT Hx (m.2.map rowD) ys)
        ⟨_, _, [], rfl, rfl, fun _ _ _ _ h => (nomatch h), SO, SZ, hbrZ, erZ⟩ (fun j σ' Hx _ hp => ?_) (fun j y σ' Hx hy hp => ?_) (fun σ' Hx hp => ?_)
      · obtain ⟨_, _, _, _, _, _, _, _, h, _⟩ := hp
        exact SqT.of h
      · obtain ⟨v6, v7, rs, rfl, hrs, hrr, SO, SZ, hbx, erx⟩ := hp
        obtain ⟨d2, hd2, ew⟩ := erx.get hy
        obtain ⟨r, hr1, rfl⟩ := map_get hd2
        have hrm := List.mem_of_getElem? hr1
        have hr12 := (r12 r hrm).1
        have hj8 := (List.getElem?_eq_some_iff.mp hr1).1
        obtain ⟨yx, hyx⟩ := SO.w.pl
        cases ew with
        | @tup c vs2 _ hc ec =>
        cases ec with
        | @cons _ w0 _ _ p0 ec =>
        cases ec with
        | @cons _ w1 _ _ p1 ec =>
        cases ec
        cases p0
        cases p1 with
        | @tup bt ts _ hbt et =>
        have htl := et.length
        rw [List.length_map] at htl
        refine ⟨c, _, rfl, SqT.of hc, rfl, _, _, rfl, _, _, rfl, rfl, ?_⟩
        refine ⟨fun σ' Hz => ∃ r' tq zs, σ' = [some (.ref p), some (.ref a), some (.ref O), some (.str m.1), some (.ref br), some (.ref Z), some (.int r'.1), some (.ref tq), none, none, none] ∧ (Hz tq = some (.lst zs) ∨ Hz tq = some (.tup zs)) ∧ EncsT Hz (r'.2.map tmD) zs ∧ RowR r r' ∧ OSt H Hz p l O ns (n + 8 * i + (j + 1)) (acc.map msD) ∧ OSt H Hz p l Z ns (n + 8 * i + (j + 1)) (rs.map rowD) ∧ Hz br = some (.tup ys) ∧ EncsT Hz (m.2.map rowD) ys, ?_, ?_⟩
        · refine ⟨_, rfl, p, l, ns, n + 8 * i + j, 12, rfl, by decide, cdw (by decide) (by decide), SO.w, by omega, npl, fun r0 H1 r00 r01 W1 g1 => ⟨_, _, rfl, rfl, _, rfl, ite2 (fun _ => ?_) (fun _ => ?_)⟩⟩
          · have hbt1 := g1.tup hyx hbt
            have et1 := et.gw g1 hyx
            refine ⟨_, rfl, _, rfl, _, rfl, bt, rfl, ⟨_, SqT.of hbt1⟩, fun A hA => ?_⟩
            refine dc_it (walk_itt (K := K) (a := bt) (xs := ts)) (fun q Hy => ∃ zs, Hy A = some (.lst zs) ∧ EncsT Hy ((((r.2.take q).filter fun t => decide (0 < t.2.1)).map tAb).map tmD) zs ∧ Grow H1 Hy) ⟨[], upd_same, .nil, Grow.new hA⟩ (fun q Hy _ hp => SqT.of (hp.choose_spec.2.2.tup hbt1)) (fun q z Hy H' hq hp yy => ?_) (fun Hy hp => ?_)
            · obtain ⟨zs, hacc2, ezs, gy⟩ := hp
              obtain ⟨e0, hw⟩ := yy
              rw [e0]
              obtain ⟨d3, hd3, ex⟩ := et1.get hw
              obtain ⟨t, ht, rfl⟩ := map_get hd3
              have ex := ex.grow gy
              have hzl := ezs.length
              rw [List.length_map, List.length_map] at hzl
              cases ex with
              | @tup c2 vs3 _ hc2 ec2 =>
              cases ec2 with
              | @cons _ t0 _ _ q0 ec2 =>
              cases ec2 with
              | @cons _ t1 _ _ q1 ec2 =>
              cases ec2 with
              | @cons _ t2 _ _ q2 ec2 =>
              cases ec2
              cases q0
              cases q1
              cases q2
              refine ⟨c2, _, rfl, SqT.of hc2, rfl, _, _, rfl, _, _, rfl, _, _, rfl, rfl, (by rw [wipe_put (by decide), wipe_put (by decide), wipe_put (by decide), wipe_again]), ?_⟩
              refine ⟨_, rfl, _, _, rfl, rfl, _, rfl, ?_⟩
              have e2 : (r.2.take (q + 1)).filter (fun t => decide (0 < t.2.1)) = (r.2.take q).filter (fun t => decide (0 < t.2.1)) ++ (if decide (0 < t.2.1) = true then [t] else []) := by
                rw [List.take_succ, ht, List.filter_append]
                show _ ++ [t].filter _ = _
                rw [List.filter_cons]
                cases decide (0 < t.2.1) <;> rfl
              by_cases hpos : 0 < t.2.1
              · rw [decide_eq_true hpos, if_pos rfl] at e2
                rw [decide_eq_true (show (0 : Int) < ((t.2.1 : Nat) : Int) by omega)]
                refine iteT ⟨_, rfl, _, rfl, _, rfl, _, rfl, (by show 3 ≤ sizeLine; decide), fun tn htn => ?_⟩
                have gt := Grow.new (o := .tup [.int (t.1 : Nat), .int (t.2.1 : Nat), .int (ab t.2.2)]) htn
                have hA2 := gt.lst hacc2
                refine ⟨_, hA2, ?_, zs ++ [.ref tn], upd_same, ?_, (gy.trans gt).upd' hA⟩
                · rw [← hzl, sizeLine_eq]
                  have h1 : ((r.2.take q).filter fun t => decide (0 < t.2.1)).length ≤ (r.2.take q).length := List.length_filter_le _ _
                  rw [List.length_take] at h1
                  omega
                · rw [e2, List.map_append, List.map_append]
                  have en : EncT (L2.upd Hy tn (.tup [.int (t.1 : Nat), .int (t.2.1 : Nat), .int (ab t.2.2)])) (tmD (tAb t)) (.ref tn) := .tup upd_same (.cons (.int _) (.cons (.int _) (.cons (.int _) .nil)))
                  exact (encs_push (ezs.grow gt) en).growW GrowW.upd (fun z => z) (noTup hA2)
              · rw [decide_eq_false hpos, if_neg (by decide), List.append_nil] at e2
                rw [decide_eq_false (show ¬ ((0 : Int) < ((t.2.1 : Nat) : Int)) by omega)]
                refine iteF ⟨zs, hacc2, ?_, gy⟩
                rw [e2]
                exact ezs
            · obtain ⟨zs, hacc2, ezs, gy⟩ := hp
              rw [← htl, List.take_length] at ezs
              exact ⟨rAb r, A, zs, rfl, .inl hacc2, ezs, rAb_ok r, (SO.gw g1 W1).grow gy, (SZ.gw g1 W1).grow gy, gy.tup (g1.tup hyx hbx), (erx.gw g1 hyx).grow gy⟩
          · exact ⟨r, bt, ts, rfl, .inr (g1.tup hyx hbt), et.gw g1 hyx, fun _ _ h => h, SO.gw g1 W1, SZ.gw g1 W1, g1.tup hyx hbx, erx.gw g1 hyx⟩
        · intro σ' Hz hp
          obtain ⟨r', tq, zs, rfl, htq, ezs, hR, SO2, SZ2, hbz, erz⟩ := hp
          obtain ⟨zx, hzx, _⟩ := SZ2.o
          have hzl := SZ2.len hzx
          rw [List.length_map] at hzl
          have fin : ∀ (Hw : Hp) (tt : Addr), Grow Hz Hw → Hw tt = some (.tup zs) → ∀ t2, Hw t2 = none → ∃ v6 v7, ∃ rs' : List Row1, [some (V.ref p), some (V.ref a), some (V.ref O), some (V.str m.1), some (V.ref br), some (V.ref Z), some (V.int r'.1), some (V.ref tq), none, none, none] = [some (V.ref p), some (V.ref a), some (V.ref O), some (V.str m.1), some (V.ref br), some (V.ref Z), v6, v7, none, none, none] ∧ rs'.length = j + 1 ∧ (∀ (q : Nat) (r r' : Row1), m.2[q]? = some r → rs'[q]? = some r' → RowR r r') ∧
              OSt H (L2.upd (L2.upd Hw t2 (.tup [.int r'.1, .ref tt])) Z (.lst (zx ++ [.ref t2]))) p l O ns (n + 8 * i + (j + 1)) (acc.map msD) ∧ OSt H (L2.upd (L2.upd Hw t2 (.tup [.int r'.1, .ref tt])) Z (.lst (zx ++ [.ref t2]))) p l Z ns (n + 8 * i + (j + 1)) (rs'.map rowD) ∧ L2.upd (L2.upd Hw t2 (.tup [.int r'.1, .ref tt])) Z (.lst (zx ++ [.ref t2])) br = some (.tup ys) ∧ EncsT (L2.upd (L2.upd Hw t2 (.tup [.int r'.1, .ref tt])) Z (.lst (zx ++ [.ref t2]))) (m.2.map rowD) ys := by
            intro Hw tt gw htt t2 ht2
            have g2 := gw.trans (Grow.new (o := .tup [.int r'.1, .ref tt]) ht2)
            have hz2 := g2.lst hzx
            have e5 : EncT (L2.upd Hw t2 (.tup [.int r'.1, .ref tt])) (rowD r') (.ref t2) := .tup upd_same (.cons (.int _) (.cons ((EncB.tup htt (ezs.grow gw)).grow (Grow.new ht2)) .nil))
            refine ⟨_, _, rs ++ [r'], rfl, by rw [List.length_append, hrs]; rfl, fun q r1 r2 h1 h2 => ?_, (SO2.grow g2).put hZ0 hz2 nZp nZl nZO, ?_, ?_, ((erz.grow g2).growW GrowW.upd (fun z => z) (noTup hz2))⟩
            · by_cases hq : q < rs.length
              · rw [List.getElem?_append_left hq] at h2
                exact hrr q r1 r2 h1 h2
              · rw [List.getElem?_append_right (by omega)] at h2
                have hq0 : q - rs.length = 0 := by
                  have := (List.getElem?_eq_some_iff.mp h2).1
                  rw [List.length_singleton] at this
                  omega
                have hqj : q = j := by omega
                rw [hq0] at h2
                cases h2
                rw [hqj, hr1] at h1
                cases h1
                exact hR
            · rw [List.map_append]
              exact (SZ2.grow g2).app hz2 e5
            · rw [upd_ne (fun z => by rw [z, hzx] at hbz; cases hbz)]
              exact g2.tup hbz
          refine ⟨_, rfl, .inl ⟨rfl, _, SqL.of hzx⟩, _, rfl, _, rfl, tq, zs, rfl, ?_⟩
          have slen : zx.length < sizeLine := by rw [sizeLine_eq]; omega
          rcases htq with htq | htq
          · refine .inl ⟨SqL.of htq, fun tt htt => ⟨(by show 2 ≤ sizeLine; decide), fun t2 ht2 => ?_⟩⟩
            have gt := Grow.new (o := .tup zs) htt
            exact ⟨Z, zx, .ref t2, rfl, rfl, (gt.trans (Grow.new ht2)).lst hzx, slen, fin _ tt gt upd_same t2 ht2⟩
          · refine .inr ⟨SqT.of htq, (by show 2 ≤ sizeLine; decide), fun t2 ht2 => ?_⟩
            exact ⟨Z, zx, .ref t2, rfl, rfl, (Grow.new ht2).lst hzx, slen, fin Hz tq (Grow.refl _) htq t2 ht2⟩
      · obtain ⟨v6, v7, rs, rfl, hrs, hrr, SO, SZ, hbx, erx⟩ := hp
        obtain ⟨zx, hzx, ezx⟩ := SZ.o
        obtain ⟨ox, hox, eox⟩ := SO.o
        have hol := SO.len hox
        rw [List.length_map] at hol
        refine ⟨_, rfl, .inl ⟨rfl, _, SqL.of hox⟩, _, rfl, _, rfl, Z, zx, rfl, .inl ⟨SqL.of hzx, fun tt htt => ⟨(by show 2 ≤ sizeLine; decide), fun t2 ht2 => ?_⟩⟩⟩
        have gt := Grow.new (o := .tup zx) htt
        have g2 := gt.trans (Grow.new (o := .tup [.str m.1, .ref tt]) ht2)
        have e5 : EncT (L2.upd (L2.upd Hx tt (.tup zx)) t2 (.tup [.str m.1, .ref tt])) (msD (m.1, rs)) (.ref t2) := .tup upd_same (.cons (.str _ hkn) (.cons ((EncB.tup upd_same (ezx.grow gt)).grow (Grow.new ht2)) .nil))
        refine ⟨O, ox, .ref t2, rfl, rfl, g2.lst hox, by rw [sizeLine_eq]; omega, ?_⟩
        refine ⟨_, _, _, _, _, acc ++ [(m.1, rs)], rfl, by rw [List.length_append, hal]; rfl, fun q m1 m2 h1 h2 => ?_, ?_⟩
        · by_cases hq : q < acc.length
          · rw [List.getElem?_append_left hq] at h2
            exact hacc q m1 m2 h1 h2
          · rw [List.getElem?_append_right (by omega)] at h2
            have hq0 : q - acc.length = 0 := by
              have := (List.getElem?_eq_some_iff.mp h2).1
              rw [List.length_singleton] at this
              omega
            have hqi : q = i := by omega
            rw [hq0] at h2
            cases h2
            rw [hqi, hm] at h1
            cases h1
            exact ⟨rfl, by show rs.length = _; omega, hrr⟩
        · rw [List.map_append]
          have S9 := (SO.grow g2).app (g2.lst hox) e5
          exact ⟨S9.w.more (by omega), S9.o, S9.op, S9.ol, S9.o0, S9.g⟩
    · obtain ⟨v3, v4, v5, v6, v7, acc, rfl, hal, hacc, S⟩ := hp
      obtain ⟨ox, hox, eox⟩ := S.o
      refine ⟨_, rfl, O, ox, rfl, .inl ⟨SqL.of hox, fun t ht => ?_⟩⟩
      have gt := Grow.new (o := .tup ox) ht
      exact k _ acc _ (.tup upd_same (eox.grow gt)) (msok_map mo (by omega) hacc) ((S.w.grow gt).more (by omega)) (S.g.trans' gt.w)
end
end J1
set_option Elab.async false
set_option linter.all false
set_option maxRecDepth 100000
set_option maxHeartbeats 4000000
namespace J1
open PySem PySem.Spec PyProof.Rows L2 GxR GA ZS RZ
abbrev lOp : Stmt := top 82
theorem cOp : FnScope ["_law_measures_here", "_law_made", "_law_kind", "_law_rows", "_law_turned", "_law_const", "_law_terms", "_law_to", "_law_f", "_law_n", "_law_times_here"] ["_law_measures_here"] (defScope lOp) := ⟨rfl, rfl, rfl, by decide +kernel, rfl, by decide +kernel, by decide +kernel⟩
/-- the number of a measure in the opposite sequence -/
def nOp (N n : Nat) : Nat := if 0 < n then N + 1 - n else 0
def tOpp (N : Nat) (t : Tm) : Tm := (t.1, nOp N t.2.1, t.2.2)
def RowO (N : Nat) (r r' : Row1) : Prop := r'.1 = r.1 ∧ r'.2.Perm (r.2.map (tOpp N)) ∧ (r'.2.map fun t => (((t.1 : Nat) : Int), ((t.2.1 : Nat) : Int))).Pairwise prLt
theorem nOp_inj {N a b : Nat} (ha : a ≤ N) (hb : b ≤ N) (h : nOp N a = nOp N b) : a = b := by
  unfold nOp at h
  split at h <;> split at h <;> omega
theorem opp_ok {ks : List Kd1} {mss mss' : List Ms1} (mo : MsOk ks mss) (hl : mss'.length = mss.length)
    (h : ∀ (j : Nat) (m m' : Ms1), mss[mss.length - 1 - j]? = some m → j < mss.length → mss'[j]? = some m' → m'.1 = m.1 ∧ m'.2.length = m.2.length ∧ ∀ (q : Nat) (r r' : Row1), m.2[q]? = some r → m'.2[q]? = some r' → RowO mss.length r r') : MsOk ks mss' := by
  have hk : ∀ (n : Nat) (s : Str), (knS mss)[n]? = some s → (knS mss')[nOp mss.length n]? = some s := fun n s hn => by
    match n, hn with
    | 0, hn => exact hn
    | n' + 1, hn =>
      have hn : (mss.map (·.1))[n']? = some s := hn
      obtain ⟨m, hm, rfl⟩ := map_get hn
      have hlt := (List.getElem?_eq_some_iff.mp hm).1
      have e : nOp mss.length (n' + 1) = (mss.length - 1 - n') + 1 := by
        unfold nOp
        rw [if_pos (Nat.succ_pos _)]
        omega
      rw [e]
      show (mss'.map (·.1))[mss.length - 1 - n']? = some m.1
      have e2 : mss'[mss.length - 1 - n']? = some _ := List.getElem?_eq_getElem (by omega : mss.length - 1 - n' < mss'.length)
      rw [List.getElem?_map, e2]
      have e3 : mss.length - 1 - (mss.length - 1 - n') = n' := by omega
      exact congrArg some (h _ m _ (by rw [e3]; exact hm) (by omega) e2).1
  refine ⟨by rw [hl]; exact mo.le, fun m' hm' => ?_⟩
  obtain ⟨j, hj⟩ := List.getElem?_of_mem hm'
  have hjl := (List.getElem?_eq_some_iff.mp hj).1
  have e1 : mss[mss.length - 1 - j]? = some _ := List.getElem?_eq_getElem (by omega : mss.length - 1 - j < mss.length)
  obtain ⟨a1, a2, a3⟩ := h j _ _ e1 (by omega) hj
  obtain ⟨k, hk1, b1, b2, b3⟩ := mo.ms _ (List.mem_of_getElem? e1)
  refine ⟨k, hk1, b1.trans a1.symm, a2.trans b2, fun i r' mk hr' hk' => ?_⟩
  have hil := (List.getElem?_eq_some_iff.mp hr').1
  have e2 := List.getElem?_eq_getElem (by omega : i < (mss[mss.length - 1 - j]'(by omega)).2.length)
  obtain ⟨c1, c2, c3⟩ := a3 i _ _ e2 hr'
  have ro := b3 i _ mk e2 hk'
  refine ⟨by rw [c1]; exact ro.cb, fun t ht => ?_, by rw [c2.length_eq, List.length_map]; exact ro.le, c3⟩
  obtain ⟨t0, ht0, rfl⟩ := List.mem_map.mp (c2.mem_iff.mp ht)
  have q := ro.ts t0 ht0
  obtain ⟨s, s1, s2⟩ := q.bel
  exact ⟨⟨s, hk _ _ s1, s2⟩, q.c0, q.cb⟩
/-- the triple at an address -/
def gH (H : Hp) (t : Addr) : RA.A3 := match H t with
  | some (.tup [.int a, .int b, .int c]) => (a, b, c)
  | _ => (0, 0, 0)
theorem gH_of {H : Hp} {t : Addr} {a : RA.A3} (h : H t = some (.tup ((RA.il a).map V.int))) : gH H t = a := by
  unfold gH
  rw [h]
  rfl
def t3 (t : Tm) : RA.A3 := ((t.1 : Nat), (t.2.1 : Nat), t.2.2)
def tm3 (a : RA.A3) : Tm := (a.1.toNat, a.2.1.toNat, a.2.2)
theorem tm_t3 (t : Tm) : tm3 (t3 t) = t := rfl
theorem t3_ok {H : Hp} {q : Addr} {t : Tm} (h : H q = some (.tup ((RA.il (t3 t)).map V.int))) : EncT H (tmD t) (.ref q) := .tup h (.cons (.int _) (.cons (.int _) (.cons (.int _) .nil)))
/-- sorted terms -/
theorem sort_ok {N : Nat} {ts us : List Tm} (hb : ∀ t ∈ ts, t.1 ≤ 900 ∧ t.2.1 ≤ N ∧ t.2.2.natAbs ≤ 1000000) (hN : N ≤ 12) (ha : (ts.map fun t => (((t.1 : Nat) : Int), ((t.2.1 : Nat) : Int))).Pairwise prLt) (hp : us.Perm (ts.map (tOpp N))) (hs : us.Pairwise fun t u => RA.rk (t3 t) ≤ RA.rk (t3 u)) :
    (us.map fun t => (((t.1 : Nat) : Int), ((t.2.1 : Nat) : Int))).Pairwise prLt := by
  have d1 : ts.Pairwise fun t u => ¬ (t.1 = u.1 ∧ t.2.1 = u.2.1) := by
    rw [List.pairwise_map] at ha
    refine ha.imp fun h e => ?_
    rw [e.1, e.2] at h
    have h : (if _ = _ then (if _ = _ then HT.lexLt [] [] else decide (_ < _)) else decide (_ < _)) = true := h
    rw [if_pos rfl, if_pos rfl] at h
    exact Bool.noConfusion h
  have d2 : (ts.map (tOpp N)).Pairwise fun t u => ¬ (t.1 = u.1 ∧ t.2.1 = u.2.1) := by
    rw [List.pairwise_map]
    refine (List.Pairwise.and_mem.mp d1).imp fun ⟨h1, h2, h⟩ e => h ⟨e.1, nOp_inj (hb _ h1).2.1 (hb _ h2).2.1 e.2⟩
  have d3 : us.Pairwise fun t u => ¬ (t.1 = u.1 ∧ t.2.1 = u.2.1) := (hp.pairwise_iff fun h e => h ⟨e.1.symm, e.2.symm⟩).mpr d2
  rw [List.pairwise_map]
  have both := List.Pairwise.and_mem.mp (hs.and d3)
  refine both.imp (fun {t u} hh => ?_)
  obtain ⟨h1, h2, h, hd⟩ := hh
  have bd : ∀ t ∈ us, t.1 ≤ 900 ∧ t.2.1 ≤ 13 ∧ t.2.2.natAbs ≤ 1000000 := fun t ht => by
    obtain ⟨t0, h0, rfl⟩ := List.mem_map.mp (hp.mem_iff.mp ht)
    have q := hb t0 h0
    refine ⟨q.1, ?_, q.2.2⟩
    show nOp N t0.2.1 ≤ 13
    unfold nOp
    split <;> omega
  have q1 := bd t h1
  have q2 := bd u h2
  unfold RA.rk t3 at h
  dsimp only at h
  refine prLt_of ?_
  by_cases c : t.1 = u.1
  · refine .inr ⟨by show ((t.1 : Nat) : Int) = (u.1 : Nat); omega, ?_⟩
    show ((t.2.1 : Nat) : Int) < (u.2.1 : Nat)
    have : t.2.1 ≠ u.2.1 := fun e => hd ⟨c, e⟩
    omega
  · refine .inl ?_
    show ((t.1 : Nat) : Int) < (u.1 : Nat)
    omega
theorem ms_bd {ks : List Kd1} {mss : List Ms1} (ok : KdsOk ks) (mo : MsOk ks mss) {ms : Ms1} (h : ms ∈ mss) : ∀ r ∈ ms.2, (∀ t ∈ r.2, t.1 ≤ 900 ∧ t.2.1 ≤ mss.length ∧ t.2.2.natAbs ≤ 1000000) ∧ (r.2.map fun t => (((t.1 : Nat) : Int), ((t.2.1 : Nat) : Int))).Pairwise prLt := by
  obtain ⟨k, hk, e1, e2, e3⟩ := mo.ms ms h
  intro r hr
  obtain ⟨i, hi⟩ := List.getElem?_of_mem hr
  have hl := (List.getElem?_eq_some_iff.mp hi).1
  have hki : k.2[i]? = some _ := List.getElem?_eq_getElem (by omega : i < k.2.length)
  have ro := e3 i r _ hi hki
  have h5 := ok.fl _ (mks_mem hk (List.mem_of_getElem? hki))
  refine ⟨fun t ht => ?_, ro.asc⟩
  obtain ⟨s, h1, h2⟩ := (ro.ts t ht).bel
  have a1 := (List.getElem?_eq_some_iff.mp h1).1
  have a2 := (List.getElem?_eq_some_iff.mp h2).1
  unfold knS at a1
  rw [List.length_cons, List.length_map] at a1
  have h5 : (k.2[i]'(by omega)).2.length ≤ 5 := h5
  exact ⟨by omega, by omega, (ro.ts t ht).cb⟩
theorem encs_refs {H : Hp} {f : Addr → Da} : ∀ {us : List Addr}, (∀ u ∈ us, EncT H (f u) (.ref u)) → EncsT H (us.map f) (us.map V.ref)
  | [], _ => .nil
  | u :: r, h => .cons (h u List.mem_cons_self) (encs_refs fun x hx => h x (List.mem_cons_of_mem _ hx))
structure PSt (H Hc : Hp) (O : Addr) (ds : List Da) : Prop where
  o : ∃ xs, Hc O = some (.lst xs) ∧ EncsT Hc ds xs
  o0 : H O = none
  g : Grow H Hc
section
variable {H Hc H' : Hp} {O Z : Addr} {ds : List Da}
theorem PSt.grow (S : PSt H Hc O ds) (g : Grow Hc H') : PSt H H' O ds := by
  obtain ⟨xs, h1, h2⟩ := S.o
  exact ⟨⟨xs, g.lst h1, h2.grow g⟩, S.o0, S.g.trans g⟩
theorem PSt.put (S : PSt H Hc O ds) {q : Addr} {o : HO} (h0 : H q = none) {zs : List V} (hq : Hc q = some (.lst zs)) (b : q ≠ O) : PSt H (L2.upd Hc q o) O ds := by
  obtain ⟨xs, h1, h2⟩ := S.o
  exact ⟨⟨xs, by rw [upd_ne b.symm]; exact h1, h2.growW GrowW.upd (fun z => z) (noTup hq)⟩, S.o0, S.g.upd' h0⟩
theorem PSt.app (S : PSt H Hc O ds) {xs : List V} {d : Da} {x : V} (hO : Hc O = some (.lst xs)) (e : EncT Hc d x) : PSt H (L2.upd Hc O (.lst (xs ++ [x]))) O (ds ++ [d]) := by
  obtain ⟨xs', h1, h2⟩ := S.o
  rw [hO] at h1
  cases h1
  exact ⟨⟨_, upd_same, (encs_push h2 e).growW GrowW.upd (fun z => z) (noTup hO)⟩, S.o0, S.g.upd' S.o0⟩
theorem PSt.len (S : PSt H Hc O ds) {xs : List V} (hO : Hc O = some (.lst xs)) : ds.length = xs.length := by
  obtain ⟨xs', h1, h2⟩ := S.o
  rw [hO] at h1
  cases h1
  exact h2.length
end
def spOp : Sp := fun vs H Q _ => ∃ (xm : V) (ks : List Kd1) (mss : List Ms1), vs = [xm] ∧ EncT H (mssD mss) xm ∧ KdsOk ks ∧ MsOk ks mss ∧ ∀ (y : V) (mss' : List Ms1) (H' : Hp), EncT H' (mssD mss') y → MsOk ks mss' → Grow H H' → Q y H'
section
variable {P : Program} {w : World} {K : PySem.W.Frag} {mg : Str → Option Value} {base : Heap}
theorem ok_op {f : Addr} {fd : FuncData} (F : Fun K "_law_opposite" "_law_opposite" lOp f fd) (M : Gd mg) (hSo : mg "sorted" = none) : FnOk P w K mg base CX0 2 f fd ["_law_measures_here"] spOp := by
  refine F.ok (k := 1) cOp (fun vs H Q E h => ?_) (fun cdv A outer s H vs Q E hr h => ?_)
  · obtain ⟨_, _, _, rfl, _⟩ := h
    rfl
  · obtain ⟨xm, ks, mss, rfl, em, ok, mo, k⟩ := h
    have hu := hu_of hr
    refine ⟨_, (pss_cons (ps_set (i := 1) cOp.nd rfl (Or.inl rfl) (pe_lst pa_nil)) (pss_cons (ps_for PassesOwn.never rfl (pi_tup (pe_revT (pv 0))) (pg_tup (by rfl) (pgs_cons (pg_name (i := 2) cOp.nd rfl (Or.inl rfl)) (pgs_cons (pg_name (i := 3) cOp.nd rfl (Or.inl rfl)) pgs_nil))) (pss_cons (ps_set (i := 4) cOp.nd rfl (Or.inl rfl) (pe_lst pa_nil)) (pss_cons (ps_for PassesOwn.never rfl (pi_tup (pv 3)) (pg_tup (by rfl) (pgs_cons (pg_name (i := 5) cOp.nd rfl (Or.inl rfl)) (pgs_cons (pg_name (i := 6) cOp.nd rfl (Or.inl rfl)) pgs_nil))) (pss_cons (ps_setLc (i := 7) (own := [("_law_f", 8), ("_law_n", 9), ("_law_times_here", 10)]) (g := gTup K 3 (gCons (gName 8) (gCons (gName 9) (gCons (gName 10) gNil)))) (tt := tYes) (by rfl) cOp.nd rfl rfl (sw_true rfl rfl rfl (by decide +kernel)) (pi_tup (pv 6)) (blkOk_by (own := [("_law_f", 8), ("_law_n", 9), ("_law_times_here", 10)]) (N := ["_law_measures_here", "_law_made", "_law_kind", "_law_rows", "_law_turned", "_law_const", "_law_terms", "_law_to", "_law_f", "_law_n", "_law_times_here"]) (sc := defScope lOp) (by decide +kernel)) (fun _ _ _ _ _ => (pg_tup (by rfl) (pgs_cons (pg_name (i := 8) cOp.nd rfl (Or.inl rfl)) (pgs_cons (pg_name (i := 9) cOp.nd rfl (Or.inl rfl)) (pgs_cons (pg_name (i := 10) cOp.nd rfl (Or.inl rfl)) pgs_nil))))) (fun _ _ _ _ _ => pts_nil) (fun _ _ _ _ _ => (pe_tup (pa_cons (pv 8) (pa_cons (pe_op op_mul (pe_op op_sub (pe_op op_add (pe_callB (r := rLen K) call_len_seq (by rfl) M.len PySem.boot_len (pa_cons (pv 0) pa_nil)) pe_int) (pv 9)) (pe_callTy call_int1 (by rfl) M.int (by decide +kernel) (pa_cons (pe_cmpR op_gt (pv 9) pe_int (nomark _)) pa_nil))) (pa_cons (pv 10) pa_nil)))))) (pss_one (ps_expr (pe_bm PySem.F.plainAttrs_list PySem.F.slot_list_append PySem.F.type_list_append mt_append (pv 4) (pa_cons (pe_tup (pa_cons (pv 5) (pa_cons (pe_callTy call_tuple_of (by rfl) M.tuple (by decide +kernel) (pa_cons (pe_callB (r := rSorted3 K) cr_sorted3 (by rfl) hSo (by decide +kernel) (pa_cons (pv 7) pa_nil)) pa_nil)) pa_nil))) pa_nil)))))) (pss_one (ps_expr (pe_bm PySem.F.plainAttrs_list PySem.F.slot_list_append PySem.F.type_list_append mt_append (pv 1) (pa_cons (pe_tup (pa_cons (pv 2) (pa_cons (pe_callTy call_tuple_of (by rfl) M.tuple (by decide +kernel) (pa_cons (pv 4) pa_nil)) pa_nil))) pa_nil))))))) (pss_one (ps_ret (pe_callTy call_tuple_of (by rfl) M.tuple (by decide +kernel) (pa_cons (pv 1) pa_nil)))))), ?_⟩
    cases em with
    | @tup a xs _ ha es =>
    have hl := es.length
    rw [List.length_map] at hl
    have hle := mo.le
    refine ⟨Nat.zero_le _, fun O hO => ?_⟩
    have gO := Grow.new (o := .lst []) hO
    refine ⟨_, rfl, a, _, rfl, SqT.of (gO.tup ha), fun p0 hp0 => ⟨p0, rfl, ⟨_, SqT.of upd_same⟩, ?_⟩⟩
    have nOp0 : p0 ≠ O := fun z => by rw [z, upd_same] at hp0; cases hp0
    have gp0 := Grow.new (o := .tup xs.reverse) hp0
    refine for_tup (K := K) (xs := xs.reverse) (fun i σ' Hc => ∃ v2 v3 v4 v5 v6 v7, ∃ acc : List Ms1, σ' = [some (.ref a), some (.ref O), v2, v3, v4, v5, v6, v7, none, none, none] ∧ acc.length = i ∧ (∀ (j : Nat) (m m' : Ms1), mss[mss.length - 1 - j]? = some m → j < mss.length → acc[j]? = some m' → m'.1 = m.1 ∧ m'.2.length = m.2.length ∧ ∀ (q : Nat) (r r' : Row1), m.2[q]? = some r → m'.2[q]? = some r' → RowO mss.length r r') ∧ PSt H Hc O (acc.map msD) ∧ Hc p0 = some (.tup xs.reverse))
      ⟨_, _, _, _, _, _, [], rfl, rfl, fun _ _ _ _ _ h => (nomatch h), ⟨⟨[], gp0.lst upd_same, .nil⟩, hO, gO.trans gp0⟩, upd_same⟩ (fun i σ' Hc _ hp => ?_) (fun i z σ' Hc hz hp => ?_) (fun σ' Hc hp => ?_)
    · obtain ⟨_, _, _, _, _, _, _, _, _, _, _, h⟩ := hp
      exact SqT.of h
    · obtain ⟨v2, v3, v4, v5, v6, v7, acc, rfl, hal, hacc, S, hpc⟩ := hp
      have hil := (List.getElem?_eq_some_iff.mp hz).1
      rw [List.length_reverse] at hil
      rw [List.getElem?_reverse hil, ← hl] at hz
      obtain ⟨d1, hd1, ez⟩ := es.get hz
      obtain ⟨m, hm, rfl⟩ := map_get hd1
      have hmm := List.mem_of_getElem? hm
      obtain ⟨r8, r12⟩ := ms_rows ok mo hmm
      have hbd := ms_bd ok mo hmm
      cases ez with
      | @tup b us _ hb eb =>
      cases eb with
      | @cons _ u0 _ _ f0 eb =>
      cases eb with
      | @cons _ u1 _ _ f1 eb =>
      cases eb
      cases f0 with
      | str kn hkn =>
      cases f1 with
      | @tup br ys _ hbr er =>
      have hrl := er.length
      rw [List.length_map] at hrl
      refine ⟨b, _, rfl, SqT.of (S.g.tup hb), rfl, _, _, rfl, _, _, rfl, rfl, Nat.zero_le _, fun Z hZ => ?_⟩
      have gZ := Grow.new (o := .lst []) hZ
      obtain ⟨ox, hox, oxe⟩ := S.o
      have nZO : Z ≠ O := fun z => by rw [z, hox] at hZ; cases hZ
      have hZ0 := S.g.none' hZ
      have SZ : PSt H (L2.upd Hc Z (.lst [])) Z [] := ⟨⟨[], upd_same, .nil⟩, hZ0, S.g.trans gZ⟩
      have SO := S.grow gZ
      have hpZ := gZ.tup hpc
      refine ⟨_, rfl, br, rfl, ⟨_, SqT.of (SO.g.tup hbr)⟩, ?_⟩
      generalize L2.upd Hc Z (.lst []) = HZ at gZ SZ SO hpZ ⊢
      refine for_tup (K := K) (xs := ys) (fun j σ' Hx => ∃ v5 v6 v7, ∃ rs : List Row1, σ' = [some (.ref a), some (.ref O), some (.str m.1), some (.ref br), some (.ref Z), v5, v6, v7, none, none, none] ∧ rs.length = j ∧ (∀ (q : Nat) (r r' : Row1), m.2[q]? = some r → rs[q]? = some r' → RowO mss.length r r') ∧ PSt H Hx O (acc.map msD) ∧ PSt H Hx Z (rs.map rowD) ∧ Hx p0 = some (.tup xs.reverse))
        ⟨_, _, _, [], rfl, rfl, fun _ _ _ _ h => (nomatch h), SO, SZ, hpZ⟩ (fun j σ' Hx _ hp => ?_) (fun j y σ' Hx hy hp => ?_) (fun σ' Hx hp => ?_)
      · obtain ⟨_, _, _, _, _, _, _, SO, _⟩ := hp
        exact SqT.of (SO.g.tup hbr)
      · obtain ⟨v5, v6, v7, rs, rfl, hrs, hrr, SO, SZ, hpx⟩ := hp
        obtain ⟨d2, hd2, ew⟩ := er.get hy
        obtain ⟨r, hr1, rfl⟩ := map_get hd2
        have hrm := List.mem_of_getElem? hr1
        have hr12 := (r12 r hrm).1
        have hj8 := (List.getElem?_eq_some_iff.mp hr1).1
        obtain ⟨hb1, hb2⟩ := hbd r hrm
        cases ew with
        | @tup c vs2 _ hc ec =>
        cases ec with
        | @cons _ w0 _ _ p0' ec =>
        cases ec with
        | @cons _ w1 _ _ p1 ec =>
        cases ec
        cases p0'
        cases p1 with
        | @tup bt ts _ hbt et =>
        have htl := et.length
        rw [List.length_map] at htl
        have hbtx := SO.g.tup hbt
        refine ⟨c, _, rfl, SqT.of (SO.g.tup hc), rfl, _, _, rfl, _, _, rfl, rfl, ?_⟩
        refine ⟨_, rfl, bt, rfl, ⟨_, SqT.of hbtx⟩, fun A hA => ?_⟩
        have etx := et.grow SO.g
        refine dc_it (walk_itt (K := K) (a := bt) (xs := ts)) (fun q Hy => ∃ qs : List Addr, Hy A = some (.lst (qs.map V.ref)) ∧ qs.length = q ∧ (∀ (u : Nat) (v : Addr) (t : Tm), qs[u]? = some v → r.2[u]? = some t → Hy v = some (.tup ((RA.il (t3 (tOpp mss.length t))).map V.int))) ∧ Grow Hx Hy) ⟨[], upd_same, rfl, fun _ _ _ h => (nomatch h), Grow.new hA⟩ (fun q Hy _ hp => SqT.of (hp.choose_spec.2.2.2.tup hbtx)) (fun q z Hy H' hq hp yy => ?_) (fun Hy hp => ?_)
        · obtain ⟨qs, hacc2, hql, hqs, gy⟩ := hp
          obtain ⟨e0, hw⟩ := yy
          rw [e0]
          obtain ⟨d3, hd3, ex⟩ := etx.get hw
          obtain ⟨t, ht, rfl⟩ := map_get hd3
          have htb := hb1 t (List.mem_of_getElem? ht)
          have hq12 := (List.getElem?_eq_some_iff.mp ht).1
          have ex := ex.grow gy
          cases ex with
          | @tup c2 vs3 _ hc2 ec2 =>
          cases ec2 with
          | @cons _ t0 _ _ q0 ec2 =>
          cases ec2 with
          | @cons _ t1 _ _ q1 ec2 =>
          cases ec2 with
          | @cons _ t2 _ _ q2 ec2 =>
          cases ec2
          cases q0
          cases q1
          cases q2
          have hN0 := gy.tup (SO.g.tup ha)
          refine ⟨c2, _, rfl, SqT.of hc2, rfl, _, _, rfl, _, _, rfl, _, _, rfl, rfl, (by rw [wipe_put (by decide), wipe_put (by decide), wipe_put (by decide), wipe_again]), ?_⟩
          unfold tYes
          refine iteT ⟨_, rfl, _, rfl, a, _, rfl, .inr (SqT.of hN0), _, _, rfl, rfl, _, rfl, _, _, rfl, rfl, _, rfl, _, _, rfl, rfl, .inr ⟨_, rfl, _, _, rfl, rfl, .inr ?_, ?_⟩⟩
          · cases decide ((0 : Int) < ((t.2.1 : Nat) : Int)) <;> exact ⟨by decide, by decide⟩
          · have ev : ((((xs.length : Nat) : Int) + 1) - ((t.2.1 : Nat) : Int)) * (if decide ((0 : Int) < ((t.2.1 : Nat) : Int)) = true then (1 : Int) else 0) = ((nOp mss.length t.2.1 : Nat) : Int) := by
              unfold nOp
              by_cases c : 0 < t.2.1
              · rw [if_pos (decide_eq_true (by omega)), if_pos c]
                omega
              · rw [if_neg (by rw [decide_eq_false (by omega)]; decide), if_neg c]
                omega
            refine ⟨_, rfl, (by show 3 ≤ sizeLine; decide), fun tn htn => ?_⟩
            have gt := Grow.new (o := .tup [V.int (t.1 : Nat), V.int (((((xs.length : Nat) : Int) + 1) - ((t.2.1 : Nat) : Int)) * (if decide ((0 : Int) < ((t.2.1 : Nat) : Int)) = true then (1 : Int) else 0)), V.int t.2.2]) htn
            have hA2 := gt.lst hacc2
            have hn1 : L2.upd Hy tn (.tup [V.int (t.1 : Nat), V.int (((((xs.length : Nat) : Int) + 1) - ((t.2.1 : Nat) : Int)) * (if decide ((0 : Int) < ((t.2.1 : Nat) : Int)) = true then (1 : Int) else 0)), V.int t.2.2]) tn = some (.tup ((RA.il (t3 (tOpp mss.length t))).map V.int)) := by
              rw [upd_same, ev]
              rfl
            refine ⟨_, hA2, ?_, qs ++ [tn], by rw [upd_same, List.map_append]; rfl, by rw [List.length_append, hql]; rfl, fun u v t' h1 h2 => ?_, (gy.trans gt).upd' hA⟩
            · rw [List.length_map, hql, sizeLine_eq]
              omega
            · by_cases hu' : u < qs.length
              · rw [List.getElem?_append_left hu'] at h1
                have h3 := gt.tup (hqs u v t' h1 h2)
                rw [upd_ne (fun z => by rw [z, hA2] at h3; cases h3)]
                exact h3
              · rw [List.getElem?_append_right (by omega)] at h1
                have hu0 : u - qs.length = 0 := by
                  have := (List.getElem?_eq_some_iff.mp h1).1
                  rw [List.length_singleton] at this
                  omega
                have huq : u = q := by omega
                rw [hu0] at h1
                cases h1
                rw [huq, ht] at h2
                cases h2
                rw [upd_ne (Ne.symm (ne_of_none hacc2 htn))]
                exact hn1
        · obtain ⟨qs, hacc2, hql, hqs, gy⟩ := hp
          rw [← htl] at hql
          have SOy := SO.grow gy
          have SZy := SZ.grow gy
          obtain ⟨zx, hzx, ezx⟩ := SZy.o
          have hzl := SZy.len hzx
          rw [List.length_map] at hzl
          -- what stands in the list
          have each : ∀ v ∈ qs, ∃ t ∈ r.2, Hy v = some (.tup ((RA.il (t3 (tOpp mss.length t))).map V.int)) ∧ gH Hy v = t3 (tOpp mss.length t) := fun v hv => by
            obtain ⟨u, hu'⟩ := List.getElem?_of_mem hv
            have hul := (List.getElem?_eq_some_iff.mp hu').1
            have hru : r.2[u]? = some _ := List.getElem?_eq_getElem (by omega : u < r.2.length)
            have h3 := hqs u v _ hu' hru
            exact ⟨_, List.mem_of_getElem? hru, h3, gH_of h3⟩
          have eqs : (qs.map fun v => tm3 (gH Hy v)) = r.2.map (tOpp mss.length) := by
            refine List.ext_getElem? fun u => ?_
            rw [List.getElem?_map, List.getElem?_map]
            by_cases c : u < qs.length
            · have h1 : qs[u]? = some _ := List.getElem?_eq_getElem c
              have h2 : r.2[u]? = some _ := List.getElem?_eq_getElem (by omega : u < r.2.length)
              rw [h1, h2]
              show some (tm3 (gH Hy (qs[u]))) = some _
              rw [gH_of (hqs u _ _ h1 h2)]
              rfl
            · rw [List.getElem?_eq_none (by omega), List.getElem?_eq_none (by omega)]
              rfl
          refine ⟨_, rfl, .inl ⟨rfl, _, SqL.of hzx⟩, _, rfl, _, rfl, A, qs, gH Hy, rfl, SqL.of hacc2, by omega, fun v hv => ?_, fun us p perm pw hp => ⟨p, _, rfl, .inl ⟨SqL.of upd_same, fun tt htt => ⟨(by show 2 ≤ sizeLine; decide), fun t2 ht2 => ?_⟩⟩⟩⟩
          · obtain ⟨t, htm, h1, h2⟩ := each v hv
            have htb := hb1 t htm
            refine ⟨by rw [h2]; exact h1, ?_⟩
            rw [h2]
            have hn13 : nOp mss.length t.2.1 ≤ 13 := by unfold nOp; split <;> omega
            refine ⟨?_, ?_, ?_, ?_, ?_, ?_⟩
            · show (-1 : Int) ≤ (t.1 : Nat); omega
            · show ((t.1 : Nat) : Int) ≤ 900; omega
            · show (-1 : Int) ≤ (nOp mss.length t.2.1 : Nat); omega
            · show ((nOp mss.length t.2.1 : Nat) : Int) ≤ 900; omega
            · show (-1000000 : Int) ≤ t.2.2; omega
            · show t.2.2 ≤ (1000000 : Int); omega
          · have eachU : ∀ v ∈ us, ∃ t ∈ r.2, Hy v = some (.tup ((RA.il (t3 (tOpp mss.length t))).map V.int)) ∧ gH Hy v = t3 (tOpp mss.length t) := fun v hv => each v (perm.mem_iff.mp hv)
            have eus : EncsT Hy ((us.map fun v => tm3 (gH Hy v)).map tmD) (us.map V.ref) := by
              rw [List.map_map]
              refine encs_refs fun v hv => ?_
              obtain ⟨t, _, h1, h2⟩ := eachU v hv
              show EncT Hy (tmD (tm3 (gH Hy v))) (.ref v)
              rw [h2, tm_t3]
              exact t3_ok h1
            have pp : (us.map fun v => tm3 (gH Hy v)).Perm (r.2.map (tOpp mss.length)) := by
              rw [← eqs]
              exact perm.map _
            have srt : (us.map fun v => tm3 (gH Hy v)).Pairwise fun t u => RA.rk (t3 t) ≤ RA.rk (t3 u) := by
              rw [List.pairwise_map]
              refine (List.Pairwise.and_mem.mp pw).imp (fun {v u} hh => ?_)
              obtain ⟨h1, h2, h⟩ := hh
              obtain ⟨t, _, _, e1⟩ := eachU v h1
              obtain ⟨t', _, _, e2⟩ := eachU u h2
              rw [e1, e2] at h ⊢
              exact h
            have hRO : RowO mss.length r (r.1, us.map fun v => tm3 (gH Hy v)) := ⟨rfl, pp, sort_ok hb1 hle hb2 pp srt⟩
            have g1 := Grow.new (o := .lst (us.map V.ref)) hp
            have g2 := g1.trans (Grow.new (o := .tup (us.map V.ref)) htt)
            have g3 := g2.trans (Grow.new (o := .tup [.int r.1, .ref tt]) ht2)
            have e5 : EncT (L2.upd (L2.upd (L2.upd Hy p (.lst (us.map V.ref))) tt (.tup (us.map V.ref))) t2 (.tup [.int r.1, .ref tt])) (rowD (r.1, us.map fun v => tm3 (gH Hy v))) (.ref t2) := .tup upd_same (.cons (.int _) (.cons ((EncB.tup upd_same (eus.grow g2)).grow (Grow.new ht2)) .nil))
            have hz2 := g3.lst hzx
            refine ⟨Z, zx, .ref t2, rfl, rfl, hz2, by rw [sizeLine_eq]; omega, ?_⟩
            refine ⟨_, _, _, rs ++ [(r.1, us.map fun v => tm3 (gH Hy v))], rfl, by rw [List.length_append, hrs]; rfl, fun q r1 r2 h1 h2 => ?_, (SOy.grow g3).put hZ0 hz2 nZO, ?_, ?_⟩
            · by_cases hq : q < rs.length
              · rw [List.getElem?_append_left hq] at h2
                exact hrr q r1 r2 h1 h2
              · rw [List.getElem?_append_right (by omega)] at h2
                have hq0 : q - rs.length = 0 := by
                  have := (List.getElem?_eq_some_iff.mp h2).1
                  rw [List.length_singleton] at this
                  omega
                have hqj : q = j := by omega
                rw [hq0] at h2
                cases h2
                rw [hqj, hr1] at h1
                cases h1
                exact hRO
            · rw [List.map_append]
              exact (SZy.grow g3).app hz2 e5
            · have hp2 := g3.tup (gy.tup hpx)
              rw [upd_ne (fun z => by rw [z, hz2] at hp2; cases hp2)]
              exact hp2
      · obtain ⟨v5, v6, v7, rs, rfl, hrs, hrr, SO, SZ, hpx⟩ := hp
        obtain ⟨zx, hzx, ezx⟩ := SZ.o
        obtain ⟨ox, hox, eox⟩ := SO.o
        have hol := SO.len hox
        rw [List.length_map] at hol
        refine ⟨_, rfl, .inl ⟨rfl, _, SqL.of hox⟩, _, rfl, _, rfl, Z, zx, rfl, .inl ⟨SqL.of hzx, fun tt htt => ⟨(by show 2 ≤ sizeLine; decide), fun t2 ht2 => ?_⟩⟩⟩
        have gt := Grow.new (o := .tup zx) htt
        have g2 := gt.trans (Grow.new (o := .tup [.str m.1, .ref tt]) ht2)
        have e5 : EncT (L2.upd (L2.upd Hx tt (.tup zx)) t2 (.tup [.str m.1, .ref tt])) (msD (m.1, rs)) (.ref t2) := .tup upd_same (.cons (.str _ hkn) (.cons ((EncB.tup upd_same (ezx.grow gt)).grow (Grow.new ht2)) .nil))
        refine ⟨O, ox, .ref t2, rfl, rfl, g2.lst hox, by rw [sizeLine_eq]; omega, ?_⟩
        refine ⟨_, _, _, _, _, _, acc ++ [(m.1, rs)], rfl, by rw [List.length_append, hal]; rfl, fun q m1 m2 h1 hq1 h2 => ?_, ?_, ?_⟩
        · by_cases hq : q < acc.length
          · rw [List.getElem?_append_left hq] at h2
            exact hacc q m1 m2 h1 hq1 h2
          · rw [List.getElem?_append_right (by omega)] at h2
            have hq0 : q - acc.length = 0 := by
              have := (List.getElem?_eq_some_iff.mp h2).1
              rw [List.length_singleton] at this
              omega
            have hqi : q = i := by omega
            rw [hq0] at h2
            cases h2
            rw [hqi, hm] at h1
            cases h1
            exact ⟨rfl, by show rs.length = _; omega, hrr⟩
        · rw [List.map_append]
          exact (SO.grow g2).app (g2.lst hox) e5
        · have hp2 := g2.tup hpx
          rw [upd_ne (fun z => by rw [z, hox] at hpx; cases hpx)]
          exact hp2
    · obtain ⟨v2, v3, v4, v5, v6, v7, acc, rfl, hal, hacc, S, hpc⟩ := hp
      obtain ⟨ox, hox, eox⟩ := S.o
      rw [List.length_reverse] at hal
      refine ⟨_, rfl, O, ox, rfl, .inl ⟨SqL.of hox, fun t ht => ?_⟩⟩
      have gt := Grow.new (o := .tup ox) ht
      exact k _ acc _ (.tup upd_same (eox.grow gt)) (opp_ok mo (by omega) hacc) (S.g.trans gt)
end
end J1
set_option Elab.async false
set_option linter.all false
set_option maxRecDepth 100000
set_option maxHeartbeats 4000000
namespace J1
open PySem PySem.Spec PyProof.Rows L2 GxR GA ZS RZ
abbrev lRg : Stmt := top 83
theorem cRg : FnScope ["_law_core", "_law_measures_here", "_law_struck_here", "_law_due", "_law_n", "_law_found"] ["_law_core", "_law_measures_here"] (defScope lRg) := ⟨rfl, rfl, rfl, by decide +kernel, rfl, by decide +kernel, by decide +kernel⟩
def spRg (T : Hp → Prop) : Sp := fun vs H Q _ => ∃ (xc xm : V) (ks : List Kd1) (mss : List Ms1), vs = [xc, xm] ∧ EncT H (coreD ks) xc ∧ EncT H (mssD mss) xm ∧ KdsOk ks ∧ MsOk ks mss ∧ T H ∧ ∀ H', Grow H H' → Q (.bl true) H'
theorem shp (ns : List Int) : SeqAt.shaped (.tuple (ns.map PyData.int)) = true := by
  have h1 : PyData.canLayAll0 (ns.map PyData.int) = true := by
    induction ns with
    | nil => rfl
    | cons a r ih =>
      rw [List.map_cons, PyData.canLayAll0, ih]
      rfl
  have h2 : PyData.depthAll (ns.map PyData.int) = 0 := by
    induction ns with
    | nil => rfl
    | cons a r ih =>
      rw [List.map_cons, PyData.depthAll, ih (by
        rw [List.map_cons, PyData.canLayAll0, Bool.and_eq_true] at h1
        exact h1.2)]
      rfl
  unfold SeqAt.shaped
  rw [Bool.and_eq_true]
  refine ⟨h1, decide_eq_true ?_⟩
  rw [PyData.depth, h2]
  decide
theorem dpa {K : PySem.W.Frag} {H : Hp} : ∀ ns : List Int, DpAll K H (ns.map V.int) (ns.map PyData.int)
  | [] => .nil
  | i :: r => .cons (.int i) (dpa r)
theorem enc_ints {H : Hp} : ∀ ns : List Int, EncsT H (ns.map Da.int) (ns.map V.int)
  | [] => .nil
  | i :: r => .cons (.int i) (enc_ints r)
section
variable {P : Program} {w : World} {K : PySem.W.Frag} {mg : Str → Option Value} {base : Heap}
theorem ok_rg {f fK fB : Addr} {fd fdK fdB : FuncData} {T : Hp → Prop} (F : Fun K "_law_right" "_law_right" lRg f fd) (N : Gn K mg) (M : Gd mg) (st : Stays T)
    (GK : FnOk P w K mg base CX0 2 fK fdK ["_law_measures_here"] spSk) (DK : Df K mg "_law_struck" ["_law_measures_here"] fK fdK)
    (GB : FnOk P w K mg base CX0 13 fB fdB ["core", "measures"] (spNb T)) (DB : Df K mg "never_below" ["core", "measures"] fB fdB) : FnOk P w K mg base CX0 14 f fd ["_law_core", "_law_measures_here"] (spRg T) := by
  refine F.ok (k := 13) cRg (fun vs H Q E h => ?_) (fun cdv A outer s H vs Q E hr h => ?_)
  · obtain ⟨_, _, _, _, rfl, _⟩ := h
    rfl
  · obtain ⟨xc, xm, ks, mss, rfl, ec, em, ok, mo, hT, k⟩ := h
    have hu := hu_of hr
    refine ⟨_, (pss_cons (ps_set (i := 2) cRg.nd rfl (Or.inr rfl) (pe_call (GK.mono (by decide)) hr (by rfl) DK.g DK.k DK.b .nil pass0 (pa_cons (pv 1) pa_nil))) (pss_cons (ps_set (i := 3) cRg.nd rfl (Or.inl rfl) (pe_callTy call_tuple_of (by rfl) M.tuple (by decide +kernel) (pa_cons (pe_lc (own := [("_law_n", 4)]) (g := gName 4) (by rfl) cRg.nd (pi_range2 (by rfl) M.range (pa_cons pe_int (pa_cons (pe_op op_add (pe_callB call_len_seq (by rfl) M.len PySem.boot_len (pa_cons (pv 1) pa_nil)) pe_int) pa_nil))) (blkOk_by (own := [("_law_n", 4)]) (N := ["_law_core", "_law_measures_here", "_law_struck_here", "_law_due", "_law_n", "_law_found"]) (sc := defScope lRg) (by decide +kernel)) (fun _ _ _ _ _ => (pg_name (i := 4) cRg.nd rfl (Or.inl rfl))) (fun _ _ _ _ _ => (pts_one (pt_cmpR (r := rIn K true) op_notIn_seq (pv 4) (pv 2) (by rfl)))) (fun _ _ _ _ _ => (pv 4))) pa_nil))) (pss_cons (ps_set (i := 5) cRg.nd rfl (Or.inl rfl) (pe_call GB hr (by rfl) DB.g DB.k DB.b .nil pass0 (pa_cons (pv 0) (pa_cons (pv 1) pa_nil)))) (pss_one (ps_ret (pe_and (pe_callB call_isi (by rfl) N.nI boot_isinstance (pa_cons (pv 5) (pa_cons (pe_bltn (v := .ty "tuple") rfl N.nt (by decide +kernel) rfl) pa_nil))) (pe_and (pe_cmpR (op_eqD hr.units) (pv 5) (pv 3) (nomark _)) (pe_one (pe_callB (cr_all (by rfl)) (by rfl) N.na (by decide +kernel) (pa_cons (pe_lc (own := [("_law_n", 4)]) (g := gName 4) (tt := tYes) (by rfl) cRg.nd (pi_tup (pv 5)) (blkOk_by (own := [("_law_n", 4)]) (N := ["_law_core", "_law_measures_here", "_law_struck_here", "_law_due", "_law_n", "_law_found"]) (sc := defScope lRg) (by decide +kernel)) (fun _ _ _ _ _ => (pg_name (i := 4) cRg.nd rfl (Or.inl rfl))) (fun _ _ _ _ _ => pts_nil) (fun _ _ _ _ _ => (pe_not (pe_callB (r := rIsi K) call_isi (by rfl) N.nI boot_isinstance (pa_cons (pv 4) (pa_cons (pe_bltn (v := .ty "bool") rfl N.nb (by decide +kernel) rfl) pa_nil)))))) pa_nil)))))))))), ?_⟩
    have em0 := em
    cases em with
    | @tup a xs _ ha es =>
    have hl := es.length
    rw [List.length_map] at hl
    have hle := mo.le
    refine ⟨_, rfl, .ref a, ks, mss, rfl, em0, ok, mo, fun q S H1 hq hS hS13 g1 => ?_⟩
    refine ⟨_, rfl, a, _, rfl, .inr (SqT.of (g1.tup ha)), _, _, rfl, rfl, _, _, rfl, ⟨by decide, by decide, by omega, by omega⟩, ?_⟩
    rw [show ((((xs.length : Nat) : Int) + 1) - 1).toNat = mss.length by omega]
    refine fun A1 hA1 => ?_
    refine dc_it (walk_range (lo := 1) (n := mss.length)) (fun i Hx => Hx A1 = some (.lst (((List.range' 1 i).filter fun n => decide (n ∉ S)).map fun (n : Nat) => V.int (n : Nat))) ∧ Grow H1 Hx) ⟨upd_same, Grow.new hA1⟩ (fun _ _ _ _ => trivial) (fun i x Hx H' hi hp y => ?_) (fun Hx hp => ?_)
    · obtain ⟨hacc, g⟩ := hp
      obtain ⟨e0, e9⟩ := y
      rw [e0]
      subst e9
      have en : (1 : Int) + (i : Nat) = ((1 + i : Nat) : Int) := by omega
      refine ⟨(by rw [wipe_put (by decide), wipe_again]), ?_⟩
      have ei : inV (V.int ((1 : Int) + (i : Nat))) (S.map fun (n : Nat) => V.int (n : Nat)) = decide (1 + i ∈ S) := by rw [en, inV_nat]
      refine ⟨_, rfl, _, rfl, q, _, rfl, .inl (SqL.of (g.lst hq)), rfl, flat_nat S, !decide (1 + i ∈ S), congrArg V.bl (congrArg Bool.not ei), ?_⟩
      have e2 : (List.range' 1 (i + 1)).filter (fun n => decide (n ∉ S)) = (List.range' 1 i).filter (fun n => decide (n ∉ S)) ++ (if decide (1 + i ∉ S) = true then [1 + i] else []) := by
        rw [List.range'_1_concat, List.filter_append]
        show _ ++ [1 + i].filter _ = _
        rw [List.filter_cons]
        rfl
      by_cases hin : 1 + i ∈ S
      · rw [decide_eq_true hin]
        rw [if_neg (by simpa using hin), List.append_nil] at e2
        refine iteF ⟨?_, g⟩
        rw [e2]
        exact hacc
      · rw [decide_eq_false hin]
        rw [if_pos (decide_eq_true hin)] at e2
        refine iteT ⟨_, rfl, _, hacc, ?_, ?_, g.upd' hA1⟩
        · rw [List.length_map, sizeLine_eq]
          have h1 : ((List.range' 1 i).filter fun n => decide (n ∉ S)).length ≤ (List.range' 1 i).length := List.length_filter_le _ _
          rw [List.length_range'] at h1
          omega
        · rw [upd_same, e2, List.map_append]
          show some (HO.lst (_ ++ [V.int ((1 : Int) + (i : Nat))])) = some (HO.lst (_ ++ [V.int ((1 + i : Nat) : Int)]))
          rw [en]
    obtain ⟨hacc, gx⟩ := hp
    have eN : (List.range' 1 mss.length).filter (fun n => decide (n ∉ S)) = nbL mss := by
      unfold nbL
      refine List.filter_congr fun n hn => ?_
      rw [List.mem_range'_1] at hn
      rw [Bool.eq_iff_iff, decide_eq_true_iff, @decide_eq_true_iff _ (Classical.propDecidable _), hS n]
      constructor
      · intro h z
        exact h ⟨by omega, z⟩
      · intro h z
        exact h z.2
    have eM : ((nbL mss).map fun (n : Nat) => V.int (n : Nat)) = ((nbL mss).map fun (n : Nat) => (n : Int)).map V.int := by
      rw [List.map_map]
      rfl
    rw [eN, eM] at hacc
    generalize hns : ((nbL mss).map fun (n : Nat) => (n : Int)) = ns at hacc eM
    have hnl : ns.length ≤ mss.length := by
      rw [← hns, List.length_map]
      unfold nbL
      have := List.length_filter_le (fun n => @decide (¬ Struck mss n) (Classical.propDecidable _)) (List.range' 1 mss.length)
      rw [List.length_range'] at this
      exact this
    refine ⟨A1, _, rfl, .inl ⟨SqL.of hacc, fun t1 ht1 => ?_⟩⟩
    have gt1 := Grow.new (o := .tup (ns.map V.int)) ht1
    have g2 := (g1.trans gx).trans gt1
    have ht1' := upd_same (H := Hx) (a := t1) (o := .tup (ns.map V.int))
    generalize L2.upd Hx t1 (.tup (ns.map V.int)) = H2 at g2 ht1' ⊢
    refine ⟨_, rfl, _, rfl, xc, .ref a, ks, mss, rfl, ec.grow g2, em0.grow g2, ok, mo, st _ _ g2 hT, fun t2 H3 ht2 g3 => ?_⟩
    rw [eM] at ht2
    have ht13 := g3.tup ht1'
    have e2 : EncT H3 (.tup (ns.map Da.int)) (.ref t2) := .tup ht2 (enc_ints ns)
    obtain ⟨_, _, _, kT⟩ := kitD (.tup (ns.map Da.int))
    refine ⟨_, rfl, _, _, _, _, _, rfl, .ty "tuple", e2.ty, kit_ty kT, ?_⟩
    refine ⟨_, rfl, iteT ?_⟩
    refine ⟨_, rfl, _, rfl, _, _, .tup (SqT.of ht2) (dpa ns), .tup (SqT.of ht13) (dpa ns), shp ns, shp ns, ?_⟩
    rw [SeqAt.eqv_refl _ (SeqAt.canLay_of_shaped (shp ns))]
    refine ⟨_, rfl, iteT ?_⟩
    refine ⟨_, rfl, t2, rfl, ⟨_, SqT.of ht2⟩, fun B hB => ?_⟩
    refine dc_it (walk_itt (K := K) (a := t2) (xs := ns.map V.int)) (fun i Hy => Hy B = some (.lst ((List.replicate i true).map V.bl)) ∧ Grow H3 Hy) ⟨upd_same, Grow.new hB⟩ (fun i Hy _ hp => SqT.of (hp.2.tup ht2)) (fun i z Hy H' hi hp yy => ?_) (fun Hy hp => ?_)
    · obtain ⟨hacc2, g⟩ := hp
      obtain ⟨e0, hw⟩ := yy
      rw [e0]
      obtain ⟨n, hn, rfl⟩ := map_get hw
      obtain ⟨_, kB, _, _⟩ := kitD (.int n)
      rw [List.length_map] at hi
      refine ⟨(by rw [wipe_put (by decide), wipe_again]), ?_⟩
      unfold tYes
      refine iteT ⟨_, rfl, _, _, _, _, _, rfl, .ty "bool", .base (.int _), kit_ty kB, ?_⟩
      refine ⟨_, rfl, _, hacc2, ?_, ?_, g.upd' hB⟩
      · rw [List.length_map, List.length_replicate, sizeLine_eq]
        omega
      · rw [upd_same]
        exact congrArg (fun l => some (HO.lst l)) (rep_push i)
    obtain ⟨hacc2, g⟩ := hp
    refine ⟨B, _, rfl, SqL.of hacc2, ?_⟩
    rw [rep_all]
    exact k Hy ((g2.trans g3).trans g)
end
end J1
set_option Elab.async false
set_option linter.all false
set_option maxRecDepth 100000
set_option maxHeartbeats 4000000
namespace J1
open PySem PySem.Spec PyProof.Rows L2 GxR GA ZS RZ
/-! ### slices and sums of tuples -/
theorem encs_app {B : Addr → Prop} {H : Hp} : ∀ {l m : List Da} {xs ys : List V}, EncsB B H l xs → EncsB B H m ys → EncsB B H (l ++ m) (xs ++ ys)
  | _, _, _, _, .nil, h => h
  | _, _, _, _, .cons h t, h2 => .cons h (encs_app t h2)
theorem encs_tk {B : Addr → Prop} {H : Hp} : ∀ {l : List Da} {xs : List V} (n : Nat), EncsB B H l xs → EncsB B H (l.take n) (xs.take n)
  | _, _, 0, _ => .nil
  | _, _, _ + 1, .nil => .nil
  | _, _, n + 1, .cons h t => .cons h (encs_tk n t)
theorem encs_dp {B : Addr → Prop} {H : Hp} : ∀ {l : List Da} {xs : List V} (n : Nat), EncsB B H l xs → EncsB B H (l.drop n) (xs.drop n)
  | _, _, 0, h => h
  | _, _, _ + 1, .nil => .nil
  | _, _, n + 1, .cons _ t => encs_dp n t
def cutDs (l : List Da) (lo hi : Option Int) : List Da := (l.drop (HT.sIx l.length 0 lo)).take (HT.sIx l.length l.length hi - HT.sIx l.length 0 lo)
theorem rd_sl {K : PySem.W.Frag} {B : Addr → Prop} {H : Hp} {a : Addr} {xs : List V} {l : List Da} {lo hi : Option Int} {Q : VK} (ha : H a = some (.tup xs)) (el : EncsB B H l xs)
    (k : ∀ q ys H', Grow H H' → H' q = some (.tup ys) → EncsB B H' (cutDs l lo hi) ys → Q (.ref q) H') : rSlA K (.ref a) lo hi H Q := by
  have hl := el.length
  refine ⟨a, xs, rfl, SqT.of ha, fun hw => ?_, fun _ p hp => ?_⟩
  · refine k a xs H (Grow.refl H) ha ?_
    unfold cutDs
    rw [hl, hw.1, hw.2, List.drop_zero, Nat.sub_zero, ← hl, List.take_length]
    exact el
  · have g := Grow.new (o := .tup (cutV xs lo hi)) hp
    refine k p _ _ g upd_same ?_
    unfold cutDs cutV
    rw [hl]
    exact (encs_tk _ (encs_dp _ el)).grow g
theorem cut_take {l : List Da} {j : Nat} (h : j ≤ l.length) : cutDs l none (some (j : Int)) = l.take j := by
  unfold cutDs
  rw [HT.sIx_none, HT.sIx_nat, List.drop_zero, Nat.sub_zero, Nat.min_eq_left h]
theorem cut_drop {l : List Da} {j : Nat} (h : j ≤ l.length) : cutDs l (some (j : Int)) none = l.drop j := by
  unfold cutDs
  rw [HT.sIx_none, HT.sIx_nat, Nat.min_eq_left h, List.take_of_length_le (by rw [List.length_drop]; omega)]
theorem cut_init {l : List Da} : cutDs l none (some (-1)) = l.take (l.length - 1) := by
  have e : HT.sIx l.length l.length (some (-1)) = l.length - 1 := by
    show (if (-1 : Int) < 0 then ((-1 : Int) + (l.length : Int)).toNat else min (-1 : Int).toNat l.length) = l.length - 1
    rw [if_pos (by decide)]
    omega
  unfold cutDs
  rw [HT.sIx_none, e, List.drop_zero, Nat.sub_zero]
theorem rd_cat {K : PySem.W.Frag} {B : Addr → Prop} {H : Hp} {a b : Addr} {xs ys : List V} {l m : List Da} {Q : VK} (ha : H a = some (.tup xs)) (hb : H b = some (.tup ys)) (el : EncsB B H l xs) (em : EncsB B H m ys) (hz : l.length + m.length ≤ 100000)
    (k : ∀ q zs H', Grow H H' → H' q = some (.tup zs) → EncsB B H' (l ++ m) zs → Q (.ref q) H') : rCatA K (.ref a) (.ref b) H Q := by
  have h1 := el.length
  have h2 := em.length
  refine ⟨a, b, xs, ys, rfl, rfl, SqT.of ha, SqT.of hb, by rw [sizeLine_eq]; omega, fun e => ?_, fun _ e => ?_, fun _ _ p hp => ?_⟩
  · subst e
    cases el
    exact k b ys H (Grow.refl H) hb em
  · subst e
    cases em
    have e1 : l ++ [] = l := List.append_nil l
    exact k a xs H (Grow.refl H) ha (by rw [e1]; exact el)
  · have g := Grow.new (o := .tup (xs ++ ys)) hp
    exact k p _ _ g upd_same ((encs_app el em).grow g)
/-! ### a number that isn't struck is never below 0 -/
theorem sum_nn : ∀ {l : List Int}, (∀ x ∈ l, 0 ≤ x) → 0 ≤ l.sum
  | [], _ => Int.le_refl _
  | a :: r, h => by
    rw [List.sum_cons]
    have h1 := h a List.mem_cons_self
    have h2 := sum_nn fun x hx => h x (List.mem_cons_of_mem _ hx)
    omega
theorem evS_nn {ks : List Kd1} {mss : List Ms1} (ok : KdsOk ks) (mo : MsOk ks mss) {st : List Str} {ws : List Wd} (h : Wants (mksOf ks) st ws) :
    ∀ (j : Nat) (k : Str) (f : Fn) (n : Nat), st[j]? = some k → (evS ks mss ws)[j]? = some f → (knS mss)[n]? = some k → ¬ Struck mss n → 0 ≤ f n := by
  induction h with
  | nil => exact fun j k f n h => (nomatch h)
  | @cons kind fs st wd ws hf t ih =>
    intro j k f n h1 h2 h3 h4
    cases wd with
    | inl v =>
      obtain ⟨rfl, rfl⟩ := hf
      match j, h1, h2 with
      | 0, h1, h2 =>
        cases h1
        have := kn_whole ok mo h3
        subst this
        exact absurd .zero h4
      | j' + 1, h1, h2 => exact ih j' k f n h1 h2 h3 h4
    | inr m =>
      obtain ⟨hkw, hm⟩ := hf
      have hel := evS_len (mss := mss) ok t
      have h2' : ((fun n => rowV (rowF ks mss n m) ((evS ks mss ws).take (fsF (mksOf ks) m).length)) :: (evS ks mss ws).drop (fsF (mksOf ks) m).length)[j]? = some f := h2
      rw [fsF_eq ok hm] at h2'
      match j, h1, h2' with
      | 0, h1, h2' =>
        cases h1
        cases h2'
        obtain ⟨r, hr⟩ := row_ex ok mo hm hkw h3
        have ro := (hr.ok ok mo hm).1
        obtain ⟨ms, kd, mk, i, a1, a2, _, _, _, _, a7⟩ := hr
        have hrm := List.mem_of_getElem? a7
        obtain ⟨n', rfl⟩ : ∃ n', n = n' + 1 := ⟨n - 1, by omega⟩
        rw [Nat.add_sub_cancel] at a2
        show 0 ≤ rowV (rowF ks mss (n' + 1) m) _
        rw [rowF_eq ok ⟨ms, kd, mk, i, a1, by rw [Nat.add_sub_cancel]; exact a2, by assumption, by assumption, by assumption, by assumption, a7⟩]
        have c0 : 0 ≤ r.1 := Int.not_lt.mp fun z => h4 (.const a2 hrm z)
        unfold rowV
        have s0 : 0 ≤ (r.2.map fun t => t.2.2 * fnAt ((evS ks mss ws).take fs.length) t.1 t.2.1).sum := by
          refine sum_nn fun x hx => ?_
          obtain ⟨tm, htm, rfl⟩ := List.mem_map.mp hx
          have p0 : 0 ≤ tm.2.2 := Int.not_lt.mp fun z => h4 (.coef a2 hrm htm z)
          have ns : ¬ Struck mss tm.2.1 := fun z => h4 (.term a2 hrm htm z)
          obtain ⟨s, b1, b2⟩ := (ro.ts tm htm).bel
          have hlt := (List.getElem?_eq_some_iff.mp b2).1
          rw [List.length_append] at hel
          obtain ⟨ft, hft⟩ : ∃ ft, (evS ks mss ws)[tm.1]? = some ft := ⟨_, List.getElem?_eq_getElem (by omega)⟩
          have hv := ih tm.1 s ft tm.2.1 (by rw [List.getElem?_append_left hlt]; exact b2) hft b1 ns
          have e : fnAt ((evS ks mss ws).take fs.length) tm.1 tm.2.1 = ft tm.2.1 := by
            unfold fnAt
            rw [List.getElem?_take_of_lt hlt, hft]
            rfl
          rw [e]
          exact Int.mul_nonneg p0 hv
        omega
      | j' + 1, h1, h2' =>
        have h2'' : ((evS ks mss ws).drop fs.length)[j']? = some f := h2'
        rw [List.getElem?_drop] at h2''
        exact ih _ k f n (by rw [List.getElem?_append_right (Nat.le_add_right _ _), Nat.add_sub_cancel_left]; exact h1) h2'' h3 h4
theorem evV_nn {ks : List Kd1} {mss : List Ms1} (ok : KdsOk ks) (mo : MsOk ks mss) {kind : Str} {ws : List Wd} (h : Wants (mksOf ks) [kind] ws) {n : Nat} (hk : (knS mss)[n]? = some kind) (hn : ¬ Struck mss n) : 0 ≤ evV ks mss ws n := by
  have hel := evS_len (mss := mss) ok h
  have h0 : (evS ks mss ws)[0]? = some _ := List.getElem?_eq_getElem (by rw [hel]; exact Nat.zero_lt_one)
  have := evS_nn ok mo h 0 kind _ n rfl h0 hk hn
  unfold evV fnAt
  rw [h0]
  exact this
/-- a const put to -1 -/
theorem put_ok {ks : List Kd1} {mss : List Ms1} (mo : MsOk ks mss) {i q : Nat} {m : Ms1} {r : Row1} (hm : mss[i]? = some m) (hr : m.2[q]? = some r) : MsOk ks (mss.set i (m.1, m.2.set q (-1, r.2))) := by
  refine msok_map mo (by rw [List.length_set]) fun j m1 m2 h1 h2 => ?_
  by_cases c : j = i
  · subst c
    rw [hm] at h1
    cases h1
    rw [List.getElem?_set_self (List.getElem?_eq_some_iff.mp hm).1] at h2
    cases h2
    refine ⟨rfl, by rw [List.length_set], fun q' r1 r2 g1 g2 => ?_⟩
    by_cases d : q' = q
    · subst d
      rw [hr] at g1
      cases g1
      rw [List.getElem?_set_self (List.getElem?_eq_some_iff.mp hr).1] at g2
      cases g2
      exact fun kn fs h => ⟨by show (-1 : Int).natAbs ≤ _; decide, h.ts, h.le, h.asc⟩
    · rw [List.getElem?_set_ne (Ne.symm d)] at g2
      rw [g1] at g2
      cases g2
      exact fun _ _ h => h
  · rw [List.getElem?_set_ne (Ne.symm c)] at h2
    rw [h1] at h2
    cases h2
    exact ⟨rfl, rfl, fun _ r1 r2 g1 g2 => by rw [g1] at g2; cases g2; exact fun _ _ h => h⟩
theorem set_cut {α : Type} {l : List α} {i : Nat} {a : α} (h : i < l.length) : l.take i ++ [a] ++ l.drop (i + 1) = l.set i a := by
  rw [List.set_eq_take_append_cons_drop, if_pos h, List.append_assoc]
  rfl
end J1
set_option Elab.async false
set_option linter.all false
set_option maxRecDepth 100000
set_option maxHeartbeats 4000000
namespace J1
open PySem PySem.Spec PyProof.Rows L2 GxR GA ZS RZ
abbrev lVa : Stmt := top 79
theorem cVa : FnScope ["_law_well_here", "_law_kinds_here", "_law_kind", "_law_most", "_law_words", "_law_due", "_law_k", "_law_want", "_law_makers", "_law_name_here", "_law_made", "_law_maker", "_law_fields", "_law_one", "_law_f", "_law_pick"] ["_law_well_here", "_law_kinds_here", "_law_kind", "_law_most"] (defScope lVa) := ⟨rfl, rfl, rfl, by decide +kernel, rfl, by decide +kernel, by decide +kernel⟩
def rNil (K : PySem.W.Frag) (neg : Bool) : R2 := fun x y H Q => ∃ a b xs, x = .ref a ∧ y = .ref b ∧ SqL K H a xs ∧ SqL K H b [] ∧ Q (.bl (if neg = true then !xs.isEmpty else xs.isEmpty)) H
section
variable {X : Cx}
theorem op_eqNil (hu : X.A.units < cLine) : OpR X (compareOp .Eq) (rNil X.K false) := by
  intro pins s σ H x y v u Q I rx ry h
  obtain ⟨a, b, xs, rfl, rfl, ha, hb, q⟩ := h
  obtain rfl : v = .ref a := rx
  obtain rfl : u = .ref b := ry
  obtain ⟨ia, ra, pa, _⟩ := I.list ha
  obtain ⟨ib, rb, pb, _⟩ := I.list hb
  cases rb
  cases ra with
  | nil => exact SeqAt.eq_listAt (e := fun _ => true) pa.isList pb.isList rfl hu (fun j h1 _ => absurd h1 (by simp)) ⟨.bl true, H, I, rfl, q⟩
  | cons r t => exact SeqAt.eq_list_lengthsAt pa.isList pb.isList (by simp) hu ⟨.bl false, H, I, rfl, q⟩
end
def wgt (due : List Str) : Nat := (due.map fun d : Str => if d = ("whole" : Str) then 1 else 4).sum
theorem wgt_ge : ∀ l : List Str, l.length ≤ wgt l
  | [] => Nat.le_refl _
  | d :: r => by
    have ih := wgt_ge r
    unfold wgt at ih ⊢
    rw [List.map_cons, List.sum_cons, List.length_cons]
    split <;> omega
theorem wgt_le : ∀ l : List Str, wgt l ≤ 4 * l.length
  | [] => Nat.le_refl _
  | d :: r => by
    have ih := wgt_le r
    unfold wgt at ih ⊢
    rw [List.map_cons, List.sum_cons, List.length_cons]
    split <;> omega
theorem wgt_whole : ∀ {l : List Str}, (∀ f ∈ l, f = "whole") → wgt l = l.length
  | [], _ => rfl
  | d :: r, h => by
    have ih := wgt_whole (l := r) fun f hf => h f (List.mem_cons_of_mem _ hf)
    unfold wgt at ih ⊢
    rw [List.map_cons, List.sum_cons, List.length_cons, if_pos (h d List.mem_cons_self), ih]
    omega
structure VInv (H Hc : Hp) (p l A B : Addr) (ns : List Int) (n : Nat) (kind : Str) (most : Nat) (ks : List Kd1) (i : Nat) (ws : List Wd) (due : List Str) : Prop where
  w : Wl Hc p l ns n
  a : Hc A = some (.lst (ws.map wdV))
  b : Hc B = some (.lst (due.reverse.map V.str))
  bp : B ≠ p
  bl : B ≠ l
  ba : B ≠ A
  b0 : H B = none
  len : ws.length = i
  wn : ∀ rest, Wants (mksOf ks) due rest → Wants (mksOf ks) [kind] (ws ++ rest)
  le : i + wgt due ≤ most + 13
  dk : ∀ d ∈ due, d = "whole" ∨ ∃ kd ∈ ks, kd.1 = d
  nb : ∀ j : Int, Sum.inl j ∈ ws → j.natAbs ≤ 1000000000000
  so : ∀ s : Str, Sum.inr s ∈ ws → SOk s
  g : GrowW p H Hc
theorem VInv.grow {H Hc H' : Hp} {p l A B : Addr} {ns : List Int} {n : Nat} {kind : Str} {most : Nat} {ks : List Kd1} {i : Nat} {ws : List Wd} {due : List Str} (I : VInv H Hc p l A B ns n kind most ks i ws due) (g : Grow Hc H') : VInv H H' p l A B ns n kind most ks i ws due :=
  ⟨I.w.grow g, g.lst I.a, g.lst I.b, I.bp, I.bl, I.ba, I.b0, I.len, I.wn, I.le, I.dk, I.nb, I.so, I.g.trans' g.w⟩
theorem encs_wd {Hx : Hp} : ∀ {ws : List Wd}, (∀ s : Str, Sum.inr s ∈ ws → SOk s) → EncsT Hx (ws.map wdD) (ws.map wdV)
  | [], _ => .nil
  | .inl i :: r, h => .cons (.int i) (encs_wd fun s hs => h s (List.mem_cons_of_mem _ hs))
  | .inr s :: r, h => .cons (.str s (h s List.mem_cons_self)) (encs_wd fun s hs => h s (List.mem_cons_of_mem _ hs))
theorem iteF' {b : Bool} {A B : Prop} (h : b = false) (x : B) : if b = true then A else B := by
  rw [h]
  exact iteF x
def spVa : Sp := fun vs H Q _ => ∃ (p l : Addr) (ns : List Int) (n : Nat) (x : V) (ks : List Kd1) (kind : Str) (most : Nat), vs = [.ref p, x, .str kind, .int (most : Nat)] ∧ Wl H p l ns n ∧ p ≠ l ∧ EncT H (ksD ks) x ∧ KdsOk ks ∧ 1 ≤ ks.length ∧ ks.length ≤ 3 ∧ (∀ k ∈ ks, KdB (ks.map (·.1)) k) ∧ (∃ k ∈ ks, k.1 = kind) ∧ most ≤ 400 ∧ n + 5000 ≤ 1000000000000000000000000000000 ∧
  ∀ (y : V) (ws : List Wd) (H' : Hp), EncT H' (.tup (ws.map wdD)) y → Wants (mksOf ks) [kind] ws → ws.length ≤ most + 13 → (∀ i : Int, Sum.inl i ∈ ws → i.natAbs ≤ 1000000000000) → Wl H' p l ns (n + 5000) → GrowW p H H' → Q y H'
section
variable {P : Program} {w : World} {K : PySem.W.Frag} {mg : Str → Option Value} {base : Heap}
theorem ok_va {f fD fN : Addr} {fd fdD fdN : FuncData} (F : Fun K "_law_value" "_law_value" lVa f fd) (M : Gd mg) (GD : FnOk P w K mg base CX0 1 fD fdD ["_law_well_here", "_law_many"] spDr) (DD : Df K mg "_law_draw" ["_law_well_here", "_law_many"] fD fdD)
    (GNu : FnOk P w K mg base CX0 2 fN fdN ["_law_well_here"] spNu) (DNu : Df K mg "_law_number" ["_law_well_here"] fN fdN) :
    FnOk P w K mg base CX0 3 f fd ["_law_well_here", "_law_kinds_here", "_law_kind", "_law_most"] spVa := by
  refine F.ok (k := 2) cVa (fun vs H Q E h => ?_) (fun cdv A outer s H vs Q E hr h => ?_)
  · obtain ⟨_, _, _, _, _, _, _, _, rfl, _⟩ := h
    rfl
  · obtain ⟨p, l, ns, n, x, ks, kind, most, rfl, W, npl, ek, ok, k1, k3, kb, hkind, hm, hn, k⟩ := h
    refine ⟨_, (pss_cons (ps_set (i := 4) cVa.nd rfl (Or.inl rfl) (pe_lst pa_nil)) (pss_cons (ps_set (i := 5) cVa.nd rfl (Or.inl rfl) (pe_lst (pa_cons (pv 2) pa_nil))) (pss_cons (ps_for PassesOwn.never rfl (pi_range1 (by rfl) M.range (pa_cons (pe_op op_add (pe_op op_mul pe_int (pv 3)) pe_int) pa_nil)) (pg_name (i := 6) cVa.nd rfl (Or.inl rfl)) (C8.pss_cut (ps_if (pt_cmpR (op_eqNil (Nat.lt_of_succ_lt (hu_of hr))) (pv 5) (pe_lst pa_nil) (nomark _)) (pss_one (ps_ret (pe_callTy call_tuple_of (by rfl) M.tuple (by decide +kernel) (pa_cons (pv 4) pa_nil)))) pss_nil) (pss_cons (ps_set (i := 7) cVa.nd rfl (Or.inr rfl) (pe_bm0 PySem.F.plainAttrs_list PySem.F.slot_list_pop PySem.F.type_list_pop mt_pop (pv 5))) (pss_one (ps_if (pt_cmpR op_eq (pv 7) pe_str (nomark _)) (pss_one (ps_expr (pe_bm PySem.F.plainAttrs_list PySem.F.slot_list_append PySem.F.type_list_append mt_append (pv 4) (pa_cons (pe_call (GNu.mono (by decide)) hr (by rfl) DNu.g DNu.k DNu.b .nil pass0 (pa_cons (pv 0) pa_nil)) pa_nil)))) (pss_cons (ps_set (i := 8) cVa.nd rfl (Or.inl rfl) (pe_ix ix_list (pe_lc (own := [("_law_name_here", 9), ("_law_made", 10)]) (g := gTup K 2 (gCons (gName 9) (gCons (gName 10) gNil))) (by rfl) cVa.nd (pi_tup (pv 1)) (blkOk_by (own := [("_law_name_here", 9), ("_law_made", 10)]) (N := ["_law_well_here", "_law_kinds_here", "_law_kind", "_law_most", "_law_words", "_law_due", "_law_k", "_law_want", "_law_makers", "_law_name_here", "_law_made", "_law_maker", "_law_fields", "_law_one", "_law_f", "_law_pick"]) (sc := defScope lVa) (by decide +kernel)) (fun _ _ _ _ _ => (pg_tup (by rfl) (pgs_cons (pg_name (i := 9) cVa.nd rfl (Or.inl rfl)) (pgs_cons (pg_name (i := 10) cVa.nd rfl (Or.inl rfl)) pgs_nil)))) (fun _ _ _ _ _ => (pts_one (pt_cmpR op_eq (pv 9) (pv 7) (nomark _)))) (fun _ _ _ _ _ => (pv 10))) pe_int (fun _ _ => rfl))) (pss_cons (ps_asg (pe_ix ix_list (pe_lc (own := [("_law_one", 13)]) (g := gName 13) (by rfl) cVa.nd (pi_tup (pv 8)) (blkOk_by (own := [("_law_one", 13)]) (N := ["_law_well_here", "_law_kinds_here", "_law_kind", "_law_most", "_law_words", "_law_due", "_law_k", "_law_want", "_law_makers", "_law_name_here", "_law_made", "_law_maker", "_law_fields", "_law_one", "_law_f", "_law_pick"]) (sc := defScope lVa) (by decide +kernel)) (fun _ _ _ _ _ => (pg_name (i := 13) cVa.nd rfl (Or.inl rfl))) (fun _ _ _ _ _ => (pts_one (pt_cmpR (r := rNil K false) (op_eqNil (Nat.lt_of_succ_lt (hu_of hr))) (by exact (pe_lc (own := [("_law_f", 14)]) (g := gName 14) (wi := iTup K (tOp (rIxT K) (tVar 13) (tC (.int 1)))) (by rfl) cVa.nd (pi_tup (pe_ix (r := rIxT K) ix_tup (pv 13) pe_int (fun _ _ => rfl))) (blkOk_by (own := [("_law_f", 14)]) (N := ["_law_well_here", "_law_kinds_here", "_law_kind", "_law_most", "_law_words", "_law_due", "_law_k", "_law_want", "_law_makers", "_law_name_here", "_law_made", "_law_maker", "_law_fields", "_law_one", "_law_f", "_law_pick"]) (sc := { kind := ScopeKind.function, names := [(".0", NameKind.local), ("_law_one", NameKind.local)], isGenerator := false, isCoroutine := false }) (by decide +kernel)) (fun _ _ _ _ _ => (pg_name (i := 14) cVa.nd rfl (Or.inl rfl))) (fun _ _ _ _ _ => (pts_one (pt_cmpR op_ne (pv 14) pe_str (nomark _)))) (fun _ _ _ _ _ => (pv 14)))) (pe_lst pa_nil) (nomark _)))) (fun _ _ _ _ _ => (pv 13))) pe_int (fun _ _ => rfl)) (pg_tup (by rfl) (pgs_cons (pg_name (i := 11) cVa.nd rfl (Or.inl rfl)) (pgs_cons (pg_name (i := 12) cVa.nd rfl (Or.inl rfl)) pgs_nil)))) (C8.pss_cut (ps_if (pt_cmpR op_lt (pe_op op_add (pe_callB call_len_seq (by rfl) M.len PySem.boot_len (pa_cons (pv 4) pa_nil)) (pe_op op_mul pe_int (pe_callB call_len_seq (by rfl) M.len PySem.boot_len (pa_cons (pv 5) pa_nil)))) (pv 3) (nomark _)) (pss_cons (ps_set (i := 15) cVa.nd rfl (Or.inl rfl) (pe_callB (call_max2 rfl) (by rfl) M.max (by decide +kernel) (pa_cons (pe_call (GD.mono (by decide)) hr (by rfl) DD.g DD.k DD.b .nil pass0 (pa_cons (pv 0) (pa_cons (pe_callB call_len_seq (by rfl) M.len PySem.boot_len (pa_cons (pv 8) pa_nil)) pa_nil))) (pa_cons (pe_call (GD.mono (by decide)) hr (by rfl) DD.g DD.k DD.b .nil pass0 (pa_cons (pv 0) (pa_cons (pe_callB call_len_seq (by rfl) M.len PySem.boot_len (pa_cons (pv 8) pa_nil)) pa_nil))) pa_nil)))) (pss_one (ps_asg (pe_ix ix_tup (pv 8) (pv 15) (fun _ _ => rfl)) (pg_tup (by rfl) (pgs_cons (pg_name (i := 11) cVa.nd rfl (Or.inl rfl)) (pgs_cons (pg_name (i := 12) cVa.nd rfl (Or.inl rfl)) pgs_nil)))))) pss_nil) (pss_cons (ps_expr (pe_bm PySem.F.plainAttrs_list PySem.F.slot_list_append PySem.F.type_list_append mt_append (pv 4) (pa_cons (pv 11) pa_nil))) (pss_one (ps_set (i := 5) cVa.nd rfl (Or.inl rfl) (pe_op op_cat (pv 5) (pe_callTy call_list_of (by rfl) M.list (by decide +kernel) (pa_cons (pe_revT (pv 12)) pa_nil)))))))))))))) (pss_one (ps_ret (pe_callTy call_tuple_of (by rfl) M.tuple (by decide +kernel) (pa_cons (pv 4) pa_nil))))))), ?_⟩
    cases ek with
    | @tup xk xs _ hx es =>
    have hl := es.length
    rw [List.length_map] at hl
    obtain ⟨yp, hyp⟩ := W.pl
    refine ⟨Nat.zero_le _, fun A hA => ?_⟩
    have kA := Grow.new (o := .lst []) hA
    have nAp := (W.np hA).1
    have nAl := (W.np hA).2
    refine ⟨_, rfl, (by show 1 ≤ sizeLine; decide), fun B hB => ?_⟩
    have kB := Grow.new (o := .lst [.str kind]) hB
    have nBp := ((W.grow kA).np hB).1
    have nBl := ((W.grow kA).np hB).2
    have nBA : B ≠ A := fun z => by rw [z, upd_same] at hB; cases hB
    have hB0 := kA.none' hB
    have hA1 := kB.lst (upd_same (H := H) (a := A) (o := .lst []))
    have hB1 := upd_same (H := upd H A (.lst [])) (a := B) (o := .lst [.str kind])
    have gAB := kA.trans kB
    generalize upd (upd H A (.lst [])) B (.lst [.str kind]) = H1 at hA1 hB1 gAB ⊢
    have eT : ((9 : Int) * ((most : Nat) : Int) + 60).toNat = 9 * most + 60 := by omega
    refine ⟨_, rfl, _, _, rfl, rfl, .inl ⟨by decide, by decide⟩, _, _, rfl, rfl, _, rfl, Int.le_trans (by decide) (by omega : (0 : Int) ≤ (9 : Int) * ((most : Nat) : Int) + 60), Int.lt_of_lt_of_le (by omega : (9 : Int) * ((most : Nat) : Int) + 60 < 4000) (by decide), ?_⟩
    rw [eT]
    have okk : ∀ d, d ∈ [kind] → d = "whole" ∨ ∃ kd ∈ ks, kd.1 = d := fun d h => by rw [List.mem_singleton.mp h]; exact .inr hkind
    refine for_range (n := 9 * most + 60) (fun i σ' Hc => ∃ v6 v7 v8 v11 v12 v15, ∃ (Bq : Addr) (ws : List Wd) (due : List Str), σ' = [some (.ref p), some (.ref xk), some (.str kind), some (.int (most : Nat)), some (.ref A), some (.ref Bq), v6, v7, v8, none, none, v11, v12, none, none, v15] ∧ VInv H Hc p l A Bq ns (n + 8 * i) kind most ks i ws due)
      ⟨_, _, _, _, _, _, B, [], [kind], rfl, ⟨W.grow gAB, hA1, hB1, nBp, nBl, nBA, hB0, rfl, fun rest h => h, by unfold wgt; simp; split <;> omega, okk, fun j h => (nomatch h), fun d h => (nomatch h), gAB.w⟩⟩ (fun i σ' Hc hi hp => ?_) (fun σ' Hc hp => ?_)
    · obtain ⟨v6, v7, v8, v11, v12, v15, Bq, ws, due, rfl, I⟩ := hp
      refine ⟨fun σ' H' => σ' = [some (.ref p), some (.ref xk), some (.str kind), some (.int (most : Nat)), some (.ref A), some (.ref Bq), some (.int ((0 : Int) + (i : Nat))), v7, v8, none, none, v11, v12, none, none, v15] ∧ due ≠ [] ∧ VInv H H' p l A Bq ns (n + 8 * i) kind most ks i ws due, ?_, ?_⟩
      · refine ⟨_, rfl, Nat.zero_le _, fun q hq => ?_⟩
        have kq := Grow.new (o := .lst []) hq
        have I1 := I.grow kq
        refine ⟨Bq, q, _, rfl, rfl, SqL.of I1.b, SqL.of upd_same, _, rfl, ?_⟩
        cases due with
        | nil =>
          refine iteT ⟨_, rfl, A, _, rfl, .inl ⟨SqL.of I1.a, fun t ht => ?_⟩⟩
          have kt := Grow.new (o := .tup (ws.map wdV)) ht
          have hw := I.len
          refine k (.ref t) ws _ (.tup upd_same (encs_wd I.so)) (by have := I.wn [] .nil; rwa [List.append_nil] at this) (by have := I.le; omega) I.nb ((I1.w.grow kt).more (by have := I.le; omega)) (I1.g.trans' kt.w)
        | cons d0 due' =>
          refine iteF' (by simp) ?_
          exact ⟨rfl, by simp, I1⟩
      · rintro σ' H2 ⟨rfl, hne, I2⟩
        obtain ⟨d0, due', rfl⟩ := List.exists_cons_of_ne_nil hne
        have e1 : ((d0 :: due').reverse.map V.str) = due'.reverse.map V.str ++ [V.str d0] := by rw [List.reverse_cons, List.map_append]; rfl
        have hb2 := I2.b
        rw [e1] at hb2
        refine ⟨_, rfl, .inl ⟨rfl, _, SqL.of hb2⟩, Bq, _, .str d0, rfl, rfl, hb2, by simp, ?_⟩
        have e2 : (due'.reverse.map V.str ++ [V.str d0]).dropLast = due'.reverse.map V.str := List.dropLast_concat
        rw [e2]
        have hA3 : L2.upd H2 Bq (.lst (due'.reverse.map V.str)) A = some (.lst (ws.map wdV)) := by rw [upd_ne I2.ba.symm]; exact I2.a
        have hB3 := upd_same (H := H2) (a := Bq) (o := .lst (due'.reverse.map V.str))
        have W3 := I2.w.upd (o := .lst (due'.reverse.map V.str)) I2.bp I2.bl
        have G3 := I2.g.but I2.b0 (o := .lst (due'.reverse.map V.str))
        generalize L2.upd H2 Bq (.lst (due'.reverse.map V.str)) = H3 at hA3 hB3 W3 G3 ⊢
        have hle := I2.le
        have hwl := I2.len
        have hdk := I2.dk
        refine ⟨_, rfl, rfl, _, rfl, ?_⟩
        by_cases hd : d0 = "whole"
        · have hwg : wgt (d0 :: due') = 1 + wgt due' := by
            unfold wgt
            rw [List.map_cons, List.sum_cons, if_pos hd]
          refine ifT (congrArg V.str hd) ⟨_, rfl, .inl ⟨rfl, _, SqL.of hA3⟩, _, rfl, p, l, ns, n + 8 * i, rfl, W3, npl, by omega, fun r H4 hr W4 g4 => ?_⟩
          refine ⟨A, _, _, rfl, rfl, g4.lst nAp hA3, by rw [List.length_map, sizeLine_eq]; omega, ?_⟩
          refine ⟨_, _, _, _, _, _, Bq, ws ++ [.inl r], due', rfl, ⟨(W4.upd nAp nAl).more (by omega), by rw [upd_same, List.map_append]; rfl, by rw [upd_ne I2.ba]; exact g4.lst I2.bp hB3, I2.bp, I2.bl, I2.ba, I2.b0, by rw [List.length_append, hwl]; rfl, fun rest h => ?_, by omega, fun d h => hdk d (List.mem_cons_of_mem _ h), fun j h => ?_, fun s h => ?_, (G3.trans' g4).but hA⟩⟩
          · rw [List.append_assoc]
            exact I2.wn (.inl r :: rest) (.cons (fs := []) ⟨hd, rfl⟩ h)
          · rcases List.mem_append.mp h with h | h
            · exact I2.nb j h
            · have := Sum.inl.inj (List.mem_singleton.mp h)
              rw [this]; exact hr
          · rcases List.mem_append.mp h with h | h
            · exact I2.so s h
            · cases List.mem_singleton.mp h
        · have hwg : wgt (d0 :: due') = 4 + wgt due' := by
            unfold wgt
            rw [List.map_cons, List.sum_cons, if_neg hd]
          obtain ⟨kd, hkd, hkn⟩ := (hdk d0 List.mem_cons_self).resolve_left hd
          refine ifF (fun z => hd (V.str.inj z)) ?_
          have hx3 := G3.tup hyp hx
          refine ⟨_, rfl, xk, rfl, ⟨_, SqT.of hx3⟩, fun D hD => ?_⟩
          refine lc_tup (K := K) (xs := xs) (fun j Hx => ∃ (sel : List Kd1) (zs : List V), Hx D = some (.lst zs) ∧ EncsT H (sel.map fun k => mksD k.2) zs ∧ (∀ k ∈ sel, k ∈ ks ∧ k.1 = d0) ∧ ((∃ k ∈ ks.take j, k.1 = d0) → sel ≠ []) ∧ zs.length ≤ j ∧ Grow H3 Hx) ⟨[], [], upd_same, .nil, fun k h => (nomatch h), fun ⟨k, h, _⟩ => (nomatch h), Nat.le_refl _, Grow.new hD⟩ (fun j Hx _ hp => SqT.of (hp.choose_spec.choose_spec.2.2.2.2.2.tup hx3)) (fun j y Hx hy hp => ?_) (fun Hx hp => ?_)
          · obtain ⟨sel, zs, hacc, ez, hsel, hne, hzl, gx⟩ := hp
            obtain ⟨d1, hd1, ey⟩ := es.get hy
            obtain ⟨kj, hkj, rfl⟩ := map_get hd1
            have hj := (List.getElem?_eq_some_iff.mp hkj).1
            cases ey with
            | @tup bb us _ hb eb =>
            cases eb with
            | @cons _ u0 _ _ f0 eb =>
            cases eb with
            | @cons _ u1 _ _ f1 eb =>
            cases eb
            cases f0
            refine ⟨bb, _, rfl, SqT.of (gx.tup (G3.tup hyp hb)), rfl, _, _, rfl, _, _, rfl, rfl, rfl, ?_⟩
            refine ⟨_, rfl, _, rfl, rfl, _, rfl, ?_⟩
            by_cases hk : kj.1 = d0
            · refine ifT (congrArg V.str hk) ⟨_, rfl, _, hacc, by rw [sizeLine_eq]; omega, sel ++ [kj], zs ++ [u1], upd_same, ?_, fun k h => ?_, fun _ => by simp, by rw [List.length_append]; show zs.length + 1 ≤ _; omega, gx.upd' hD⟩
              · rw [List.map_append]
                exact encs_push ez f1
              · rcases List.mem_append.mp h with h | h
                · exact hsel k h
                · rw [List.mem_singleton.mp h]; exact ⟨List.mem_of_getElem? hkj, hk⟩
            · refine ifF (fun z => hk (V.str.inj z)) ⟨sel, zs, hacc, ez, hsel, fun ⟨k, h, e⟩ => ?_, by omega, gx⟩
              rw [List.take_succ, hkj] at h
              rcases List.mem_append.mp h with h | h
              · exact hne ⟨k, h, e⟩
              · have : k = kj := by simpa using h
                rw [this] at e
                exact absurd e hk
          obtain ⟨sel, zs, hacc, ez, hsel, hne, hzl, gx⟩ := hp
          rw [← hl, List.take_length] at hne
          have hne := hne ⟨kd, hkd, hkn⟩
          obtain ⟨k0, sel', rfl⟩ := List.exists_cons_of_ne_nil hne
          cases ez with
          | @cons _ z0 _ zs' ez0 _ =>
          obtain ⟨hk0, hk0n⟩ := hsel k0 List.mem_cons_self
          cases ez0 with
          | @tup am xm _ ham em =>
          have hml := em.length
          rw [List.length_map] at hml
          obtain ⟨kb1, kb2, kb3, mkw, hmkw, hww⟩ := kb k0 hk0
          have G4 := G3.trans' gx.w
          refine ⟨D, _, _, _, rfl, rfl, SqL.of hacc, at_of (j := 0) rfl rfl, ?_⟩
          -- a maker of wholes
          refine ⟨_, rfl, am, rfl, ⟨_, SqT.of (G4.tup hyp ham)⟩, fun D2 hD2 => ?_⟩
          refine lc_tup (K := K) (xs := xm) (fun j Hy => ∃ (sel : List Mk1) (zs : List V), Hy D2 = some (.lst zs) ∧ EncsT H (sel.map mkD) zs ∧ (∀ m ∈ sel, m ∈ k0.2 ∧ ∀ f ∈ m.2, f = "whole") ∧ ((∃ m ∈ k0.2.take j, ∀ f ∈ m.2, f = "whole") → sel ≠ []) ∧ zs.length ≤ j ∧ Grow Hx Hy) ⟨[], [], upd_same, .nil, fun m h => (nomatch h), fun ⟨m, h, _⟩ => (nomatch h), Nat.le_refl _, Grow.new hD2⟩ (fun j Hy _ hp => SqT.of (hp.choose_spec.choose_spec.2.2.2.2.2.tup (G4.tup hyp ham))) (fun j y Hy hy hp => ?_) (fun Hy hp => ?_)
          · obtain ⟨sel, zs, hacc, ez, hsel, hne, hzl, gy⟩ := hp
            obtain ⟨d1, hd1, ey⟩ := em.get hy
            obtain ⟨mj, hmj, rfl⟩ := map_get hd1
            have ey0 := ey
            cases ey with
            | @tup bb us _ hb eb =>
            cases eb with
            | @cons _ u0 _ _ f0 eb =>
            cases eb with
            | @cons _ u1 _ _ f1 eb =>
            cases eb
            cases f0
            cases f1 with
            | @tup af xf _ haf ef =>
            have exf := strs_vals ef
            subst exf
            have G5 := G4.trans' gy.w
            refine ⟨wipe_set, ?_⟩
            refine ⟨_, rfl, bb, _, _, _, rfl, rfl, SqT.of (G5.tup hyp hb), at_of (j := 1) rfl rfl, af, rfl, ⟨_, SqT.of (G5.tup hyp haf)⟩, fun D3 hD3 => ?_⟩
            refine lc_tup (K := K) (xs := mj.2.map V.str) (fun a Hz => Hz D3 = some (.lst (((mj.2.take a).filter fun f => !decide (f = ("whole" : Str))).map V.str)) ∧ Grow Hy Hz) ⟨upd_same, Grow.new hD3⟩ (fun a Hz _ hp => SqT.of (hp.2.tup (G5.tup hyp haf))) (fun a z Hz hz hp => ?_) (fun Hz hp => ?_)
            · obtain ⟨hac3, g3⟩ := hp
              obtain ⟨fl, hfl, rfl⟩ : ∃ fl, mj.2[a]? = some fl ∧ z = .str fl := by
                rw [List.getElem?_map] at hz
                cases e : mj.2[a]? with
                | none => rw [e] at hz; cases hz
                | some x => rw [e] at hz; cases hz; exact ⟨x, rfl, rfl⟩
              have stp : (mj.2.take (a + 1)).filter (fun f => !decide (f = ("whole" : Str))) = (mj.2.take a).filter (fun f => !decide (f = ("whole" : Str))) ++ (if fl = "whole" then [] else [fl]) := by
                rw [List.take_succ, hfl, List.filter_append]
                refine congrArg _ ?_
                show List.filter _ [fl] = _
                by_cases h : fl = "whole"
                · rw [List.filter_cons, decide_eq_true h, if_pos h]; rfl
                · rw [List.filter_cons, decide_eq_false h, if_neg h]; rfl
              have hfl3 := (kb3 mj (List.mem_of_getElem? hmj)).1
              have hfle : ((mj.2.take a).filter fun f => !decide (f = ("whole" : Str))).length ≤ 3 := by
                have h1 := List.length_filter_le (fun f => !decide (f = ("whole" : Str))) (mj.2.take a)
                have h2 := List.length_take_le a mj.2
                have h3 : (mj.2.take a).length ≤ mj.2.length := by rw [List.length_take]; omega
                omega
              refine ⟨wipe_set, ?_⟩
              refine ⟨_, rfl, rfl, _, rfl, ?_⟩
              by_cases h : fl = "whole"
              · rw [decide_eq_true (congrArg V.str h)]
                refine iteF ⟨?_, g3⟩
                rw [stp, if_pos h, List.append_nil]
                exact hac3
              · rw [decide_eq_false (fun z => h (V.str.inj z))]
                refine iteT ⟨_, rfl, _, hac3, by rw [List.length_map, sizeLine_eq]; omega, ?_, g3.upd' hD3⟩
                rw [upd_same, stp, if_neg h, List.map_append]
                rfl
            · obtain ⟨hac3, g3⟩ := hp
              rw [List.length_map, List.take_length] at hac3
              refine ⟨Nat.zero_le _, fun q hq => ?_⟩
              have gq := Grow.new (o := .lst []) hq
              refine ⟨D3, q, _, rfl, rfl, SqL.of (gq.lst hac3), SqL.of upd_same, _, rfl, ?_⟩
              have gz := gy.trans (g3.trans gq)
              have hacc2 := (g3.trans gq).lst hacc
              have hjl := (List.getElem?_eq_some_iff.mp hmj).1
              by_cases hw : ∀ f ∈ mj.2, f = "whole"
              · have he : (mj.2.filter fun f => !decide (f = ("whole" : Str))) = [] := by
                  rw [List.filter_eq_nil_iff]
                  intro f hf z
                  rw [decide_eq_true (hw f hf)] at z
                  cases z
                rw [he]
                refine iteT ⟨_, rfl, _, hacc2, by rw [sizeLine_eq]; omega, sel ++ [mj], zs ++ [.ref bb], upd_same, ?_, fun m h => ?_, fun _ => by simp, by rw [List.length_append]; show zs.length + 1 ≤ _; omega, gz.upd' hD2⟩
                · rw [List.map_append]
                  exact encs_push ez ey0
                · rcases List.mem_append.mp h with h | h
                  · exact hsel m h
                  · rw [List.mem_singleton.mp h]; exact ⟨List.mem_of_getElem? hmj, hw⟩
              · have he : ((mj.2.filter fun f => !decide (f = ("whole" : Str))).map V.str).isEmpty = false := by
                  cases hc : (mj.2.filter fun f => !decide (f = ("whole" : Str))) with
                  | nil =>
                    rw [List.filter_eq_nil_iff] at hc
                    refine absurd (fun f hf => ?_) hw
                    by_cases h : f = "whole"
                    · exact h
                    · exact absurd (by rw [decide_eq_false h]; rfl) (hc f hf)
                  | cons c r => rfl
                rw [he]
                refine iteF ⟨sel, zs, hacc2, ez, hsel, fun ⟨m, h, e⟩ => ?_, by omega, gz⟩
                rw [List.take_succ, hmj] at h
                rcases List.mem_append.mp h with h | h
                · exact hne ⟨m, h, e⟩
                · have : m = mj := by simpa using h
                  rw [this] at e
                  exact absurd e hw
          obtain ⟨sel, zs, hacc, ez, hsel, hne, hzl, gy⟩ := hp
          rw [← hml, List.take_length] at hne
          have hne := hne ⟨mkw, hmkw, hww⟩
          obtain ⟨m0, sel', rfl⟩ := List.exists_cons_of_ne_nil hne
          cases ez with
          | @cons _ z0 _ zs' ez0 _ =>
          obtain ⟨hm0, hm0w⟩ := hsel m0 List.mem_cons_self
          have G5 := G4.trans' gy.w
          have unp : ∀ (m : Mk1) (z : V), EncT H (mkD m) z → ∃ b0 af, z = .ref b0 ∧ H b0 = some (.tup [.str m.1, .ref af]) ∧ EncT H (fsD m.2) (.ref af) ∧ SOk m.1 := fun m z e => by
            cases e with
            | @tup bb us _ hb eb =>
            cases eb with
            | @cons _ u0 _ _ f0 eb =>
            cases eb with
            | @cons _ u1 _ _ f1 eb =>
            cases eb
            cases f0 with
            | str _ hs =>
            have f1' := f1
            cases f1 with
            | tup _ _ => exact ⟨_, _, rfl, hb, f1', hs⟩
          obtain ⟨b0, af0, rfl, hb0, ef0, hs0⟩ := unp m0 z0 ez0
          refine ⟨D2, _, _, _, rfl, rfl, SqL.of hacc, at_of (j := 0) rfl rfl, b0, _, rfl, SqT.of (G5.tup hyp hb0), rfl, _, _, rfl, _, _, rfl, rfl, ?_⟩
          have gxy := gx.trans gy
          have W5 := W3.grow gxy
          have hA5 := gxy.lst hA3
          have hB5 := gxy.lst hB3
          refine ⟨fun σ' H' => ∃ v15, ∃ (mk : Mk1) (af : Addr), σ' = [some (.ref p), some (.ref xk), some (.str kind), some (.int (most : Nat)), some (.ref A), some (.ref Bq), some (.int ((0 : Int) + (i : Nat))), some (.str d0), some (.ref am), none, none, some (.str mk.1), some (.ref af), none, none, v15] ∧ mk ∈ k0.2 ∧ EncT H (fsD mk.2) (.ref af) ∧ SOk mk.1 ∧ ((∀ f ∈ mk.2, f = "whole") ∨ ws.length + 6 * due'.length < most) ∧ Wl H' p l ns (n + 8 * i + 2) ∧ H' A = some (.lst (ws.map wdV)) ∧ H' Bq = some (.lst (due'.reverse.map V.str)) ∧ GrowW p H H', ?_, ?_⟩
          · refine ⟨_, rfl, A, _, rfl, .inl (SqL.of hA5), _, rfl, Bq, _, rfl, .inl (SqL.of hB5), _, _, rfl, rfl, .inl ⟨by decide, by decide⟩, _, _, rfl, rfl, _, rfl, _, _, rfl, rfl, _, rfl, ?_⟩
            by_cases hgr : ws.length + 6 * due'.length < most
            · refine ifT (by rw [List.length_map, List.length_map, List.length_reverse]; omega) ?_
              refine ⟨_, rfl, _, rfl, am, _, rfl, .inr (SqT.of (G5.tup hyp ham)), p, l, ns, n + 8 * i, ((xm.length : Nat) : Int), rfl, by omega, cdw (by omega) (Nat.lt_of_lt_of_le (show (((xm.length : Nat) : Int)).natAbs < 8 by omega) (by decide)), W5, by omega, npl, fun a H6 a0 a1 W6 g6 => ?_⟩
              have G6 := G5.trans' g6
              refine ⟨_, rfl, _, rfl, am, _, rfl, .inr (SqT.of (G6.tup hyp ham)), p, l, ns, n + 8 * i + 1, ((xm.length : Nat) : Int), rfl, by omega, cdw (by omega) (Nat.lt_of_lt_of_le (show (((xm.length : Nat) : Int)).natAbs < 8 by omega) (by decide)), W6, by omega, npl, fun b H7 c0 c1 W7 g7 => ?_⟩
              have G7 := G6.trans' g7
              obtain ⟨pk, hpk, hpl⟩ : ∃ pk : Nat, (if b > a then b else a) = (pk : Int) ∧ pk < xm.length := ⟨(if b > a then b else a).toNat, by split <;> omega, by split <;> omega⟩
              refine ⟨_, _, rfl, ?_⟩
              rw [hpk]
              obtain ⟨d1, hd1, ey⟩ := em.get (List.getElem?_eq_getElem hpl)
              obtain ⟨mk, hmk, rfl⟩ := map_get hd1
              have hzj : xm[pk]? = some xm[pk] := List.getElem?_eq_getElem hpl
              generalize xm[pk] = zj at ey hzj
              obtain ⟨b2, af2, rfl, hb2', ef2, hs2⟩ := unp mk zj ey
              refine ⟨_, rfl, _, rfl, am, _, _, _, rfl, rfl, SqT.of (G7.tup hyp ham), at_g (j := pk) rfl hzj, b2, _, rfl, SqT.of (G7.tup hyp hb2'), rfl, _, _, rfl, _, _, rfl, rfl, ?_⟩
              exact ⟨_, mk, af2, rfl, List.mem_of_getElem? hmk, ef2, hs2, .inr hgr, W7.more (by omega), g7.lst nAp (g6.lst nAp hA5), g7.lst I2.bp (g6.lst I2.bp hB5), G7⟩
            · refine ifF (by rw [List.length_map, List.length_map, List.length_reverse]; omega) ?_
              exact ⟨_, m0, af0, rfl, hm0, ef0, hs0, .inl hm0w, W5.more (by omega), hA5, hB5, G5⟩
          · rintro σ' H6 ⟨v15, mk, af, rfl, hmk, ef, hsm, hcase, W6, hA6, hB6, G6⟩
            refine ⟨_, rfl, .inl ⟨rfl, _, SqL.of hA6⟩, _, rfl, A, _, _, rfl, rfl, hA6, by rw [List.length_map, sizeLine_eq]; omega, ?_⟩
            have W7 := W6.upd (o := .lst (ws.map wdV ++ [.str mk.1])) nAp nAl
            have G7 := G6.but hA (o := .lst (ws.map wdV ++ [.str mk.1]))
            have hA7 := upd_same (H := H6) (a := A) (o := .lst (ws.map wdV ++ [.str mk.1]))
            have hB7 : L2.upd H6 A (.lst (ws.map wdV ++ [.str mk.1])) Bq = some (.lst (due'.reverse.map V.str)) := by rw [upd_ne I2.ba]; exact hB6
            generalize L2.upd H6 A (.lst (ws.map wdV ++ [.str mk.1])) = H7 at W7 G7 hA7 hB7 ⊢
            cases ef with
            | @tup _ xf _ haf ef =>
            have exf := strs_vals ef
            subst exf
            refine ⟨_, rfl, _, rfl, af, _, rfl, SqT.of (G7.tup hyp haf), fun t ht => ?_⟩
            have kt := Grow.new (o := .tup (mk.2.map V.str).reverse) ht
            refine ⟨t, _, rfl, .inr (SqT.of upd_same), fun u hu => ?_⟩
            have ku := Grow.new (o := .lst (mk.2.map V.str).reverse) hu
            have hmk3 := (kb3 mk hmk).1
            have hdl : due'.length ≤ most + 13 := by
              have : due'.length ≤ wgt due' := wgt_ge due'
              omega
            refine ⟨Bq, u, _, _, rfl, rfl, ku.lst (kt.lst hB7), upd_same, by rw [List.length_map, List.length_reverse, List.length_reverse, List.length_map, sizeLine_eq]; omega, fun v hv => ?_⟩
            have kv := Grow.new (o := .lst (due'.reverse.map V.str ++ (mk.2.map V.str).reverse)) hv
            have kk := (kt.trans ku).trans kv
            have nvp := (((W7.grow kt).grow ku).np hv)
            have nvA : v ≠ A := fun z => by rw [z, ku.lst (kt.lst hA7)] at hv; cases hv
            have hv0 := G7.none' nvp.1 ((kt.trans ku).none' hv)
            refine ⟨_, _, _, _, _, _, v, ws ++ [.inr mk.1], mk.2 ++ due', rfl, ⟨(W7.grow kk).more (by omega), by rw [kk.lst hA7, List.map_append]; rfl, ?_, nvp.1, nvp.2, nvA, hv0, by rw [List.length_append, hwl]; rfl, fun rest h => ?_, ?_, fun d h => ?_, fun j h => ?_, fun s h => ?_, G7.trans' kk.w⟩⟩
            · rw [upd_same, List.reverse_append, List.map_append, List.map_reverse, List.map_reverse]
            · rw [List.append_assoc]
              refine I2.wn (.inr mk.1 :: rest) (.cons (fs := mk.2) ⟨hd, ?_⟩ h)
              rw [← hk0n]
              exact mks_mem hk0 hmk
            · have e3 : wgt (mk.2 ++ due') = wgt mk.2 + wgt due' := by unfold wgt; rw [List.map_append, List.sum_append]
              rw [e3]
              rcases hcase with h | h
              · have := wgt_whole h
                omega
              · have h1 := wgt_le mk.2
                have h2 := wgt_le due'
                omega
            · rcases List.mem_append.mp h with h | h
              · rcases (kb3 mk hmk).2 d h with z | z
                · exact .inl z
                · obtain ⟨k', hk', e⟩ := List.mem_map.mp z
                  exact .inr ⟨k', hk', e⟩
              · exact hdk d (List.mem_cons_of_mem _ h)
            · rcases List.mem_append.mp h with h | h
              · exact I2.nb j h
              · cases List.mem_singleton.mp h
            · rcases List.mem_append.mp h with h | h
              · exact I2.so s h
              · have := Sum.inr.inj (List.mem_singleton.mp h)
                rw [this]; exact hsm
    · obtain ⟨v6, v7, v8, v11, v12, v15, Bq, ws, due, rfl, I⟩ := hp
      exact absurd I.le (by omega)
end
end J1
set_option Elab.async false
set_option linter.all false
set_option maxRecDepth 100000
set_option maxHeartbeats 4000000
namespace J1
open PySem PySem.Spec PyProof.Rows L2 GxR GA ZS RZ
abbrev lLaw : Stmt := top 84
theorem cLaw : FnScope ["_law_script", "_law_well_here", "_law_kinds_here", "_law_measures_here", "_law_core", "_law_struck_here", "_law_number_here", "_law_kind", "_law_rows", "_law_m", "_law_turned"] ["_law_script"] (defScope lLaw) := ⟨rfl, rfl, rfl, by decide +kernel, rfl, by decide +kernel, by decide +kernel⟩
def spLaw (K : PySem.W.Frag) (T : Hp → Prop) : Sp := fun vs H Q _ => ∃ (a : Addr) (ns : List Int), vs = [.ref a] ∧ SqL K H a (ns.map V.int) ∧ T H ∧ ∀ H', Q (.bl true) H'
def StaysW (T : Hp → Prop) : Prop := ∀ (p : Addr) (ys : List V) (H H' : Hp), H p = some (.lst ys) → GrowW p H H' → T H → T H'
section
variable {P : Program} {w : World} {K : PySem.W.Frag} {mg : Str → Option Value} {base : Heap}
theorem ok_law {f fWl fD fKd fMs fVa fRa fOp fRg fSk fMe : Addr} {fd fdWl fdD fdKd fdMs fdVa fdRa fdOp fdRg fdSk fdMe : FuncData} {T : Hp → Prop} (F : Fun K "law" "law" lLaw f fd) (M : Gd mg) (st : Stays T) (sw : StaysW T)
    (GWl : FnOk P w K mg base CX0 1 fWl fdWl ["_law_script", "_law_at"] (spWell K)) (DWl : Df K mg "_law_well" ["_law_script", "_law_at"] fWl fdWl)
    (GD : FnOk P w K mg base CX0 1 fD fdD ["_law_well_here", "_law_many"] spDr) (DD : Df K mg "_law_draw" ["_law_well_here", "_law_many"] fD fdD)
    (GKd : FnOk P w K mg base CX0 3 fKd fdKd ["_law_well_here"] spKd) (DKd : Df K mg "_law_kinds" ["_law_well_here"] fKd fdKd)
    (GMs : FnOk P w K mg base CX0 3 fMs fdMs ["_law_well_here", "_law_kinds_here"] spMs) (DMs : Df K mg "_law_measures" ["_law_well_here", "_law_kinds_here"] fMs fdMs)
    (GVa : FnOk P w K mg base CX0 3 fVa fdVa ["_law_well_here", "_law_kinds_here", "_law_kind", "_law_most"] spVa) (DVa : Df K mg "_law_value" ["_law_well_here", "_law_kinds_here", "_law_kind", "_law_most"] fVa fdVa)
    (GRa : FnOk P w K mg base CX0 2 fRa fdRa ["_law_well_here", "_law_measures_here"] spRa) (DRa : Df K mg "_law_raised" ["_law_well_here", "_law_measures_here"] fRa fdRa)
    (GOp : FnOk P w K mg base CX0 2 fOp fdOp ["_law_measures_here"] spOp) (DOp : Df K mg "_law_opposite" ["_law_measures_here"] fOp fdOp)
    (GRg : FnOk P w K mg base CX0 14 fRg fdRg ["_law_core", "_law_measures_here"] (spRg T)) (DRg : Df K mg "_law_right" ["_law_core", "_law_measures_here"] fRg fdRg)
    (GSk : FnOk P w K mg base CX0 2 fSk fdSk ["_law_measures_here"] spSk) (DSk : Df K mg "_law_struck" ["_law_measures_here"] fSk fdSk)
    (GMe : FnOk P w K mg base CX0 13 fMe fdMe ["core", "measures", "number", "words"] (spMe T)) (DMe : Df K mg "measured" ["core", "measures", "number", "words"] fMe fdMe) :
    FnOk P w K mg base CX0 15 f fd ["_law_script"] (spLaw K T) := by
  refine F.ok (k := 14) cLaw (fun vs H Q E h => ?_) (fun cdv A outer s H vs Q E hr h => ?_)
  · obtain ⟨_, _, rfl, _⟩ := h
    rfl
  · obtain ⟨a, ns, rfl, hA, hT, k⟩ := h
    have hu := hu_of hr
    refine ⟨_, (pss_cons (ps_set (i := 1) cLaw.nd rfl (Or.inl rfl) (pe_call (GWl.mono (by decide)) hr (by rfl) DWl.g DWl.k DWl.b .nil pass0 (pa_cons (pv 0) (pa_cons pe_int pa_nil)))) (pss_cons (ps_set (i := 2) cLaw.nd rfl (Or.inl rfl) (pe_call (GKd.mono (by decide)) hr (by rfl) DKd.g DKd.k DKd.b .nil pass0 (pa_cons (pv 1) pa_nil))) (pss_cons (ps_set (i := 3) cLaw.nd rfl (Or.inl rfl) (pe_call (GMs.mono (by decide)) hr (by rfl) DMs.g DMs.k DMs.b .nil pass0 (pa_cons (pv 1) (pa_cons (pv 2) pa_nil)))) (C8.pss_cut (ps_if (pt_cmpR op_gt (pe_call (GD.mono (by decide)) hr (by rfl) DD.g DD.k DD.b .nil pass0 (pa_cons (pv 1) (pa_cons pe_int pa_nil))) pe_int (nomark _)) (pss_one (ps_set (i := 3) cLaw.nd rfl (Or.inl rfl) (pe_call (GRa.mono (by decide)) hr (by rfl) DRa.g DRa.k DRa.b .nil pass0 (pa_cons (pv 1) (pa_cons (pv 3) pa_nil))))) pss_nil) (pss_cons (ps_set (i := 4) cLaw.nd rfl (Or.inl rfl) (pe_tup (pa_cons (pv 2) (pa_cons (pe_tup pa_nil) pa_nil)))) (pss_cons (ps_if (PW.pt (pw_or (pt_not (pt_val (pe_call GRg hr (by rfl) DRg.g DRg.k DRg.b .nil pass0 (pa_cons (pv 4) (pa_cons (pv 3) pa_nil))))) (pw_or1 (pt_not (pt_val (pe_call GRg hr (by rfl) DRg.g DRg.k DRg.b .nil pass0 (pa_cons (pv 4) (pa_cons (pe_call (GOp.mono (by decide)) hr (by rfl) DOp.g DOp.k DOp.b .nil pass0 (pa_cons (pv 3) pa_nil)) pa_nil)))))))) (pss_one (ps_ret pe_bl)) pss_nil) (pss_cons (ps_set (i := 5) cLaw.nd rfl (Or.inl rfl) (pe_call (GSk.mono (by decide)) hr (by rfl) DSk.g DSk.k DSk.b .nil pass0 (pa_cons (pv 3) pa_nil))) (pss_cons (ps_for PassesOwn.never rfl (pi_range2 (by rfl) M.range (pa_cons pe_int (pa_cons (pe_op op_add (pe_callB call_len_seq (by rfl) M.len PySem.boot_len (pa_cons (pv 3) pa_nil)) pe_int) pa_nil))) (pg_name (i := 6) cLaw.nd rfl (Or.inl rfl)) (pss_one (ps_if (pt_cmpR op_notIn_seq (pv 6) (pv 5) (by rfl)) (pss_cons (ps_asg (pe_ix ix_tup (pv 3) (pe_op op_sub (pv 6) pe_int) (fun _ _ => rfl)) (pg_tup (by rfl) (pgs_cons (pg_name (i := 7) cLaw.nd rfl (Or.inl rfl)) (pgs_cons (pg_name (i := 8) cLaw.nd rfl (Or.inl rfl)) pgs_nil)))) (pss_cons (ps_if (pt_cmpR op_lt (pe_call (GMe.mono (by decide)) hr (by rfl) DMe.g DMe.k DMe.b .nil pass0 (pa_cons (pv 4) (pa_cons (pv 3) (pa_cons (pv 6) (pa_cons (pe_call (GVa.mono (by decide)) hr (by rfl) DVa.g DVa.k DVa.b .nil pass0 (pa_cons (pv 1) (pa_cons (pv 2) (pa_cons (pv 7) (pa_cons pe_int pa_nil))))) pa_nil))))) pe_int (nomark _)) (pss_one (ps_ret pe_bl)) pss_nil) (pss_cons (ps_set (i := 9) cLaw.nd rfl (Or.inl rfl) (pe_call (GD.mono (by decide)) hr (by rfl) DD.g DD.k DD.b .nil pass0 (pa_cons (pv 1) (pa_cons (pe_callB call_len_seq (by rfl) M.len PySem.boot_len (pa_cons (pv 8) pa_nil)) pa_nil)))) (pss_cons (ps_set (i := 10) cLaw.nd rfl (Or.inl rfl) (pe_op op_catA (pe_op op_catA (pe_slice sl_tupA (pv 8) po_none (po_some (pv 9))) (pe_tup (pa_cons (pe_tup (pa_cons (pe_un un_neg pe_int) (pa_cons (pe_ix ix_tup (pe_ix ix_tup (pv 8) (pv 9) (fun _ _ => rfl)) pe_int (fun _ _ => rfl)) pa_nil))) pa_nil))) (pe_slice sl_tupA (pv 8) (po_some (pe_op op_add (pv 9) pe_int)) po_none))) (pss_one (ps_if (pt_not (pt_val (pe_call GRg hr (by rfl) DRg.g DRg.k DRg.b .nil pass0 (pa_cons (pv 4) (pa_cons (pe_op op_catA (pe_op op_catA (pe_slice sl_tupA (pv 3) po_none (po_some (pe_op op_sub (pv 6) pe_int))) (pe_tup (pa_cons (pe_tup (pa_cons (pv 7) (pa_cons (pv 10) pa_nil))) pa_nil))) (pe_slice sl_tupA (pv 3) (po_some (pv 6)) po_none)) pa_nil))))) (pss_one (ps_ret pe_bl)) pss_nil)))))) pss_nil))) (pss_one (ps_ret pe_bl)))))))))), ?_⟩
    refine ⟨_, rfl, a, ns, rfl, hA, fun p l H1 W1 npl g1 => ?_⟩
    have hT1 := st _ _ g1 hT
    obtain ⟨y1, hy1⟩ := W1.pl
    refine ⟨_, rfl, p, l, ns, 0, rfl, W1, npl, by decide, fun xk ks H3 ek ok k1 k3 kb W3 g3 => ?_⟩
    have hT3 := sw p _ _ _ hy1 g3 hT1
    obtain ⟨y3, hy3⟩ := W3.pl
    refine ⟨_, rfl, _, rfl, p, l, ns, 0 + 400, xk, ks, rfl, W3, npl, ek, ok, k1, k3, kb, by decide, fun xm mss H4 em mo W4 g4 => ?_⟩
    have hT4 := sw p _ _ _ hy3 g4 hT3
    have ek4 := ek.gw g4 hy3
    obtain ⟨y4, hy4⟩ := W4.pl
    refine ⟨fun σ' Hs => ∃ xm mss, σ' = [some (.ref a), some (.ref p), some xk, some xm, none, none, none, none, none, none, none] ∧ EncT Hs (ksD ks) xk ∧ EncT Hs (mssD mss) xm ∧ MsOk ks mss ∧ Wl Hs p l ns 30000 ∧ T Hs, ?_, ?_⟩
    · refine ⟨_, rfl, p, l, ns, 0 + 400 + 20000, 3, rfl, by decide, cdw (by decide) (by decide), W4, by decide, npl, fun r H5 r0 r1 W5 g5 => ?_⟩
      have hT5 := sw p _ _ _ hy4 g5 hT4
      obtain ⟨y5, hy5⟩ := W5.pl
      refine ⟨_, _, rfl, rfl, _, rfl, ite2 (fun _ => ?_) (fun _ => ?_)⟩
      · refine ⟨_, rfl, _, rfl, p, l, ns, 0 + 400 + 20000 + 1, xm, ks, mss, rfl, W5, npl, em.gw g5 hy4, ok, mo, by decide, fun ym mss' H6 em6 mo6 W6 g6 => ?_⟩
        exact ⟨ym, mss', rfl, (ek4.gw g5 hy4).gw g6 hy5, em6, mo6, W6.more (by decide), sw p _ _ _ hy5 g6 hT5⟩
      · exact ⟨xm, mss, rfl, ek4.gw g5 hy4, em.gw g5 hy4, mo, W5.more (by decide), hT5⟩
    · intro σ' Hs hp
      obtain ⟨xm, mss, rfl, ek6, em6, mo, W6, hT6⟩ := hp
      refine ⟨_, rfl, (by show 0 ≤ sizeLine; decide), fun c0 hc0 => ⟨(by show 2 ≤ sizeLine; decide), fun cr hcr => ?_⟩⟩
      have g7 := (Grow.new (o := .tup []) hc0).trans (Grow.new (o := .tup [xk, .ref c0]) hcr)
      have ec7 : EncT (L2.upd (L2.upd Hs c0 (.tup [])) cr (.tup [xk, .ref c0])) (coreD ks) (.ref cr) := .tup upd_same (.cons (ek6.grow g7) (.cons (.tup (by rw [upd_ne (fun z => by rw [z, upd_same] at hcr; cases hcr)]; exact upd_same) .nil) .nil))
      have ek7 := ek6.grow g7
      have W7 := W6.grow g7
      have em7 := em6.grow g7
      have hT7 := st _ _ g7 hT6
      generalize L2.upd (L2.upd Hs c0 (.tup [])) cr (.tup [xk, .ref c0]) = H7 at ec7 ek7 W7 em7 hT7 ⊢
      refine ⟨_, rfl, _, rfl, .ref cr, xm, ks, mss, rfl, ec7, em7, ok, mo, hT7, fun H8 g8 => ⟨_, rfl, iteF ?_⟩⟩
      refine ⟨_, rfl, _, rfl, xm, ks, mss, rfl, em7.grow g8, ok, mo, fun ym mss' H9 em9 mo9 g9 => ?_⟩
      have g79 := g8.trans g9
      refine ⟨.ref cr, ym, ks, mss', rfl, ec7.grow g79, em9, ok, mo9, st _ _ g79 hT7, fun HA gA => ⟨_, rfl, iteF ?_⟩⟩
      have g7A := g79.trans gA
      refine ⟨_, rfl, xm, ks, mss, rfl, em7.grow g7A, ok, mo, fun q S HB hq hS hS13 gB => ?_⟩
      have g7B := g7A.trans gB
      have ecB := ec7.grow g7B
      have ekB := ek7.grow g7B
      have emB := em7.grow g7B
      have WB := W7.grow g7B
      have hTB := st _ _ g7B hT7
      have nqp : q ≠ p := fun z => by
        obtain ⟨c1, a1, h1, _⟩ := WB.ex
        rw [z, h1] at hq
        cases S with
        | nil => cases hq
        | cons s0 r =>
          cases r with
          | nil => cases hq
          | cons s1 r =>
            cases r with
            | nil => cases hq
            | cons s2 r =>
              injection hq with hq
              injection hq with hq
              rw [List.map_cons, List.map_cons, List.map_cons] at hq
              injection hq with _ hq
              injection hq with _ hq
              injection hq with hq _
              cases hq
      have emB0 := emB
      cases emB0 with
      | @tup am ys _ ham ems =>
      have hml := ems.length
      rw [List.length_map] at hml
      have hm12 := mo.le
      refine ⟨_, rfl, am, _, rfl, .inr (SqT.of ham), _, _, rfl, rfl, _, _, rfl, ⟨by decide, by decide, by omega, by omega⟩, ?_⟩
      rw [show ((((ys.length : Nat) : Int) + 1) - 1).toNat = ys.length by omega]
      refine for_range (n := ys.length) (fun i σ' Hx => ∃ v6 v7 v8 v9 v10, σ' = [some (.ref a), some (.ref p), some xk, some (.ref am), some (.ref cr), some (.ref q), v6, v7, v8, v9, v10] ∧ Wl Hx p l ns (30000 + 6000 * i) ∧ GrowW p HB Hx ∧ T Hx) ⟨_, _, _, _, _, rfl, WB, GrowW.refl' p HB, hTB⟩ (fun i σ' Hx hi hp => ?_) (fun σ' Hx hp => ?_)
      · obtain ⟨v6, v7, v8, v9, v10, rfl, Wx, gx, hTx⟩ := hp
        obtain ⟨yB, hyB⟩ := WB.pl
        obtain ⟨yx, hyx⟩ := Wx.pl
        obtain ⟨xi, hxi⟩ : ∃ xi, ys[i]? = some xi := ⟨_, List.getElem?_eq_getElem hi⟩
        have emsx := ems.gw gx hyB
        have hamx := gx.tup hyB ham
        have emx := emB.gw gx hyB
        have ecx := ecB.gw gx hyB
        have ekx := ekB.gw gx hyB
        obtain ⟨di, hdi, exi⟩ := emsx.get hxi
        obtain ⟨mi, hmi, rfl⟩ := map_get hdi
        have en : (1 : Int) + (i : Nat) = ((i + 1 : Nat) : Int) := by omega
        have ei : inV (V.int ((1 : Int) + (i : Nat))) (S.map fun (n : Nat) => V.int (n : Nat)) = decide (i + 1 ∈ S) := by rw [en, inV_nat]
        refine ⟨_, rfl, _, rfl, q, _, rfl, .inl (SqL.of (gx.lst nqp hq)), rfl, flat_nat S, !decide (i + 1 ∈ S), congrArg V.bl (congrArg Bool.not ei), ?_⟩
        by_cases hin : i + 1 ∈ S
        · rw [decide_eq_true hin]
          exact iteF ⟨_, _, _, _, _, rfl, Wx.more (by omega), gx, hTx⟩
        · rw [decide_eq_false hin]
          refine iteT ?_
          have hns : ¬ Struck mss (i + 1) := fun z => hin ((hS (i + 1)).mpr ⟨by omega, z⟩)
          obtain ⟨kd, hkd, hk1, hk2, _⟩ := mo.ms mi (List.mem_of_getElem? hmi)
          have hkm := ok.m1 kd hkd
          have hkn : (knS mss)[i + 1]? = some mi.1 := by
            show (mss.map (·.1))[i]? = _
            rw [List.getElem?_map, hmi]
            rfl
          cases exi with
          | @tup bi vs1 _ hbi ebi =>
          cases ebi with
          | @cons _ w0 _ _ p0 ebi =>
          cases ebi with
          | @cons _ w1 _ _ p1 ebi =>
          cases ebi
          cases p0 with
          | str kn hkn0 =>
          cases p1 with
          | @tup br rs _ hbr er =>
          have hrl := er.length
          rw [List.length_map] at hrl
          refine ⟨_, rfl, _, rfl, _, _, rfl, rfl, am, _, _, _, rfl, rfl, SqT.of hamx, at_g (j := i) (by omega) hxi, bi, _, rfl, SqT.of hbi, rfl, _, _, rfl, _, _, rfl, rfl, ?_⟩
          refine ⟨_, rfl, _, rfl, _, rfl, _, rfl, _, rfl, _, rfl, p, l, ns, 30000 + 6000 * i, xk, ks, mi.1, 30, rfl, Wx, npl, ekx, ok, k1, k3, kb, ⟨kd, hkd, hk1⟩, by decide, by omega, fun xw ws H5 ew wn wl wnb W5 g5 => ?_⟩
          have hT5 := sw p _ _ _ hyx g5 hTx
          refine ⟨.ref cr, .ref am, xw, i + 1, ks, mss, mi.1, ws, by rw [← en]; rfl, ecx.gw g5 hyx, emx.gw g5 hyx, ok, mo, hT5, ew, wn, hkn, by omega, fun H6 g6 => ?_⟩
          have hnn := evV_nn ok mo wn hkn hns
          refine ⟨_, _, rfl, rfl, _, rfl, ?_⟩
          rw [decide_eq_false (show ¬ evV ks mss ws (i + 1) < 0 by omega)]
          refine iteF ?_
          have W6 := W5.grow g6
          obtain ⟨y5, hy5⟩ := W5.pl
          have g56 : GrowW p Hx H6 := g5.trans' g6.w
          have hbr6 := g56.tup hyx hbr
          have hT6' := st _ _ g6 hT5
          obtain ⟨y6, hy6⟩ := W6.pl
          have hrpos : 0 < rs.length := by omega
          refine ⟨_, rfl, _, rfl, br, _, rfl, .inr (SqT.of hbr6), p, l, ns, _, _, rfl, Int.ofNat_lt.mpr hrpos, cdw (Int.ofNat_lt.mpr hrpos) (Nat.lt_of_le_of_lt (show ((rs.length : Nat) : Int).natAbs ≤ 8 by omega) (by decide)), W6, by omega, npl, fun r7 H7' h70 h71 W7' g7' => ?_⟩
          have hT7' := sw p _ _ _ hy6 g7' hT6'
          have gx7 := g56.trans' g7'
          obtain ⟨j, hj⟩ : ∃ j : Nat, r7 = (j : Int) := ⟨r7.toNat, by omega⟩
          subst hj
          have hjl : j < rs.length := by omega
          have hbr7 := gx7.tup hyx hbr
          have er7 := er.gw gx7 hyx
          have hll : (mi.2.map rowD).length = rs.length := by rw [List.length_map]; exact hrl
          obtain ⟨r, hrj⟩ : ∃ r, mi.2[j]? = some r := ⟨_, List.getElem?_eq_getElem (by omega)⟩
          obtain ⟨xr, hxr, exr⟩ := er7.got (i := j) (d := rowD r) (by rw [List.getElem?_map, hrj]; rfl)
          cases exr with
          | @tup b2 vs2 _ hb2 eb2 =>
          cases eb2 with
          | @cons _ t0 _ _ q0 eb2 =>
          cases eb2 with
          | @cons _ t1 _ _ q1 eb2 =>
          cases eb2
          cases q0
          -- the rows with one const turned
          refine ⟨_, rfl, ?_⟩
          dsimp only [tNoPart]
          refine ⟨_, rfl, _, rfl, rd_sl hbr7 er7 fun q1' z1 Ha ga hq1 e1 => ?_⟩
          rw [cut_take (by omega)] at e1
          refine ⟨_, rfl, _, rfl, _, rfl, br, _, _, _, rfl, rfl, SqT.of (ga.tup hbr7), at_g (j := j) rfl hxr, b2, _, _, _, rfl, rfl, SqT.of (ga.tup hb2), at_of (j := 1) rfl rfl, (by show 2 ≤ sizeLine; decide), fun s1 hs1 => ⟨(by show 1 ≤ sizeLine; decide), fun s2 hs2 => ?_⟩⟩
          have gs1 := Grow.new (o := .tup [.int (-1), t1]) hs1
          have gs2 := Grow.new (o := .tup [.ref s1]) hs2
          have gb := gs1.trans gs2
          have er1 : EncT (L2.upd (L2.upd Ha s1 (.tup [.int (-1), t1])) s2 (.tup [.ref s1])) (rowD (-1, r.2)) (.ref s1) := (EncB.tup upd_same (.cons (.int _) (.cons ((q1.grow ga).grow gs1) .nil))).grow gs2
          refine rd_cat (gb.tup hq1) upd_same (e1.grow gb) (.cons er1 .nil) (by rw [List.length_take, List.length_singleton]; omega) fun q2 z2 Hb gb2 hq2 e2 => ?_
          have gab := (ga.trans gb).trans gb2
          refine ⟨_, rfl, _, rfl, _, _, rfl, rfl, _, rfl, ?_⟩
          dsimp only [tNoPart]
          refine rd_sl (gab.tup hbr7) (er7.grow gab) fun q3 z3 Hc3 gc3 hq3 e3 => ?_
          have ec3 : cutDs (mi.2.map rowD) (some ((j : Int) + 1)) none = (mi.2.map rowD).drop (j + 1) := cut_drop (l := mi.2.map rowD) (j := j + 1) (by omega)
          rw [ec3] at e3
          refine rd_cat (gc3.tup hq2) hq3 (e2.grow gc3) e3 (by rw [List.length_append, List.length_take, List.length_drop, List.length_singleton]; omega) fun q4 z4 Hd gd4 hq4 e4 => ?_
          rw [set_cut (by omega), ← List.map_set] at e4
          have g7d := (gab.trans gc3).trans gd4
          have gxd : GrowW p Hx Hd := gx7.trans' g7d.w
          have eRows : EncT Hd (.tup ((mi.2.set j (-1, r.2)).map rowD)) (.ref q4) := .tup hq4 e4
          -- the measures with these rows
          have hamd := gxd.tup hyx hamx
          have emsd := emsx.gw gxd hyx
          have hmll : (mss.map msD).length = ys.length := by rw [List.length_map]; exact hml
          refine ⟨_, rfl, _, rfl, ?_⟩
          dsimp only [tNoPart]
          have ei2 : (1 : Int) + (i : Nat) - 1 = ((i : Nat) : Int) := by omega
          refine ⟨_, rfl, _, _, rfl, rfl, _, rfl, rd_sl hamd emsd fun q5 z5 He ge hq5 e5 => ?_⟩
          rw [ei2, cut_take (by omega)] at e5
          refine ⟨_, rfl, _, rfl, (by show 2 ≤ sizeLine; decide), fun s3 hs3 => ⟨(by show 1 ≤ sizeLine; decide), fun s4 hs4 => ?_⟩⟩
          have gs3 := Grow.new (o := .tup [.str mi.1, .ref q4]) hs3
          have gs4 := Grow.new (o := .tup [.ref s3]) hs4
          have gf := gs3.trans gs4
          have em1 : EncT (L2.upd (L2.upd He s3 (.tup [.str mi.1, .ref q4])) s4 (.tup [.ref s3])) (msD (mi.1, mi.2.set j (-1, r.2))) (.ref s3) := (EncB.tup upd_same (.cons (.str _ hkn0) (.cons ((eRows.grow ge).grow gs3) .nil))).grow gs4
          refine rd_cat (gf.tup hq5) upd_same (e5.grow gf) (.cons em1 .nil) (by rw [List.length_take, List.length_singleton]; omega) fun q6 z6 Hg gg hq6 e6 => ?_
          have geg := (ge.trans gf).trans gg
          refine ⟨_, rfl, _, rfl, _, rfl, ?_⟩
          dsimp only [tNoPart]
          refine rd_sl (geg.tup hamd) (emsd.grow geg) fun q7 z7 Hh gh hq7 e7 => ?_
          have ec7' : cutDs (mss.map msD) (some ((1 : Int) + (i : Nat))) none = (mss.map msD).drop (i + 1) := by
            rw [en]
            exact cut_drop (l := mss.map msD) (j := i + 1) (by omega)
          rw [ec7'] at e7
          refine rd_cat (gh.tup hq6) hq7 (e6.grow gh) e7 (by rw [List.length_append, List.length_take, List.length_drop, List.length_singleton]; omega) fun q8 z8 Hi gi hq8 e8 => ?_
          rw [set_cut (by omega), ← List.map_set] at e8
          have gdi := (geg.trans gh).trans gi
          have gxi : GrowW p Hx Hi := gxd.trans' gdi.w
          refine ⟨.ref cr, .ref q8, ks, mss.set i (mi.1, mi.2.set j (-1, r.2)), rfl, ecx.gw gxi hyx, .tup hq8 e8, ok, put_ok mo hmi hrj, st _ _ (g7d.trans gdi) hT7', fun Hj gj => ⟨_, rfl, iteF ?_⟩⟩
          have gfin := (g7d.trans gdi).trans gj
          exact ⟨_, _, _, _, _, rfl, (W7'.grow gfin).more (by omega), gx.trans' (gxi.trans' gj.w), st _ _ gfin hT7'⟩
      · exact k Hx
end
end J1
set_option Elab.async false
set_option linter.all false
set_option maxRecDepth 100000
set_option maxHeartbeats 4000000
namespace J1
open PySem PySem.Spec PyProof.Rows L2 GxR GA ZS RZ
abbrev sAr : Stmt := top 38
theorem cAr : FnScope ["world", "function"] ["world", "function"] (defScope sAr) := ⟨rfl, rfl, rfl, by decide +kernel, rfl, by decide +kernel, by decide +kernel⟩
/-- a def that is never called -/
def spNo : Sp := fun _ _ _ _ => False
section
variable {P : Program} {w : World} {K : PySem.W.Frag} {mg : Str → Option Value} {base : Heap}
theorem ok_ar {f : Addr} {fd : FuncData} (F : Fun K "are_rows" "are_rows" sAr f fd) : FnOk P w K mg base CX0 6 f fd ["world", "function"] spNo := by
  refine F.ok (k := 5) cAr (fun vs H Q E h => h.elim) (fun cdv A outer s H vs Q E hr h => h.elim)
end
end J1
set_option Elab.async false
set_option linter.all false
set_option maxRecDepth 100000
set_option maxHeartbeats 8000000
namespace J1
open PySem PySem.Spec PyProof.Rows L2 GxR GA ZS
theorem tabsW {w P : Addr} {H H' : Hp} (hw : ∃ ys, H w = some (.lst ys)) (g : GrowW w H H') (t : TabG H P) : TabG H' P := by
  obtain ⟨ps, h, z⟩ := t
  obtain ⟨ys, hy⟩ := hw
  have n : P ≠ w := fun e => by rw [e, hy] at h; cases h
  rcases g P _ n h with q | ⟨_, q⟩
  · exact ⟨ps, q, z⟩
  · exact q
theorem tb_of {base : Heap} {mg : Str → Option Value} {c P : Addr} (t : LamX.TabB base mg c P) : TabB base mg c P := ⟨t.code, t.bm, t.gP⟩
theorem trip0 : TriplesOk (#[] : Array Value).toList := by trivial
theorem vals_rev : ∀ {zs : List V} {ws : List Value}, Vals zs ws → Vals zs.reverse ws.reverse
  | _, _, .nil => .nil
  | _, _, .cons h t => by
    rw [List.reverse_cons, List.reverse_cons]
    exact (vals_rev t).append (.cons h .nil)
theorem all_mk {l : PySem.W.OpenLaw} {w : World} {K : PySem.W.Frag} {h : Heap} {mg : Str → Option Value} {fa CWW CWo : Addr} {P0 P1 P2 P3 P4 : Addr} (X : K.In h) (G : h.Ns mainGlobals mg) (hfa : mg "law" = some (.ref fa))
    {f0 : Addr} {od0 an0 : Option Addr} {sl0 : Array (Option Value)} {oc0 kV0 dc0 pm0 cd0 ct0 : Value}
    (a0 : PySem.W.nsIn K mainGlobals "is_integer" = some (some (.ref f0)))
    (l0 : K.lookup f0 = some ⟨oc0, od0, .func (PySem.W.fnOf "is_integer" "is_integer" (defArgs sInt) (defBody sInt) (defScope sInt) .none kV0 dc0 pm0 an0 cd0 ct0), sl0⟩) (c0 : PySem.W.codeIn K cd0 "is_integer" = true) (k0 : PySem.W.keepIn K (.ref f0) = true)
    {f1 : Addr} {od1 an1 : Option Addr} {sl1 : Array (Option Value)} {oc1 kV1 dc1 pm1 cd1 ct1 : Value}
    (a1 : PySem.W.nsIn K mainGlobals "is_between" = some (some (.ref f1)))
    (l1 : K.lookup f1 = some ⟨oc1, od1, .func (PySem.W.fnOf "is_between" "is_between" (defArgs sBet) (defBody sBet) (defScope sBet) .none kV1 dc1 pm1 an1 cd1 ct1), sl1⟩) (c1 : PySem.W.codeIn K cd1 "is_between" = true) (k1 : PySem.W.keepIn K (.ref f1) = true)
    {f2 : Addr} {od2 an2 : Option Addr} {sl2 : Array (Option Value)} {oc2 kV2 dc2 pm2 cd2 ct2 : Value}
    (a2 : PySem.W.nsIn K mainGlobals "is_factor" = some (some (.ref f2)))
    (l2 : K.lookup f2 = some ⟨oc2, od2, .func (PySem.W.fnOf "is_factor" "is_factor" (defArgs sFa) (defBody sFa) (defScope sFa) .none kV2 dc2 pm2 an2 cd2 ct2), sl2⟩) (c2 : PySem.W.codeIn K cd2 "is_factor" = true) (k2 : PySem.W.keepIn K (.ref f2) = true)
    {f3 : Addr} {od3 an3 : Option Addr} {sl3 : Array (Option Value)} {oc3 kV3 dc3 pm3 cd3 ct3 : Value}
    (a3 : PySem.W.nsIn K mainGlobals "is_tuple" = some (some (.ref f3)))
    (l3 : K.lookup f3 = some ⟨oc3, od3, .func (PySem.W.fnOf "is_tuple" "is_tuple" (defArgs sTup) (defBody sTup) (defScope sTup) .none kV3 dc3 pm3 an3 cd3 ct3), sl3⟩) (c3 : PySem.W.codeIn K cd3 "is_tuple" = true) (k3 : PySem.W.keepIn K (.ref f3) = true)
    {f4 : Addr} {od4 an4 : Option Addr} {sl4 : Array (Option Value)} {oc4 kV4 dc4 pm4 cd4 ct4 : Value}
    (a4 : PySem.W.nsIn K mainGlobals "is_name" = some (some (.ref f4)))
    (l4 : K.lookup f4 = some ⟨oc4, od4, .func (PySem.W.fnOf "is_name" "is_name" (defArgs sNam) (defBody sNam) (defScope sNam) .none kV4 dc4 pm4 an4 cd4 ct4), sl4⟩) (c4 : PySem.W.codeIn K cd4 "is_name" = true) (k4 : PySem.W.keepIn K (.ref f4) = true)
    {f5 : Addr} {od5 an5 : Option Addr} {sl5 : Array (Option Value)} {oc5 kV5 dc5 pm5 cd5 ct5 : Value}
    (a5 : PySem.W.nsIn K mainGlobals "is_low" = some (some (.ref f5)))
    (l5 : K.lookup f5 = some ⟨oc5, od5, .func (PySem.W.fnOf "is_low" "is_low" (defArgs sLow) (defBody sLow) (defScope sLow) .none kV5 dc5 pm5 an5 cd5 ct5), sl5⟩) (c5 : PySem.W.codeIn K cd5 "is_low" = true) (k5 : PySem.W.keepIn K (.ref f5) = true)
    {f6 : Addr} {od6 an6 : Option Addr} {sl6 : Array (Option Value)} {oc6 kV6 dc6 pm6 cd6 ct6 : Value}
    (a6 : PySem.W.nsIn K mainGlobals "is_high" = some (some (.ref f6)))
    (l6 : K.lookup f6 = some ⟨oc6, od6, .func (PySem.W.fnOf "is_high" "is_high" (defArgs sHig) (defBody sHig) (defScope sHig) .none kV6 dc6 pm6 an6 cd6 ct6), sl6⟩) (c6 : PySem.W.codeIn K cd6 "is_high" = true) (k6 : PySem.W.keepIn K (.ref f6) = true)
    {f7 : Addr} {od7 an7 : Option Addr} {sl7 : Array (Option Value)} {oc7 kV7 dc7 pm7 cd7 ct7 : Value}
    (a7 : PySem.W.nsIn K mainGlobals "is_kind" = some (some (.ref f7)))
    (l7 : K.lookup f7 = some ⟨oc7, od7, .func (PySem.W.fnOf "is_kind" "is_kind" (defArgs sKin) (defBody sKin) (defScope sKin) .none kV7 dc7 pm7 an7 cd7 ct7), sl7⟩) (c7 : PySem.W.codeIn K cd7 "is_kind" = true) (k7 : PySem.W.keepIn K (.ref f7) = true)
    {f8 cr8 : Addr} {od8 an8 : Option Addr} {sl8 : Array (Option Value)} {oc8 kV8 dc8 pm8 ct8 : Value}
    (a8 : PySem.W.nsIn K mainGlobals "are_kinds" = some (some (.ref f8)))
    (l8 : K.lookup f8 = some ⟨oc8, od8, .func (PySem.W.fnOf "are_kinds" "are_kinds" (defArgs sKinds) (defBody sKinds) (defScope sKinds) .none kV8 dc8 pm8 an8 (.ref cr8) ct8), sl8⟩) (c8 : PySem.W.codeIn K (.ref cr8) "are_kinds" = true) (k8 : PySem.W.keepIn K (.ref f8) = true)
    {f9 cr9 : Addr} {od9 an9 : Option Addr} {sl9 : Array (Option Value)} {oc9 kV9 dc9 pm9 ct9 : Value}
    (a9 : PySem.W.nsIn K mainGlobals "_is_entry" = some (some (.ref f9)))
    (l9 : K.lookup f9 = some ⟨oc9, od9, .func (PySem.W.fnOf "_is_entry" "_is_entry" (defArgs sEntry) (defBody sEntry) (defScope sEntry) .none kV9 dc9 pm9 an9 (.ref cr9) ct9), sl9⟩) (c9 : PySem.W.codeIn K (.ref cr9) "_is_entry" = true) (k9 : PySem.W.keepIn K (.ref f9) = true)
    {f10 cr10 : Addr} {od10 an10 : Option Addr} {sl10 : Array (Option Value)} {oc10 kV10 dc10 pm10 ct10 : Value}
    (a10 : PySem.W.nsIn K mainGlobals "_is_maker" = some (some (.ref f10)))
    (l10 : K.lookup f10 = some ⟨oc10, od10, .func (PySem.W.fnOf "_is_maker" "_is_maker" (defArgs sMaker) (defBody sMaker) (defScope sMaker) .none kV10 dc10 pm10 an10 (.ref cr10) ct10), sl10⟩) (c10 : PySem.W.codeIn K (.ref cr10) "_is_maker" = true) (k10 : PySem.W.keepIn K (.ref f10) = true)
    {f11 cr11 : Addr} {od11 an11 : Option Addr} {sl11 : Array (Option Value)} {oc11 kV11 dc11 pm11 ct11 : Value}
    (a11 : PySem.W.nsIn K mainGlobals "kinds_fault" = some (some (.ref f11)))
    (l11 : K.lookup f11 = some ⟨oc11, od11, .func (PySem.W.fnOf "kinds_fault" "kinds_fault" (defArgs sKf) (defBody sKf) (defScope sKf) .none kV11 dc11 pm11 an11 (.ref cr11) ct11), sl11⟩) (c11 : PySem.W.codeIn K (.ref cr11) "kinds_fault" = true) (k11 : PySem.W.keepIn K (.ref f11) = true)
    {f12 : Addr} {od12 an12 : Option Addr} {sl12 : Array (Option Value)} {oc12 kV12 dc12 pm12 cd12 ct12 : Value}
    (a12 : PySem.W.nsIn K mainGlobals "makers_by_kind" = some (some (.ref f12)))
    (l12 : K.lookup f12 = some ⟨oc12, od12, .func (PySem.W.fnOf "makers_by_kind" "makers_by_kind" (defArgs sMk) (defBody sMk) (defScope sMk) .none kV12 dc12 pm12 an12 cd12 ct12), sl12⟩) (c12 : PySem.W.codeIn K cd12 "makers_by_kind" = true) (k12 : PySem.W.keepIn K (.ref f12) = true)
    {f13 : Addr} {od13 an13 : Option Addr} {sl13 : Array (Option Value)} {oc13 kV13 dc13 pm13 cd13 ct13 : Value}
    (a13 : PySem.W.nsIn K mainGlobals "makers_by_name" = some (some (.ref f13)))
    (l13 : K.lookup f13 = some ⟨oc13, od13, .func (PySem.W.fnOf "makers_by_name" "makers_by_name" (defArgs sMn) (defBody sMn) (defScope sMn) .none kV13 dc13 pm13 an13 cd13 ct13), sl13⟩) (c13 : PySem.W.codeIn K cd13 "makers_by_name" = true) (k13 : PySem.W.keepIn K (.ref f13) = true)
    {f14 : Addr} {od14 an14 : Option Addr} {sl14 : Array (Option Value)} {oc14 kV14 dc14 pm14 cd14 ct14 : Value}
    (a14 : PySem.W.findIn K (.ref CWo) "__init__" = some (some (.ref f14))) (i14 : PySem.W.isFn K (.ref f14) = true)
    (l14 : K.lookup f14 = some ⟨oc14, od14, .func (PySem.W.fnOf "__init__" "World.__init__" (defArgs sWi) (defBody sWi) (defScope sWi) .none kV14 dc14 pm14 an14 cd14 ct14), sl14⟩) (c14 : PySem.W.codeIn K cd14 "World.__init__" = true) (k14 : PySem.W.keepIn K (.ref f14) = true)
    {f15 : Addr} {od15 an15 : Option Addr} {sl15 : Array (Option Value)} {oc15 kV15 dc15 pm15 cd15 ct15 : Value}
    (a15 : PySem.W.nsIn K mainGlobals "are_rows" = some (some (.ref f15)))
    (l15 : K.lookup f15 = some ⟨oc15, od15, .func (PySem.W.fnOf "are_rows" "are_rows" (defArgs sAr) (defBody sAr) (defScope sAr) .none kV15 dc15 pm15 an15 cd15 ct15), sl15⟩) (c15 : PySem.W.codeIn K cd15 "are_rows" = true) (k15 : PySem.W.keepIn K (.ref f15) = true)
    {f16 cr16 : Addr} {od16 an16 : Option Addr} {sl16 : Array (Option Value)} {oc16 kV16 dc16 pm16 ct16 : Value}
    (a16 : PySem.W.nsIn K mainGlobals "is_core" = some (some (.ref f16)))
    (l16 : K.lookup f16 = some ⟨oc16, od16, .func (PySem.W.fnOf "is_core" "is_core" (defArgs sCo) (defBody sCo) (defScope sCo) .none kV16 dc16 pm16 an16 (.ref cr16) ct16), sl16⟩) (c16 : PySem.W.codeIn K (.ref cr16) "is_core" = true) (k16 : PySem.W.keepIn K (.ref f16) = true)
    {f17 : Addr} {od17 an17 : Option Addr} {sl17 : Array (Option Value)} {oc17 kV17 dc17 pm17 cd17 ct17 : Value}
    (a17 : PySem.W.nsIn K mainGlobals "need_core" = some (some (.ref f17)))
    (l17 : K.lookup f17 = some ⟨oc17, od17, .func (PySem.W.fnOf "need_core" "need_core" (defArgs sNc) (defBody sNc) (defScope sNc) .none kV17 dc17 pm17 an17 cd17 ct17), sl17⟩) (c17 : PySem.W.codeIn K cd17 "need_core" = true) (k17 : PySem.W.keepIn K (.ref f17) = true)
    {f18 : Addr} {od18 an18 : Option Addr} {sl18 : Array (Option Value)} {oc18 kV18 dc18 pm18 cd18 ct18 : Value}
    (a18 : PySem.W.nsIn K mainGlobals "_are_functions" = some (some (.ref f18)))
    (l18 : K.lookup f18 = some ⟨oc18, od18, .func (PySem.W.fnOf "_are_functions" "_are_functions" (defArgs sAf) (defBody sAf) (defScope sAf) .none kV18 dc18 pm18 an18 cd18 ct18), sl18⟩) (c18 : PySem.W.codeIn K cd18 "_are_functions" = true) (k18 : PySem.W.keepIn K (.ref f18) = true)
    {f19 : Addr} {od19 an19 : Option Addr} {sl19 : Array (Option Value)} {oc19 kV19 dc19 pm19 cd19 ct19 : Value}
    (a19 : PySem.W.nsIn K mainGlobals "is_ascending" = some (some (.ref f19)))
    (l19 : K.lookup f19 = some ⟨oc19, od19, .func (PySem.W.fnOf "is_ascending" "is_ascending" (defArgs sAs) (defBody sAs) (defScope sAs) .none kV19 dc19 pm19 an19 cd19 ct19), sl19⟩) (c19 : PySem.W.codeIn K cd19 "is_ascending" = true) (k19 : PySem.W.keepIn K (.ref f19) = true)
    {f20 : Addr} {od20 an20 : Option Addr} {sl20 : Array (Option Value)} {oc20 kV20 dc20 pm20 cd20 ct20 : Value}
    (a20 : PySem.W.nsIn K mainGlobals "are_words" = some (some (.ref f20)))
    (l20 : K.lookup f20 = some ⟨oc20, od20, .func (PySem.W.fnOf "are_words" "are_words" (defArgs sAw) (defBody sAw) (defScope sAw) .none kV20 dc20 pm20 an20 cd20 ct20), sl20⟩) (c20 : PySem.W.codeIn K cd20 "are_words" = true) (k20 : PySem.W.keepIn K (.ref f20) = true)
    {f21 : Addr} {od21 an21 : Option Addr} {sl21 : Array (Option Value)} {oc21 kV21 dc21 pm21 cd21 ct21 : Value}
    (a21 : PySem.W.nsIn K mainGlobals "_fields_of" = some (some (.ref f21)))
    (l21 : K.lookup f21 = some ⟨oc21, od21, .func (PySem.W.fnOf "_fields_of" "_fields_of" (defArgs sFo) (defBody sFo) (defScope sFo) .none kV21 dc21 pm21 an21 cd21 ct21), sl21⟩) (c21 : PySem.W.codeIn K cd21 "_fields_of" = true) (k21 : PySem.W.keepIn K (.ref f21) = true)
    {f22 : Addr} {od22 an22 : Option Addr} {sl22 : Array (Option Value)} {oc22 kV22 dc22 pm22 cd22 ct22 : Value}
    (a22 : PySem.W.nsIn K mainGlobals "measured" = some (some (.ref f22)))
    (l22 : K.lookup f22 = some ⟨oc22, od22, .func (PySem.W.fnOf "measured" "measured" (defArgs sMe) (defBody sMe) (defScope sMe) .none kV22 dc22 pm22 an22 cd22 ct22), sl22⟩) (c22 : PySem.W.codeIn K cd22 "measured" = true) (k22 : PySem.W.keepIn K (.ref f22) = true)
    {f23 : Addr} {od23 an23 : Option Addr} {sl23 : Array (Option Value)} {oc23 kV23 dc23 pm23 cd23 ct23 : Value}
    (a23 : PySem.W.nsIn K mainGlobals "never_below" = some (some (.ref f23)))
    (l23 : K.lookup f23 = some ⟨oc23, od23, .func (PySem.W.fnOf "never_below" "never_below" (defArgs sNb) (defBody sNb) (defScope sNb) .none kV23 dc23 pm23 an23 cd23 ct23), sl23⟩) (c23 : PySem.W.codeIn K cd23 "never_below" = true) (k23 : PySem.W.keepIn K (.ref f23) = true)
    {f24 : Addr} {od24 an24 : Option Addr} {sl24 : Array (Option Value)} {oc24 kV24 dc24 pm24 cd24 ct24 : Value}
    (a24 : PySem.W.nsIn K mainGlobals "need_measures" = some (some (.ref f24)))
    (l24 : K.lookup f24 = some ⟨oc24, od24, .func (PySem.W.fnOf "need_measures" "need_measures" (defArgs sNm) (defBody sNm) (defScope sNm) .none kV24 dc24 pm24 an24 cd24 ct24), sl24⟩) (c24 : PySem.W.codeIn K cd24 "need_measures" = true) (k24 : PySem.W.keepIn K (.ref f24) = true)
    {f25 : Addr} {od25 an25 : Option Addr} {sl25 : Array (Option Value)} {oc25 kV25 dc25 pm25 cd25 ct25 : Value}
    (a25 : PySem.W.nsIn K mainGlobals "need_words" = some (some (.ref f25)))
    (l25 : K.lookup f25 = some ⟨oc25, od25, .func (PySem.W.fnOf "need_words" "need_words" (defArgs sNw) (defBody sNw) (defScope sNw) .none kV25 dc25 pm25 an25 cd25 ct25), sl25⟩) (c25 : PySem.W.codeIn K cd25 "need_words" = true) (k25 : PySem.W.keepIn K (.ref f25) = true)
    {f26 : Addr} {od26 an26 : Option Addr} {sl26 : Array (Option Value)} {oc26 kV26 dc26 pm26 cd26 ct26 : Value}
    (a26 : PySem.W.nsIn K mainGlobals "are_measures" = some (some (.ref f26)))
    (l26 : K.lookup f26 = some ⟨oc26, od26, .func (PySem.W.fnOf "are_measures" "are_measures" (defArgs sAm) (defBody sAm) (defScope sAm) .none kV26 dc26 pm26 an26 cd26 ct26), sl26⟩) (c26 : PySem.W.codeIn K cd26 "are_measures" = true) (k26 : PySem.W.keepIn K (.ref f26) = true)
    {f27 : Addr} {od27 an27 : Option Addr} {sl27 : Array (Option Value)} {oc27 kV27 dc27 pm27 cd27 ct27 : Value}
    (a27 : PySem.W.nsIn K mainGlobals "kinds_of" = some (some (.ref f27)))
    (l27 : K.lookup f27 = some ⟨oc27, od27, .func (PySem.W.fnOf "kinds_of" "kinds_of" (defArgs sKo) (defBody sKo) (defScope sKo) .none kV27 dc27 pm27 an27 cd27 ct27), sl27⟩) (c27 : PySem.W.codeIn K cd27 "kinds_of" = true) (k27 : PySem.W.keepIn K (.ref f27) = true)
    {f28 : Addr} {od28 an28 : Option Addr} {sl28 : Array (Option Value)} {oc28 kV28 dc28 pm28 cd28 ct28 : Value}
    (a28 : PySem.W.nsIn K mainGlobals "belongs" = some (some (.ref f28)))
    (l28 : K.lookup f28 = some ⟨oc28, od28, .func (PySem.W.fnOf "belongs" "belongs" (defArgs sBe) (defBody sBe) (defScope sBe) .none kV28 dc28 pm28 an28 cd28 ct28), sl28⟩) (c28 : PySem.W.codeIn K cd28 "belongs" = true) (k28 : PySem.W.keepIn K (.ref f28) = true)
    {f29 : Addr} {od29 an29 : Option Addr} {sl29 : Array (Option Value)} {oc29 kV29 dc29 pm29 cd29 ct29 : Value}
    (a29 : PySem.W.nsIn K mainGlobals "rows_by_maker" = some (some (.ref f29)))
    (l29 : K.lookup f29 = some ⟨oc29, od29, .func (PySem.W.fnOf "rows_by_maker" "rows_by_maker" (defArgs sRb) (defBody sRb) (defScope sRb) .none kV29 dc29 pm29 an29 cd29 ct29), sl29⟩) (c29 : PySem.W.codeIn K cd29 "rows_by_maker" = true) (k29 : PySem.W.keepIn K (.ref f29) = true)
    {f30 : Addr} {od30 an30 : Option Addr} {sl30 : Array (Option Value)} {oc30 kV30 dc30 pm30 cd30 ct30 : Value}
    (a30 : PySem.W.nsIn K mainGlobals "measures_of" = some (some (.ref f30)))
    (l30 : K.lookup f30 = some ⟨oc30, od30, .func (PySem.W.fnOf "measures_of" "measures_of" (defArgs sMo) (defBody sMo) (defScope sMo) .none kV30 dc30 pm30 an30 cd30 ct30), sl30⟩) (c30 : PySem.W.codeIn K cd30 "measures_of" = true) (k30 : PySem.W.keepIn K (.ref f30) = true)
    {f31 : Addr} {od31 an31 : Option Addr} {sl31 : Array (Option Value)} {oc31 kV31 dc31 pm31 cd31 ct31 : Value}
    (a31 : PySem.W.nsIn K mainGlobals "_wanted_rows" = some (some (.ref f31)))
    (l31 : K.lookup f31 = some ⟨oc31, od31, .func (PySem.W.fnOf "_wanted_rows" "_wanted_rows" (defArgs sWr) (defBody sWr) (defScope sWr) .none kV31 dc31 pm31 an31 cd31 ct31), sl31⟩) (c31 : PySem.W.codeIn K cd31 "_wanted_rows" = true) (k31 : PySem.W.keepIn K (.ref f31) = true)
    {f32 : Addr} {od32 an32 : Option Addr} {sl32 : Array (Option Value)} {oc32 kV32 dc32 pm32 cd32 ct32 : Value}
    (a32 : PySem.W.nsIn K mainGlobals "_reckoned" = some (some (.ref f32)))
    (l32 : K.lookup f32 = some ⟨oc32, od32, .func (PySem.W.fnOf "_reckoned" "_reckoned" (defArgs sRe) (defBody sRe) (defScope sRe) .none kV32 dc32 pm32 an32 cd32 ct32), sl32⟩) (c32 : PySem.W.codeIn K cd32 "_reckoned" = true) (k32 : PySem.W.keepIn K (.ref f32) = true)
    {f33 : Addr} {od33 an33 : Option Addr} {sl33 : Array (Option Value)} {oc33 kV33 dc33 pm33 cd33 ct33 : Value}
    (a33 : PySem.W.nsIn K mainGlobals "_stays" = some (some (.ref f33)))
    (l33 : K.lookup f33 = some ⟨oc33, od33, .func (PySem.W.fnOf "_stays" "_stays" (defArgs sSt) (defBody sSt) (defScope sSt) .none kV33 dc33 pm33 an33 cd33 ct33), sl33⟩) (c33 : PySem.W.codeIn K cd33 "_stays" = true) (k33 : PySem.W.keepIn K (.ref f33) = true)
    {f34 : Addr} {od34 an34 : Option Addr} {sl34 : Array (Option Value)} {oc34 kV34 dc34 pm34 cd34 ct34 : Value}
    (a34 : PySem.W.nsIn K mainGlobals "_are_rows" = some (some (.ref f34)))
    (l34 : K.lookup f34 = some ⟨oc34, od34, .func (PySem.W.fnOf "_are_rows" "_are_rows" (defArgs sRs) (defBody sRs) (defScope sRs) .none kV34 dc34 pm34 an34 cd34 ct34), sl34⟩) (c34 : PySem.W.codeIn K cd34 "_are_rows" = true) (k34 : PySem.W.keepIn K (.ref f34) = true)
    {f35 : Addr} {od35 an35 : Option Addr} {sl35 : Array (Option Value)} {oc35 kV35 dc35 pm35 cd35 ct35 : Value}
    (a35 : PySem.W.nsIn K mainGlobals "_is_row" = some (some (.ref f35)))
    (l35 : K.lookup f35 = some ⟨oc35, od35, .func (PySem.W.fnOf "_is_row" "_is_row" (defArgs sRw) (defBody sRw) (defScope sRw) .none kV35 dc35 pm35 an35 cd35 ct35), sl35⟩) (c35 : PySem.W.codeIn K cd35 "_is_row" = true) (k35 : PySem.W.keepIn K (.ref f35) = true)
    {f36 : Addr} {od36 an36 : Option Addr} {sl36 : Array (Option Value)} {oc36 kV36 dc36 pm36 cd36 ct36 : Value}
    (a36 : PySem.W.nsIn K mainGlobals "_is_term" = some (some (.ref f36)))
    (l36 : K.lookup f36 = some ⟨oc36, od36, .func (PySem.W.fnOf "_is_term" "_is_term" (defArgs sTm) (defBody sTm) (defScope sTm) .none kV36 dc36 pm36 an36 cd36 ct36), sl36⟩) (c36 : PySem.W.codeIn K cd36 "_is_term" = true) (k36 : PySem.W.keepIn K (.ref f36) = true)
    {f37 : Addr} {od37 an37 : Option Addr} {sl37 : Array (Option Value)} {oc37 kV37 dc37 pm37 cd37 ct37 : Value}
    (a37 : PySem.W.nsIn K mainGlobals "_law_well" = some (some (.ref f37)))
    (l37 : K.lookup f37 = some ⟨oc37, od37, .func (PySem.W.fnOf "_law_well" "_law_well" (defArgs lWell) (defBody lWell) (defScope lWell) .none kV37 dc37 pm37 an37 cd37 ct37), sl37⟩) (c37 : PySem.W.codeIn K cd37 "_law_well" = true) (k37 : PySem.W.keepIn K (.ref f37) = true)
    {f38 : Addr} {od38 an38 : Option Addr} {sl38 : Array (Option Value)} {oc38 kV38 dc38 pm38 cd38 ct38 : Value}
    (a38 : PySem.W.nsIn K mainGlobals "_law_draw" = some (some (.ref f38)))
    (l38 : K.lookup f38 = some ⟨oc38, od38, .func (PySem.W.fnOf "_law_draw" "_law_draw" (defArgs lDr) (defBody lDr) (defScope lDr) .none kV38 dc38 pm38 an38 cd38 ct38), sl38⟩) (c38 : PySem.W.codeIn K cd38 "_law_draw" = true) (k38 : PySem.W.keepIn K (.ref f38) = true)
    {f39 : Addr} {od39 an39 : Option Addr} {sl39 : Array (Option Value)} {oc39 kV39 dc39 pm39 cd39 ct39 : Value}
    (a39 : PySem.W.nsIn K mainGlobals "_law_name" = some (some (.ref f39)))
    (l39 : K.lookup f39 = some ⟨oc39, od39, .func (PySem.W.fnOf "_law_name" "_law_name" (defArgs lNa) (defBody lNa) (defScope lNa) .none kV39 dc39 pm39 an39 cd39 ct39), sl39⟩) (c39 : PySem.W.codeIn K cd39 "_law_name" = true) (k39 : PySem.W.keepIn K (.ref f39) = true)
    {f40 : Addr} {od40 an40 : Option Addr} {sl40 : Array (Option Value)} {oc40 kV40 dc40 pm40 cd40 ct40 : Value}
    (a40 : PySem.W.nsIn K mainGlobals "_law_kinds" = some (some (.ref f40)))
    (l40 : K.lookup f40 = some ⟨oc40, od40, .func (PySem.W.fnOf "_law_kinds" "_law_kinds" (defArgs lKd) (defBody lKd) (defScope lKd) .none kV40 dc40 pm40 an40 cd40 ct40), sl40⟩) (c40 : PySem.W.codeIn K cd40 "_law_kinds" = true) (k40 : PySem.W.keepIn K (.ref f40) = true)
    {f41 : Addr} {od41 an41 : Option Addr} {sl41 : Array (Option Value)} {oc41 kV41 dc41 pm41 cd41 ct41 : Value}
    (a41 : PySem.W.nsIn K mainGlobals "_law_times" = some (some (.ref f41)))
    (l41 : K.lookup f41 = some ⟨oc41, od41, .func (PySem.W.fnOf "_law_times" "_law_times" (defArgs lTi) (defBody lTi) (defScope lTi) .none kV41 dc41 pm41 an41 cd41 ct41), sl41⟩) (c41 : PySem.W.codeIn K cd41 "_law_times" = true) (k41 : PySem.W.keepIn K (.ref f41) = true)
    {f42 : Addr} {od42 an42 : Option Addr} {sl42 : Array (Option Value)} {oc42 kV42 dc42 pm42 cd42 ct42 : Value}
    (a42 : PySem.W.nsIn K mainGlobals "_law_fits" = some (some (.ref f42)))
    (l42 : K.lookup f42 = some ⟨oc42, od42, .func (PySem.W.fnOf "_law_fits" "_law_fits" (defArgs lFt) (defBody lFt) (defScope lFt) .none kV42 dc42 pm42 an42 cd42 ct42), sl42⟩) (c42 : PySem.W.codeIn K cd42 "_law_fits" = true) (k42 : PySem.W.keepIn K (.ref f42) = true)
    {f43 : Addr} {od43 an43 : Option Addr} {sl43 : Array (Option Value)} {oc43 kV43 dc43 pm43 cd43 ct43 : Value}
    (a43 : PySem.W.nsIn K mainGlobals "_law_measures" = some (some (.ref f43)))
    (l43 : K.lookup f43 = some ⟨oc43, od43, .func (PySem.W.fnOf "_law_measures" "_law_measures" (defArgs lMs) (defBody lMs) (defScope lMs) .none kV43 dc43 pm43 an43 cd43 ct43), sl43⟩) (c43 : PySem.W.codeIn K cd43 "_law_measures" = true) (k43 : PySem.W.keepIn K (.ref f43) = true)
    {f44 : Addr} {od44 an44 : Option Addr} {sl44 : Array (Option Value)} {oc44 kV44 dc44 pm44 cd44 ct44 : Value}
    (a44 : PySem.W.nsIn K mainGlobals "_law_number" = some (some (.ref f44)))
    (l44 : K.lookup f44 = some ⟨oc44, od44, .func (PySem.W.fnOf "_law_number" "_law_number" (defArgs lNu) (defBody lNu) (defScope lNu) .none kV44 dc44 pm44 an44 cd44 ct44), sl44⟩) (c44 : PySem.W.codeIn K cd44 "_law_number" = true) (k44 : PySem.W.keepIn K (.ref f44) = true)
    {f45 : Addr} {od45 an45 : Option Addr} {sl45 : Array (Option Value)} {oc45 kV45 dc45 pm45 cd45 ct45 : Value}
    (a45 : PySem.W.nsIn K mainGlobals "_law_value" = some (some (.ref f45)))
    (l45 : K.lookup f45 = some ⟨oc45, od45, .func (PySem.W.fnOf "_law_value" "_law_value" (defArgs lVa) (defBody lVa) (defScope lVa) .none kV45 dc45 pm45 an45 cd45 ct45), sl45⟩) (c45 : PySem.W.codeIn K cd45 "_law_value" = true) (k45 : PySem.W.keepIn K (.ref f45) = true)
    {f46 : Addr} {od46 an46 : Option Addr} {sl46 : Array (Option Value)} {oc46 kV46 dc46 pm46 cd46 ct46 : Value}
    (a46 : PySem.W.nsIn K mainGlobals "_law_raised" = some (some (.ref f46)))
    (l46 : K.lookup f46 = some ⟨oc46, od46, .func (PySem.W.fnOf "_law_raised" "_law_raised" (defArgs lRa) (defBody lRa) (defScope lRa) .none kV46 dc46 pm46 an46 cd46 ct46), sl46⟩) (c46 : PySem.W.codeIn K cd46 "_law_raised" = true) (k46 : PySem.W.keepIn K (.ref f46) = true)
    {f47 : Addr} {od47 an47 : Option Addr} {sl47 : Array (Option Value)} {oc47 kV47 dc47 pm47 cd47 ct47 : Value}
    (a47 : PySem.W.nsIn K mainGlobals "_law_struck" = some (some (.ref f47)))
    (l47 : K.lookup f47 = some ⟨oc47, od47, .func (PySem.W.fnOf "_law_struck" "_law_struck" (defArgs lSk) (defBody lSk) (defScope lSk) .none kV47 dc47 pm47 an47 cd47 ct47), sl47⟩) (c47 : PySem.W.codeIn K cd47 "_law_struck" = true) (k47 : PySem.W.keepIn K (.ref f47) = true)
    {f48 : Addr} {od48 an48 : Option Addr} {sl48 : Array (Option Value)} {oc48 kV48 dc48 pm48 cd48 ct48 : Value}
    (a48 : PySem.W.nsIn K mainGlobals "_law_opposite" = some (some (.ref f48)))
    (l48 : K.lookup f48 = some ⟨oc48, od48, .func (PySem.W.fnOf "_law_opposite" "_law_opposite" (defArgs lOp) (defBody lOp) (defScope lOp) .none kV48 dc48 pm48 an48 cd48 ct48), sl48⟩) (c48 : PySem.W.codeIn K cd48 "_law_opposite" = true) (k48 : PySem.W.keepIn K (.ref f48) = true)
    {f49 : Addr} {od49 an49 : Option Addr} {sl49 : Array (Option Value)} {oc49 kV49 dc49 pm49 cd49 ct49 : Value}
    (a49 : PySem.W.nsIn K mainGlobals "_law_right" = some (some (.ref f49)))
    (l49 : K.lookup f49 = some ⟨oc49, od49, .func (PySem.W.fnOf "_law_right" "_law_right" (defArgs lRg) (defBody lRg) (defScope lRg) .none kV49 dc49 pm49 an49 cd49 ct49), sl49⟩) (c49 : PySem.W.codeIn K cd49 "_law_right" = true) (k49 : PySem.W.keepIn K (.ref f49) = true)
    {f50 : Addr} {od50 an50 : Option Addr} {sl50 : Array (Option Value)} {oc50 kV50 dc50 pm50 cd50 ct50 : Value}
    (a50 : PySem.W.nsIn K mainGlobals "law" = some (some (.ref f50)))
    (l50 : K.lookup f50 = some ⟨oc50, od50, .func (PySem.W.fnOf "law" "law" (defArgs lLaw) (defBody lLaw) (defScope lLaw) .none kV50 dc50 pm50 an50 cd50 ct50), sl50⟩) (c50 : PySem.W.codeIn K cd50 "law" = true) (k50 : PySem.W.keepIn K (.ref f50) = true)
    (zisinstance : PySem.W.nsIn K mainGlobals "isinstance" = some none)
    (zint : PySem.W.nsIn K mainGlobals "int" = some none)
    (zbool : PySem.W.nsIn K mainGlobals "bool" = some none)
    (ztuple : PySem.W.nsIn K mainGlobals "tuple" = some none)
    (zstr : PySem.W.nsIn K mainGlobals "str" = some none)
    (zlen : PySem.W.nsIn K mainGlobals "len" = some none)
    (zall : PySem.W.nsIn K mainGlobals "all" = some none)
    (zzip : PySem.W.nsIn K mainGlobals "zip" = some none)
    (zrange : PySem.W.nsIn K mainGlobals "range" = some none)
    (zenumerate : PySem.W.nsIn K mainGlobals "enumerate" = some none)
    (zlist : PySem.W.nsIn K mainGlobals "list" = some none)
    (zabs : PySem.W.nsIn K mainGlobals "abs" = some none)
    (zmax : PySem.W.nsIn K mainGlobals "max" = some none)
    (zsum : PySem.W.nsIn K mainGlobals "sum" = some none)
    (zsorted : PySem.W.nsIn K mainGlobals "sorted" = some none)
    {tMOST_SIGNS : _} (mMOST_SIGNS : PySem.W.nsIn K mainGlobals "MOST_SIGNS" = some (some (.int 10 tMOST_SIGNS)))
    {tMOST_KINDS : _} (mMOST_KINDS : PySem.W.nsIn K mainGlobals "MOST_KINDS" = some (some (.int 8 tMOST_KINDS)))
    {tMOST_MAKERS : _} (mMOST_MAKERS : PySem.W.nsIn K mainGlobals "MOST_MAKERS" = some (some (.int 8 tMOST_MAKERS)))
    {tMOST_FIELDS : _} (mMOST_FIELDS : PySem.W.nsIn K mainGlobals "MOST_FIELDS" = some (some (.int 5 tMOST_FIELDS)))
    {tMOST_FUNCTIONS : _} (mMOST_FUNCTIONS : PySem.W.nsIn K mainGlobals "MOST_FUNCTIONS" = some (some (.int 12 tMOST_FUNCTIONS)))
    {tMOST_FACTOR : _} (mMOST_FACTOR : PySem.W.nsIn K mainGlobals "MOST_FACTOR" = some (some (.int 1000000 tMOST_FACTOR)))
    {tMOST_MEASURES : _} (mMOST_MEASURES : PySem.W.nsIn K mainGlobals "MOST_MEASURES" = some (some (.int 12 tMOST_MEASURES)))
    {tMOST_TOLD : _} (mMOST_TOLD : PySem.W.nsIn K mainGlobals "MOST_TOLD" = some (some (.int 4000 tMOST_TOLD)))
    {tWHOLE : _} (mWHOLE : PySem.W.nsIn K mainGlobals "WHOLE" = some (some (.str "whole" tWHOLE)))
    (mWORDS : PySem.W.nsIn K mainGlobals "WORDS" = some (some (.ref CWW)))
    {dW : Option Addr} {nW : Nat} {slW : Array (Option Value)} {u0 : _} {u1 : _} {u2 : _} {u3 : _} {u4 : _} {u5 : _} {u6 : _} {u7 : _} (lW : K.lookup CWW = some ⟨.type "tuple", dW, .seq #[.str "def" u0, .str "else" u1, .str "give" u2, .str "if" u3, .str "kind" u4, .str "let" u5, .str "match" u6, .str "whole" u7] nW, slW⟩)
    (aCCWo : PySem.W.nsIn K mainGlobals "World" = some (some (.ref CWo))) (pgCWo : PySem.W.plainGet K CWo Str.empty = true) (hdCWo : PySem.W.hasDictIn K CWo = true) (poCWo : PySem.W.plainOver K CWo = true) (saCWo : PySem.W.findIn K (.ref CWo) "__setattr__" = some (some (.builtin "object.__setattr__"))) (mkCWo : PySem.W.makesIn K CWo = true) (kcCWo : PySem.W.keepIn K (.ref CWo) = true)
    (nkindsCWo : PySem.W.findIn K (.ref CWo) "kinds" = some none)
    (nmakersCWo : PySem.W.findIn K (.ref CWo) "makers" = some none)
    (nheadsCWo : PySem.W.findIn K (.ref CWo) "heads" = some none)
    (n10g : K.lookup P0 = none) (h10g : PySem.W.codeHdIn K cr10 P0 = true)
    (n9g : K.lookup P1 = none) (h9g : PySem.W.codeHdIn K cr9 P1 = true)
    (n8g : K.lookup P2 = none) (h8g : PySem.W.codeHdIn K cr8 P2 = true)
    (n11g : K.lookup P3 = none) (h11g : PySem.W.codeHdIn K cr11 P3 = true)
    (n16g : K.lookup P4 = none) (h16g : PySem.W.codeHdIn K cr16 P4 = true)
    (hT8 : ∀ P ∈ [P0, P1, P2, P3, P4], h.get? P = some (PySem.W.tabObj #[])) :
    LamX.LawAtS l w K CX0 15 63 "_law_script" mg fa h := by
  have e := hfa.symm.trans (PySem.W.mg_of X G a50)
  cases e
  have F0 := fun_mk (st := sInt) l0 c0 k0
  have B0 := F0.binds (ps := ["thing"]) fun _ _ _ _ _ _ us hl => match us, hl with | [_], _ => rfl
  have D0 : Df K mg "is_integer" ["thing"] f0 _ := ⟨PySem.W.mg_of X G a0, k0, B0⟩
  have F1 := fun_mk (st := sBet) l1 c1 k1
  have B1 := F1.binds (ps := ["thing", "least", "most"]) fun _ _ _ _ _ _ us hl => match us, hl with | [_, _, _], _ => rfl
  have D1 : Df K mg "is_between" ["thing", "least", "most"] f1 _ := ⟨PySem.W.mg_of X G a1, k1, B1⟩
  have F2 := fun_mk (st := sFa) l2 c2 k2
  have B2 := F2.binds (ps := ["thing"]) fun _ _ _ _ _ _ us hl => match us, hl with | [_], _ => rfl
  have D2 : Df K mg "is_factor" ["thing"] f2 _ := ⟨PySem.W.mg_of X G a2, k2, B2⟩
  have F3 := fun_mk (st := sTup) l3 c3 k3
  have B3 := F3.binds (ps := ["thing", "least", "most"]) fun _ _ _ _ _ _ us hl => match us, hl with | [_, _, _], _ => rfl
  have D3 : Df K mg "is_tuple" ["thing", "least", "most"] f3 _ := ⟨PySem.W.mg_of X G a3, k3, B3⟩
  have F4 := fun_mk (st := sNam) l4 c4 k4
  have B4 := F4.binds (ps := ["thing"]) fun _ _ _ _ _ _ us hl => match us, hl with | [_], _ => rfl
  have D4 : Df K mg "is_name" ["thing"] f4 _ := ⟨PySem.W.mg_of X G a4, k4, B4⟩
  have F5 := fun_mk (st := sLow) l5 c5 k5
  have B5 := F5.binds (ps := ["thing"]) fun _ _ _ _ _ _ us hl => match us, hl with | [_], _ => rfl
  have D5 : Df K mg "is_low" ["thing"] f5 _ := ⟨PySem.W.mg_of X G a5, k5, B5⟩
  have F6 := fun_mk (st := sHig) l6 c6 k6
  have B6 := F6.binds (ps := ["thing"]) fun _ _ _ _ _ _ us hl => match us, hl with | [_], _ => rfl
  have D6 : Df K mg "is_high" ["thing"] f6 _ := ⟨PySem.W.mg_of X G a6, k6, B6⟩
  have F7 := fun_mk (st := sKin) l7 c7 k7
  have B7 := F7.binds (ps := ["thing"]) fun _ _ _ _ _ _ us hl => match us, hl with | [_], _ => rfl
  have D7 : Df K mg "is_kind" ["thing"] f7 _ := ⟨PySem.W.mg_of X G a7, k7, B7⟩
  have F8 := fun_mk (st := sKinds) l8 c8 k8
  have FC8 : FunC K "are_kinds" "are_kinds" sKinds f8 _ cr8 := ⟨⟨_, _, _, _, _, _, _, _, rfl, l8, c8⟩, k8⟩
  have B8 := F8.binds (ps := ["thing"]) fun _ _ _ _ _ _ us hl => match us, hl with | [_], _ => rfl
  have D8 : Df K mg "are_kinds" ["thing"] f8 _ := ⟨PySem.W.mg_of X G a8, k8, B8⟩
  have F9 := fun_mk (st := sEntry) l9 c9 k9
  have FC9 : FunC K "_is_entry" "_is_entry" sEntry f9 _ cr9 := ⟨⟨_, _, _, _, _, _, _, _, rfl, l9, c9⟩, k9⟩
  have B9 := F9.binds (ps := ["entry"]) fun _ _ _ _ _ _ us hl => match us, hl with | [_], _ => rfl
  have D9 : Df K mg "_is_entry" ["entry"] f9 _ := ⟨PySem.W.mg_of X G a9, k9, B9⟩
  have F10 := fun_mk (st := sMaker) l10 c10 k10
  have FC10 : FunC K "_is_maker" "_is_maker" sMaker f10 _ cr10 := ⟨⟨_, _, _, _, _, _, _, _, rfl, l10, c10⟩, k10⟩
  have B10 := F10.binds (ps := ["maker"]) fun _ _ _ _ _ _ us hl => match us, hl with | [_], _ => rfl
  have D10 : Df K mg "_is_maker" ["maker"] f10 _ := ⟨PySem.W.mg_of X G a10, k10, B10⟩
  have F11 := fun_mk (st := sKf) l11 c11 k11
  have FC11 : FunC K "kinds_fault" "kinds_fault" sKf f11 _ cr11 := ⟨⟨_, _, _, _, _, _, _, _, rfl, l11, c11⟩, k11⟩
  have B11 := F11.binds (ps := ["kinds"]) fun _ _ _ _ _ _ us hl => match us, hl with | [_], _ => rfl
  have D11 : Df K mg "kinds_fault" ["kinds"] f11 _ := ⟨PySem.W.mg_of X G a11, k11, B11⟩
  have F12 := fun_mk (st := sMk) l12 c12 k12
  have B12 := F12.binds (ps := ["kinds"]) fun _ _ _ _ _ _ us hl => match us, hl with | [_], _ => rfl
  have D12 : Df K mg "makers_by_kind" ["kinds"] f12 _ := ⟨PySem.W.mg_of X G a12, k12, B12⟩
  have F13 := fun_mk (st := sMn) l13 c13 k13
  have B13 := F13.binds (ps := ["kinds"]) fun _ _ _ _ _ _ us hl => match us, hl with | [_], _ => rfl
  have D13 : Df K mg "makers_by_name" ["kinds"] f13 _ := ⟨PySem.W.mg_of X G a13, k13, B13⟩
  have F14 := fun_mk (st := sWi) l14 c14 k14
  have B14 := F14.binds (ps := ["self", "kinds", "functions"]) fun _ _ _ _ _ _ us hl => match us, hl with | [_, _, _], _ => rfl
  have M14 : Mk K CWo f14 := ⟨mkCWo, a14, i14, kcCWo⟩
  have F15 := fun_mk (st := sAr) l15 c15 k15
  have B15 := F15.binds (ps := ["world", "function"]) fun _ _ _ _ _ _ us hl => match us, hl with | [_, _], _ => rfl
  have D15 : Df K mg "are_rows" ["world", "function"] f15 _ := ⟨PySem.W.mg_of X G a15, k15, B15⟩
  have F16 := fun_mk (st := sCo) l16 c16 k16
  have FC16 : FunC K "is_core" "is_core" sCo f16 _ cr16 := ⟨⟨_, _, _, _, _, _, _, _, rfl, l16, c16⟩, k16⟩
  have B16 := F16.binds (ps := ["thing"]) fun _ _ _ _ _ _ us hl => match us, hl with | [_], _ => rfl
  have D16 : Df K mg "is_core" ["thing"] f16 _ := ⟨PySem.W.mg_of X G a16, k16, B16⟩
  have F17 := fun_mk (st := sNc) l17 c17 k17
  have B17 := F17.binds (ps := ["thing"]) fun _ _ _ _ _ _ us hl => match us, hl with | [_], _ => rfl
  have D17 : Df K mg "need_core" ["thing"] f17 _ := ⟨PySem.W.mg_of X G a17, k17, B17⟩
  have F18 := fun_mk (st := sAf) l18 c18 k18
  have B18 := F18.binds (ps := ["kinds", "thing"]) fun _ _ _ _ _ _ us hl => match us, hl with | [_, _], _ => rfl
  have D18 : Df K mg "_are_functions" ["kinds", "thing"] f18 _ := ⟨PySem.W.mg_of X G a18, k18, B18⟩
  have F19 := fun_mk (st := sAs) l19 c19 k19
  have B19 := F19.binds (ps := ["keys"]) fun _ _ _ _ _ _ us hl => match us, hl with | [_], _ => rfl
  have D19 : Df K mg "is_ascending" ["keys"] f19 _ := ⟨PySem.W.mg_of X G a19, k19, B19⟩
  have F20 := fun_mk (st := sAw) l20 c20 k20
  have B20 := F20.binds (ps := ["makers", "kind", "thing", "most"]) fun _ _ _ _ _ _ us hl => match us, hl with | [_, _, _, _], _ => rfl
  have D20 : Df K mg "are_words" ["makers", "kind", "thing", "most"] f20 _ := ⟨PySem.W.mg_of X G a20, k20, B20⟩
  have F21 := fun_mk (st := sFo) l21 c21 k21
  have B21 := F21.binds (ps := ["makers", "kind", "word"]) fun _ _ _ _ _ _ us hl => match us, hl with | [_, _, _], _ => rfl
  have D21 : Df K mg "_fields_of" ["makers", "kind", "word"] f21 _ := ⟨PySem.W.mg_of X G a21, k21, B21⟩
  have F22 := fun_mk (st := sMe) l22 c22 k22
  have B22 := F22.binds (ps := ["core", "measures", "number", "words"]) fun _ _ _ _ _ _ us hl => match us, hl with | [_, _, _, _], _ => rfl
  have D22 : Df K mg "measured" ["core", "measures", "number", "words"] f22 _ := ⟨PySem.W.mg_of X G a22, k22, B22⟩
  have F23 := fun_mk (st := sNb) l23 c23 k23
  have B23 := F23.binds (ps := ["core", "measures"]) fun _ _ _ _ _ _ us hl => match us, hl with | [_, _], _ => rfl
  have D23 : Df K mg "never_below" ["core", "measures"] f23 _ := ⟨PySem.W.mg_of X G a23, k23, B23⟩
  have F24 := fun_mk (st := sNm) l24 c24 k24
  have B24 := F24.binds (ps := ["core", "thing"]) fun _ _ _ _ _ _ us hl => match us, hl with | [_, _], _ => rfl
  have D24 : Df K mg "need_measures" ["core", "thing"] f24 _ := ⟨PySem.W.mg_of X G a24, k24, B24⟩
  have F25 := fun_mk (st := sNw) l25 c25 k25
  have B25 := F25.binds (ps := ["core", "kind", "thing"]) fun _ _ _ _ _ _ us hl => match us, hl with | [_, _, _], _ => rfl
  have D25 : Df K mg "need_words" ["core", "kind", "thing"] f25 _ := ⟨PySem.W.mg_of X G a25, k25, B25⟩
  have F26 := fun_mk (st := sAm) l26 c26 k26
  have B26 := F26.binds (ps := ["core", "thing"]) fun _ _ _ _ _ _ us hl => match us, hl with | [_, _], _ => rfl
  have D26 : Df K mg "are_measures" ["core", "thing"] f26 _ := ⟨PySem.W.mg_of X G a26, k26, B26⟩
  have F27 := fun_mk (st := sKo) l27 c27 k27
  have B27 := F27.binds (ps := ["measures"]) fun _ _ _ _ _ _ us hl => match us, hl with | [_], _ => rfl
  have D27 : Df K mg "kinds_of" ["measures"] f27 _ := ⟨PySem.W.mg_of X G a27, k27, B27⟩
  have F28 := fun_mk (st := sBe) l28 c28 k28
  have B28 := F28.binds (ps := ["kinds", "number", "kind"]) fun _ _ _ _ _ _ us hl => match us, hl with | [_, _, _], _ => rfl
  have D28 : Df K mg "belongs" ["kinds", "number", "kind"] f28 _ := ⟨PySem.W.mg_of X G a28, k28, B28⟩
  have F29 := fun_mk (st := sRb) l29 c29 k29
  have B29 := F29.binds (ps := ["core", "measures"]) fun _ _ _ _ _ _ us hl => match us, hl with | [_, _], _ => rfl
  have D29 : Df K mg "rows_by_maker" ["core", "measures"] f29 _ := ⟨PySem.W.mg_of X G a29, k29, B29⟩
  have F30 := fun_mk (st := sMo) l30 c30 k30
  have B30 := F30.binds (ps := ["core", "measures", "numbers", "words"]) fun _ _ _ _ _ _ us hl => match us, hl with | [_, _, _, _], _ => rfl
  have D30 : Df K mg "measures_of" ["core", "measures", "numbers", "words"] f30 _ := ⟨PySem.W.mg_of X G a30, k30, B30⟩
  have F31 := fun_mk (st := sWr) l31 c31 k31
  have B31 := F31.binds (ps := ["core", "measures", "numbers"]) fun _ _ _ _ _ _ us hl => match us, hl with | [_, _, _], _ => rfl
  have D31 : Df K mg "_wanted_rows" ["core", "measures", "numbers"] f31 _ := ⟨PySem.W.mg_of X G a31, k31, B31⟩
  have F32 := fun_mk (st := sRe) l32 c32 k32
  have B32 := F32.binds (ps := ["row", "parts"]) fun _ _ _ _ _ _ us hl => match us, hl with | [_, _], _ => rfl
  have D32 : Df K mg "_reckoned" ["row", "parts"] f32 _ := ⟨PySem.W.mg_of X G a32, k32, B32⟩
  have F33 := fun_mk (st := sSt) l33 c33 k33
  have B33 := F33.binds (ps := ["measure", "lot"]) fun _ _ _ _ _ _ us hl => match us, hl with | [_, _], _ => rfl
  have D33 : Df K mg "_stays" ["measure", "lot"] f33 _ := ⟨PySem.W.mg_of X G a33, k33, B33⟩
  have F34 := fun_mk (st := sRs) l34 c34 k34
  have B34 := F34.binds (ps := ["kinds", "makers", "thing"]) fun _ _ _ _ _ _ us hl => match us, hl with | [_, _, _], _ => rfl
  have D34 : Df K mg "_are_rows" ["kinds", "makers", "thing"] f34 _ := ⟨PySem.W.mg_of X G a34, k34, B34⟩
  have F35 := fun_mk (st := sRw) l35 c35 k35
  have B35 := F35.binds (ps := ["kinds", "fields", "thing"]) fun _ _ _ _ _ _ us hl => match us, hl with | [_, _, _], _ => rfl
  have D35 : Df K mg "_is_row" ["kinds", "fields", "thing"] f35 _ := ⟨PySem.W.mg_of X G a35, k35, B35⟩
  have F36 := fun_mk (st := sTm) l36 c36 k36
  have B36 := F36.binds (ps := ["kinds", "fields", "thing"]) fun _ _ _ _ _ _ us hl => match us, hl with | [_, _, _], _ => rfl
  have D36 : Df K mg "_is_term" ["kinds", "fields", "thing"] f36 _ := ⟨PySem.W.mg_of X G a36, k36, B36⟩
  have F37 := fun_mk (st := lWell) l37 c37 k37
  have B37 := F37.binds (ps := ["_law_script", "_law_at"]) fun _ _ _ _ _ _ us hl => match us, hl with | [_, _], _ => rfl
  have D37 : Df K mg "_law_well" ["_law_script", "_law_at"] f37 _ := ⟨PySem.W.mg_of X G a37, k37, B37⟩
  have F38 := fun_mk (st := lDr) l38 c38 k38
  have B38 := F38.binds (ps := ["_law_well_here", "_law_many"]) fun _ _ _ _ _ _ us hl => match us, hl with | [_, _], _ => rfl
  have D38 : Df K mg "_law_draw" ["_law_well_here", "_law_many"] f38 _ := ⟨PySem.W.mg_of X G a38, k38, B38⟩
  have F39 := fun_mk (st := lNa) l39 c39 k39
  have B39 := F39.binds (ps := ["_law_well_here", "_law_high", "_law_used"]) fun _ _ _ _ _ _ us hl => match us, hl with | [_, _, _], _ => rfl
  have D39 : Df K mg "_law_name" ["_law_well_here", "_law_high", "_law_used"] f39 _ := ⟨PySem.W.mg_of X G a39, k39, B39⟩
  have F40 := fun_mk (st := lKd) l40 c40 k40
  have B40 := F40.binds (ps := ["_law_well_here"]) fun _ _ _ _ _ _ us hl => match us, hl with | [_], _ => rfl
  have D40 : Df K mg "_law_kinds" ["_law_well_here"] f40 _ := ⟨PySem.W.mg_of X G a40, k40, B40⟩
  have F41 := fun_mk (st := lTi) l41 c41 k41
  have B41 := F41.binds (ps := ["_law_well_here"]) fun _ _ _ _ _ _ us hl => match us, hl with | [_], _ => rfl
  have D41 : Df K mg "_law_times" ["_law_well_here"] f41 _ := ⟨PySem.W.mg_of X G a41, k41, B41⟩
  have F42 := fun_mk (st := lFt) l42 c42 k42
  have B42 := F42.binds (ps := ["_law_kinds_here", "_law_number_here", "_law_kind"]) fun _ _ _ _ _ _ us hl => match us, hl with | [_, _, _], _ => rfl
  have D42 : Df K mg "_law_fits" ["_law_kinds_here", "_law_number_here", "_law_kind"] f42 _ := ⟨PySem.W.mg_of X G a42, k42, B42⟩
  have F43 := fun_mk (st := lMs) l43 c43 k43
  have B43 := F43.binds (ps := ["_law_well_here", "_law_kinds_here"]) fun _ _ _ _ _ _ us hl => match us, hl with | [_, _], _ => rfl
  have D43 : Df K mg "_law_measures" ["_law_well_here", "_law_kinds_here"] f43 _ := ⟨PySem.W.mg_of X G a43, k43, B43⟩
  have F44 := fun_mk (st := lNu) l44 c44 k44
  have B44 := F44.binds (ps := ["_law_well_here"]) fun _ _ _ _ _ _ us hl => match us, hl with | [_], _ => rfl
  have D44 : Df K mg "_law_number" ["_law_well_here"] f44 _ := ⟨PySem.W.mg_of X G a44, k44, B44⟩
  have F45 := fun_mk (st := lVa) l45 c45 k45
  have B45 := F45.binds (ps := ["_law_well_here", "_law_kinds_here", "_law_kind", "_law_most"]) fun _ _ _ _ _ _ us hl => match us, hl with | [_, _, _, _], _ => rfl
  have D45 : Df K mg "_law_value" ["_law_well_here", "_law_kinds_here", "_law_kind", "_law_most"] f45 _ := ⟨PySem.W.mg_of X G a45, k45, B45⟩
  have F46 := fun_mk (st := lRa) l46 c46 k46
  have B46 := F46.binds (ps := ["_law_well_here", "_law_measures_here"]) fun _ _ _ _ _ _ us hl => match us, hl with | [_, _], _ => rfl
  have D46 : Df K mg "_law_raised" ["_law_well_here", "_law_measures_here"] f46 _ := ⟨PySem.W.mg_of X G a46, k46, B46⟩
  have F47 := fun_mk (st := lSk) l47 c47 k47
  have B47 := F47.binds (ps := ["_law_measures_here"]) fun _ _ _ _ _ _ us hl => match us, hl with | [_], _ => rfl
  have D47 : Df K mg "_law_struck" ["_law_measures_here"] f47 _ := ⟨PySem.W.mg_of X G a47, k47, B47⟩
  have F48 := fun_mk (st := lOp) l48 c48 k48
  have B48 := F48.binds (ps := ["_law_measures_here"]) fun _ _ _ _ _ _ us hl => match us, hl with | [_], _ => rfl
  have D48 : Df K mg "_law_opposite" ["_law_measures_here"] f48 _ := ⟨PySem.W.mg_of X G a48, k48, B48⟩
  have F49 := fun_mk (st := lRg) l49 c49 k49
  have B49 := F49.binds (ps := ["_law_core", "_law_measures_here"]) fun _ _ _ _ _ _ us hl => match us, hl with | [_, _], _ => rfl
  have D49 : Df K mg "_law_right" ["_law_core", "_law_measures_here"] f49 _ := ⟨PySem.W.mg_of X G a49, k49, B49⟩
  have F50 := fun_mk (st := lLaw) l50 c50 k50
  have g_isinstance := PySem.W.mg_none_of X G zisinstance
  have g_int := PySem.W.mg_none_of X G zint
  have g_bool := PySem.W.mg_none_of X G zbool
  have g_tuple := PySem.W.mg_none_of X G ztuple
  have g_str := PySem.W.mg_none_of X G zstr
  have g_len := PySem.W.mg_none_of X G zlen
  have g_all := PySem.W.mg_none_of X G zall
  have g_zip := PySem.W.mg_none_of X G zzip
  have g_range := PySem.W.mg_none_of X G zrange
  have g_enumerate := PySem.W.mg_none_of X G zenumerate
  have g_list := PySem.W.mg_none_of X G zlist
  have g_abs := PySem.W.mg_none_of X G zabs
  have g_max := PySem.W.mg_none_of X G zmax
  have g_sum := PySem.W.mg_none_of X G zsum
  have g_sorted := PySem.W.mg_none_of X G zsorted
  have vMOST_SIGNS : ∃ t, mg "MOST_SIGNS" = some (.int 10 t) := ⟨_, PySem.W.mg_of X G mMOST_SIGNS⟩
  have vMOST_KINDS : ∃ t, mg "MOST_KINDS" = some (.int 8 t) := ⟨_, PySem.W.mg_of X G mMOST_KINDS⟩
  have vMOST_MAKERS : ∃ t, mg "MOST_MAKERS" = some (.int 8 t) := ⟨_, PySem.W.mg_of X G mMOST_MAKERS⟩
  have vMOST_FIELDS : ∃ t, mg "MOST_FIELDS" = some (.int 5 t) := ⟨_, PySem.W.mg_of X G mMOST_FIELDS⟩
  have vMOST_FUNCTIONS : ∃ t, mg "MOST_FUNCTIONS" = some (.int 12 t) := ⟨_, PySem.W.mg_of X G mMOST_FUNCTIONS⟩
  have vMOST_FACTOR : ∃ t, mg "MOST_FACTOR" = some (.int 1000000 t) := ⟨_, PySem.W.mg_of X G mMOST_FACTOR⟩
  have vMOST_MEASURES : ∃ t, mg "MOST_MEASURES" = some (.int 12 t) := ⟨_, PySem.W.mg_of X G mMOST_MEASURES⟩
  have vMOST_TOLD : ∃ t, mg "MOST_TOLD" = some (.int 4000 t) := ⟨_, PySem.W.mg_of X G mMOST_TOLD⟩
  have hWs : ∀ H : Hp, SqT K H CWW (wordsL.map V.str) := fun H => .inr ⟨_, _, _, lW, rfl, rfl, (by show 8 ≤ sizeLine; decide), (.cons ⟨_, rfl⟩ (.cons ⟨_, rfl⟩ (.cons ⟨_, rfl⟩ (.cons ⟨_, rfl⟩ (.cons ⟨_, rfl⟩ (.cons ⟨_, rfl⟩ (.cons ⟨_, rfl⟩ (.cons ⟨_, rfl⟩ .nil))))))))⟩
  have N : Gn K mg := ⟨g_isinstance, g_int, g_bool, g_tuple, g_str, g_len, g_all, vMOST_SIGNS, ⟨CWW, PySem.W.mg_of X G mWORDS, hWs⟩⟩
  have M : Gd mg := ⟨g_len, g_abs, g_int, g_list, g_range, g_tuple, g_str, g_max⟩
  have Z : Gz mg := ⟨g_zip⟩
  have Kk : Gkk mg := ⟨vMOST_KINDS, vMOST_MAKERS, vMOST_FIELDS⟩
  have TxWo : TxW K mg CWo := ⟨⟨pgCWo, hdCWo, poCWo, saCWo⟩, nkindsCWo, nmakersCWo, nheadsCWo, PySem.W.mg_of X G aCCWo⟩
  let T : Hp → Prop := fun H => ∀ P ∈ [P0, P1, P2, P3, P4], TabG H P
  have st : Stays T := fun H H' g t P hP => g.tabs (t P hP)
  have sw : StaysW T := fun p ys H H' hp g t P hP => tabsW ⟨ys, hp⟩ g (t P hP)
  have t10 : ∀ H, T H → TabG H P0 := fun H t => t P0 (List.mem_cons_self)
  have t9 : ∀ H, T H → TabG H P1 := fun H t => t P1 (List.mem_cons_of_mem _ (List.mem_cons_self))
  have t8 : ∀ H, T H → TabG H P2 := fun H t => t P2 (List.mem_cons_of_mem _ (List.mem_cons_of_mem _ (List.mem_cons_self)))
  have t11 : ∀ H, T H → TabG H P3 := fun H t => t P3 (List.mem_cons_of_mem _ (List.mem_cons_of_mem _ (List.mem_cons_of_mem _ (List.mem_cons_self))))
  have t16 : ∀ H, T H → TabG H P4 := fun H t => t P4 (List.mem_cons_of_mem _ (List.mem_cons_of_mem _ (List.mem_cons_of_mem _ (List.mem_cons_of_mem _ (List.mem_cons_self)))))
  have mem : ∀ {R : Addr → Addr → Prop}, R cr10 P0 → R cr9 P1 → R cr8 P2 → R cr11 P3 → R cr16 P4 → ∀ p ∈ ([(cr10, P0), (cr9, P1), (cr8, P2), (cr11, P3), (cr16, P4)] : List (Addr × Addr)), R p.1 p.2 := fun r0 r1 r2 r3 r4 => List.forall_mem_cons.mpr ⟨r0, List.forall_mem_cons.mpr ⟨r1, List.forall_mem_cons.mpr ⟨r2, List.forall_mem_cons.mpr ⟨r3, List.forall_mem_cons.mpr ⟨r4, fun _ z => nomatch z⟩⟩⟩⟩⟩
  refine ⟨PySem.W.fnOf "law" "law" (defArgs lLaw) (defBody lLaw) (defScope lLaw) .none kV50 dc50 pm50 an50 cd50 ct50, [(cr10, P0), (cr9, P1), (cr8, P2), (cr11, P3), (cr16, P4)], spLaw K T, ?_, ?_, ?_, fun s v => .of_eq rfl, ?_, fun base _ _ hBs => ?_⟩
  · exact mem (R := fun _ P => h.get? P = some { cls := .none, data := .fields #[] }) (hT8 P0 (List.mem_cons_self)) (hT8 P1 (List.mem_cons_of_mem _ (List.mem_cons_self))) (hT8 P2 (List.mem_cons_of_mem _ (List.mem_cons_of_mem _ (List.mem_cons_self)))) (hT8 P3 (List.mem_cons_of_mem _ (List.mem_cons_of_mem _ (List.mem_cons_of_mem _ (List.mem_cons_self))))) (hT8 P4 (List.mem_cons_of_mem _ (List.mem_cons_of_mem _ (List.mem_cons_of_mem _ (List.mem_cons_of_mem _ (List.mem_cons_self))))))
  · exact mem (R := fun _ P => K.lookup P = none) n10g n9g n8g n11g n16g
  · exact mem (R := fun c P => PySem.W.CodeHd h c P) (PySem.W.codeHd_of_K X h10g) (PySem.W.codeHd_of_K X h9g) (PySem.W.codeHd_of_K X h8g) (PySem.W.codeHd_of_K X h11g) (PySem.W.codeHd_of_K X h16g)
  · intro H a ns _ _ hH hS
    have hH' : ∀ P ∈ [P0, P1, P2, P3, P4], H P = some (.tbl #[]) := List.forall_mem_cons.mpr ⟨hH (cr10, P0) (List.mem_cons_self), List.forall_mem_cons.mpr ⟨hH (cr9, P1) (List.mem_cons_of_mem _ (List.mem_cons_self)), List.forall_mem_cons.mpr ⟨hH (cr8, P2) (List.mem_cons_of_mem _ (List.mem_cons_of_mem _ (List.mem_cons_self))), List.forall_mem_cons.mpr ⟨hH (cr11, P3) (List.mem_cons_of_mem _ (List.mem_cons_of_mem _ (List.mem_cons_of_mem _ (List.mem_cons_self)))), List.forall_mem_cons.mpr ⟨hH (cr16, P4) (List.mem_cons_of_mem _ (List.mem_cons_of_mem _ (List.mem_cons_of_mem _ (List.mem_cons_of_mem _ (List.mem_cons_self))))), fun _ z => nomatch z⟩⟩⟩⟩⟩
    exact ⟨a, ns, rfl, hS, fun P hP => ⟨#[], hH' P hP, trip0⟩, fun _ => rfl⟩
  have TB10 := tb_of (hBs (cr10, P0) (List.mem_cons_self))
  have TB9 := tb_of (hBs (cr9, P1) (List.mem_cons_of_mem _ (List.mem_cons_self)))
  have TB8 := tb_of (hBs (cr8, P2) (List.mem_cons_of_mem _ (List.mem_cons_of_mem _ (List.mem_cons_self))))
  have TB11 := tb_of (hBs (cr11, P3) (List.mem_cons_of_mem _ (List.mem_cons_of_mem _ (List.mem_cons_of_mem _ (List.mem_cons_self)))))
  have TB16 := tb_of (hBs (cr16, P4) (List.mem_cons_of_mem _ (List.mem_cons_of_mem _ (List.mem_cons_of_mem _ (List.mem_cons_of_mem _ (List.mem_cons_self))))))
  have G0_0 := ok_int (P := l.prog) (w := w) (base := base) (mg := mg) (K := K) F0 N
  have G1_1 := ok_bet (P := l.prog) (w := w) (base := base) (mg := mg) (K := K) F1 G0_0 D0
  have G3_2 := ok_tup (P := l.prog) (w := w) (base := base) (mg := mg) (K := K) F3 N
  have G4_3 := ok_nam (P := l.prog) (w := w) (base := base) (mg := mg) (K := K) F4 N
  have G5_4 := ok_low (P := l.prog) (w := w) (base := base) (mg := mg) (K := K) F5 G4_3 D4
  have G6_5 := ok_hig (P := l.prog) (w := w) (base := base) (mg := mg) (K := K) F6 G4_3 D4
  have G7_6 := ok_kin (P := l.prog) (w := w) (base := base) (mg := mg) (K := K) F7 N (PySem.W.mg_of X G mWHOLE) G6_5 D6
  have G10_7 := ok_maker (P := l.prog) (w := w) (base := base) (mg := mg) (K := K) FC10 N Kk TB10 G3_2 D3 G6_5 D6 G7_6 D7
  have G9_8 := ok_entry (P := l.prog) (w := w) (base := base) (mg := mg) (K := K) (T := T) FC9 N Kk TB9 st t9 t10 G3_2 D3 G6_5 D6 G10_7 D10
  have G8_9 := ok_kinds (P := l.prog) (w := w) (base := base) (mg := mg) (K := K) (T := T) FC8 N Kk TB8 st t8 (fun _ z => z) G3_2 D3 G9_8 D9
  have G12_10 := ok_mk (P := l.prog) (w := w) (base := base) (mg := mg) (K := K) F12
  have G13_11 := ok_mn (P := l.prog) (w := w) (base := base) (mg := mg) (K := K) F13
  have G11_12 := ok_kf (P := l.prog) (w := w) (base := base) (mg := mg) (K := K) (T := T) FC11 N (PySem.W.mg_of X G mWHOLE) g_enumerate TB11 st t11
  have G14_13 := ok_wi (P := l.prog) (w := w) (base := base) (mg := mg) (K := K) F14 TxWo G12_10 D12 G13_11 D13
  have G18_14 := ok_af (P := l.prog) (w := w) (base := base) (mg := mg) (K := K) F18 (PySem.W.mg_of X G mMOST_FUNCTIONS) G3_2 D3
  have G15_15 := ok_ar (P := l.prog) (w := w) (base := base) (mg := mg) (K := K) F15
  have G16_16 := ok_co (P := l.prog) (w := w) (base := base) (mg := mg) (K := K) (T := T) FC16 N (PySem.W.mg_of X G mWHOLE) TB16 st t16 (fun _ z => z) (fun _ z => z) G3_2 D3 G8_9 D8 G11_12 D11 G18_14 D18 G14_13 TxWo M14 B14 G15_15 D15
  have G17_17 := ok_nc (P := l.prog) (w := w) (base := base) (mg := mg) (K := K) (T := T) F17 G16_16 D16
  have G19_18 := ok_as (P := l.prog) (w := w) (base := base) (mg := mg) (K := K) F19 N Z
  have G2_19 := ok_fac (P := l.prog) (w := w) (base := base) (mg := mg) (K := K) F2 (PySem.W.mg_of X G mMOST_FACTOR) G1_1 D1
  have G27_20 := ok_ko (P := l.prog) (w := w) (base := base) (mg := mg) (K := K) F27 (PySem.W.mg_of X G mWHOLE)
  have G28_21 := ok_be (P := l.prog) (w := w) (base := base) (mg := mg) (K := K) F28 N G1_1 D1
  have G36_22 := ok_tm (P := l.prog) (w := w) (base := base) (mg := mg) (K := K) F36 N G3_2 D3 G1_1 D1 G2_19 D2 G28_21 D28
  have G35_23 := ok_rw (P := l.prog) (w := w) (base := base) (mg := mg) (K := K) F35 N G3_2 D3 G2_19 D2 G36_22 D36 G19_18 D19
  have G34_24 := ok_rs (P := l.prog) (w := w) (base := base) (mg := mg) (K := K) F34 N Z G3_2 D3 G35_23 D35
  have G26_25 := ok_am (P := l.prog) (w := w) (base := base) (mg := mg) (K := K) F26 N (PySem.W.mg_of X G mMOST_MEASURES) G3_2 D3 G12_10 D12 G27_20 D27 G34_24 D34
  have G24_26 := ok_nm (P := l.prog) (w := w) (base := base) (mg := mg) (K := K) F24 G26_25 D26
  have G21_27 := ok_fo (P := l.prog) (w := w) (base := base) (mg := mg) (K := K) F21 N (PySem.W.mg_of X G mWHOLE) G0_0 D0
  have G20_28 := ok_aw (P := l.prog) (w := w) (base := base) (mg := mg) (K := K) F20 G3_2 D3 G21_27 D21
  have G25_29 := ok_nw (P := l.prog) (w := w) (base := base) (mg := mg) (K := K) F25 (PySem.W.mg_of X G mMOST_TOLD) G20_28 D20 G13_11 D13
  have G29_30 := ok_rb (P := l.prog) (w := w) (base := base) (mg := mg) (K := K) F29 Z g_enumerate G12_10 D12
  have G32_31 := ok_re (P := l.prog) (w := w) (base := base) (mg := mg) (K := K) F32 g_sum
  have G31_32 := ok_wr (P := l.prog) (w := w) (base := base) (mg := mg) (K := K) F31 g_list G29_30 D29
  have G30_33 := ok_mo (P := l.prog) (w := w) (base := base) (mg := mg) (K := K) F30 N g_range G13_11 D13 G32_31 D32 G31_32 D31
  have G22_34 := ok_me (P := l.prog) (w := w) (base := base) (mg := mg) (K := K) (T := T) F22 N G17_17 D17 G24_26 D24 G1_1 D1 G25_29 D25 G27_20 D27 G30_33 D30
  have G38_35 := ok_draw (P := l.prog) (w := w) (base := base) (mg := mg) (K := K) F38 M
  have G37_36 := ok_well (P := l.prog) (w := w) (base := base) (mg := mg) (K := K) F37 M
  have G39_37 := ok_na (P := l.prog) (w := w) (base := base) (mg := mg) (K := K) F39 M G38_35 D38
  have G40_38 := ok_kd (P := l.prog) (w := w) (base := base) (mg := mg) (K := K) F40 M G38_35 D38 G39_37 D39
  have G42_39 := ok_ft (P := l.prog) (w := w) (base := base) (mg := mg) (K := K) F42
  have G41_40 := ok_ti (P := l.prog) (w := w) (base := base) (mg := mg) (K := K) F41 G38_35 D38
  have G44_41 := ok_nu (P := l.prog) (w := w) (base := base) (mg := mg) (K := K) F44 G38_35 D38
  have G43_42 := ok_ms (P := l.prog) (w := w) (base := base) (mg := mg) (K := K) F43 M G38_35 D38 G42_39 D42 G41_40 D41
  have G45_43 := ok_va (P := l.prog) (w := w) (base := base) (mg := mg) (K := K) F45 M G38_35 D38 G44_41 D44
  have G33_44 := ok_st (P := l.prog) (w := w) (base := base) (mg := mg) (K := K) F33 N
  have G23_45 := ok_nb (P := l.prog) (w := w) (base := base) (mg := mg) (K := K) (T := T) F23 N g_range g_list g_sorted G17_17 D17 G24_26 D24 G33_44 D33
  have G47_46 := ok_sk (P := l.prog) (w := w) (base := base) (mg := mg) (K := K) F47 M
  have G46_47 := ok_ra (P := l.prog) (w := w) (base := base) (mg := mg) (K := K) F46 M G38_35 D38
  have G48_48 := ok_op (P := l.prog) (w := w) (base := base) (mg := mg) (K := K) F48 M g_sorted
  have G49_49 := ok_rg (P := l.prog) (w := w) (base := base) (mg := mg) (K := K) (T := T) F49 N M st G47_46 D47 G23_45 D23
  exact ok_law (P := l.prog) (w := w) (base := base) (mg := mg) (K := K) (T := T) F50 M st sw G37_36 D37 G38_35 D38 G40_38 D40 G43_42 D43 G45_43 D45 G46_47 D46 G48_48 D48 G49_49 D49 G47_46 D47 G22_34 D22
theorem walk {l : PySem.W.OpenLaw} {q : Program} {loose : List Str} {XP : (Str → Option Value) → Heap → Prop} {YP : World → Heap → Prop} {d : DefRec} {K : Params → PySem.W.Frag} (hn : l.most = some 63) (hdf : d.params.defaults = [])
    (hY : ∀ (w : World) (h : Heap), YP w h → (K w.params).In h)
    (F : ∀ (w : World) (mg : Str → Option Value) (fa : Addr) (h : Heap), YP w h → (K w.params).In h → h.Ns mainGlobals mg → mg d.name = some (.ref fa) → LamX.LawAtS l w (K w.params) CX0 15 63 "_law_script" mg fa h) :
    PySem.W.WalkO q loose XP YP l.row.toRowW d [] (fun f vs => PySem.call f vs) :=
  LamX.walk_ofTs (n := 63) (k := 15) (x := "_law_script") (CX := fun _ => CX0) hn (by decide) hdf ⟨rfl, by decide, by decide⟩ hY F fun _ _ _ _ _ z => z
end J1
set_option Elab.async false
set_option linter.all false
open PySem PySem.W PyProof.Rows
local macro_rules | `(tactic| o_head ($_ $k $a $e)) => `(tactic| o_head (PySem.W.kmHook $k $a $e [162, 155, 148, 169, 332]))
set_option maxRecDepth 100000 in
set_option maxHeartbeats 0 in
theorem PySem.Challenge.cw_juststeps_k27_whole_measures_that_are_ne_holds : PySem.Challenge.rw_juststeps_k27_whole_measures_that_are_ne.Holds := by
  w_on; o_law; k_head; (case hw => w_witness2)
  k_fill
  refine J1.walk (l := PySem.Challenge.rw_juststeps_k27_whole_measures_that_are_ne) rfl rfl (fun w h Y => PySem.W.km_in_of Y) ?F
  case F =>
    intro w mg fa h Y KX G hmg
    have hT8 := PySem.W.km_tabs_of Y
    refine' J1.all_mk KX G hmg ?a0 ?l0 ?c0 ?k0 ?a1 ?l1 ?c1 ?k1 ?a2 ?l2 ?c2 ?k2 ?a3 ?l3 ?c3 ?k3 ?a4 ?l4 ?c4 ?k4 ?a5 ?l5 ?c5 ?k5 ?a6 ?l6 ?c6 ?k6 ?a7 ?l7 ?c7 ?k7 ?a8 ?l8 ?c8 ?k8 ?a9 ?l9 ?c9 ?k9 ?a10 ?l10 ?c10 ?k10 ?a11 ?l11 ?c11 ?k11 ?a12 ?l12 ?c12 ?k12 ?a13 ?l13 ?c13 ?k13 ?a14 ?i14 ?l14 ?c14 ?k14 ?a15 ?l15 ?c15 ?k15 ?a16 ?l16 ?c16 ?k16 ?a17 ?l17 ?c17 ?k17 ?a18 ?l18 ?c18 ?k18 ?a19 ?l19 ?c19 ?k19 ?a20 ?l20 ?c20 ?k20 ?a21 ?l21 ?c21 ?k21 ?a22 ?l22 ?c22 ?k22 ?a23 ?l23 ?c23 ?k23 ?a24 ?l24 ?c24 ?k24 ?a25 ?l25 ?c25 ?k25 ?a26 ?l26 ?c26 ?k26 ?a27 ?l27 ?c27 ?k27 ?a28 ?l28 ?c28 ?k28 ?a29 ?l29 ?c29 ?k29 ?a30 ?l30 ?c30 ?k30 ?a31 ?l31 ?c31 ?k31 ?a32 ?l32 ?c32 ?k32 ?a33 ?l33 ?c33 ?k33 ?a34 ?l34 ?c34 ?k34 ?a35 ?l35 ?c35 ?k35 ?a36 ?l36 ?c36 ?k36 ?a37 ?l37 ?c37 ?k37 ?a38 ?l38 ?c38 ?k38 ?a39 ?l39 ?c39 ?k39 ?a40 ?l40 ?c40 ?k40 ?a41 ?l41 ?c41 ?k41 ?a42 ?l42 ?c42 ?k42 ?a43 ?l43 ?c43 ?k43 ?a44 ?l44 ?c44 ?k44 ?a45 ?l45 ?c45 ?k45 ?a46 ?l46 ?c46 ?k46 ?a47 ?l47 ?c47 ?k47 ?a48 ?l48 ?c48 ?k48 ?a49 ?l49 ?c49 ?k49 ?a50 ?l50 ?c50 ?k50 ?zisinstance ?zint ?zbool ?ztuple ?zstr ?zlen ?zall ?zzip ?zrange ?zenumerate ?zlist ?zabs ?zmax ?zsum ?zsorted ?mMOST_SIGNS ?mMOST_KINDS ?mMOST_MAKERS ?mMOST_FIELDS ?mMOST_FUNCTIONS ?mMOST_FACTOR ?mMOST_MEASURES ?mMOST_TOLD ?mWHOLE ?mWORDS ?lW ?aCCWo ?pgCWo ?hdCWo ?poCWo ?saCWo ?mkCWo ?kcCWo ?nkindsCWo ?nmakersCWo ?nheadsCWo ?n10g ?h10g ?n9g ?h9g ?n8g ?h8g ?n11g ?h11g ?n16g ?h16g hT8
    (case aCCWo => k_is)
    (case a0 => k_is)
    (case l0 => k_is)
    (case c0 => k_is)
    (case k0 => k_is)
    (case a1 => k_is)
    (case l1 => k_is)
    (case c1 => k_is)
    (case k1 => k_is)
    (case a2 => k_is)
    (case l2 => k_is)
    (case c2 => k_is)
    (case k2 => k_is)
    (case a3 => k_is)
    (case l3 => k_is)
    (case c3 => k_is)
    (case k3 => k_is)
    (case a4 => k_is)
    (case l4 => k_is)
    (case c4 => k_is)
    (case k4 => k_is)
    (case a5 => k_is)
    (case l5 => k_is)
    (case c5 => k_is)
    (case k5 => k_is)
    (case a6 => k_is)
    (case l6 => k_is)
    (case c6 => k_is)
    (case k6 => k_is)
    (case a7 => k_is)
    (case l7 => k_is)
    (case c7 => k_is)
    (case k7 => k_is)
    (case a8 => k_is)
    (case l8 => k_is)
    (case c8 => k_is)
    (case k8 => k_is)
    (case a9 => k_is)
    (case l9 => k_is)
    (case c9 => k_is)
    (case k9 => k_is)
    (case a10 => k_is)
    (case l10 => k_is)
    (case c10 => k_is)
    (case k10 => k_is)
    (case a11 => k_is)
    (case l11 => k_is)
    (case c11 => k_is)
    (case k11 => k_is)
    (case a12 => k_is)
    (case l12 => k_is)
    (case c12 => k_is)
    (case k12 => k_is)
    (case a13 => k_is)
    (case l13 => k_is)
    (case c13 => k_is)
    (case k13 => k_is)
    (case a14 => k_is)
    (case i14 => k_is)
    (case l14 => k_is)
    (case c14 => k_is)
    (case k14 => k_is)
    (case a15 => k_is)
    (case l15 => k_is)
    (case c15 => k_is)
    (case k15 => k_is)
    (case a16 => k_is)
    (case l16 => k_is)
    (case c16 => k_is)
    (case k16 => k_is)
    (case a17 => k_is)
    (case l17 => k_is)
    (case c17 => k_is)
    (case k17 => k_is)
    (case a18 => k_is)
    (case l18 => k_is)
    (case c18 => k_is)
    (case k18 => k_is)
    (case a19 => k_is)
    (case l19 => k_is)
    (case c19 => k_is)
    (case k19 => k_is)
    (case a20 => k_is)
    (case l20 => k_is)
    (case c20 => k_is)
    (case k20 => k_is)
    (case a21 => k_is)
    (case l21 => k_is)
    (case c21 => k_is)
    (case k21 => k_is)
    (case a22 => k_is)
    (case l22 => k_is)
    (case c22 => k_is)
    (case k22 => k_is)
    (case a23 => k_is)
    (case l23 => k_is)
    (case c23 => k_is)
    (case k23 => k_is)
    (case a24 => k_is)
    (case l24 => k_is)
    (case c24 => k_is)
    (case k24 => k_is)
    (case a25 => k_is)
    (case l25 => k_is)
    (case c25 => k_is)
    (case k25 => k_is)
    (case a26 => k_is)
    (case l26 => k_is)
    (case c26 => k_is)
    (case k26 => k_is)
    (case a27 => k_is)
    (case l27 => k_is)
    (case c27 => k_is)
    (case k27 => k_is)
    (case a28 => k_is)
    (case l28 => k_is)
    (case c28 => k_is)
    (case k28 => k_is)
    (case a29 => k_is)
    (case l29 => k_is)
    (case c29 => k_is)
    (case k29 => k_is)
    (case a30 => k_is)
    (case l30 => k_is)
    (case c30 => k_is)
    (case k30 => k_is)
    (case a31 => k_is)
    (case l31 => k_is)
    (case c31 => k_is)
    (case k31 => k_is)
    (case a32 => k_is)
    (case l32 => k_is)
    (case c32 => k_is)
    (case k32 => k_is)
    (case a33 => k_is)
    (case l33 => k_is)
    (case c33 => k_is)
    (case k33 => k_is)
    (case a34 => k_is)
    (case l34 => k_is)
    (case c34 => k_is)
    (case k34 => k_is)
    (case a35 => k_is)
    (case l35 => k_is)
    (case c35 => k_is)
    (case k35 => k_is)
    (case a36 => k_is)
    (case l36 => k_is)
    (case c36 => k_is)
    (case k36 => k_is)
    (case a37 => k_is)
    (case l37 => k_is)
    (case c37 => k_is)
    (case k37 => k_is)
    (case a38 => k_is)
    (case l38 => k_is)
    (case c38 => k_is)
    (case k38 => k_is)
    (case a39 => k_is)
    (case l39 => k_is)
    (case c39 => k_is)
    (case k39 => k_is)
    (case a40 => k_is)
    (case l40 => k_is)
    (case c40 => k_is)
    (case k40 => k_is)
    (case a41 => k_is)
    (case l41 => k_is)
    (case c41 => k_is)
    (case k41 => k_is)
    (case a42 => k_is)
    (case l42 => k_is)
    (case c42 => k_is)
    (case k42 => k_is)
    (case a43 => k_is)
    (case l43 => k_is)
    (case c43 => k_is)
    (case k43 => k_is)
    (case a44 => k_is)
    (case l44 => k_is)
    (case c44 => k_is)
    (case k44 => k_is)
    (case a45 => k_is)
    (case l45 => k_is)
    (case c45 => k_is)
    (case k45 => k_is)
    (case a46 => k_is)
    (case l46 => k_is)
    (case c46 => k_is)
    (case k46 => k_is)
    (case a47 => k_is)
    (case l47 => k_is)
    (case c47 => k_is)
    (case k47 => k_is)
    (case a48 => k_is)
    (case l48 => k_is)
    (case c48 => k_is)
    (case k48 => k_is)
    (case a49 => k_is)
    (case l49 => k_is)
    (case c49 => k_is)
    (case k49 => k_is)
    (case a50 => k_is)
    (case l50 => k_is)
    (case c50 => k_is)
    (case k50 => k_is)
    (case zisinstance => k_is)
    (case zint => k_is)
    (case zbool => k_is)
    (case ztuple => k_is)
    (case zstr => k_is)
    (case zlen => k_is)
    (case zall => k_is)
    (case zzip => k_is)
    (case zrange => k_is)
    (case zenumerate => k_is)
    (case zlist => k_is)
    (case zabs => k_is)
    (case zmax => k_is)
    (case zsum => k_is)
    (case zsorted => k_is)
    (case mMOST_SIGNS => k_is)
    (case mMOST_KINDS => k_is)
    (case mMOST_MAKERS => k_is)
    (case mMOST_FIELDS => k_is)
    (case mMOST_FUNCTIONS => k_is)
    (case mMOST_FACTOR => k_is)
    (case mMOST_MEASURES => k_is)
    (case mMOST_TOLD => k_is)
    (case mWHOLE => k_is)
    (case mWORDS => k_is)
    (case lW => k_is)
    (case pgCWo => k_is)
    (case hdCWo => k_is)
    (case poCWo => k_is)
    (case saCWo => k_is)
    (case mkCWo => k_is)
    (case kcCWo => k_is)
    (case nkindsCWo => k_is)
    (case nmakersCWo => k_is)
    (case nheadsCWo => k_is)
    (case n10g => kernel_rfl)
    (case h10g => kernel_rfl)
    (case n9g => kernel_rfl)
    (case h9g => kernel_rfl)
    (case n8g => kernel_rfl)
    (case h8g => kernel_rfl)
    (case n11g => kernel_rfl)
    (case h11g => kernel_rfl)
    (case n16g => kernel_rfl)
    (case h16g => kernel_rfl)
