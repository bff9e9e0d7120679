import PyProof.Rows.All
import Wide.All
import OpenK.AllK
import Wide.FinOn
import KE.KNestM
import HandS.Head0
import HandS.Head1
import HandS.Head2
import HandS.AnyAll
import HandS.GenList
import HandS.Conv
import PyProof.CollectWalk
import PyProof.TupleOfGen
import HandS.ForSpec
import HandS.Wide
import HandS.IsInst
import HandS.ExcIs
import HandS.Codes
import HandS.Defaults
import HandS.Text
import HandS.StrMore
import HandS.Flow
import HandS.TupLen
import HandS.ExcInit
import HandS.Call
import KE.KExcSuper
import HandS.ExcField
import HandS.ExcValue
import HandS.MakeKwOnly
import HandS.TryOnly
import HandS.FStrTup
import HandS.FStr
import HandS.Gcd
import HandS.WordsExc
import HandS.ExcOwn
import PyProof.Rows.RegStrFacts
import HandS.Dict
import HandS.Comp
import HandS.DictComp
import PyProof.DictCompW
import HandS.Iter
import HandS.Walk
import KE.GoesMore
import KE.GoesEnum
import HandS.ForDict
import HandS.EndTab
import PySem.Challenge.RW_juststeps_k00_error_classes
set_option Elab.async false
set_option linter.all false
set_option maxRecDepth 100000
set_option maxHeartbeats 0
namespace H0
/-! the top run once in the kernel, the heap as a tree; what is told of it is what kmHook tells -/
abbrev R00 : PySem.W.OpenRow := PySem.W.OpenLaw.row PySem.Challenge.rw_juststeps_k00_error_classes
abbrev q00 : PySem.Program := PySem.W.view R00.prog [118]
abbrev d00 : PySem.DefRec := HandSHeadRun.topDef R00.prog 118
def names0 : List PySem.Str := ["StepError", "BadProgram", "BadText", "NotChecked", "BadCore", "BadName", "BadRow", "BadKind", "BadArgs", "BadLimit", "BadPrices", "BadLog"]
def names1 : List PySem.Str := ["NotLet", "BadImage", "Unfit", "BadListing", "BadEffort", "Refused", "BadMeasures", "BadNumber", "BadBook", "BadNever", "BadGoal", "BadHints"]
def names2 : List PySem.Str := ["BadShowings", "BadIndex", "BadNeeds", "BadRatio", "ZeroBottom", "BadSystem", "BadLine", "BadTemplate", "BadPoint", "BadWeights", "BadLevels", "NotNew"]
def names3 : List PySem.Str := ["TooGreat", "WHOLE", "WORDS", "MOST_SIGNS", "MOST_NUMBER", "MOST_FACTOR", "MOST_FUNCTIONS", "MOST_PARAMS", "is_integer", "is_between", "is_number", "is_factor"]
def names4 : List PySem.Str := ["is_tuple", "is_name", "is_low", "is_high", "is_kind", "first_word", "MOST_KINDS", "MOST_MAKERS", "MOST_FIELDS", "are_kinds", "_is_entry", "_is_maker"]
def names5 : List PySem.Str := ["kinds_fault", "makers_by_kind", "makers_by_name", "MOST_BRACKETS", "BLANKS", "BODIES", "ALWAYS", "IF_FIRST", "UNLESS", "Reader", "_term", "_applied"]
def names6 : List PySem.Str := ["_inside", "_sign", "_body", "_word", "_low", "_high", "_kind", "_turn", "_begin", "_end", "ACTIONS", "_do"]
def names7 : List PySem.Str := ["read_words", "MOST_PARTS", "MOST_CHAIN", "is_program", "read_program", "_is_function", "_is_param", "_is_whole_body", "_body_parts", "_is_branch", "_term_parts", "_is_sign"]
def names8 : List PySem.Str := ["checked", "_check_heads", "_head_fault", "BodyChecker", "_law_well", "_law_draw", "_law_number", "_law_factor", "_law_word", "_law_same", "_law_flags", "_law_plain"]
def names9 : List PySem.Str := ["_law_place", "_law_parts", "_law_caught"]
def names : List PySem.Str := names0 ++ names1 ++ names2 ++ names3 ++ names4 ++ names5 ++ names6 ++ names7 ++ names8 ++ names9

def ob0 (as ts : List PySem.Addr) (s : PySem.W.SharedT) : List (Option PySem.Obj) × List (Option PySem.Obj) := (as.map (HandSHeadRun.getT s), ts.map (HandSHeadRun.getT s))
theorem ob0_eq {K : PySem.Params → PySem.W.Frag} {as ts : List PySem.Addr} {e : ∀ P, as = (K P).map (·.1)} (s : PySem.W.SharedT) : ob0 as ts s = (PySem.W.kmHook K as e ts).obs s.abs := by
  show (as.map (HandSHeadRun.getT s), ts.map (HandSHeadRun.getT s)) = (as.map s.abs.heap.get?, ts.map s.abs.heap.get?)
  rw [show HandSHeadRun.getT s = s.abs.heap.get? from funext (HandSHeadRun.getT_eq s)]
theorem head00 {K : PySem.Params → PySem.W.Frag} {as ts : List PySem.Addr} {e : ∀ P, as = (K P).map (·.1)}
    (runF : ∀ w : PySem.World, HandSHeadRun.RunEq R00 q00 (PySem.W.kmHook K as e ts) (ob0 as ts) 14000 names (w.withFollow "special-get-raises" false))
    (runT : ∀ w : PySem.World, HandSHeadRun.RunEq R00 q00 (PySem.W.kmHook K as e ts) (ob0 as ts) 14000 names (w.withFollow "special-get-raises" true))
    (k1 : R00.wellSaid = true) (hw : R00.toRowW.promised) (hc : PySem.W.WalkO q00 names (PySem.W.XL q00 []) (PySem.W.kmHook K as e ts).says R00.toRowW d00 [] fun f vs => PySem.call f vs) : R00.Holds :=
  HandSHeadRun.head_any (r := R00) (q := q00) (H := PySem.W.kmHook K as e ts) (ob := ob0 as ts) (M := 14000) (loose := names) (d := d00) (kwd := []) ob0_eq
    (by kernel_rfl) (fun s => by kernel_rfl) (PySem.W.byRow2 "special-get-raises" runF runT) (by kernel_rfl) (by kernel_rfl) (by kernel_rfl) (by rfl) k1 (by decide +kernel) ⟨rfl, rfl, rfl, rfl, rfl, by decide +kernel⟩ hw hc
theorem d00_name : d00.name = ("law" : PySem.Str) := by kernel_rfl
theorem d00_dfl : d00.params.defaults = [] := by kernel_rfl
/-! only to have the heap's part written out under a name -/
section
open PySem PySem.W PyProof.Rows
local macro_rules | `(tactic| o_head ($_ $k $a $e)) => `(tactic| exact ‹∀ (K : PySem.Params → PySem.W.Frag) (as : List PySem.Addr), (∀ P, as = (K P).map (·.1)) → H0.R00.Holds› $k $a $e)
theorem writes (hyp : ∀ (K : PySem.Params → PySem.W.Frag) (as : List PySem.Addr), (∀ P, as = (K P).map (·.1)) → R00.Holds) : R00.Holds := by
  k_head
end
def p0 : PySem.Params := { strHash := fun _ => 0, shareClass := fun _ => 0, mergeTok := fun t => t, idOf := fun _ => 0, idOfShared := fun _ _ => 0, followText := fun _ => false, idOfImm := fun _ => 0 }
noncomputable def as0 : List PySem.Addr := (writes.heap_1 p0).map (·.1)
def ts0 : List PySem.Addr := [591, 584, 577, 821, 835, 854, 861]
theorem e0 : ∀ P, as0 = (writes.heap_1 P).map (·.1) := fun _ => by kernel_rfl
theorem runF (w : PySem.World) : HandSHeadRun.RunEq R00 q00 (PySem.W.kmHook writes.heap_1 as0 e0 ts0) (ob0 as0 ts0) 14000 names (w.withFollow "special-get-raises" false) := by
  intro os
  kernel_rfl
theorem runT (w : PySem.World) : HandSHeadRun.RunEq R00 q00 (PySem.W.kmHook writes.heap_1 as0 e0 ts0) (ob0 as0 ts0) 14000 names (w.withFollow "special-get-raises" true) := by
  intro os
  kernel_rfl
/-- the head: what is left is the law's promise over the heap -/
theorem head0 (k1 : R00.wellSaid = true) (hw : R00.toRowW.promised) (hc : PySem.W.WalkO q00 names (PySem.W.XL q00 []) (PySem.W.kmHook writes.heap_1 as0 e0 ts0).says R00.toRowW d00 [] fun f vs => PySem.call f vs) : R00.Holds :=
  head00 runF runT k1 hw hc
end H0
set_option Elab.async false
set_option linter.all false
set_option maxRecDepth 100000
set_option maxHeartbeats 2000000
namespace GA
open PySem PySem.Spec PyProof.Rows L2 GxR

/-- the context of a generator expression's frame: it starts at s4, H4; its iterator's objects at fp -/
abbrev gxOf (X : Cx) (s4 : Shared) (H4 : Hp) (cenv : Env) (A' : Around) (fp : List Addr) : Cx :=
  { X with A := A', s_0 := s4, H_0 := H4, env := cenv, outer := X.stack, stack := cenv :: X.stack, ex := fp, fn := fun _ => false, calm := true, pn := [], xe := fun _ _ => False }

theorem over_comp {A : Around} {elt : Expr} {gs : List Comprehension} {scope : Scope} {pos : Pos} {it acc : Value} {env : Env} : A.over (.compLoop (.GeneratorExp elt gs scope pos) 0 it acc env) [] = A.deeper env := by
  first
    | rfl
    | (obtain ⟨hd, d, fr, gs, u⟩ := A; simp [Around.over, Around.deeper, marksOver, frameCount, unitsOf, envsOf, guardsOf, pushEnvs, pushGuards, Code.envs, Code.env?, Code.isFrame, Code.guards, Code.isGuard, Code.weight, Code.frames, Code.isCreation, Code.isCaller, Code.cUnits])
theorem over_start {A : Around} {elt : Expr} {gs : List Comprehension} {scope : Scope} {pos : Pos} {it acc : Value} {env : Env} : A.over (.compStart (.GeneratorExp elt gs scope pos) 0 it acc env) [] = A.deeper env := by
  first
    | rfl
    | (obtain ⟨hd, d, fr, gs, u⟩ := A; simp [Around.over, Around.deeper, marksOver, frameCount, unitsOf, envsOf, guardsOf, pushEnvs, pushGuards, Code.envs, Code.env?, Code.isFrame, Code.guards, Code.isGuard, Code.weight, Code.frames, Code.isCreation, Code.isCaller, Code.cUnits])

section
variable {X : Cx} {pins : List (Addr × Obj)} {σ : L2.St} {H : Hp} {s : Shared}
theorem inv_gens (I : Inv X pins σ H s) {g' : Array GenState} (hg : AllBare g') : Inv X pins σ H { s with gens := g' } :=
  ⟨I.ok, I.os, hg, I.base, I.loc, I.cell, I.free, I.freeC, I.pin, I.hok, I.len⟩
theorem inv_setGen (I : Inv X pins σ H s) {g : Nat} {x : GenState} (hx : x.bare = true) : Inv X pins σ H (s.setGen g x) :=
  inv_gens I (allBare_setGen I.bare hx)

/-- the frame of the generator expression has been made -/
theorem gx_start {scope : Scope} {own : List (Str × Nat)} {fp : List Addr} {A' : Around} {code : Value} {s5 : Shared} {m0 : Str → Option Value} (I : Inv X pins σ H s) (ok : BlkOk X.N X.env.scope scope own) (hcell : ∀ y ∈ scope.names, y.2 ≠ .cell) (hN : X.N.Nodup) (hfp : ∀ b ∈ fp, FpOk X pins H b ∧ b < s.heap.objs.size)
    (hA : A'.handled = none) (hfr : A'.frames = some (genEnv scope (cloFrom X.env.cells scope.names []) s.heap.objs.size code builtinsNs X.env :: X.stack))
    (os : s5.os = s.os) (hb : AllBare s5.gens) (kp : ∀ b o, s.heap.get? b = some o → s5.heap.get? b = some o) (hn : s5.heap.Ns s.heap.objs.size m0) :
    Inv (gxOf X s H (genEnv scope (cloFrom X.env.cells scope.names []) s.heap.objs.size code builtinsNs X.env) A' fp) [] (wipe σ (own.map (·.2))) H s5 := by
  have hfree : ∀ y ∈ scope.names, y.2 = .free → ∃ c, X.env.cells.lookup y.1 = some c := fun y hy e => by
    rcases ok.free y hy e with k | k
    · exact I.ok.has _ (.inl k)
    · exact I.ok.has _ (.inr k)
  generalize hcenv : genEnv scope (cloFrom X.env.cells scope.names []) s.heap.objs.size code builtinsNs X.env = cenv at hfr ⊢
  have hL : cenv.locals = s.heap.objs.size := by rw [← hcenv]; rfl
  have hcl : cenv.cells = cloFrom X.env.cells scope.names [] := by rw [← hcenv]; rfl
  have hsc : cenv.scope = scope := by rw [← hcenv]; rfl
  have hfrm : cenv.frame = some cenv.locals := by rw [← hcenv]; rfl
  have cm : ∀ {y c}, (y, c) ∈ cloFrom X.env.cells scope.names [] → X.env.cells.lookup y = some c ∧ c < s.heap.objs.size := fun {y c} hm => by
    rcases cloFrom_mem hm with hm | ⟨h1, rfl⟩
    · cases hm
    · obtain ⟨c, hc⟩ := hfree _ h1 rfl
      rw [hc]
      obtain ⟨w, z⟩ := I.cell _ _ hc
      exact ⟨rfl, z.lt⟩
  have mem : ∀ {y c}, cenv.cells.lookup y = some c → (X.env.cells.lookup y = some c ∧ c < s.heap.objs.size) := fun {y c} e => by
    rw [hcl] at e
    exact cm (PySem.mem_of_lookup e)
  have look : ∀ {y}, scope.names.lookup y = some .free → ∃ c, cenv.cells.lookup y = some c ∧ X.env.cells.lookup y = some c := fun {y} hl => by
    have hy : (y, NameKind.free) ∈ scope.names := PySem.mem_of_lookup hl
    obtain ⟨c', e'⟩ := mem_lookup (cloFrom_has (cells := X.env.cells) (acc := []) hy)
    rw [← hcl] at e'
    exact ⟨c', e', (mem e').1⟩
  have noCell : ∀ {y}, scope.names.lookup y ≠ some .cell := fun {y} e => hcell _ (PySem.mem_of_lookup e) rfl
  have okB : (gxOf X s H cenv A' fp).Ok := by
    refine ⟨I.ok.mod, by show cenv.scope.kind = _; rw [hsc]; exact ok.kind, by show cenv.globals = _; rw [← hcenv]; exact I.ok.glob, by show cenv.builtins = _; rw [← hcenv]; rfl, by show s.heap.objs.size ≤ cenv.locals; rw [hL]; exact Nat.le_refl _,
      fun y z c e1 e2 => ?_, fun y hy => ?_, fun y c z e => ?_, fun _ => hA, hfr, .inr ⟨rfl, hfrm⟩, fun b hb => ⟨?_, fun y c e z => ?_⟩, I.bs, Nat.le_trans I.ok.bsz I.sz, fun b o e hb => ?_, fun b hb z => ?_, I.stack, I.stkFree⟩
    · have e1 : cenv.cells.lookup y = some c := e1
      have e2 : cenv.cells.lookup z = some c := e2
      exact I.ok.inj y z c (mem e1).1 (mem e2).1
    · show ∃ c, cenv.cells.lookup y = some c
      have hy : cenv.scope.names.lookup y = some .cell ∨ cenv.scope.names.lookup y = some .free := hy
      rw [hsc] at hy
      rcases hy with hy | hy
      · exact absurd hy noCell
      · obtain ⟨c, h1, _⟩ := look hy
        exact ⟨c, h1⟩
    · cases z
    · show b ≠ cenv.locals
      rw [hL]; exact Nat.ne_of_lt (hfp b hb).2
    · have e : cenv.cells.lookup y = some c := e
      exact (hfp b hb).1.2.2.2.2.1 y c (mem e).1 z
    · rcases (hfp b hb).1.2.2.2.1 with z | z
      · exact I.ok.noex b o e z
      · exact absurd (Nat.lt_of_lt_of_le (Heap.lt_size e) (Nat.le_trans I.ok.bsz z)) (Nat.lt_irrefl _)
    · rcases List.mem_cons.mp (I.stkSub b z) with z | z
      · exact (hfp b hb).1.2.1 z
      · exact (hfp b hb).1.2.2.1 z
  refine ⟨okB, os, hb, Un.kept kp, ⟨m0, ?_, fun i y av e1 e2 e3 => ?_⟩, fun y c e => ?_, ?_, fun y c e => ?_, fun p hp => ?_, I.hok.kept kp, by rw [wipe_length]; exact I.len⟩
  · show Heap.Ns _ cenv.locals _
    rw [hL]; exact hn
  · obtain ⟨e2, hne⟩ := wipe_some e2
    have e3 : cenv.scope.names.lookup y = some .local ∨ cenv.scope.names.lookup y = some .cell ∨ cenv.scope.names.lookup y = some .free := e3
    rw [hsc] at e3
    have no : ¬ (scope.names.lookup y = some .local) := fun e => by
      rcases ok.own _ (PySem.mem_of_lookup e) (.inl rfl) with e' | e'
      · obtain ⟨p, hp, hpy⟩ := List.mem_map.mp e'
        have e3 := ok.ix p hp
        have : p.1 = y := hpy
        rw [this] at e3
        exact hne (List.mem_map.mpr ⟨p, hp, nodup_ix hN e3 e1⟩)
      · exact e' (List.mem_of_getElem? e1)
    have hfr2 : scope.names.lookup y = some .free := by
      rcases e3 with e3 | e3 | e3
      · exact absurd e3 no
      · exact absurd e3 noCell
      · exact e3
    obtain ⟨m, hn, hl⟩ := I.loc
    have hvis : Vis X.env.scope y := (ok.free _ (PySem.mem_of_lookup hfr2) rfl).elim (fun k => .inr (.inl k)) (fun k => .inr (.inr k))
    obtain ⟨w, r, q⟩ := hl i y av e1 e2 hvis
    refine ⟨w, r, .inr ⟨.inr (by show cenv.scope.names.lookup y = _; rw [hsc]; exact hfr2), ?_⟩⟩
    obtain ⟨c, h1, h2⟩ := look hfr2
    rcases q with ⟨k, _⟩ | ⟨_, c', e', z⟩
    · have k : X.env.scope.names.lookup y = some .local := k
      rcases ok.free _ (PySem.mem_of_lookup hfr2) rfl with k' | k' <;> rw [show X.env.scope.names.lookup y = _ from k'] at k <;> cases k
    · rw [h2] at e'; cases e'
      exact ⟨c, h1, z.keeps kp⟩
  · have e : cenv.cells.lookup y = some c := e
    obtain ⟨w, z⟩ := I.cell y c (mem e).1
    exact ⟨w, z.keeps kp⟩
  · show H cenv.locals = none
    rw [hL]; exact I.hok.fresh (Nat.le_refl _)
  · have e : cenv.cells.lookup y = some c := e
    exact I.freeC y c (mem e).1
  · exact absurd (show p ∈ ([] : List (Addr × Obj)) ++ [] from hp) (by simp)
end
end GA
set_option Elab.async false
set_option linter.all false
set_option maxRecDepth 100000
set_option maxHeartbeats 2000000
namespace GA
open PySem PySem.Spec PyProof.Rows L2 GxR

/-- between the turns of a generator expression; cp: what its consumer holds -/
def InvG (G : Cx) (fp : List Addr) (tn : Nat → Heap → Prop) (τ : L2.St) (a : Addr) (go : Obj) (i : Nat) (cp : List (Addr × Obj)) (H : Hp) (s : Shared) : Prop :=
  Inv G ((a, go) :: cp) τ H s ∧ tn i s.heap ∧ (∀ b ∈ fp, H b = none) ∧ a ∉ fp ∧ ∀ p ∈ cp, p.1 ∉ fp
/-- what the consumer holds, by what has come so far -/
abbrev TCp := List V → List (Addr × Obj) → Prop
/-- what the consumer does with an item: those before it, it, the heap, how it goes on -/
abbrev TK := List V → V → Hp → (List V → Hp → Prop) → Prop
def YG (G : Cx) (fp : List Addr) (tn : Nat → Heap → Prop) (τ : L2.St) (a : Addr) (go : Obj) (CP : TCp) (K : TK) : Protocol := fun n s₀ v s kap =>
  ∃ (y : V) (H' : Hp) (cp : List (Addr × Obj)) (acc : List V) (i : Nat) (Nx : List V → Hp → Prop), RelV y v ∧ InvG G fp tn τ a go i cp H' s ∧ CP acc cp ∧ (∀ p ∈ cp, s₀.heap.get? p.1 = some p.2) ∧ K acc y H' Nx ∧
    ∀ cp' acc' H'' s'', InvG G fp tn τ a go i cp' H'' s'' → CP acc' cp' → Nx acc' H'' → kap (.send .none) s''
def PGn (G : Cx) (τ : L2.St) (a : Addr) (go : Obj) (CP : TCp) (stop : List V → Hp → Prop) : Nat → Shared → Shared → Prop := fun n s₀ s =>
  ∃ (H' : Hp) (cp : List (Addr × Obj)) (acc : List V), Inv G ((a, go) :: cp) τ H' s ∧ CP acc cp ∧ (∀ p ∈ cp, s₀.heap.get? p.1 = some p.2) ∧ stop acc H'
/-- the turns -/
def Turns (J : It) (g : TG) (tt : TT) (te : TE) (vs : List Nat) (σ : L2.St) (stop : List V → Hp → Prop) (K : TK) (W : Nat → Nat → List V → Hp → Prop) : Prop :=
  ∀ i m acc H, W i m acc H → (J.stop i H ∧ stop acc H) ∨ (J.go i H ∧ ∃ Nx : List V → Hp → Prop, (∀ acc' H', Nx acc' H' → ∃ m', m' < m ∧ W (i + 1) m' acc' H') ∧ ∀ x H', J.yld i H x H' → g x (wipe σ vs) H' fun σ2 H2 => wipe σ2 vs = wipe σ vs ∧ tt σ2 H2 fun b H3 =>
    if b = true then te σ2 H3 fun y H4 => K acc y H4 Nx else Nx acc H3)

section
variable {X : Cx} {s4 : Shared} {H4 : Hp} {cenv : Env} {A' B : Around} {fp : List Addr}
theorem seg_gx {elt tg iter : Expr} {ifs : List Expr} {scope : Scope} {pos : Pos} {it a : Addr} {go : Obj} {J : It} {tn : Nat → Heap → Prop} {g : TG} {tt : TT} {te : TE} {vs : List Nat} {σ : L2.St} {stop : List V → Hp → Prop} {CP : TCp} {K : TK} {W : Nat → Nat → List V → Hp → Prop}
    (hB : B.deeper cenv = A') (hco : cenv.scope.isCoroutine = false) (T : Turn X.prog X.w X.K tg J fp it tn) (pg : PG (gxOf X s4 H4 cenv A' fp) tg g) (pt : PTs (gxOf X s4 H4 cenv A' fp) ifs tt) (pe : PE (gxOf X s4 H4 cenv A' fp) elt te)
    (turn : Turns J g tt te vs σ stop K W) :
    ∀ (m n i : Nat) (acc : List V) (cp : List (Addr × Obj)) (H : Hp) (s₀ s : Shared), m + 1 ≤ n → InvG (gxOf X s4 H4 cenv A' fp) fp tn (wipe σ vs) a go i cp H s → CP acc cp → (∀ p ∈ cp, s₀.heap.get? p.1 = some p.2) → W i m acc H →
      Seg (model X.prog X.w) B (fun n s₀ r s₁ => r = .ok .next ∧ PGn (gxOf X s4 H4 cenv A' fp) (wipe σ vs) a go CP stop n s₀ s₁) (YG (gxOf X s4 H4 cenv A' fp) fp tn (wipe σ vs) a go CP K) n s₀
        (.compLoop (.GeneratorExp elt [⟨tg, iter, ifs, 0⟩] scope pos) 0 (.ref it) .none cenv)
        ((model X.prog X.w).den (.compLoop (.GeneratorExp elt [⟨tg, iter, ifs, 0⟩] scope pos) 0 (.ref it) .none cenv)) [] s := by
  have hov : B.over (.compLoop (.GeneratorExp elt [⟨tg, iter, ifs, 0⟩] scope pos) 0 (.ref it) .none cenv) [] = (gxOf X s4 H4 cenv A' fp).A := over_comp.trans hB
  intro m
  induction m using Nat.strongRecOn with
  | ind m ih =>
    intro n i acc cp H s₀ s hn hI hcp h0 w
    have hI0 := hI
    obtain ⟨I, st, hz, hafp, hcfp⟩ := hI
    have stat : ∀ {pins' : List (Addr × Obj)} {σ' : L2.St} {H' : Hp} {s' : Shared}, (∀ p ∈ pins', p.1 ∉ fp) → Inv (gxOf X s4 H4 cenv A' fp) pins' σ' H' s' → (∀ b ∈ fp, H' b = none) → ∀ b ∈ fp, FpOk (gxOf X s4 H4 cenv A' fp) pins' H' b := fun {pins' σ' H' s'} hp I' hn b hb =>
      ⟨hn b hb, (I'.ok.exf b hb).1, I'.ok.exfs b hb, .inl hb, fun x c e => (I'.ok.exf b hb).2 x c e, fun p hp2 e => by
        have hp2 : p ∈ ([] : List (Addr × Obj)) ++ pins' := hp2
        exact hp p (by simpa using hp2) (e ▸ hb)⟩
    have hpin : ∀ p ∈ (a, go) :: cp, p.1 ∉ fp := fun p hp => by
      rcases List.mem_cons.mp hp with e | e
      · rw [e]; exact hafp
      · exact hcfp p e
    show Seg _ B _ _ _ s₀ _ ((compTurn (.GeneratorExp elt [⟨tg, iter, ifs, 0⟩] scope pos) 0 (.ref it) .none cenv).onRaise (leaving cenv)) [] s
    rw [compTurn_gen, Sem.onRaise_eq_wrap]
    refine seg_bind_wrap (wpAny_standAt ?_)
    refine seg_bind_wrap ?_
    rw [hov]
    rcases turn i m acc H w with ⟨hstop, qq⟩ | ⟨hgo, Nx, hNx, step⟩
    · have td := T.done (gxOf X s4 H4 cenv A' fp) rfl rfl rfl rfl i _ s _ H (fun _ _ => False) I (stat hpin I hz) st hstop
      refine thnF td fun r s6 ⟨hr, I6⟩ => ?_
      subst hr
      exact seg_end (.ok .next) ⟨rfl, H, cp, acc, I6, hcp, h0, qq⟩
    · have ti := T.item (gxOf X s4 H4 cenv A' fp) rfl rfl rfl rfl i _ s _ H (fun _ _ => False) I (stat hpin I hz) st hgo
      refine thnF ti fun r s6 ⟨u, hr, h6⟩ => ?_
      subst hr
      refine seg_bind_wrap ?_
      rw [hov]
      refine thnF h6 fun _ s7 ⟨x, H7, I7, r7, y7, st7, n7⟩ => ?_
      have I7' := I7.pinned (stat hpin I7 n7) (T.obj _ _ st7)
      refine seg_bind_wrap ?_
      rw [hov]
      refine thnF (pg.run _ s7 _ H7 x u _ I7' r7 (step x H7 y7)) fun _ s8 ⟨σ8, H8, I8, hw8, q8⟩ => ?_
      refine seg_bind_wrap ?_
      rw [hov]
      refine thnF (pt.run _ s8 σ8 H8 _ I8 q8) fun b s9 ⟨H9, I9, q9⟩ => ?_
      have fin : ∀ {s' : Shared} {H' : Hp}, Inv (gxOf X s4 H4 cenv A' fp) (((a, go) :: cp) ++ pinsAt fp s7.heap) σ8 H' s' → InvG (gxOf X s4 H4 cenv A' fp) fp tn (wipe σ vs) a go (i + 1) cp H' s' := fun {s' H'} I' => by
        have pin' : ∀ b ∈ fp, ∀ o, s7.heap.get? b = some o → s'.heap.get? b = some o ∧ H' b = none := fun b hb o e =>
          let z := I'.pin (b, o) (List.mem_append_right _ (List.mem_append_right _ (mem_pinsAt hb e)))
          ⟨z.1, z.2.1⟩
        have hl : (wipe σ vs).length = σ8.length := by rw [← hw8, wipe_length]
        refine ⟨(I'.unpinned (pins := (a, go) :: cp)).weak hl (fun j v e => ?_), T.keep _ _ _ st7 fun b hb o e => (pin' b hb o e).1, fun b hb => ?_, hafp, hcfp⟩
        · rw [← hw8] at e
          exact (wipe_some e).1
        · obtain ⟨o, e, _⟩ := T.obj _ _ st7 b hb
          exact (pin' b hb o e).2
      cases b with
      | false =>
        simp only [Bool.false_eq_true, if_false] at q9 ⊢
        obtain ⟨m', hm, w'⟩ := hNx acc H9 q9
        exact seg_again rfl (ih m' hm n (i + 1) acc cp H9 s₀ s9 (by omega) (fin I9) hcp h0 w')
      | true =>
        simp only [if_true] at q9 ⊢
        have hy : ∀ v, yieldOut cenv v = yieldValue v := fun v => by simp only [yieldOut, hco, Bool.false_eq_true, if_false]
        simp only [hy]
        rw [Sem.bind_eq_wrap', Sem.bind_eq_wrap', Sem.wrap_wrap, Sem.wrap_wrap]
        refine seg_wrap ?_
        rw [hov]
        refine thnF (pe.run _ s9 σ8 H9 _ I9 q9) fun z s10 ⟨yv, H10, I10, r10, hK⟩ => ?_
        obtain ⟨k, rfl⟩ : ∃ k, n = k + 1 := ⟨n - 1, by omega⟩
        refine seg_at (seg_yield rfl rfl rfl ⟨yv, H10, cp, acc, i + 1, Nx, r10, fin I10, hcp, h0, hK, fun cp' acc' H'' s'' hI'' hcp'' hnx => ?_⟩)
        obtain ⟨m', hm, w'⟩ := hNx acc' H'' hnx
        exact seg_again rfl (ih m' hm k (i + 1) acc' cp' H'' s'' s'' (by omega) hI'' hcp'' (fun p hp => (hI''.1.pin p (List.mem_append_right _ (List.mem_cons_of_mem _ hp))).1) w')
end
end GA
set_option Elab.async false
set_option linter.all false
set_option maxRecDepth 100000
set_option maxHeartbeats 2000000
namespace GA
open PySem PySem.Spec PyProof.Rows L2 GxR

section
variable {X : Cx} {s4 : Shared} {H4 : Hp} {cenv : Env} {A' B : Around} {fp : List Addr}
theorem seg_gxStart {elt tg iter : Expr} {ifs : List Expr} {scope : Scope} {pos : Pos} {it a : Addr} {go : Obj} {J : It} {tn : Nat → Heap → Prop} {g : TG} {tt : TT} {te : TE} {vs : List Nat} {σ : L2.St} {stop : List V → Hp → Prop} {CP : TCp} {K : TK} {W : Nat → Nat → List V → Hp → Prop}
    (hB : B.deeper cenv = A') (hco : cenv.scope.isCoroutine = false) (T : Turn X.prog X.w X.K tg J fp it tn) (pg : PG (gxOf X s4 H4 cenv A' fp) tg g) (pt : PTs (gxOf X s4 H4 cenv A' fp) ifs tt) (pe : PE (gxOf X s4 H4 cenv A' fp) elt te)
    (turn : Turns J g tt te vs σ stop K W) {m n : Nat} {cp : List (Addr × Obj)} {H : Hp} {s₀ s : Shared} (hn : m + 1 ≤ n) (hI : InvG (gxOf X s4 H4 cenv A' fp) fp tn (wipe σ vs) a go 0 cp H s) (hcp : CP [] cp) (h0 : ∀ p ∈ cp, s₀.heap.get? p.1 = some p.2) (w : W 0 m [] H) :
      Seg (model X.prog X.w) B (fun n s₀ r s₁ => r = .ok .next ∧ PGn (gxOf X s4 H4 cenv A' fp) (wipe σ vs) a go CP stop n s₀ s₁) (YG (gxOf X s4 H4 cenv A' fp) fp tn (wipe σ vs) a go CP K) n s₀
        (.compStart (.GeneratorExp elt [⟨tg, iter, ifs, 0⟩] scope pos) 0 (.ref it) .none cenv)
        ((model X.prog X.w).den (.compStart (.GeneratorExp elt [⟨tg, iter, ifs, 0⟩] scope pos) 0 (.ref it) .none cenv)) [] s := by
  have loop := seg_gx (iter := iter) (scope := scope) (pos := pos) hB hco T pg pt pe turn m n 0 [] cp H s₀ s hn hI hcp h0 w
  have st := hI.2.1
  show Seg _ B _ _ _ s₀ _ ((compStart (.GeneratorExp elt [⟨tg, iter, ifs, 0⟩] scope pos) 0 (.ref it) .none cenv).onRaise (leaving cenv)) [] s
  unfold compStart
  rw [Sem.onRaise_eq_wrap]
  show Seg _ B _ _ _ s₀ _ ((ask >>= _).wrap _ _ _ _) [] s
  refine seg_bind_wrap (wpAny_askSetting ?_)
  split
  · exact seg_again rfl loop
  · first
      | exact seg_bind_wrap (wpAny_rule (seg_bind_wrap (wpAny_standAt (seg_bind_wrap (T.self _ 0 s _ _ st (seg_again rfl loop))))))
      | (refine seg_bind_wrap (wpAny_rule ?_); show Seg _ B _ _ _ s₀ _ ((standAt iter.pos >>= _).wrap _ _ _ _) [] s; exact seg_bind_wrap (wpAny_standAt (seg_bind_wrap (T.self _ 0 s _ _ st (seg_again rfl loop)))))

/-- back in the def's own context -/
theorem gx_back {pins pins' : List (Addr × Obj)} {σ τ : L2.St} {H' : Hp} {s' : Shared} (I : Inv X pins σ H4 s4) (hfp : ∀ b ∈ fp, FpOk X pins H4 b) (J : Inv (gxOf X s4 H4 cenv A' fp) pins' τ H' s') : Inv X pins σ H' s' :=
  I.call' (ch := fp) J.os J.base J.hok J.bare fun b hb => ⟨(hfp b hb).2.2.2.1, (hfp b hb).2.1, (hfp b hb).2.2.2.2.1, (hfp b hb).2.2.2.2.2⟩
end

/-- the reading of a generator expression under a consumer -/
def tGx (P : Addr) (wi : TI) (g : TG) (tt : TT) (te : TE) (vs : List Nat) (stop : List V → Hp → Prop) (K : TK) : L2.St → Hp → Prop := fun σ H => wi σ H fun J H1 => TabG H1 P ∧ ∀ H2, Tabbed P H1 H2 →
  ∃ W : Nat → Nat → List V → Hp → Prop, (∃ m, W 0 m [] H2) ∧ Turns J g tt te vs σ stop K W

/-- the generator at a has not begun; its frame's context hangs on the around in which it is woken -/
def Ready (X : Cx) (pins : List (Addr × Obj)) (σ : L2.St) (stop : List V → Hp → Prop) (K : TK) (k : Nat) (a : Addr) (s5 : Shared) : Prop :=
  ∃ (s4 : Shared) (H4 : Hp) (cenv : Env) (fp : List Addr) (tn : Nat → Heap → Prop) (τ : L2.St) (go : Obj) (gn : Nat) (c : Code),
    Inv X pins σ H4 s4 ∧ (∀ b ∈ fp, FpOk X pins H4 b) ∧ s4.heap.objs.size ≤ a ∧ (∀ b ∈ fp, b < s4.heap.objs.size) ∧ (∀ i h h', tn i h → (∀ b ∈ fp, ∀ o, h.get? b = some o → h'.get? b = some o) → tn i h') ∧ (∀ h : Heap, h.get? a = some go → h.IsGen a gn) ∧ s5.gens[gn]? = some (.fresh c) ∧
    ∀ (B : Around) (CP : TCp), Room k (B.deeper cenv) → B.frames = some X.stack →
      InvG (gxOf X s4 H4 cenv (B.deeper cenv) fp) fp tn τ a go 0 [] H4 s5 ∧
      ∀ (cp : List (Addr × Obj)) (s'' : Shared), InvG (gxOf X s4 H4 cenv (B.deeper cenv) fp) fp tn τ a go 0 cp H4 s'' → CP [] cp → ∃ n,
        Seg (model X.prog X.w) B (fun n s₀ r s₁ => r = .ok .next ∧ PGn (gxOf X s4 H4 cenv (B.deeper cenv) fp) τ a go CP stop n s₀ s₁) (YG (gxOf X s4 H4 cenv (B.deeper cenv) fp) fp tn τ a go CP K) n s'' c ((model X.prog X.w).den c) [] s''

/-- the scope of a generator expression, beside BlkOk -/
structure GxS (scope : Scope) : Prop where
  co : scope.isCoroutine = false
  cell : ∀ y ∈ scope.names, y.2 ≠ .cell
  dot : scope.names.lookup (".0" : Str) = some NameKind.local

section
variable {X : Cx} {pins : List (Addr × Obj)} {σ : L2.St} {H : Hp} {s : Shared}
theorem gx_make {c P : Addr} {elt tg iter : Expr} {ifs : List Expr} {scope : Scope} {own : List (Str × Nat)} {gpos : Pos} {wi : TI} {g : TG} {tt : TT} {te : TE} {stop : List V → Hp → Prop} {K : TK} {k : Nat} {Q' : Value → Shared → Prop}
    (hdp : X.A.depth < recursionLimit) (hN : X.N.Nodup) (TB : TabB X.base X.mg c P) (hcode : X.env.code = .ref c) (S : GxS scope) (ok : BlkOk X.N X.env.scope scope own) (hi : PI X tg iter wi)
    (hg : ∀ (s4 : Shared) (H4 : Hp) (C : Addr) (code : Value) (A' : Around) (fp : List Addr), Room k A' → PG (gxOf X s4 H4 (genEnv scope (cloFrom X.env.cells scope.names []) C code builtinsNs X.env) A' fp) tg g)
    (ht : ∀ (s4 : Shared) (H4 : Hp) (C : Addr) (code : Value) (A' : Around) (fp : List Addr), Room k A' → PTs (gxOf X s4 H4 (genEnv scope (cloFrom X.env.cells scope.names []) C code builtinsNs X.env) A' fp) ifs tt)
    (he : ∀ (s4 : Shared) (H4 : Hp) (C : Addr) (code : Value) (A' : Around) (fp : List Addr), Room k A' → PE (gxOf X s4 H4 (genEnv scope (cloFrom X.env.cells scope.names []) C code builtinsNs X.env) A' fp) elt te)
    (hs : ∀ v, genFold iter X.env v = pure v) (I : Inv X pins σ H s) (h : tGx P wi g tt te (own.map (·.2)) stop K σ H)
    (hQ : ∀ a s5, Ready X pins σ stop K k a s5 → Q' (.ref a) s5) :
    wpAny (model X.prog X.w) X.A (eval (.GeneratorExp elt [⟨tg, iter, ifs, 0⟩] scope gpos) X.env) Q' X.xe s := by
  have hfree : ∀ y ∈ scope.names, y.2 = .free → ∃ c, X.env.cells.lookup y.1 = some c := fun y hy e => by
    rcases ok.free y hy e with k | k
    · exact I.ok.has _ (.inl k)
    · exact I.ok.has _ (.inr k)
  refine wpAny_GeneratorExp_make S.co (closure_ok hfree) S.cell S.dot ok.kind hdp ?_ hs
  refine thn (hi.run pins s σ H _ I h) fun xv s1 hx => thn hx fun itv s2 h2 => ?_
  obtain ⟨it, fp, tn, J, H2, e, I2, T, st2, f2, ⟨ps, hP, hti⟩, q⟩ := h2
  subst e
  refine ⟨I2.nolimit, ?_⟩
  have hPs : s2.heap.get? P = some { cls := .none, data := .fields ps } := I2.hok P _ hP
  have hPlt : P < s2.heap.objs.size := Heap.lt_size hPs
  have cd : PySem.W.CodeHd s2.heap c P := TB.code.keeps I2.bk
  have fpP : ∀ b ∈ fp, b ≠ P := fun b hb z => by
    have := (f2 b hb).1
    rw [z, hP] at this; cases this
  have fplt : ∀ b ∈ fp, b < s2.heap.objs.size := fun b hb => by
    obtain ⟨o, e, _⟩ := T.obj _ _ st2 b hb
    exact Heap.lt_size e
  have cont : ∀ (code : Value) (h3 : Heap) (tk : Nat) (more : Array Value), Heap.ExtBut P s2.heap h3 → s2.heap.objs.size ≤ h3.objs.size → h3.get? P = some { cls := .none, data := .fields (ps ++ more) } → TriplesOk (ps ++ more).toList →
      wpAny (model X.prog X.w) X.A (builtinsFor X.env.globals X.env.builtins) (fun bi s₄ =>
        ∀ h', h'.Ns s₄.heap.objs.size (fun y => if y = ".0" then some (.ref it) else none) → Heap.SameBut s₄.heap.objs.size (s₄.heap.push { cls := .type "frame", data := .dict #[] }) h' →
          Q' (.ref h'.objs.size) { s₄ with
            gens := s₄.gens.push (.fresh (.compStart (.GeneratorExp elt [⟨tg, iter, ifs, 0⟩] scope gpos) 0 (.ref it) .none (genEnv scope (cloFrom X.env.cells scope.names []) s₄.heap.objs.size code bi X.env))),
            toks := s₄.toks + 1 + 1 + 1,
            heap := h'.push { cls := .type "generator", data := .fields #[.int s₄.gens.size 0, .str "<genexpr>" (s₄.toks + 1), .str (X.env.qual ++ "<genexpr>") (s₄.toks + 1 + 1)] } }) X.xe { s2 with heap := h3, toks := tk } := by
    intro code h3 tk more hx hsz hP3 ht3
    obtain ⟨bm, ob, e1, e2, e3, e4, e5, e6, e7, e8⟩ := TB.bm
    have keep3 : ∀ b u, b ≠ P → s2.heap.get? b = some u → h3.get? b = some u := fun b u hb e => hx b u hb e
    refine wpAny_builtinsFor (m := X.mg) (by rw [I2.ok.glob]; exact (I2.mod.glob.keeps I2.bk).extBut hx TB.gP) e1 e2 (keep3 _ _ e4 (I2.bk _ _ e5)) e6 e7 e8 ?_
    have I4 := inv_tab (more := more) (h' := h3) (g' := s2.gens) (d' := s2.drawn) (t' := tk) I2 hP keep3 hP3 I2.bare
    have hT4 : Tabbed P H2 (upd H2 P (.tbl (ps ++ more))) := ⟨⟨ps ++ more, upd_same, ht3⟩, fun b hb => upd_ne hb⟩
    obtain ⟨W, ⟨m0, w0⟩, turn⟩ := q _ hT4
    generalize hH4 : upd H2 P (.tbl (ps ++ more)) = H4 at I4 w0
    have nfp : ∀ b ∈ fp, H4 b = none := fun b hb => by rw [← hH4, upd_ne (fpP b hb)]; exact (f2 b hb).1
    generalize hs4 : ({ s2 with heap := h3, gens := s2.gens, drawn := s2.drawn, toks := tk } : Shared) = s4 at I4
    have st4 : tn 0 s4.heap := by rw [← hs4]; exact T.keep _ _ _ st2 fun b hb o e => keep3 b o (fpP b hb) e
    have f4 : ∀ b ∈ fp, FpOk X pins H4 b := fun b hb => ⟨nfp b hb, (f2 b hb).2⟩
    have lt4 : ∀ b ∈ fp, b < s4.heap.objs.size := fun b hb => by rw [← hs4]; exact Nat.lt_of_lt_of_le (fplt b hb) hsz
    intro h' hn' hs'
    have hsz' : h'.objs.size = s4.heap.objs.size + 1 := by rw [hs'.1, Heap.size_push]
    have keep' : ∀ b o, s4.heap.get? b = some o → h'.get? b = some o := fun b o e => hs'.extBut b o (Nat.ne_of_lt (Heap.lt_size e)) (Heap.get?_push_of_some _ e)
    generalize hcv : genEnv scope (cloFrom X.env.cells scope.names []) s4.heap.objs.size code builtinsNs X.env = cenv
    generalize hgo : ({ cls := .type "generator", data := .fields #[.int s4.gens.size 0, .str "<genexpr>" (s4.toks + 1), .str (X.env.qual ++ "<genexpr>") (s4.toks + 1 + 1)] } : Obj) = go
    have hgen : ∀ h : Heap, h.get? h'.objs.size = some go → h.IsGen h'.objs.size s4.gens.size := fun h e => ⟨go, _, _, e, by rw [← hgo], by rw [← hgo], by rw [← hgo]⟩
    have keep5 : ∀ b o, s4.heap.get? b = some o → (h'.push go).get? b = some o := fun b o e => Heap.get?_push_of_some _ (keep' b o e)
    have hpushed : (h'.push go).get? h'.objs.size = some go := Heap.get?_push_size _ (by rw [← hgo]; rfl)
    have hge4' : s4.heap.objs.size ≤ h'.objs.size := by rw [hsz']; exact Nat.le_succ _
    refine hQ _ _ ⟨s4, H4, cenv, fp, tn, wipe σ (own.map (·.2)), go, s4.gens.size, _, I4, f4, hge4', lt4, T.keep, hgen, Array.getElem?_push_size .., fun B CP hrB hfB => ?_⟩
    have hA : (B.deeper cenv).handled = none := hrB.hd
    have hfr : (B.deeper cenv).frames = some (cenv :: X.stack) := by
      show B.frames.map _ = _
      rw [hfB]; rfl
    have J5 : Inv (gxOf X s4 H4 cenv (B.deeper cenv) fp) [] (wipe σ (own.map (·.2))) H4 { s4 with
            gens := s4.gens.push (.fresh (.compStart (.GeneratorExp elt [⟨tg, iter, ifs, 0⟩] scope gpos) 0 (.ref it) .none cenv)),
            toks := s4.toks + 1 + 1 + 1, heap := h'.push go } := by
      have := gx_start (A' := B.deeper cenv) (code := code) (m0 := fun y => if y = ".0" then some (.ref it) else none) (s5 := { s4 with
            gens := s4.gens.push (.fresh (.compStart (.GeneratorExp elt [⟨tg, iter, ifs, 0⟩] scope gpos) 0 (.ref it) .none cenv)),
            toks := s4.toks + 1 + 1 + 1, heap := h'.push go }) I4 ok S.cell hN (fun b hb => ⟨f4 b hb, lt4 b hb⟩) hA (by rw [hcv]; exact hfr) rfl (AllBare.push I4.bare rfl) keep5 (hn'.push _)
      rw [hcv] at this
      exact this
    have hge4 : s4.heap.objs.size ≤ h'.objs.size := by rw [hsz']; exact Nat.le_succ _
    have hafp : h'.objs.size ∉ fp := fun hb => absurd (lt4 _ hb) (Nat.not_lt.mpr hge4)
    have cL : cenv.locals = s4.heap.objs.size := by rw [← hcv]; rfl
    refine ⟨⟨J5.pins_of fun p hp => ?_, T.keep _ _ _ st4 fun b _ o e => keep5 b o e, nfp, hafp, fun p hp => by simp at hp⟩, fun cp s'' hI hcp => ⟨m0 + 1, ?_⟩⟩
    · rw [List.mem_singleton.mp hp]
      refine ⟨hpushed, I4.hok.fresh (by rw [hsz']; exact Nat.le_succ _), ?_, ?_, fun v q => by rw [← hgo] at q; cases q⟩
      · show h'.objs.size ≠ cenv.locals
        rw [cL, hsz']; exact Nat.succ_ne_self _
      · intro hb
        rcases List.mem_cons.mp (I4.stkSub _ hb) with z | z
        · exact absurd I4.lt (Nat.not_lt.mpr (by rw [← z]; exact hge4))
        · exact I4.nofs (by rw [hsz']; exact Nat.le_succ _) z
    · have hco : cenv.scope.isCoroutine = false := by rw [← hcv]; exact S.co
      refine seg_gxStart (A' := B.deeper cenv) rfl hco T ?_ ?_ ?_ turn (Nat.le_refl _) hI hcp (fun p hp => (hI.1.pin p (List.mem_append_right _ (List.mem_cons_of_mem _ hp))).1) w0
      · rw [← hcv]; exact hg _ _ _ _ _ _ (by rw [hcv]; exact hrB)
      · rw [← hcv]; exact ht _ _ _ _ _ _ (by rw [hcv]; exact hrB)
      · rw [← hcv]; exact he _ _ _ _ _ _ (by rw [hcv]; exact hrB)
  cases hf : codeAmong gpos ps.toList with
  | none =>
    refine wpAny_genexprCodeX hcode (cd.code hPs hti) (cd.tab hPs) hf fun c' h' tk hx hge hlt hco' _ htab' _ => ?_
    obtain ⟨o1, vs, f1, tf, fl, tg, inF, tx, tt, op, _, _, _, _, _, _, _, _, _, htr, _⟩ := hco'
    exact cont _ h' tk _ hx (Nat.le_trans hge (Nat.le_of_lt hlt)) htab'.2 htr
  | some cv =>
    refine wpAny_genexprCode_hit hcode (cd.code hPs hti) hf ?_
    have e0 : ps ++ (#[] : Array Value) = ps := by simp
    exact cont cv s2.heap s2.toks #[] (Heap.ExtBut.refl _ _) (Nat.le_refl _) (by rw [e0]; exact hPs) (by rw [e0]; exact hti)
end
end GA
set_option Elab.async false
set_option linter.all false
set_option maxRecDepth 100000
set_option maxHeartbeats 2000000
namespace GA
open PySem PySem.Spec PyProof.Rows L2 GxR

/-- the generator sleeps, with n items at most to come -/
def Liv (M : Model) (B : Around) (R : GenEnd) (Y : Protocol) (gn : Nat) (n : Nat) (s : Shared) : Prop :=
  ∃ gs, s.gens[gn]? = some gs ∧ gs.Goes M B R Y n (.send .none) (s.setGen gn .running)
section
variable {G : Cx} {fp : List Addr} {tn : Nat → Heap → Prop} {τ : L2.St} {a : Addr} {go : Obj} {gn : Nat} {CP : TCp} {K : TK} {stop : List V → Hp → Prop}
abbrev RG (G : Cx) (τ : L2.St) (a : Addr) (go : Obj) (CP : TCp) (stop : List V → Hp → Prop) : GenEnd := fun n s₀ r s₁ => r = .ok .next ∧ PGn G τ a go CP stop n s₀ s₁
theorem invG_setGen {i : Nat} {cp : List (Addr × Obj)} {H : Hp} {s : Shared} {x : GenState} (h : InvG G fp tn τ a go i cp H s) (hx : x.bare = true) : InvG G fp tn τ a go i cp H (s.setGen gn x) :=
  ⟨inv_setGen h.1 hx, h.2⟩
theorem pin_gen {cp : List (Addr × Obj)} {H : Hp} {s : Shared} (hgo : ∀ h : Heap, h.get? a = some go → h.IsGen a gn) (h : Inv G ((a, go) :: cp) τ H s) : s.heap.IsGen a gn :=
  hgo _ (h.pin (a, go) (List.mem_append_right _ List.mem_cons_self)).1

theorem next_gx {A : Around} {n : Nat} {Q : Option Value → Shared → Prop} {E : Value → Shared → Prop} {s : Shared} (hh : A.handled = none) (hroom : A.depth < recursionLimit) (hgo : ∀ h : Heap, h.get? a = some go → h.IsGen a gn)
    (hg : s.heap.IsGen a gn) (hl : s.heap.NoLimit) (hv : Liv (model G.prog G.w) A.in1 (RG G τ a go CP stop) (YG G fp tn τ a go CP K) gn n s)
    (item : ∀ (v : Value) (y : V) (H' : Hp) (cp : List (Addr × Obj)) (acc : List V) (i : Nat) (Nx : List V → Hp → Prop) (gs' : GenState) (s' : Shared), RelV y v → InvG G fp tn τ a go i cp H' s' → CP acc cp → (∀ p ∈ cp, s.heap.get? p.1 = some p.2) → K acc y H' Nx → s'.gens[gn]? = some gs' →
      (∀ (cp' : List (Addr × Obj)) (acc' : List V) (H'' : Hp) (s'' : Shared), InvG G fp tn τ a go i cp' H'' s'' → CP acc' cp' → Nx acc' H'' → s''.gens[gn]? = some gs' → ∃ m, n = m + 1 ∧ Liv (model G.prog G.w) A.in1 (RG G τ a go CP stop) (YG G fp tn τ a go CP K) gn m s'') → Q (some v) s')
    (done : ∀ (H' : Hp) (cp : List (Addr × Obj)) (acc : List V) (s' : Shared), Inv G ((a, go) :: cp) τ H' s' → CP acc cp → (∀ p ∈ cp, s.heap.get? p.1 = some p.2) → stop acc H' → Q none s') :
    wpAny (model G.prog G.w) A (pyNext (.ref a)) Q E s := by
  obtain ⟨gs, hgs, hgoes⟩ := hv
  refine GenW.wpAny_gsz (Nat.le_refl _) ?_
  have hlt : gn < s.gens.size := by
    rcases Nat.lt_or_ge gn s.gens.size with h' | h'
    · exact h'
    · rw [Array.getElem?_eq_none h'] at hgs; cases hgs
  refine wpAny_mono (wpAny_pyNext_genexpQ (Q := fun o s' => s.gens.size ≤ s'.gens.size → Q o s') (E := fun _ _ => False) (P := PGn G τ a go CP stop) hh hl hroom hg hgs hgoes (fun v s₁ gs' hb hY => ?_) (fun s₁ hP h' hk => ?_)) (fun _ _ e => e) fun _ _ z => False.elim z
  · intro hsz
    obtain ⟨y, H', cp, acc, i, Nx, rv, hI, hcp, h0, hK, kap⟩ := hY
    have hlt1 : gn < s₁.gens.size := by
      have : s.gens.size ≤ (s₁.setGen gn gs').gens.size := hsz
      rw [GenW.setGen_size] at this
      omega
    refine item v y H' cp acc i Nx gs' _ rv (invG_setGen hI hb) hcp h0 hK (setGen_at hlt1) fun cp' acc' H'' s'' hI'' hcp'' hnx hgs'' => ?_
    have k := kap cp' acc' H'' (s''.setGen gn .running) (invG_setGen hI'' rfl) hcp'' hnx
    cases n with
    | zero => exact False.elim k
    | succ m => exact ⟨m, rfl, gs', hgs'', k⟩
  · intro _
    obtain ⟨H', cp, acc, I', hcp, h0, hst⟩ := hP
    refine done H' cp acc _ ?_ hcp h0 hst
    exact (inv_setGen (g := gn) (x := .finished) I' rfl).kept (t' := (s₁.setGen gn .finished).toks) hk
end

section
variable {G : Cx} {fp : List Addr} {tn : Nat → Heap → Prop} {τ : L2.St} {a : Addr} {go : Obj} {gn : Nat}
/-- the consumer «all» -/
def KAll (Q : VK) : TK := fun acc y H' nx => ∃ b, y = .bl b ∧ (b = false → Q (.bl false) H') ∧ (b = true → nx acc H')
def KAny (Q : VK) : TK := fun acc y H' nx => ∃ b, y = .bl b ∧ (b = true → Q (.bl true) H') ∧ (b = false → nx acc H')
theorem all_loop {A : Around} {Q : VK} {R : Result → Shared → Prop} (hh : A.handled = none) (hroom : A.depth < recursionLimit) (hgo : ∀ h : Heap, h.get? a = some go → h.IsGen a gn)
    (hR : ∀ b cp H' s', Inv G ((a, go) :: cp) τ H' s' → Q (.bl b) H' → R (.ok (.ret (.bool b))) s') :
    ∀ (n : Nat) (s : Shared), s.heap.IsGen a gn → s.heap.NoLimit → Liv (model G.prog G.w) A.in1.in1 (RG G τ a go (fun _ cp => cp = []) fun _ H' => Q (.bl true) H') (YG G fp tn τ a go (fun _ cp => cp = []) (KAll Q)) gn n s →
      codeAny (model G.prog G.w) A (.builtin "all.loop" ⟨[.ref a], []⟩) R s := by
  intro n
  induction n with
  | zero =>
    intro s hg hl hv
    refine codeAny_builtin F.entry_all_loop ?_
    rw [Around.under_plainId F.plain_all_loop _]
    show wpAny _ A.in1 (pyNext (.ref a) >>= _) _ _ s
    refine wpAny_bind (next_gx (A := A.in1) hh hroom hgo hg hl hv (fun v y H' cp acc i Nx gs' s' rv hI hcp h0 hK hgs' kont => ?_) (fun H' cp acc s' I' hcp h0 hst => ?_))
    · refine wpAny_bind (wpAny_holding ?_)
      obtain ⟨b, rfl, h1, h2⟩ := hK
      obtain rfl : v = .bool b := rv
      refine wpAny_truthy_bool (wpAny_bind (wpAny_letGo ?_))
      cases b with
      | true =>
        obtain ⟨m, e, _⟩ := kont cp acc H' s' hI hcp (h2 rfl) hgs'
        omega
      | false =>
        simp only [Bool.false_eq_true, if_false]
        exact wpAny_bind (wpAny_rule (wpAny_pure (hR false cp H' s' hI.1 (h1 rfl))))
    · exact wpAny_bind (wpAny_rule (wpAny_pure (hR true cp H' s' I' hst)))
  | succ n ih =>
    intro s hg hl hv
    refine codeAny_builtin F.entry_all_loop ?_
    rw [Around.under_plainId F.plain_all_loop _]
    show wpAny _ A.in1 (pyNext (.ref a) >>= _) _ _ s
    refine wpAny_bind (next_gx (A := A.in1) hh hroom hgo hg hl hv (fun v y H' cp acc i Nx gs' s' rv hI hcp h0 hK hgs' kont => ?_) (fun H' cp acc s' I' hcp h0 hst => ?_))
    · refine wpAny_bind (wpAny_holding ?_)
      obtain ⟨b, rfl, h1, h2⟩ := hK
      obtain rfl : v = .bool b := rv
      refine wpAny_truthy_bool (wpAny_bind (wpAny_letGo ?_))
      cases b with
      | true =>
        obtain ⟨m, e, lv⟩ := kont cp acc H' s' hI hcp (h2 rfl) hgs'
        obtain rfl : n = m := by omega
        simp only [if_true]
        exact wpAny_pure ⟨plainId_quiet F.plain_all_loop _, ih s' (pin_gen hgo hI.1) hI.1.nolimit lv⟩
      | false =>
        simp only [Bool.false_eq_true, if_false]
        exact wpAny_bind (wpAny_rule (wpAny_pure (hR false cp H' s' hI.1 (h1 rfl))))
    · exact wpAny_bind (wpAny_rule (wpAny_pure (hR true cp H' s' I' hst)))
theorem any_loop {A : Around} {Q : VK} {R : Result → Shared → Prop} (hh : A.handled = none) (hroom : A.depth < recursionLimit) (hgo : ∀ h : Heap, h.get? a = some go → h.IsGen a gn)
    (hR : ∀ b cp H' s', Inv G ((a, go) :: cp) τ H' s' → Q (.bl b) H' → R (.ok (.ret (.bool b))) s') :
    ∀ (n : Nat) (s : Shared), s.heap.IsGen a gn → s.heap.NoLimit → Liv (model G.prog G.w) A.in1.in1 (RG G τ a go (fun _ cp => cp = []) fun _ H' => Q (.bl false) H') (YG G fp tn τ a go (fun _ cp => cp = []) (KAny Q)) gn n s →
      codeAny (model G.prog G.w) A (.builtin "any.loop" ⟨[.ref a], []⟩) R s := by
  intro n
  induction n with
  | zero =>
    intro s hg hl hv
    refine codeAny_builtin F.entry_any_loop ?_
    rw [Around.under_plainId F.plain_any_loop _]
    show wpAny _ A.in1 (pyNext (.ref a) >>= _) _ _ s
    refine wpAny_bind (next_gx (A := A.in1) hh hroom hgo hg hl hv (fun v y H' cp acc i Nx gs' s' rv hI hcp h0 hK hgs' kont => ?_) (fun H' cp acc s' I' hcp h0 hst => ?_))
    · refine wpAny_bind (wpAny_holding ?_)
      obtain ⟨b, rfl, h1, h2⟩ := hK
      obtain rfl : v = .bool b := rv
      refine wpAny_truthy_bool (wpAny_bind (wpAny_letGo ?_))
      cases b with
      | false =>
        obtain ⟨m, e, _⟩ := kont cp acc H' s' hI hcp (h2 rfl) hgs'
        omega
      | true =>
        simp only [if_true]
        exact wpAny_bind (wpAny_rule (wpAny_pure (hR true cp H' s' hI.1 (h1 rfl))))
    · exact wpAny_bind (wpAny_rule (wpAny_pure (hR false cp H' s' I' hst)))
  | succ n ih =>
    intro s hg hl hv
    refine codeAny_builtin F.entry_any_loop ?_
    rw [Around.under_plainId F.plain_any_loop _]
    show wpAny _ A.in1 (pyNext (.ref a) >>= _) _ _ s
    refine wpAny_bind (next_gx (A := A.in1) hh hroom hgo hg hl hv (fun v y H' cp acc i Nx gs' s' rv hI hcp h0 hK hgs' kont => ?_) (fun H' cp acc s' I' hcp h0 hst => ?_))
    · refine wpAny_bind (wpAny_holding ?_)
      obtain ⟨b, rfl, h1, h2⟩ := hK
      obtain rfl : v = .bool b := rv
      refine wpAny_truthy_bool (wpAny_bind (wpAny_letGo ?_))
      cases b with
      | false =>
        obtain ⟨m, e, lv⟩ := kont cp acc H' s' hI hcp (h2 rfl) hgs'
        obtain rfl : n = m := by omega
        simp only [Bool.false_eq_true, if_false]
        exact wpAny_pure ⟨plainId_quiet F.plain_any_loop _, ih s' (pin_gen hgo hI.1) hI.1.nolimit lv⟩
      | true =>
        simp only [if_true]
        exact wpAny_bind (wpAny_rule (wpAny_pure (hR true cp H' s' hI.1 (h1 rfl))))
    · exact wpAny_bind (wpAny_rule (wpAny_pure (hR false cp H' s' I' hst)))
end

section
variable {X : Cx} {pins : List (Addr × Obj)} {σ : L2.St}
theorem call_all_gx {Q : VK} {Q' : Value → Shared → Prop} {E : Value → Shared → Prop} {k : Nat} {a : Addr} {s : Shared} (hr : Room (k + 1) X.A) (hf : X.A.frames = some X.stack) (h : Ready X pins σ (fun _ H' => Q (.bl true) H') (KAll Q) k a s)
    (hQ : ∀ b H' s', Inv X pins σ H' s' → Q (.bl b) H' → Q' (.bool b) s') : wpAny (model X.prog X.w) X.A (call (.builtin "all") [.ref a]) Q' E s := by
  obtain ⟨s4, H4, cenv, fp, tn, τ, go, gn, c, I4, f4, ha, lt4, hkeep, hgo, hgs, wake⟩ := h
  have rd : Room k (X.A.in1.in1.deeper cenv) := ⟨hr.hd, by have := hr.dp; show X.A.depth + 1 + 3 * k + 5 < _; omega, by have := hr.un; show X.A.units + 1 + 1 + 3 + 16 * k + 200 < _; omega⟩
  obtain ⟨hI, go0⟩ := wake X.A.in1.in1 (fun _ cp => cp = []) rd hf
  obtain ⟨n, sg⟩ := go0 [] (s.setGen gn .running) (invG_setGen hI rfl) rfl
  refine call_function_tree F.kind_all F.plain_all F.entry_all (F.args_all1 _) ?_
  unfold Builtin.«all»
  refine wpAny_bind (m := oneArg "all" _) (wpAny_pure ?_)
  refine wpAny_bind (wpAny_pyIter_gen (pin_gen hgo hI.1) ?_)
  refine wpAny_pure ⟨plainId_quiet F.plain_all_loop _, ?_⟩
  have hd : X.A.depth < recursionLimit := by have := hr.dp; omega
  refine all_loop (G := gxOf X s4 H4 cenv (X.A.in1.in1.deeper cenv) fp) (fp := fp) (tn := tn) (τ := τ) (gn := gn) (go := go) (Q := Q) hr.hd hd hgo (fun b cp H' s' I' hq => ?_) n s (pin_gen hgo hI.1) hI.1.nolimit ⟨_, hgs, rfl, sg⟩
  exact hQ b H' s' (gx_back I4 f4 I') hq
theorem call_any_gx {Q : VK} {Q' : Value → Shared → Prop} {E : Value → Shared → Prop} {k : Nat} {a : Addr} {s : Shared} (hr : Room (k + 1) X.A) (hf : X.A.frames = some X.stack) (h : Ready X pins σ (fun _ H' => Q (.bl false) H') (KAny Q) k a s)
    (hQ : ∀ b H' s', Inv X pins σ H' s' → Q (.bl b) H' → Q' (.bool b) s') : wpAny (model X.prog X.w) X.A (call (.builtin "any") [.ref a]) Q' E s := by
  obtain ⟨s4, H4, cenv, fp, tn, τ, go, gn, c, I4, f4, ha, lt4, hkeep, hgo, hgs, wake⟩ := h
  have rd : Room k (X.A.in1.in1.deeper cenv) := ⟨hr.hd, by have := hr.dp; show X.A.depth + 1 + 3 * k + 5 < _; omega, by have := hr.un; show X.A.units + 1 + 1 + 3 + 16 * k + 200 < _; omega⟩
  obtain ⟨hI, go0⟩ := wake X.A.in1.in1 (fun _ cp => cp = []) rd hf
  obtain ⟨n, sg⟩ := go0 [] (s.setGen gn .running) (invG_setGen hI rfl) rfl
  refine call_function_tree F.kind_any F.plain_any F.entry_any (F.args_any1 _) ?_
  unfold Builtin.«any»
  refine wpAny_bind (m := oneArg "any" _) (wpAny_pure ?_)
  refine wpAny_bind (wpAny_pyIter_gen (pin_gen hgo hI.1) ?_)
  refine wpAny_pure ⟨plainId_quiet F.plain_any_loop _, ?_⟩
  have hd : X.A.depth < recursionLimit := by have := hr.dp; omega
  refine any_loop (G := gxOf X s4 H4 cenv (X.A.in1.in1.deeper cenv) fp) (fp := fp) (tn := tn) (τ := τ) (gn := gn) (go := go) (Q := Q) hr.hd hd hgo (fun b cp H' s' I' hq => ?_) n s (pin_gen hgo hI.1) hI.1.nolimit ⟨_, hgs, rfl, sg⟩
  exact hQ b H' s' (gx_back I4 f4 I') hq

/-- all(elt for tg in iter if ..) -/
def tAllG (P : Addr) (wi : TI) (g : TG) (tt : TT) (te : TE) (vs : List Nat) : TE := fun σ H Q => tGx P wi g tt te vs (fun _ H' => Q (.bl true) H') (KAll Q) σ H
def tAnyG (P : Addr) (wi : TI) (g : TG) (tt : TT) (te : TE) (vs : List Nat) : TE := fun σ H Q => tGx P wi g tt te vs (fun _ H' => Q (.bl false) H') (KAny Q) σ H
theorem pe_allG {c P : Addr} {elt tg iter : Expr} {ifs : List Expr} {scope : Scope} {own : List (Str × Nat)} {p pos gpos : Pos} {wi : TI} {g : TG} {tt : TT} {te : TE} {k : Nat}
    (hr : Room (k + 1) X.A) (hc : X.calm = true) (hgl : Gl X "all") (hm : X.mg "all" = none) (hN : X.N.Nodup) (TB : TabB X.base X.mg c P) (hcode : X.env.code = .ref c) (S : GxS scope) (ok : BlkOk X.N X.env.scope scope own) (hi : PI X tg iter wi)
    (hg : ∀ (s4 : Shared) (H4 : Hp) (C : Addr) (code : Value) (A' : Around) (fp : List Addr), Room k A' → PG (gxOf X s4 H4 (genEnv scope (cloFrom X.env.cells scope.names []) C code builtinsNs X.env) A' fp) tg g)
    (ht : ∀ (s4 : Shared) (H4 : Hp) (C : Addr) (code : Value) (A' : Around) (fp : List Addr), Room k A' → PTs (gxOf X s4 H4 (genEnv scope (cloFrom X.env.cells scope.names []) C code builtinsNs X.env) A' fp) ifs tt)
    (hel : ∀ (s4 : Shared) (H4 : Hp) (C : Addr) (code : Value) (A' : Around) (fp : List Addr), Room k A' → PE (gxOf X s4 H4 (genEnv scope (cloFrom X.env.cells scope.names []) C code builtinsNs X.env) A' fp) elt te)
    (hs : ∀ v, genFold iter X.env v = pure v := by intro _; rfl)
    (he : starEach [.GeneratorExp elt [⟨tg, iter, ifs, 0⟩] scope gpos] X.env = (false, eval (.GeneratorExp elt [⟨tg, iter, ifs, 0⟩] scope gpos) X.env) :: starEach [] X.env := by rfl) :
    PE X (.Call (.Name "all" p) [.GeneratorExp elt [⟨tg, iter, ifs, 0⟩] scope gpos] [] pos) (tAllG P wi g tt te (own.map (·.2))) := by
  refine ⟨fun pins s σ H Q I h => ?_⟩
  refine wpAny_Call_Name_kw (ld_blt I hgl hm boot_all ?_)
  refine PyProof.Rows.callWith_builtin1 ?_ he (by rfl)
  rw [he]
  show wpAny _ _ (spliced ((false, eval (.GeneratorExp elt [⟨tg, iter, ifs, 0⟩] scope gpos) X.env) :: backTo pos (starEach [] X.env))) _ _ s
  have hd : X.A.depth < recursionLimit := by have := hr.dp; omega
  refine Calls.spliced_cons (gx_make (k := k) hd hN TB hcode S ok hi hg ht hel hs I h fun a s5 hR => ?_)
  refine Calls.spliced_nil ?_
  exact call_all_gx hr I.ok.frames hR fun b H' s' I' hq => ⟨.bl b, H', I', rfl, hq⟩
theorem pe_anyG {c P : Addr} {elt tg iter : Expr} {ifs : List Expr} {scope : Scope} {own : List (Str × Nat)} {p pos gpos : Pos} {wi : TI} {g : TG} {tt : TT} {te : TE} {k : Nat}
    (hr : Room (k + 1) X.A) (hc : X.calm = true) (hgl : Gl X "any") (hm : X.mg "any" = none) (hN : X.N.Nodup) (TB : TabB X.base X.mg c P) (hcode : X.env.code = .ref c) (S : GxS scope) (ok : BlkOk X.N X.env.scope scope own) (hi : PI X tg iter wi)
    (hg : ∀ (s4 : Shared) (H4 : Hp) (C : Addr) (code : Value) (A' : Around) (fp : List Addr), Room k A' → PG (gxOf X s4 H4 (genEnv scope (cloFrom X.env.cells scope.names []) C code builtinsNs X.env) A' fp) tg g)
    (ht : ∀ (s4 : Shared) (H4 : Hp) (C : Addr) (code : Value) (A' : Around) (fp : List Addr), Room k A' → PTs (gxOf X s4 H4 (genEnv scope (cloFrom X.env.cells scope.names []) C code builtinsNs X.env) A' fp) ifs tt)
    (hel : ∀ (s4 : Shared) (H4 : Hp) (C : Addr) (code : Value) (A' : Around) (fp : List Addr), Room k A' → PE (gxOf X s4 H4 (genEnv scope (cloFrom X.env.cells scope.names []) C code builtinsNs X.env) A' fp) elt te)
    (hs : ∀ v, genFold iter X.env v = pure v := by intro _; rfl)
    (he : starEach [.GeneratorExp elt [⟨tg, iter, ifs, 0⟩] scope gpos] X.env = (false, eval (.GeneratorExp elt [⟨tg, iter, ifs, 0⟩] scope gpos) X.env) :: starEach [] X.env := by rfl) :
    PE X (.Call (.Name "any" p) [.GeneratorExp elt [⟨tg, iter, ifs, 0⟩] scope gpos] [] pos) (tAnyG P wi g tt te (own.map (·.2))) := by
  refine ⟨fun pins s σ H Q I h => ?_⟩
  refine wpAny_Call_Name_kw (ld_blt I hgl hm boot_any ?_)
  refine PyProof.Rows.callWith_builtin1 ?_ he (by rfl)
  rw [he]
  show wpAny _ _ (spliced ((false, eval (.GeneratorExp elt [⟨tg, iter, ifs, 0⟩] scope gpos) X.env) :: backTo pos (starEach [] X.env))) _ _ s
  have hd : X.A.depth < recursionLimit := by have := hr.dp; omega
  refine Calls.spliced_cons (gx_make (k := k) hd hN TB hcode S ok hi hg ht hel hs I h fun a s5 hR => ?_)
  refine Calls.spliced_nil ?_
  exact call_any_gx hr I.ok.frames hR fun b H' s' I' hq => ⟨.bl b, H', I', rfl, hq⟩
end
end GA
set_option Elab.async false
set_option linter.all false
set_option maxRecDepth 100000
set_option maxHeartbeats 2000000
namespace GA
open PySem PySem.Spec PyProof.Rows L2 GxR

section
variable {G : Cx} {fp : List Addr} {tn : Nat → Heap → Prop} {τ : L2.St} {a S : Addr} {go : Obj} {gn : Nat}
/-- the consumer's list at S: apart from all of the generator's -/
structure SOk (G : Cx) (fp : List Addr) (a S : Addr) : Prop where
  loc : S ≠ G.env.locals
  fs : S ∉ G.fs
  young : S ∈ G.ex ∨ G.s_0.heap.objs.size ≤ S
  cell : ∀ x c, G.env.cells.lookup x = some c → c ≠ S
  pn : ∀ p ∈ G.pn, p.1 ≠ S
  gen : a ≠ S
  it : S ∉ fp
/-- the list that the consumer fills -/
def CPl (S : Addr) : TCp := fun acc cp => ∃ (vals : Array Value) (c : Nat), cp = [(S, lstObj vals c)] ∧ Vals acc vals.toList ∧ acc.length ≤ sizeLine
def KTup : TK := fun acc y H' nx => acc.length < sizeLine ∧ nx (acc ++ [y]) H'
/-- the consumer has written at S -/
theorem invG_write {i : Nat} {o o' : Obj} {H : Hp} {s : Shared} {h' : Heap} (sk : SOk G fp a S) (hkeep : ∀ i h h', tn i h → (∀ b ∈ fp, ∀ o, h.get? b = some o → h'.get? b = some o) → tn i h') (hI : InvG G fp tn τ a go i [(S, o)] H s)
    (hk : ∀ b u, b ≠ S → s.heap.get? b = some u → h'.get? b = some u) (hS : h'.get? S = some o') (hd : ∀ v, o'.data ≠ .cell v) : InvG G fp tn τ a go i [(S, o')] H { s with heap := h' } := by
  obtain ⟨I, st, hz, hafp, hcfp⟩ := hI
  have hSn : H S = none := (I.pin (S, o) (List.mem_append_right _ (List.mem_cons_of_mem _ List.mem_cons_self))).2.1
  have I0 : Inv G [(a, go)] τ H s := I.pins_of fun p hp => I.pin p (List.mem_append_right _ (by rw [List.mem_singleton.mp hp]; exact List.mem_cons_self))
  have I1 : Inv G [(a, go)] τ H { s with heap := h', toks := s.toks } := I0.turned (t' := s.toks) hk hSn sk.loc sk.young sk.cell fun p hp => by
    rcases List.mem_append.mp hp with hp | hp
    · exact sk.pn p hp
    · rw [List.mem_singleton.mp hp]; exact sk.gen
  refine ⟨I1.pins_of fun p hp => ?_, hkeep _ _ _ st fun b hb u e => hk b u (fun z => sk.it (z ▸ hb)) e, hz, hafp, fun p hp => by rw [List.mem_singleton.mp hp]; exact sk.it⟩
  rcases List.mem_cons.mp hp with e | hp
  · exact I1.pin p (List.mem_append_right _ (by rw [e]; exact List.mem_cons_self))
  · rw [List.mem_singleton.mp hp]
    exact ⟨hS, hSn, sk.loc, sk.fs, hd⟩

theorem extend_loop {A : Around} {Q : List V → Hp → Prop} {R : Result → Shared → Prop} {res : Value} (hh : A.handled = none) (hroom : A.depth < recursionLimit) (hgo : ∀ h : Heap, h.get? a = some go → h.IsGen a gn) (sk : SOk G fp a S)
    (hkeep : ∀ i h h', tn i h → (∀ b ∈ fp, ∀ o, h.get? b = some o → h'.get? b = some o) → tn i h')
    (hR : ∀ acc vals c H' s', Inv G [(a, go), (S, lstObj vals c)] τ H' s' → Vals acc vals.toList → acc.length ≤ sizeLine → Q acc H' → R (.ok (.ret res)) s') :
    ∀ (n : Nat) (s : Shared), s.heap.IsGen a gn → s.heap.NoLimit → Liv (model G.prog G.w) A.in1.in1 (RG G τ a go (CPl S) Q) (YG G fp tn τ a go (CPl S) KTup) gn n s →
      codeAny (model G.prog G.w) A (.builtin "list.extend.loop" ⟨[.ref S, .ref a, res], []⟩) R s := by
  intro n
  induction n using Nat.strongRecOn with
  | ind n ih =>
    intro s hg hl hv
    refine codeAny_builtin F.entry_extend_loop ?_
    rw [Around.under_plainId F.plain_extend_loop _]
    show wpAny _ A.in1 (pyNext (.ref a) >>= _) _ _ s
    refine wpAny_bind (next_gx (A := A.in1) hh hroom hgo hg hl hv (fun v y H' cp acc i Nx gs' s' rv hI hcp h0 hK hgs' kont => ?_) (fun H' cp acc s' I' hcp h0 hst => ?_))
    · obtain ⟨vals, c, rfl, rvs, hle⟩ := hcp
      obtain ⟨hlt, hnx⟩ := hK
      have hS' : s'.heap.get? S = some (lstObj vals c) := (hI.1.pin (S, lstObj vals c) (List.mem_append_right _ (List.mem_cons_of_mem _ List.mem_cons_self))).1
      have hsz : vals.size = acc.length := by
        have e1 := rvs.length
        have e2 : vals.toList.length = vals.size := by simp
        omega
      show wpAny _ A.in1 (updateSeq S (·.push v) >>= _) _ _ _
      refine wpAny_bind ?_
      refine wpAny_updateSeq hS' rfl ?_ (by rw [hsz]; omega) (by show (vals.push v).size ≤ sizeLine + 1; rw [Array.size_push, hsz]; omega)
      have hS2 := Heap.get?_update_self (Obj.mapSeq (·.push v)) hS' rfl
      have hI2 := invG_write (o' := lstObj (vals.push v) _) sk hkeep hI (h' := s'.heap.update S (Obj.mapSeq (·.push v))) (fun b u hb e => (Heap.get?_update_other _ _ (Ne.symm hb)).trans e) hS2 (fun v q => by cases q)
      obtain ⟨m, e, lv⟩ := kont _ (acc ++ [y]) H' { s' with heap := s'.heap.update S (Obj.mapSeq (·.push v)) } hI2 ⟨vals.push v, _, rfl, by rw [Array.toList_push]; exact rvs.append (.cons rv .nil), by rw [List.length_append, List.length_singleton]; omega⟩ hnx hgs'
      exact wpAny_pure ⟨plainId_quiet F.plain_extend_loop _, ih m (by omega) _ (pin_gen hgo hI2.1) hI2.1.nolimit lv⟩
    · obtain ⟨vals, c, rfl, rvs, hle⟩ := hcp
      exact wpAny_pure (hR acc vals c H' s' I' rvs hle hst)
end

section
variable {X : Cx} {pins : List (Addr × Obj)} {σ : L2.St}
theorem collect_gx {Q : List V → Hp → Prop} {Q' : List Value → Shared → Prop} {E : Value → Shared → Prop} {k : Nat} {a : Addr} {s : Shared} {A : Around} (hh : A.handled = none) (hdp : A.depth + 1 + 3 * k + 5 < recursionLimit) (hun : A.units + 5 + 16 * k + 200 < cLine) (hf : A.frames = some X.stack)
    (h : Ready X pins σ Q KTup k a s)
    (hQ : ∀ acc vals H' s', Inv X pins σ H' s' → Vals acc vals → acc.length ≤ sizeLine → Q acc H' → Q' vals s') : wpAny (model X.prog X.w) A (collect (.ref a)) Q' E s := by
  obtain ⟨s4, H4, cenv, fp, tn, τ, go, gn, c, I4, f4, ha, lt4, hkeep, hgo, hgs, wake⟩ := h
  have rd : Room k (A.in1.in1.deeper cenv) := ⟨hh, by show A.depth + 1 + 3 * k + 5 < _; omega, by show A.units + 1 + 1 + 3 + 16 * k + 200 < _; omega⟩
  obtain ⟨hI, go0⟩ := wake A.in1.in1 (CPl s.heap.objs.size) rd hf
  have hG := pin_gen hgo hI.1
  have halt : a < s.heap.objs.size := let ⟨_, _, _, e, _⟩ := hG; Heap.lt_size e
  have sz4 : s4.heap.objs.size ≤ s.heap.objs.size := Nat.le_of_lt (Nat.lt_of_le_of_lt ha halt)
  have fok := hI.1.fpOk (Nat.le_refl _) (hI.1.hok.fresh (Nat.le_refl _))
  have sk : SOk (gxOf X s4 H4 cenv (A.in1.in1.deeper cenv) fp) fp a s.heap.objs.size := ⟨fok.2.1, fok.2.2.1, fok.2.2.2.1, fok.2.2.2.2.1, fun p hp => (nomatch hp), Nat.ne_of_lt halt, fun hb => absurd (lt4 _ hb) (Nat.not_lt.mpr sz4)⟩
  have hSa : s.heap.objs.size ≠ a := Nat.ne_of_gt halt
  unfold collect
  refine wpAny_bind (wpAny_runValue (codeAny_builtin F.entry_proto_collect ?_))
  rw [Around.under_plainId F.plain_proto_collect _]
  show wpAny _ A.in1 (newList [] >>= fun l => again (.builtin "list.__iadd__" ⟨[l, .ref a], []⟩)) _ _ s
  refine wpAny_bind (wpAny_newObj_type ?_)
  refine wpAny_pure ⟨plainId_quiet F.plain_list_iadd _, codeAny_builtin F.entry_list_iadd ?_⟩
  rw [Around.under_plainId F.plain_list_iadd _]
  have k1 : ∀ b o, s.heap.get? b = some o → (s.heap.push { cls := .type "list", data := .seq ([] : List Value).toArray }).get? b = some o := fun b o e => Heap.get?_push_of_some _ e
  have gty : (Shared.TypeIs { s with heap := s.heap.push { cls := .type "list", data := .seq ([] : List Value).toArray } } (.ref a) "generator") := Heap.IsGen.typeIs (s := { s with heap := _ }) (hG.keeps k1)
  show wpAny _ A.in1 (Builtin.List.listExtendWith (.ref s.heap.objs.size) (.ref a) (.ref s.heap.objs.size)) _ _ _
  unfold Builtin.List.listExtendWith
  refine wpAny_bind (wpAny_typeOf gty ?_)
  have h1 : Builtin.List.listSameRef (.ref s.heap.objs.size) (.ref a) = false := by simp [Builtin.List.listSameRef, hSa]
  have h2 : (Value.type "generator" == Value.type "list") = false := by decide
  have h3 : (Value.type "generator" == Value.type "tuple") = false := by decide
  simp only [h1, h2, h3, Bool.or_false, Bool.false_eq_true, if_false]
  refine wpAny_bind (wpAny_pyIter_gen (s := { s with heap := _ }) (hG.keeps k1) ?_)
  refine wpAny_bind (wpAny_holding ?_)
  unfold Builtin.List.listLengthHint
  refine wpAny_bind (wpAny_specialOf gty F.gen_no_len ?_)
  show wpAny _ A.in1 (specialOf (Value.ref a) (Str.ofString "__length_hint__") >>= _) _ _ _
  refine wpAny_bind (wpAny_specialOf gty F.gen_no_hint ?_)
  refine wpAny_pure ?_
  show wpAny _ A.in1 (rule "list.extend.makes-room" >>= fun _ => Builtin.List.listTouch (.ref s.heap.objs.size) >>= fun _ =>
    again (.builtin "list.extend.loop" ⟨[.ref s.heap.objs.size, .ref a, .ref s.heap.objs.size], []⟩)) _ _ _
  refine wpAny_bind (wpAny_rule ?_)
  have hS₁ : (s.heap.push { cls := .type "list", data := .seq ([] : List Value).toArray }).get? s.heap.objs.size = some { cls := .type "list", data := .seq ([] : List Value).toArray } := Heap.get?_push_size _ rfl
  refine wpAny_bind ?_
  show wpAny _ A.in1 (updateSeq s.heap.objs.size (·.push .none) >>= fun _ => updateSeq s.heap.objs.size (·.pop)) _ _ _
  refine wpAny_bind (wpAny_updateSeq hS₁ rfl ?_)
  have hS₂ := Heap.get?_update_self (Obj.mapSeq (·.push Value.none)) hS₁ rfl
  refine wpAny_updateSeq (hz := by seq_fits) hS₂ rfl ?_
  have hS₃ := Heap.get?_update_self (Obj.mapSeq (·.pop)) hS₂ rfl
  have oth : ∀ b o, s.heap.get? b = some o →
      (((s.heap.push { cls := .type "list", data := .seq ([] : List Value).toArray }).update s.heap.objs.size (Obj.mapSeq (·.push Value.none))).update s.heap.objs.size (Obj.mapSeq (·.pop))).get? b = some o :=
    fun b o e => (Heap.get?_update_other _ _ (Ne.symm (Nat.ne_of_lt (Heap.lt_size e)))).trans ((Heap.get?_update_other _ _ (Ne.symm (Nat.ne_of_lt (Heap.lt_size e)))).trans (k1 b o e))
  generalize hh2 : ((s.heap.push { cls := .type "list", data := .seq ([] : List Value).toArray }).update s.heap.objs.size (Obj.mapSeq (·.push Value.none))).update s.heap.objs.size (Obj.mapSeq (·.pop)) = h2 at hS₃ oth ⊢
  have hS4 : ∃ c, h2.get? s.heap.objs.size = some (lstObj #[] c) := ⟨_, hS₃⟩
  obtain ⟨c2, hS4⟩ := hS4
  -- the generator's context, the list pinned
  have J1 : InvG (gxOf X s4 H4 cenv (A.in1.in1.deeper cenv) fp) fp tn τ a go 0 [(s.heap.objs.size, lstObj #[] c2)] H4 { s with heap := h2 } := by
    obtain ⟨I, st, hz, hafp, _⟩ := hI
    have I1 : Inv (gxOf X s4 H4 cenv (A.in1.in1.deeper cenv) fp) [(a, go)] τ H4 { s with heap := h2, toks := s.toks } := I.kept (t' := s.toks) oth
    refine ⟨I1.pins_of fun p hp => ?_, hkeep _ _ _ st fun b hb u e => oth b u e, hz, hafp, fun p hp => by rw [List.mem_singleton.mp hp]; exact sk.it⟩
    rcases List.mem_cons.mp hp with e | hp
    · exact I1.pin p (List.mem_append_right _ (by rw [e]; exact List.mem_cons_self))
    · rw [List.mem_singleton.mp hp]
      exact ⟨hS4, fok.1, sk.loc, sk.fs, fun v q => by cases q⟩
  obtain ⟨n, sg⟩ := go0 [(s.heap.objs.size, lstObj #[] c2)] (({ s with heap := h2 } : Shared).setGen gn .running) (invG_setGen J1 rfl) ⟨#[], c2, rfl, .nil, Nat.zero_le _⟩
  have hgs2 : ({ s with heap := h2 } : Shared).gens[gn]? = some (.fresh c) := hgs
  refine wpAny_pure ⟨plainId_quiet F.plain_extend_loop _, extend_loop (G := gxOf X s4 H4 cenv (A.in1.in1.deeper cenv) fp) (fp := fp) (tn := tn) (τ := τ) (gn := gn) (go := go) (Q := Q) hh (by omega) hgo sk hkeep (fun acc vals c' H' s' I' rvs hle hq => ?_) n _ (pin_gen hgo J1.1) J1.1.nolimit ⟨_, hgs2, rfl, sg⟩⟩
  have hS' : s'.heap.get? s.heap.objs.size = some (lstObj vals c') := (I'.pin (s.heap.objs.size, lstObj vals c') (List.mem_append_right _ (List.mem_cons_of_mem _ List.mem_cons_self))).1
  show wpAny _ A (load s.heap.objs.size >>= _) _ _ s'
  refine wpAny_bind (wpAny_load hS' ?_)
  exact wpAny_pure (hQ acc vals.toList H' s' (gx_back I4 f4 I') rvs hle hq)
end
end GA
set_option Elab.async false
set_option linter.all false
set_option maxRecDepth 100000
set_option maxHeartbeats 2000000
namespace GA
open PySem PySem.Spec PyProof.Rows L2 GxR
section
variable {X : Cx} {pins : List (Addr × Obj)} {σ : L2.St}
theorem ready_gen {Q : List V → Hp → Prop} {K : TK} {k : Nat} {a : Addr} {s : Shared} (A : Around) (hh : A.handled = none) (hdp : A.depth + 1 + 3 * k + 5 < recursionLimit) (hun : A.units + 3 + 16 * k + 200 < cLine) (hf : A.frames = some X.stack)
    (h : Ready X pins σ Q K k a s) : s.TypeIs (.ref a) "generator" := by
  obtain ⟨s4, H4, cenv, fp, tn, τ, go, gn, c, I4, f4, ha, lt4, hkeep, hgo, hgs, wake⟩ := h
  obtain ⟨hI, _⟩ := wake A (fun _ cp => cp = []) ⟨hh, hdp, hun⟩ hf
  exact Heap.IsGen.typeIs (pin_gen hgo hI.1)
theorem code_tuple_gx {Q : List V → Hp → Prop} {Q₁ : Value → Shared → Prop} {E : Value → Shared → Prop} {k : Nat} {a : Addr} {s : Shared} {A : Around} (hh : A.handled = none) (hdp : A.depth + 1 + 3 * k + 5 < recursionLimit) (hun : A.units + 7 + 16 * k + 200 < cLine) (hf : A.frames = some X.stack)
    (h : Ready X pins σ Q KTup k a s)
    (hQ : ∀ acc vals H' s', Inv X pins σ H' s' → Vals acc vals → acc.length ≤ sizeLine → Q acc H' → Q₁ (.ref s'.heap.objs.size) { s' with heap := s'.heap.push { cls := .type "tuple", data := .seq vals.toArray } }) :
    codeAny (model X.prog X.w) A (.call (.builtin "tuple.__new__") ⟨[.type "tuple", .ref a], []⟩) (wants Q₁ E) s := by
  refine codeAny_of_tree ?_
  show wpAny _ A.in1 (do checkBuiltinCall "tuple.__new__" ⟨[.type "tuple", .ref a], []⟩; again (.builtin "tuple.__new__" ⟨[.type "tuple", .ref a], []⟩)) _ _ s
  refine wpAny_bind (wpAny_of_eq (F.newCall_tuple_1 _) (wpAny_pure ⟨plainId_quiet F.plain_tuple_new _, codeAny_builtin F.entry_tuple_new ?_⟩))
  rw [Around.under_plainId F.plain_tuple_new _]
  have hsub := sub_tuple_self
  have hinit := init_tuple_lookup
  have hmh := madeHere_tuple
  have hTI := ready_gen A hh (by omega) (by omega) hf h
  have key : wpAny (model X.prog X.w) A.in1 (collect (.ref a)) (fun vals s' => ∃ acc H', Inv X pins σ H' s' ∧ Vals acc vals ∧ acc.length ≤ sizeLine ∧ Q acc H') (fun _ _ => False) s :=
    collect_gx (A := A.in1) hh hdp (by show A.units + 1 + 5 + 16 * k + 200 < _; omega) hf h fun acc vals H' s' I' rv hl hq => ⟨acc, H', I', rv, hl, hq⟩
  have step : ∀ {Q2 : List Value → Shared → Prop} {E2 : Value → Shared → Prop}, (∀ vals s' acc H', Inv X pins σ H' s' → Vals acc vals → acc.length ≤ sizeLine → Q acc H' → Q2 vals s') → wpAny (model X.prog X.w) A.in1 (collect (.ref a)) Q2 E2 s := fun hq =>
    wpAny_mono key (fun vals s' ⟨acc, H', I', rv, hl, q⟩ => hq vals s' acc H' I' rv hl q) fun _ _ z => False.elim z
  wp_walk using wpAny_typeOf hTI, step
  intro vals s' acc H' I' rv hl hq
  show wpAny _ _ (Builtin.Tuple.tupleExact vals.toArray >>= fun v => ret v) _ _ _
  unfold Builtin.Tuple.tupleExact
  refine wpAny_bind (wpAny_newObj_type ?_ (by show vals.toArray.size ≤ sizeLine; rw [List.size_toArray, ← rv.length]; exact hl))
  exact wpAny_pure (hQ acc vals H' s' I' rv hl hq)
theorem call_tuple_gx {Q : List V → Hp → Prop} {Q' : Value → Shared → Prop} {E : Value → Shared → Prop} {k : Nat} {a : Addr} {s : Shared} (hr : Room (k + 1) X.A) (hf : X.A.frames = some X.stack) (h : Ready X pins σ Q KTup k a s)
    (hQ : ∀ acc H' s' t, Inv X pins σ (upd H' t (.tup acc)) s' → H' t = none → Q acc H' → Q' (.ref t) s') : wpAny (model X.prog X.w) X.A (call (.type "tuple") [.ref a]) Q' E s := by
  refine callType_codes (Q₁ := fun obj s₁ => s₁.TypeIs obj "tuple" ∧ Q' obj s₁) F.called_tuple (F.typeCall_tuple_1 _) F.entry_object_init
    (code_tuple_gx (A := X.A.in1) (k := k) hr.hd (by have := hr.dp; show X.A.depth + 1 + 3 * k + 5 < _; omega) (by have := hr.un; show X.A.units + 1 + 7 + 16 * k + 200 < _; omega) hf h fun acc vals H' s' I' rv hl hq => ⟨⟨_, Heap.get?_push_size _ rfl, rfl⟩, ?_⟩) fun obj s₁ h₁ => ?_
  · have I2 : Inv X pins σ (upd H' s'.heap.objs.size (.tup acc)) { s' with heap := s'.heap.push { cls := .type "tuple", data := .seq vals.toArray } } :=
      I'.laid (t' := s'.toks) (fun b o e => Heap.get?_push_of_some _ e) (Nat.le_refl _) (show ObjOk X.prog X.w _ _ _ (.tup acc) from ⟨hl, vals, rv, IsTup.new _ _⟩)
    exact hQ acc H' _ _ I2 (I'.hok.fresh (Nat.le_refl _)) hq
  · exact ⟨h₁.1, F.args_object_init_2 obj _, object_init_meets F.called_tuple.init.lookup F.called_tuple.made (by decide) X.prog X.w X.A.in1 _ s₁ ⟨h₁.1, rfl, h₁.2⟩⟩

/-- tuple(elt for tg in iter if ..) -/
def tTupG (P : Addr) (wi : TI) (g : TG) (tt : TT) (te : TE) (vs : List Nat) : TE := fun σ H Q => tGx P wi g tt te vs (fun acc H' => ∀ t, H' t = none → Q (.ref t) (upd H' t (.tup acc))) KTup σ H
theorem pe_tupG {c P : Addr} {elt tg iter : Expr} {ifs : List Expr} {scope : Scope} {own : List (Str × Nat)} {p pos gpos : Pos} {wi : TI} {g : TG} {tt : TT} {te : TE} {k : Nat}
    (hr : Room (k + 1) X.A) (hgl : Gl X "tuple") (hm : X.mg "tuple" = none) (hN : X.N.Nodup) (TB : TabB X.base X.mg c P) (hcode : X.env.code = .ref c) (S : GxS scope) (ok : BlkOk X.N X.env.scope scope own) (hi : PI X tg iter wi)
    (hg : ∀ (s4 : Shared) (H4 : Hp) (C : Addr) (code : Value) (A' : Around) (fp : List Addr), Room k A' → PG (gxOf X s4 H4 (genEnv scope (cloFrom X.env.cells scope.names []) C code builtinsNs X.env) A' fp) tg g)
    (ht : ∀ (s4 : Shared) (H4 : Hp) (C : Addr) (code : Value) (A' : Around) (fp : List Addr), Room k A' → PTs (gxOf X s4 H4 (genEnv scope (cloFrom X.env.cells scope.names []) C code builtinsNs X.env) A' fp) ifs tt)
    (hel : ∀ (s4 : Shared) (H4 : Hp) (C : Addr) (code : Value) (A' : Around) (fp : List Addr), Room k A' → PE (gxOf X s4 H4 (genEnv scope (cloFrom X.env.cells scope.names []) C code builtinsNs X.env) A' fp) elt te)
    (hs : ∀ v, genFold iter X.env v = pure v := by intro _; rfl)
    (he : starEach [.GeneratorExp elt [⟨tg, iter, ifs, 0⟩] scope gpos] X.env = (false, eval (.GeneratorExp elt [⟨tg, iter, ifs, 0⟩] scope gpos) X.env) :: starEach [] X.env := by rfl) :
    PE X (.Call (.Name "tuple" p) [.GeneratorExp elt [⟨tg, iter, ifs, 0⟩] scope gpos] [] pos) (tTupG P wi g tt te (own.map (·.2))) := by
  refine ⟨fun pins s σ H Q I h => ?_⟩
  refine Call_ (ld_blt I hgl hm boot_tuple ?_)
  refine PyProof.Rows.callWith_type1 ?_ he (by rfl)
  rw [he]
  show wpAny _ _ (spliced ((false, eval (.GeneratorExp elt [⟨tg, iter, ifs, 0⟩] scope gpos) X.env) :: backTo pos (starEach [] X.env))) _ _ s
  have hd : X.A.depth < recursionLimit := by have := hr.dp; omega
  refine Calls.spliced_cons (gx_make (k := k) hd hN TB hcode S ok hi hg ht hel hs I h fun a s5 hR => ?_)
  refine Calls.spliced_nil ?_
  exact call_tuple_gx hr I.ok.frames hR fun acc H' s' t I' hn hq => ⟨.ref t, _, I', rfl, hq t hn⟩
end
end GA
set_option Elab.async false
set_option linter.all false
set_option maxRecDepth 100000
set_option maxHeartbeats 2000000
namespace GA
open PySem PySem.Spec PyProof.Rows L2 GxR
def intOf : V → Int
  | .int i => i
  | _ => 0
def accSum (acc : List V) : Int := (acc.map intOf).sum
theorem accSum_push {acc : List V} {b : Int} : accSum (acc ++ [.int b]) = accSum acc + b := by
  unfold accSum
  rw [List.map_append, List.sum_append]
  show _ + (b + 0) = _
  rw [Int.add_zero]
/-- the consumer «sum», from 0 -/
def KSum : TK := fun acc y H' nx => ∃ b, y = .int b ∧ InLong b ∧ InLong (accSum acc + b) ∧ nx (acc ++ [y]) H'
def CPs (S : Addr) : TCp := fun acc cp => ∃ (tk : Tok) (c : Nat), cp = [(S, lstObj #[.int (accSum acc) tk] c)]
section
variable {G : Cx} {fp : List Addr} {tn : Nat → Heap → Prop} {τ : L2.St} {a S : Addr} {go : Obj} {gn : Nat}
theorem invG_tok {i : Nat} {cp : List (Addr × Obj)} {H : Hp} {s : Shared} (h : InvG G fp tn τ a go i cp H s) (k : Nat) : InvG G fp tn τ a go i cp H { s with toks := k } := ⟨h.1.tok k, h.2⟩
theorem sum_loop {A : Around} {Q : VK} {R : Result → Shared → Prop} (hh : A.handled = none) (hroom : A.depth < recursionLimit) (hgo : ∀ h : Heap, h.get? a = some go → h.IsGen a gn) (sk : SOk G fp a S)
    (hkeep : ∀ i h h', tn i h → (∀ b ∈ fp, ∀ o, h.get? b = some o → h'.get? b = some o) → tn i h')
    (hR : ∀ acc cp tk H' s', Inv G ((a, go) :: cp) τ H' s' → Q (.int (accSum acc)) H' → R (.ok (.ret (.int (accSum acc) tk))) s') :
    ∀ (n : Nat) (s : Shared) (tot : Int) (tk : Tok) (c : Nat), s.heap.IsGen a gn → s.heap.NoLimit → s.heap.get? S = some (lstObj #[.int tot tk] c) → Liv (model G.prog G.w) A.in1.in1 (RG G τ a go (CPs S) fun acc H' => Q (.int (accSum acc)) H') (YG G fp tn τ a go (CPs S) KSum) gn n s →
      codeAny (model G.prog G.w) A (.builtin "sum.loop" ⟨[.ref a, .ref S, rawInt 0, rawInt 0], []⟩) R s := by
  intro n
  induction n using Nat.strongRecOn with
  | ind n ih =>
    intro s tot tk c hg hl hS hv
    refine codeAny_builtin F.entry_sum_loop ?_
    rw [Around.under_plainId F.plain_sum_loop _]
    show wpAny _ A.in1 (seqItems? (.ref S) >>= _) _ _ s
    refine wpAny_bind (wpAny_seqItems hS rfl ?_)
    show wpAny _ A.in1 (tryCatch (pyNext (.ref a)) _ >>= _) _ _ s
    refine wpAny_bind (wpAny_tryCatch (next_gx (A := A.in1) hh hroom hgo hg hl hv (fun v y H' cp acc i Nx gs' s' rv hI hcp h0 hK hgs' kont => ?_) (fun H' cp acc s' I' hcp h0 hst => ?_)))
    · obtain ⟨tk2, c2, rfl⟩ := hcp
      have e := h0 _ (List.mem_singleton.mpr rfl)
      rw [show s.heap.get? S = _ from hS] at e
      have e2 : lstObj #[.int tot tk] c = lstObj #[.int (accSum acc) tk2] c2 := Option.some.inj e
      have et : tot = accSum acc := by
        have e3 := congrArg (fun o : Obj => match o.data with | .seq xs _ => xs[0]? | _ => none) e2
        have e4 : some (Value.int tot tk) = some (Value.int (accSum acc) tk2) := e3
        cases e4
        rfl
      obtain ⟨b, rfl, ⟨f1, f2⟩, ⟨f3, f4⟩, hnx⟩ := hK
      obtain ⟨tb, rfl⟩ := (show ∃ t, v = .int b t from rv)
      subst et
      have hS' : s'.heap.get? S = some (lstObj #[.int (accSum acc) tk2] c2) := (hI.1.pin (S, _) (List.mem_append_right _ (List.mem_cons_of_mem _ List.mem_cons_self))).1
      have hc : ((decide (-(2 ^ 63) ≤ b) && decide (b < 2 ^ 63)) && (decide (-(2 ^ 63) ≤ accSum acc + b) && decide (accSum acc + b < 2 ^ 63))) = true := by
        rw [decide_eq_true f1, decide_eq_true f2, decide_eq_true f3, decide_eq_true f4]
        rfl
      show wpAny _ A.in1 (if (_ : Bool) = true then (mkInt (accSum acc + b) >>= _) else _) _ _ _
      split
      · refine wpAny_bind (wpAny_mkInt ?_)
        show wpAny _ A.in1 (updateSeq S (fun _ => #[.int (accSum acc + b) s'.toks]) >>= _) _ _ _
        refine wpAny_bind (wpAny_updateSeq hS' rfl ?_)
        have hS2 := Heap.get?_update_self (Obj.mapSeq (fun _ => #[Value.int (accSum acc + b) s'.toks])) hS' rfl
        obtain ⟨c3, hS3⟩ : ∃ c3, (s'.heap.update S (Obj.mapSeq (fun _ => #[Value.int (accSum acc + b) s'.toks]))).get? S = some (lstObj #[.int (accSum acc + b) s'.toks] c3) := ⟨_, hS2⟩
        have hI2 := invG_write sk hkeep (invG_tok hI (s'.toks + 1)) (h' := s'.heap.update S (Obj.mapSeq (fun _ => #[Value.int (accSum acc + b) s'.toks]))) (fun b u hb e => (Heap.get?_update_other _ _ (Ne.symm hb)).trans e) hS3 (fun v q => by cases q)
        obtain ⟨m, em, lv⟩ := kont _ (acc ++ [.int b]) H' _ hI2 ⟨s'.toks, c3, by rw [accSum_push]⟩ hnx hgs'
        exact wpAny_pure ⟨plainId_quiet F.plain_sum_loop _, ih m (by omega) _ _ _ c3 (pin_gen hgo hI2.1) hI2.1.nolimit hS3 lv⟩
      · rename_i hneg
        exact absurd hc hneg
    · obtain ⟨tk2, c2, rfl⟩ := hcp
      have e := h0 _ (List.mem_singleton.mpr rfl)
      rw [show s.heap.get? S = _ from hS] at e
      have e2 : lstObj #[.int tot tk] c = lstObj #[.int (accSum acc) tk2] c2 := Option.some.inj e
      have et : tot = accSum acc := by
        have e3 := congrArg (fun o : Obj => match o.data with | .seq xs _ => xs[0]? | _ => none) e2
        have e4 : some (Value.int tot tk) = some (Value.int (accSum acc) tk2) := e3
        cases e4
        rfl
      subst et
      exact wpAny_pure (hR acc _ tk H' s' I' hst)
end
section
variable {X : Cx} {pins : List (Addr × Obj)} {σ : L2.St}
theorem call_sum_gx {Q : VK} {Q' : Value → Shared → Prop} {E : Value → Shared → Prop} {k : Nat} {a : Addr} {s : Shared} (hr : Room (k + 1) X.A) (hf : X.A.frames = some X.stack) (h : Ready X pins σ (fun acc H' => Q (.int (accSum acc)) H') KSum k a s)
    (hQ : ∀ n tk H' s', Inv X pins σ H' s' → Q (.int n) H' → Q' (.int n tk) s') : wpAny (model X.prog X.w) X.A (call (.builtin "sum") [.ref a]) Q' E s := by
  obtain ⟨s4, H4, cenv, fp, tn, τ, go, gn, c, I4, f4, ha, lt4, hkeep, hgo, hgs, wake⟩ := h
  have rd : Room k (X.A.in1.in1.deeper cenv) := ⟨hr.hd, by have := hr.dp; show X.A.depth + 1 + 3 * k + 5 < _; omega, by have := hr.un; show X.A.units + 1 + 1 + 3 + 16 * k + 200 < _; omega⟩
  obtain ⟨hI, go0⟩ := wake X.A.in1.in1 (CPs s.heap.objs.size) rd hf
  have hG := pin_gen hgo hI.1
  have halt : a < s.heap.objs.size := let ⟨_, _, _, e, _⟩ := hG; Heap.lt_size e
  have sz4 : s4.heap.objs.size ≤ s.heap.objs.size := Nat.le_of_lt (Nat.lt_of_le_of_lt ha halt)
  have fok := hI.1.fpOk (Nat.le_refl _) (hI.1.hok.fresh (Nat.le_refl _))
  have sk : SOk (gxOf X s4 H4 cenv (X.A.in1.in1.deeper cenv) fp) fp a s.heap.objs.size := ⟨fok.2.1, fok.2.2.1, fok.2.2.2.1, fok.2.2.2.2.1, fun p hp => (nomatch hp), Nat.ne_of_lt halt, fun hb => absurd (lt4 _ hb) (Nat.not_lt.mpr sz4)⟩
  refine call_function_tree F.kind_sum F.plain_sum F.entry_sum (F.args_sum1 _) ?_
  unfold Builtin.«sum»
  simp only [List.length_cons, List.length_nil]
  rw [if_neg (by decide)]
  refine wpAny_bind (wpAny_of_eq (show Builtin.Builtins.bindParams "sum" ["start"] 0 { } = pure [none] from rfl) ?_)
  refine wpAny_bind (wpAny_pyIter_gen hG ?_)
  refine wpAny_bind (wpAny_mkInt ?_)
  refine wpAny_bind (wpAny_pure ?_)
  simp only [List.forIn_cons, List.forIn_nil]
  refine wpAny_bind (wpAny_bind (wpAny_bind (wpAny_isInstance (T := "int") (b := false) (typeIs_int _ _ _) PySem.sub_int_str ?_)))
  simp only [Bool.false_eq_true, if_false]
  refine wpAny_pure (wpAny_bind (wpAny_bind (wpAny_isInstance (T := "int") (b := false) (typeIs_int _ _ _) PySem.sub_int_bytes ?_)))
  simp only [Bool.false_eq_true, if_false]
  refine wpAny_pure (wpAny_bind (wpAny_bind (wpAny_isInstance (T := "int") (b := false) (typeIs_int _ _ _) PySem.sub_int_bytearray ?_)))
  simp only [Bool.false_eq_true, if_false]
  refine wpAny_pure (wpAny_pure ?_)
  refine wpAny_bind (wpAny_newObj_type ?_)
  have kp : ∀ b o, s.heap.get? b = some o → (s.heap.push { cls := .type "list", data := .seq [Value.int 0 s.toks].toArray }).get? b = some o := fun b o e => Heap.get?_push_of_some _ e
  have hS : (s.heap.push { cls := .type "list", data := .seq [Value.int 0 s.toks].toArray }).get? s.heap.objs.size = some (lstObj #[.int 0 s.toks] 0) := Heap.get?_push_size _ rfl
  have J1 : InvG (gxOf X s4 H4 cenv (X.A.in1.in1.deeper cenv) fp) fp tn τ a go 0 [(s.heap.objs.size, lstObj #[.int 0 s.toks] 0)] H4 { s with heap := s.heap.push { cls := .type "list", data := .seq [Value.int 0 s.toks].toArray }, toks := s.toks + 1 } := by
    obtain ⟨I, st, hz, hafp, _⟩ := hI
    have I1 : Inv (gxOf X s4 H4 cenv (X.A.in1.in1.deeper cenv) fp) [(a, go)] τ H4 { s with heap := s.heap.push { cls := .type "list", data := .seq [Value.int 0 s.toks].toArray }, toks := s.toks + 1 } := I.kept (t' := s.toks + 1) kp
    refine ⟨I1.pins_of fun p hp => ?_, hkeep _ _ _ st fun b hb u e => kp b u e, hz, hafp, fun p hp => by rw [List.mem_singleton.mp hp]; exact sk.it⟩
    rcases List.mem_cons.mp hp with e | hp
    · exact I1.pin p (List.mem_append_right _ (by rw [e]; exact List.mem_cons_self))
    · rw [List.mem_singleton.mp hp]
      exact ⟨hS, fok.1, sk.loc, sk.fs, fun v q => by cases q⟩
  obtain ⟨n, sg⟩ := go0 [(s.heap.objs.size, lstObj #[.int 0 s.toks] 0)] (({ s with heap := s.heap.push { cls := .type "list", data := .seq [Value.int 0 s.toks].toArray }, toks := s.toks + 1 } : Shared).setGen gn .running) (invG_setGen J1 rfl) ⟨s.toks, 0, rfl⟩
  have hd : X.A.depth < recursionLimit := by have := hr.dp; omega
  have hgs2 : ({ s with heap := s.heap.push { cls := .type "list", data := .seq [Value.int 0 s.toks].toArray }, toks := s.toks + 1 } : Shared).gens[gn]? = some (.fresh c) := hgs
  refine wpAny_pure ⟨plainId_quiet F.plain_sum_loop _, sum_loop (G := gxOf X s4 H4 cenv (X.A.in1.in1.deeper cenv) fp) (fp := fp) (tn := tn) (τ := τ) (gn := gn) (go := go) (Q := Q) hr.hd hd hgo sk hkeep (fun acc cp tk H' s' I' hq => ?_) n _ 0 s.toks 0 (pin_gen hgo J1.1) J1.1.nolimit hS ⟨_, hgs2, rfl, sg⟩⟩
  exact hQ _ tk H' s' (gx_back I4 f4 I') hq

/-- sum(elt for tg in iter if ..) -/
def tSumG (P : Addr) (wi : TI) (g : TG) (tt : TT) (te : TE) (vs : List Nat) : TE := fun σ H Q => tGx P wi g tt te vs (fun acc H' => Q (.int (accSum acc)) H') KSum σ H
theorem pe_sumG {c P : Addr} {elt tg iter : Expr} {ifs : List Expr} {scope : Scope} {own : List (Str × Nat)} {p pos gpos : Pos} {wi : TI} {g : TG} {tt : TT} {te : TE} {k : Nat}
    (hr : Room (k + 1) X.A) (hgl : Gl X "sum") (hm : X.mg "sum" = none) (hN : X.N.Nodup) (TB : TabB X.base X.mg c P) (hcode : X.env.code = .ref c) (S : GxS scope) (ok : BlkOk X.N X.env.scope scope own) (hi : PI X tg iter wi)
    (hg : ∀ (s4 : Shared) (H4 : Hp) (C : Addr) (code : Value) (A' : Around) (fp : List Addr), Room k A' → PG (gxOf X s4 H4 (genEnv scope (cloFrom X.env.cells scope.names []) C code builtinsNs X.env) A' fp) tg g)
    (ht : ∀ (s4 : Shared) (H4 : Hp) (C : Addr) (code : Value) (A' : Around) (fp : List Addr), Room k A' → PTs (gxOf X s4 H4 (genEnv scope (cloFrom X.env.cells scope.names []) C code builtinsNs X.env) A' fp) ifs tt)
    (hel : ∀ (s4 : Shared) (H4 : Hp) (C : Addr) (code : Value) (A' : Around) (fp : List Addr), Room k A' → PE (gxOf X s4 H4 (genEnv scope (cloFrom X.env.cells scope.names []) C code builtinsNs X.env) A' fp) elt te)
    (hs : ∀ v, genFold iter X.env v = pure v := by intro _; rfl)
    (he : starEach [.GeneratorExp elt [⟨tg, iter, ifs, 0⟩] scope gpos] X.env = (false, eval (.GeneratorExp elt [⟨tg, iter, ifs, 0⟩] scope gpos) X.env) :: starEach [] X.env := by rfl) :
    PE X (.Call (.Name "sum" p) [.GeneratorExp elt [⟨tg, iter, ifs, 0⟩] scope gpos] [] pos) (tSumG P wi g tt te (own.map (·.2))) := by
  refine ⟨fun pins s σ H Q I h => ?_⟩
  refine wpAny_Call_Name_kw (ld_blt I hgl hm boot_sum ?_)
  refine PyProof.Rows.callWith_builtin1 ?_ he (by rfl)
  rw [he]
  show wpAny _ _ (spliced ((false, eval (.GeneratorExp elt [⟨tg, iter, ifs, 0⟩] scope gpos) X.env) :: backTo pos (starEach [] X.env))) _ _ s
  have hd : X.A.depth < recursionLimit := by have := hr.dp; omega
  refine Calls.spliced_cons (gx_make (k := k) hd hN TB hcode S ok hi hg ht hel hs I h fun a s5 hR => ?_)
  refine Calls.spliced_nil ?_
  exact call_sum_gx hr I.ok.frames hR fun n tk H' s' I' hq => ⟨.int n, H', I', ⟨tk, rfl⟩, hq⟩
end
end GA
set_option Elab.async false
set_option linter.all false
set_option maxRecDepth 100000
set_option maxHeartbeats 4000000
namespace J1
open PySem PySem.Spec PyProof.Rows L2 GxR GA
def top (i : Nat) : Stmt := PySem.Challenge.pw_juststeps_k00_error_classes.main.body.getD i (.Pass ⟨0, 0, 0, 0⟩)
/-! ### what is judged: things of tuples, lists, texts, integers, truths, None -/
inductive Da where
  | non
  | bl (b : Bool)
  | int (i : Int)
  | str (s : Str)
  | tup (l : List Da)
  | lst (l : List Da)
/-- a text of the size and the signs that there may be -/
structure SOk (s : Str) : Prop where
  len : s.length ≤ 10000
  ok : ∀ c ∈ s.cps.toList, c < 1114112
mutual
/-- the thing d is held at x; its lists stand where B says -/
inductive EncB (B : Addr → Prop) (H : Hp) : Da → V → Prop
  | non : EncB B H .non .non
  | bl (b : Bool) : EncB B H (.bl b) (.bl b)
  | int (i : Int) : EncB B H (.int i) (.int i)
  | str (s : Str) (h : SOk s) : EncB B H (.str s) (.str s)
  | tup {a : Addr} {xs : List V} {l : List Da} (h : H a = some (.tup xs)) (e : EncsB B H l xs) : EncB B H (.tup l) (.ref a)
  | lst {a : Addr} {xs : List V} {l : List Da} (h : H a = some (.lst xs)) (e : EncsB B H l xs) (b : B a) : EncB B H (.lst l) (.ref a)
inductive EncsB (B : Addr → Prop) (H : Hp) : List Da → List V → Prop
  | nil : EncsB B H [] []
  | cons {d : Da} {x : V} {l : List Da} {xs : List V} (h : EncB B H d x) (t : EncsB B H l xs) : EncsB B H (d :: l) (x :: xs)
end
abbrev Enc (H : Hp) : Da → V → Prop := EncB (fun _ => True) H
abbrev Encs (H : Hp) : List Da → List V → Prop := EncsB (fun _ => True) H
mutual
theorem EncB.any {B : Addr → Prop} {H : Hp} : ∀ {d : Da} {x : V}, EncB B H d x → Enc H d x
  | _, _, .non => .non
  | _, _, .bl b => .bl b
  | _, _, .int i => .int i
  | _, _, .str s h => .str s h
  | _, _, .tup h e => .tup h (EncsB.any e)
  | _, _, .lst h e _ => .lst h (EncsB.any e) trivial
theorem EncsB.any {B : Addr → Prop} {H : Hp} : ∀ {l : List Da} {xs : List V}, EncsB B H l xs → Encs H l xs
  | _, _, .nil => .nil
  | _, _, .cons h t => .cons (EncB.any h) (EncsB.any t)
end
/-- all that stood stands; tables may have grown -/
def Grow (H H' : Hp) : Prop := ∀ a o, H a = some o → H' a = some o ∨ (∃ ps, o = .tbl ps) ∧ TabG H' a
theorem Grow.refl (H : Hp) : Grow H H := fun _ _ h => .inl h
theorem Grow.trans {H H1 H2 : Hp} (x : Grow H H1) (y : Grow H1 H2) : Grow H H2 := fun a o h => by
  rcases x a o h with h1 | ⟨h1, h2⟩
  · exact y a o h1
  · obtain ⟨ps, q, _⟩ := h2
    rcases y a _ q with z | ⟨_, z⟩
    · exact .inr ⟨h1, ps, z, by assumption⟩
    · exact .inr ⟨h1, z⟩
theorem Grow.new {H : Hp} {a : Addr} {o : HO} (h : H a = none) : Grow H (upd H a o) := fun b u e => .inl (by rw [upd_ne (ne_of_none e h)]; exact e)
theorem Grow.tab {P : Addr} {H H' : Hp} (h : TabG H P) (t : Tabbed P H H') : Grow H H' := fun b u e => by
  by_cases z : b = P
  · subst z
    obtain ⟨ps, q, _⟩ := h
    rw [q] at e
    cases e
    exact .inr ⟨⟨ps, rfl⟩, t.1⟩
  · exact .inl ((t.2 b z).trans e)
theorem Grow.tup {H H' : Hp} (g : Grow H H') {a : Addr} {xs : List V} (h : H a = some (.tup xs)) : H' a = some (.tup xs) := by
  rcases g a _ h with q | ⟨⟨ps, q⟩, _⟩
  · exact q
  · cases q
theorem Grow.lst {H H' : Hp} (g : Grow H H') {a : Addr} {xs : List V} (h : H a = some (.lst xs)) : H' a = some (.lst xs) := by
  rcases g a _ h with q | ⟨⟨ps, q⟩, _⟩
  · exact q
  · cases q
theorem Grow.tabs {H H' : Hp} (g : Grow H H') {P : Addr} (h : TabG H P) : TabG H' P := by
  obtain ⟨ps, q, z⟩ := h
  rcases g P _ q with q | ⟨_, q⟩
  · exact ⟨ps, q, z⟩
  · exact q
/-- .. but for the list at w, which is none of B's -/
def GrowW (w : Addr) (H H' : Hp) : Prop := ∀ a o, a ≠ w → H a = some o → H' a = some o ∨ (∃ ps, o = .tbl ps) ∧ TabG H' a
mutual
theorem EncB.growW {B : Addr → Prop} {w : Addr} {H H' : Hp} (g : GrowW w H H') (hB : ¬ B w) (hw : ∀ xs, H w ≠ some (.tup xs)) : ∀ {d : Da} {x : V}, EncB B H d x → EncB B H' d x
  | _, _, .non => .non
  | _, _, .bl b => .bl b
  | _, _, .int i => .int i
  | _, _, .str s h => .str s h
  | _, _, .tup (a := a) (xs := xs) h e => .tup (by
      rcases g a _ (fun z => hw xs (z ▸ h)) h with q | ⟨⟨ps, q⟩, _⟩
      · exact q
      · cases q) (EncsB.growW g hB hw e)
  | _, _, .lst (a := a) h e b => .lst (by
      rcases g a _ (fun z => hB (z ▸ b)) h with q | ⟨⟨ps, q⟩, _⟩
      · exact q
      · cases q) (EncsB.growW g hB hw e) b
theorem EncsB.growW {B : Addr → Prop} {w : Addr} {H H' : Hp} (g : GrowW w H H') (hB : ¬ B w) (hw : ∀ xs, H w ≠ some (.tup xs)) : ∀ {l : List Da} {xs : List V}, EncsB B H l xs → EncsB B H' l xs
  | _, _, .nil => .nil
  | _, _, .cons h t => .cons (EncB.growW g hB hw h) (EncsB.growW g hB hw t)
end
mutual
theorem EncB.grow {B : Addr → Prop} {H H' : Hp} (g : Grow H H') : ∀ {d : Da} {x : V}, EncB B H d x → EncB B H' d x
  | _, _, .non => .non
  | _, _, .bl b => .bl b
  | _, _, .int i => .int i
  | _, _, .str s h => .str s h
  | _, _, .tup h e => .tup (g.tup h) (EncsB.grow g e)
  | _, _, .lst h e b => .lst (g.lst h) (EncsB.grow g e) b
theorem EncsB.grow {B : Addr → Prop} {H H' : Hp} (g : Grow H H') : ∀ {l : List Da} {xs : List V}, EncsB B H l xs → EncsB B H' l xs
  | _, _, .nil => .nil
  | _, _, .cons h t => .cons (EncB.grow g h) (EncsB.grow g t)
end
theorem EncsB.length {B : Addr → Prop} {H : Hp} : ∀ {l : List Da} {xs : List V}, EncsB B H l xs → l.length = xs.length
  | _, _, .nil => rfl
  | _, _, .cons _ t => by rw [List.length_cons, List.length_cons, EncsB.length t]
theorem EncsB.get {B : Addr → Prop} {H : Hp} : ∀ {l : List Da} {xs : List V} {i : Nat} {x : V}, EncsB B H l xs → xs[i]? = some x → ∃ d, l[i]? = some d ∧ EncB B H d x
  | _, _, _, _, .nil, e => by cases e
  | _, _, 0, _, .cons h _, e => by cases e; exact ⟨_, rfl, h⟩
  | _, _, i + 1, _, .cons _ t, e => by
    obtain ⟨d, q, z⟩ := EncsB.get t (i := i) e
    exact ⟨d, q, z⟩
theorem EncsB.got {B : Addr → Prop} {H : Hp} : ∀ {l : List Da} {xs : List V} {i : Nat} {d : Da}, EncsB B H l xs → l[i]? = some d → ∃ x, xs[i]? = some x ∧ EncB B H d x
  | _, _, _, _, .nil, e => by cases e
  | _, _, 0, _, .cons h _, e => by cases e; exact ⟨_, rfl, h⟩
  | _, _, i + 1, _, .cons _ t, e => by
    obtain ⟨d, q, z⟩ := EncsB.got t (i := i) e
    exact ⟨d, q, z⟩
def tyD : Da → String
  | .non => "NoneType"
  | .bl _ => "bool"
  | .int _ => "int"
  | .str _ => "str"
  | .tup _ => "tuple"
  | .lst _ => "list"
theorem EncB.ty {B : Addr → Prop} {K : PySem.W.Frag} {H : Hp} {d : Da} {x : V} (h : EncB B H d x) : TyX K H x (.type (tyD d)) := by
  cases h with
  | non => exact .base .non
  | bl b => exact .base (.bl b)
  | int i => exact .base (.int i)
  | str s _ => exact .base (.str s)
  | tup h e => exact .base (.tup h)
  | lst h e _ => exact .base (.lst h)
/-- isinstance's answer -/
def isD (d : Da) (t : String) : Bool := match d, t with
  | .bl _, "int" => true
  | d, t => tyD d == t
theorem kb_NoneType_int : kitB "NoneType" "int" = some false := by decide +kernel
theorem kb_NoneType_bool : kitB "NoneType" "bool" = some false := by decide +kernel
theorem kb_NoneType_str : kitB "NoneType" "str" = some false := by decide +kernel
theorem kb_NoneType_tuple : kitB "NoneType" "tuple" = some false := by decide +kernel
theorem kb_bool_int : kitB "bool" "int" = some true := by decide +kernel
theorem kb_bool_bool : kitB "bool" "bool" = some true := by decide +kernel
theorem kb_bool_str : kitB "bool" "str" = some false := by decide +kernel
theorem kb_bool_tuple : kitB "bool" "tuple" = some false := by decide +kernel
theorem kb_int_int : kitB "int" "int" = some true := by decide +kernel
theorem kb_int_bool : kitB "int" "bool" = some false := by decide +kernel
theorem kb_int_str : kitB "int" "str" = some false := by decide +kernel
theorem kb_int_tuple : kitB "int" "tuple" = some false := by decide +kernel
theorem kb_str_int : kitB "str" "int" = some false := by decide +kernel
theorem kb_str_bool : kitB "str" "bool" = some false := by decide +kernel
theorem kb_str_str : kitB "str" "str" = some true := by decide +kernel
theorem kb_str_tuple : kitB "str" "tuple" = some false := by decide +kernel
theorem kb_tuple_int : kitB "tuple" "int" = some false := by decide +kernel
theorem kb_tuple_bool : kitB "tuple" "bool" = some false := by decide +kernel
theorem kb_tuple_str : kitB "tuple" "str" = some false := by decide +kernel
theorem kb_tuple_tuple : kitB "tuple" "tuple" = some true := by decide +kernel
theorem kb_list_int : kitB "list" "int" = some false := by decide +kernel
theorem kb_list_bool : kitB "list" "bool" = some false := by decide +kernel
theorem kb_list_str : kitB "list" "str" = some false := by decide +kernel
theorem kb_list_tuple : kitB "list" "tuple" = some false := by decide +kernel
def bI : Da → Bool
  | .bl _ => true
  | .int _ => true
  | _ => false
def bB : Da → Bool
  | .bl _ => true
  | _ => false
def bS : Da → Bool
  | .str _ => true
  | _ => false
def bT : Da → Bool
  | .tup _ => true
  | _ => false
theorem kitD (d : Da) : kitB (tyD d) "int" = some (bI d) ∧ kitB (tyD d) "bool" = some (bB d) ∧ kitB (tyD d) "str" = some (bS d) ∧ kitB (tyD d) "tuple" = some (bT d) := match d with
  | .non => ⟨kb_NoneType_int, kb_NoneType_bool, kb_NoneType_str, kb_NoneType_tuple⟩
  | .bl _ => ⟨kb_bool_int, kb_bool_bool, kb_bool_str, kb_bool_tuple⟩
  | .int _ => ⟨kb_int_int, kb_int_bool, kb_int_str, kb_int_tuple⟩
  | .str _ => ⟨kb_str_int, kb_str_bool, kb_str_str, kb_str_tuple⟩
  | .tup _ => ⟨kb_tuple_int, kb_tuple_bool, kb_tuple_str, kb_tuple_tuple⟩
  | .lst _ => ⟨kb_list_int, kb_list_bool, kb_list_str, kb_list_tuple⟩
/-- a def as the globals hold it -/
structure Df (K : PySem.W.Frag) (mg : Str → Option Value) (x : Str) (ps : List Str) (f : Addr) (fd : FuncData) : Prop where
  g : mg x = some (.ref f)
  k : PySem.W.keepIn K (.ref f) = true
  b : Binds K fd ps []
theorem ifT {p : Prop} [Decidable p] {A B : Prop} (h : p) (a : A) : if decide p = true then A else B := by
  rw [decide_eq_true h]
  exact iteT a
theorem ifF {p : Prop} [Decidable p] {A B : Prop} (h : ¬ p) (b : B) : if decide p = true then A else B := by
  rw [decide_eq_false h]
  exact iteF b
/-! ### a def that holds generator expressions: its code object at c -/
structure FunC (K : PySem.W.Frag) (x qual : Str) (st : Stmt) (f : Addr) (fd : FuncData) (c : Addr) : Prop where
  ex : ∃ (oc : Value) (od : Option Addr) (kV doc pm : Value) (an : Option Addr) (ct : Value) (osl : Array (Option Value)),
    fd = PySem.W.fnOf x qual (defArgs st) (defBody st) (defScope st) .none kV doc pm an (.ref c) ct ∧ K.lookup f = some ⟨oc, od, .func fd, osl⟩ ∧ PySem.W.codeIn K (.ref c) qual = true
  kp : PySem.W.keepIn K (.ref f) = true
theorem FunC.ok {P : Program} {w : World} {K : PySem.W.Frag} {mg : Str → Option Value} {base : Heap} {x qual : Str} {st : Stmt} {f c : Addr} {fd : FuncData} {N ps : List Str} {k : Nat} {sp : Sp} (F : FunC K x qual st f fd c) (S : FnScope N ps (defScope st)) (len : ∀ vs H Q E, sp vs H Q E → vs.length = ps.length)
    (hbody : ∀ (A : Around) (outer : List Env) (s : Shared) (H : Hp) (vs : List V) (Q : VK) (E : XK), Room k (A.deeper (envOfC qual (defScope st) s.heap.objs.size f (.ref c))) → sp vs H Q E →
      ∃ t, PSs (cxOf CX0 P w K mg base N qual (defScope st) f (.ref c) A outer s H E).nox (defBody st) t ∧ t { nx := fun _ H' => Q .non H', rt := Q } (start N vs) H) : FnOk P w K mg base CX0 (k + 1) f fd ps sp := by
  obtain ⟨oc, od, kV, doc, pm, an, ct, osl, rfl, lk, hcd⟩ := F.ex
  refine fn_of lk hcd S len fun A outer s H vs Q E hr hsp => ?_
  obtain ⟨t, h, q⟩ := hbody A outer s H vs Q E hr hsp
  exact ⟨t, h.nox, q⟩

/-! ### over a tuple that stands still -/
theorem turns_tup {K : PySem.W.Frag} {a : Addr} {xs : List V} {g : TG} {tt : TT} {te : TE} {vs : List Nat} {σ : L2.St} {stop : List V → Hp → Prop} {KK : TK} {H0 : Hp} (Pv : Nat → List V → Hp → Prop) (h0 : Pv 0 [] H0) (hl : ∀ i acc H, i ≤ xs.length → Pv i acc H → H a = some (.tup xs))
    (hs : ∀ i x acc H, xs[i]? = some x → Pv i acc H → g x (wipe σ vs) H fun σ2 H2 => wipe σ2 vs = wipe σ vs ∧ tt σ2 H2 fun b H3 => if b = true then te σ2 H3 fun y H4 => KK acc y H4 (Pv (i + 1)) else Pv (i + 1) acc H3)
    (hd : ∀ acc H, Pv xs.length acc H → stop acc H) : ∃ W : Nat → Nat → List V → Hp → Prop, (∃ m, W 0 m [] H0) ∧ Turns (Itt K a) g tt te vs σ stop KK W := by
  refine ⟨fun i m acc H => m = xs.length - i ∧ i ≤ xs.length ∧ Pv i acc H, ⟨xs.length, by simp, Nat.zero_le _, h0⟩, ?_⟩
  rintro i m acc H ⟨rfl, hi, p⟩
  have q : SqT K H a xs := SqT.of (hl i acc H hi p)
  by_cases hlt : i < xs.length
  · refine .inr ⟨⟨xs, xs[i], q, by simp [hlt]⟩, Pv (i + 1), fun acc' H' p' => ⟨xs.length - (i + 1), by omega, rfl, hlt, p'⟩, fun x H' y => ?_⟩
    obtain ⟨e, y⟩ := y
    subst e
    exact hs i x acc _ (y xs q) p
  · have e : i = xs.length := by omega
    subst e
    exact .inl ⟨⟨xs, q, Nat.le_refl _⟩, hd acc H p⟩
end J1
set_option Elab.async false
set_option linter.all false
set_option maxRecDepth 100000
set_option maxHeartbeats 4000000
namespace J1
open PySem PySem.Spec PyProof.Rows L2 GxR GA
abbrev sInt : Stmt := top 46
abbrev sBet : Stmt := top 47
abbrev sNum : Stmt := top 48
abbrev sFac : Stmt := top 49
abbrev sTup : Stmt := top 50
abbrev sNam : Stmt := top 51
abbrev sLow : Stmt := top 52
abbrev sHig : Stmt := top 53
abbrev sKin : Stmt := top 54
abbrev sFir : Stmt := top 55
theorem c11 : FnScope ["thing"] ["thing"] (defScope sInt) := ⟨rfl, rfl, rfl, by decide +kernel, rfl, by decide +kernel, by decide +kernel⟩
theorem c12 : FnScope ["thing", "least", "most"] ["thing", "least", "most"] (defScope sBet) := ⟨rfl, rfl, rfl, by decide +kernel, rfl, by decide +kernel, by decide +kernel⟩
theorem c13 : FnScope ["thing"] ["thing"] (defScope sNum) := ⟨rfl, rfl, rfl, by decide +kernel, rfl, by decide +kernel, by decide +kernel⟩
theorem c14 : FnScope ["thing"] ["thing"] (defScope sFac) := ⟨rfl, rfl, rfl, by decide +kernel, rfl, by decide +kernel, by decide +kernel⟩
theorem c15 : FnScope ["thing", "least", "most"] ["thing", "least", "most"] (defScope sTup) := ⟨rfl, rfl, rfl, by decide +kernel, rfl, by decide +kernel, by decide +kernel⟩
theorem c16 : FnScope ["thing"] ["thing"] (defScope sNam) := ⟨rfl, rfl, rfl, by decide +kernel, rfl, by decide +kernel, by decide +kernel⟩
theorem c17 : FnScope ["thing"] ["thing"] (defScope sLow) := ⟨rfl, rfl, rfl, by decide +kernel, rfl, by decide +kernel, by decide +kernel⟩
theorem c18 : FnScope ["thing"] ["thing"] (defScope sHig) := ⟨rfl, rfl, rfl, by decide +kernel, rfl, by decide +kernel, by decide +kernel⟩
theorem c19 : FnScope ["thing"] ["thing"] (defScope sKin) := ⟨rfl, rfl, rfl, by decide +kernel, rfl, by decide +kernel, by decide +kernel⟩
theorem c20 : FnScope ["thing"] ["thing"] (defScope sFir) := ⟨rfl, rfl, rfl, by decide +kernel, rfl, by decide +kernel, by decide +kernel⟩
/-! ### what they tell -/
def isInt (d : Da) : Bool := bI d && !bB d
def isBet (lo hi : Int) : Da → Bool
  | .int i => decide (lo ≤ i) && decide (i ≤ hi)
  | _ => false
def isTu (lo hi : Int) : Da → Bool
  | .tup l => decide (lo ≤ (l.length : Int)) && decide ((l.length : Int) ≤ hi)
  | _ => false
def wordsL : List Str := ["def", "else", "give", "if", "kind", "let", "match", "whole"]
def head1 (s : Str) : Str := ⟨#[s.cps.toList.headD 0]⟩
def isNamS (s : Str) : Bool := decide (1 ≤ (s.length : Int)) && (decide ((s.length : Int) ≤ 10) && (Txt.isascii s && (Txt.isalnum s && (Txt.isalpha (head1 s) && !inV (.str s) (wordsL.map V.str)))))
def isNam : Da → Bool
  | .str s => isNamS s
  | _ => false
def isLow : Da → Bool
  | .str s => isNamS s && Txt.islower (head1 s)
  | _ => false
def isHig : Da → Bool
  | .str s => isNamS s && Txt.isupper (head1 s)
  | _ => false
def isKin : Da → Bool
  | .str s => decide (s = "whole") || isHig (.str s)
  | _ => false
def firstW : Da → Str
  | .tup (.str s :: _) => s
  | _ => ""
/-- a judge of one thing that lays nothing -/
def spF (g : Da → Bool) : Sp := fun vs H Q _ => ∃ x d, vs = [x] ∧ Enc H d x ∧ Q (.bl (g d)) H
def spF3 (g : Int → Int → Da → Bool) : Sp := fun vs H Q _ => ∃ x d lo hi, vs = [x, .int lo, .int hi] ∧ Enc H d x ∧ Q (.bl (g lo hi d)) H
def spW : Sp := fun vs H Q _ => ∃ x d, vs = [x] ∧ Enc H d x ∧ Q (.str (firstW d)) H
/-- the globals that they use -/
structure Gn (K : PySem.W.Frag) (mg : Str → Option Value) : Prop where
  nI : mg "isinstance" = none
  ni : mg "int" = none
  nb : mg "bool" = none
  nt : mg "tuple" = none
  ns : mg "str" = none
  nl : mg "len" = none
  na : mg "all" = none
  signs : ∃ t, mg "MOST_SIGNS" = some (.int 10 t)
  numb : ∃ t, mg "MOST_NUMBER" = some (.int 1000000000000 t)
  fact : ∃ t, mg "MOST_FACTOR" = some (.int 1000000 t)
  whole : ∃ t, mg "WHOLE" = some (.str "whole" t)
  words : ∃ W, mg "WORDS" = some (.ref W) ∧ ∀ H, SqT K H W (wordsL.map V.str)
section
variable {P : Program} {w : World} {K : PySem.W.Frag} {mg : Str → Option Value} {base : Heap}
theorem ok_int {f : Addr} {fd : FuncData} (F : Fun K "is_integer" "is_integer" sInt f fd) (N : Gn K mg) : FnOk P w K mg base CX0 1 f fd ["thing"] (spF isInt) := by
  refine F.ok c11 (fun vs H Q E h => ?_) (fun cdv A outer s H vs Q E hr h => ?_)
  · obtain ⟨x, d, rfl, _⟩ := h
    rfl
  · obtain ⟨x, d, rfl, en, k⟩ := h
    obtain ⟨kI, kB, _, _⟩ := kitD d
    refine ⟨_, pss_one (ps_ret (pe_and (pe_callB call_isi (by rfl) N.nI boot_isinstance (pa_cons (pv 0) (pa_cons (pe_bltn (v := .ty "int") rfl N.ni (by decide +kernel) rfl) pa_nil)))
      (pe_one (pe_not (pe_callB call_isi (by rfl) N.nI boot_isinstance (pa_cons (pv 0) (pa_cons (pe_bltn (v := .ty "bool") rfl N.nb (by decide +kernel) rfl) pa_nil))))))), ?_⟩
    refine ⟨_, rfl, _, _, _, _, _, rfl, .ty "int", en.ty, kit_ty kI, _, rfl, ite2 (fun e => ?_) (fun e => ?_)⟩
    · refine ⟨_, rfl, _, _, _, _, _, rfl, .ty "bool", en.ty, kit_ty kB, _, rfl, ?_⟩
      unfold isInt at k
      rw [e, Bool.true_and] at k
      exact k
    · unfold isInt at k
      rw [Bool.eq_false_iff.mpr e, Bool.false_and] at k
      exact k
theorem ok_bet {f fI : Addr} {fd fdI : FuncData} (F : Fun K "is_between" "is_between" sBet f fd) (GI : FnOk P w K mg base CX0 1 fI fdI ["thing"] (spF isInt)) (I : Df K mg "is_integer" ["thing"] fI fdI) : FnOk P w K mg base CX0 2 f fd ["thing", "least", "most"] (spF3 isBet) := by
  refine F.ok c12 (fun vs H Q E h => ?_) (fun cdv A outer s H vs Q E hr h => ?_)
  · obtain ⟨x, d, lo, hi, rfl, _⟩ := h
    rfl
  · obtain ⟨x, d, lo, hi, rfl, en, k⟩ := h
    refine ⟨_, pss_one (ps_ret (pe_and (pe_call GI hr (by rfl) I.g I.k I.b .nil pass0 (pa_cons (pv 0) pa_nil)) (pe_one (pe_chain op_le op_le (pv 1) (pv 0) (pv 2))))), ?_⟩
    refine ⟨_, rfl, _, _, rfl, en, _, rfl, ?_⟩
    cases en with
    | int i =>
      refine iteT ⟨_, rfl, _, rfl, _, _, rfl, rfl, _, rfl, ?_⟩
      by_cases h1 : lo ≤ i
      · refine ifT h1 ⟨_, rfl, _, _, rfl, rfl, ?_⟩
        have e : isBet lo hi (.int i) = decide (i ≤ hi) := by show (decide (lo ≤ i) && decide (i ≤ hi)) = _; rw [decide_eq_true h1, Bool.true_and]
        rw [e] at k
        exact k
      · refine ifF h1 ?_
        have e : isBet lo hi (.int i) = false := by show (decide (lo ≤ i) && decide (i ≤ hi)) = _; rw [decide_eq_false h1, Bool.false_and]
        rw [e] at k
        exact k
    | non => exact iteF k
    | bl b => exact iteF k
    | str s => exact iteF k
    | tup h e => exact iteF k
    | lst h e => exact iteF k
theorem ok_num {f fB : Addr} {fd fdB : FuncData} (F : Fun K "is_number" "is_number" sNum f fd) (N : Gn K mg) (GB : FnOk P w K mg base CX0 2 fB fdB ["thing", "least", "most"] (spF3 isBet)) (B : Df K mg "is_between" ["thing", "least", "most"] fB fdB) :
    FnOk P w K mg base CX0 3 f fd ["thing"] (spF (isBet (-1000000000000) 1000000000000)) := by
  obtain ⟨t, hn⟩ := N.numb
  refine F.ok c13 (fun vs H Q E h => ?_) (fun cdv A outer s H vs Q E hr h => ?_)
  · obtain ⟨x, d, rfl, _⟩ := h
    rfl
  · obtain ⟨x, d, rfl, en, k⟩ := h
    refine ⟨_, pss_one (ps_ret (pe_call GB hr (by rfl) B.g B.k B.b .nil pass0 (pa_cons (pv 0) (pa_cons (pe_un un_neg (pe_glob (v := .int 1000000000000) (by rfl) hn ⟨t, rfl⟩)) (pa_cons (pe_glob (v := .int 1000000000000) (by rfl) hn ⟨t, rfl⟩) pa_nil))))), ?_⟩
    exact ⟨_, rfl, _, rfl, _, d, _, _, rfl, en, k⟩
theorem ok_fac {f fB : Addr} {fd fdB : FuncData} (F : Fun K "is_factor" "is_factor" sFac f fd) (N : Gn K mg) (GB : FnOk P w K mg base CX0 2 fB fdB ["thing", "least", "most"] (spF3 isBet)) (B : Df K mg "is_between" ["thing", "least", "most"] fB fdB) :
    FnOk P w K mg base CX0 3 f fd ["thing"] (spF (isBet (-1000000) 1000000)) := by
  obtain ⟨t, hn⟩ := N.fact
  refine F.ok c14 (fun vs H Q E h => ?_) (fun cdv A outer s H vs Q E hr h => ?_)
  · obtain ⟨x, d, rfl, _⟩ := h
    rfl
  · obtain ⟨x, d, rfl, en, k⟩ := h
    refine ⟨_, pss_one (ps_ret (pe_call GB hr (by rfl) B.g B.k B.b .nil pass0 (pa_cons (pv 0) (pa_cons (pe_un un_neg (pe_glob (v := .int 1000000) (by rfl) hn ⟨t, rfl⟩)) (pa_cons (pe_glob (v := .int 1000000) (by rfl) hn ⟨t, rfl⟩) pa_nil))))), ?_⟩
    exact ⟨_, rfl, _, rfl, _, d, _, _, rfl, en, k⟩
theorem ok_tup {f : Addr} {fd : FuncData} (F : Fun K "is_tuple" "is_tuple" sTup f fd) (N : Gn K mg) : FnOk P w K mg base CX0 1 f fd ["thing", "least", "most"] (spF3 isTu) := by
  refine F.ok c15 (fun vs H Q E h => ?_) (fun cdv A outer s H vs Q E hr h => ?_)
  · obtain ⟨x, d, lo, hi, rfl, _⟩ := h
    rfl
  · obtain ⟨x, d, lo, hi, rfl, en, k⟩ := h
    obtain ⟨_, _, _, kT⟩ := kitD d
    refine ⟨_, pss_one (ps_ret (pe_and (pe_callB call_isi (by rfl) N.nI boot_isinstance (pa_cons (pv 0) (pa_cons (pe_bltn (v := .ty "tuple") rfl N.nt (by decide +kernel) rfl) pa_nil)))
      (pe_one (pe_chain op_le op_le (pv 1) (pe_callB call_len_seq (by rfl) N.nl PySem.boot_len (pa_cons (pv 0) pa_nil)) (pv 2))))), ?_⟩
    refine ⟨_, rfl, _, _, _, _, _, rfl, .ty "tuple", en.ty, kit_ty kT, _, rfl, ?_⟩
    cases en with
    | @tup a xs l h e =>
      have el := e.length
      refine iteT ⟨_, rfl, _, rfl, a, xs, rfl, .inr (SqT.of h), _, _, rfl, rfl, _, rfl, ?_⟩
      by_cases h1 : lo ≤ (xs.length : Int)
      · refine ifT h1 ⟨_, rfl, _, _, rfl, rfl, ?_⟩
        have e : isTu lo hi (.tup l) = decide ((xs.length : Int) ≤ hi) := by show (decide (lo ≤ (l.length : Int)) && decide ((l.length : Int) ≤ hi)) = _; rw [el, decide_eq_true h1, Bool.true_and]
        rw [e] at k
        exact k
      · refine ifF h1 ?_
        have e : isTu lo hi (.tup l) = false := by show (decide (lo ≤ (l.length : Int)) && decide ((l.length : Int) ≤ hi)) = _; rw [el, decide_eq_false h1, Bool.false_and]
        rw [e] at k
        exact k
    | non => exact iteF k
    | bl b => exact iteF k
    | int i => exact iteF k
    | str s => exact iteF k
    | lst h e => exact iteF k
theorem at0 {s : Str} (h : 1 ≤ (s.length : Int)) : atI s.cps.toList 0 = some (s.cps.toList.headD 0) := by
  have hl : 1 ≤ s.cps.toList.length := by
    have e : s.cps.toList.length = s.length := by rw [Array.length_toList]; rfl
    omega
  match e : s.cps.toList, hl with
  | [], hl => exact absurd hl (by decide)
  | c :: r, _ => simp [atI, ixN]
theorem sz {s : Str} (h : SOk s) : s.length ≤ sizeLine := by
  have := h.len
  rw [sizeLine_eq]
  omega
theorem words_flat : (wordsL.map V.str).all flatV = true := rfl
theorem ok_nam {f : Addr} {fd : FuncData} (F : Fun K "is_name" "is_name" sNam f fd) (N : Gn K mg) : FnOk P w K mg base CX0 1 f fd ["thing"] (spF isNam) := by
  obtain ⟨t, hn⟩ := N.signs
  obtain ⟨W, hW, hWs⟩ := N.words
  refine F.ok c16 (fun vs H Q E h => ?_) (fun cdv A outer s H vs Q E hr h => ?_)
  · obtain ⟨x, d, rfl, _⟩ := h
    rfl
  · obtain ⟨x, d, rfl, en, k⟩ := h
    obtain ⟨_, _, kS, _⟩ := kitD d
    refine ⟨_, pss_cons (ps_if (PW.pt (pw_or (pt_not (pt_val (pe_callB call_isi (by rfl) N.nI boot_isinstance (pa_cons (pv 0) (pa_cons (pe_bltn (v := .ty "str") rfl N.ns (by decide +kernel) rfl) pa_nil)))))
        (pw_or1 (pt_not (pt_chain op_le op_le pe_int (pe_callB call_len_str (by rfl) N.nl PySem.boot_len (pa_cons (pv 0) pa_nil)) (pe_glob (v := .int 10) (by rfl) hn ⟨t, rfl⟩)))))) (pss_one (ps_ret pe_bl)) pss_nil)
      (pss_one (ps_ret (pe_and (pe_bm0 PySem.F.plainAttrs_str PySem.F.slot_str_isascii PySem.F.type_str_isascii mt_isascii (pv 0))
        (pe_and (pe_bm0 PySem.F.plainAttrs_str PySem.F.slot_str_isalnum PySem.F.type_str_isalnum mt_isalnum (pv 0))
        (pe_and (pe_bm0 PySem.F.plainAttrs_str PySem.F.slot_str_isalpha PySem.F.type_str_isalpha mt_isalpha (pe_ix ix_str (pv 0) pe_int (fun _ _ => rfl)))
        (pe_one (pe_cmpR op_notIn_seq (pv 0) (pe_glob (v := .ref W) (by rfl) hW rfl) (by rfl)))))))), ?_⟩
    refine ⟨_, rfl, _, _, _, _, _, rfl, .ty "str", en.ty, kit_ty kS, _, rfl, ?_⟩
    cases en with
    | str s hz =>
      refine iteF ⟨_, rfl, s, rfl, sz hz, _, _, rfl, rfl, _, rfl, ?_⟩
      have ek : isNam (.str s) = (decide (1 ≤ (s.length : Int)) && (decide ((s.length : Int) ≤ 10) && (Txt.isascii s && (Txt.isalnum s && (Txt.isalpha (head1 s) && !inV (.str s) (wordsL.map V.str)))))) := rfl
      rw [ek] at k
      by_cases h1 : 1 ≤ (s.length : Int)
      · rw [decide_eq_true h1, Bool.true_and] at k
        refine ifT h1 ⟨_, _, rfl, rfl, _, rfl, ?_⟩
        by_cases h2 : (s.length : Int) ≤ 10
        · rw [decide_eq_true h2, Bool.true_and] at k
          rw [decide_eq_true h2]
          refine iteF ⟨_, rfl, rfl, _, rfl, rfl, trivial, _, rfl, ite2 (fun e => ?_) (fun e => ?_)⟩
          · rw [e, Bool.true_and] at k
            refine ⟨_, rfl, rfl, _, rfl, rfl, trivial, _, rfl, ite2 (fun e => ?_) (fun e => ?_)⟩
            · rw [e, Bool.true_and] at k
              refine ⟨_, rfl, s, _, _, rfl, rfl, sz hz, at0 h1, rfl, _, rfl, rfl, trivial, _, rfl, ite2 (fun e => ?_) (fun e => ?_)⟩
              · have e : Txt.isalpha (head1 s) = true := e
                rw [e, Bool.true_and] at k
                exact ⟨_, rfl, W, _, rfl, .inr (hWs H), rfl, words_flat, k⟩
              · have e : ¬ Txt.isalpha (head1 s) = true := e
                rw [Bool.eq_false_iff.mpr e, Bool.false_and] at k
                exact k
            · rw [Bool.eq_false_iff.mpr e, Bool.false_and] at k
              exact k
          · rw [Bool.eq_false_iff.mpr e, Bool.false_and] at k
            exact k
        · rw [decide_eq_false h2, Bool.false_and] at k
          rw [decide_eq_false h2]
          exact iteT k
      · rw [decide_eq_false h1, Bool.false_and] at k
        exact ifF h1 ⟨_, rfl, iteT k⟩
    | non => exact iteT k
    | bl b => exact iteT k
    | int i => exact iteT k
    | tup h e => exact iteT k
    | lst h e => exact iteT k
theorem nam_len {s : Str} (h : isNamS s = true) : 1 ≤ (s.length : Int) := by
  unfold isNamS at h
  rw [Bool.and_eq_true] at h
  exact of_decide_eq_true h.1
theorem ok_low {f fN : Addr} {fd fdN : FuncData} (F : Fun K "is_low" "is_low" sLow f fd) (GN : FnOk P w K mg base CX0 1 fN fdN ["thing"] (spF isNam)) (D : Df K mg "is_name" ["thing"] fN fdN) : FnOk P w K mg base CX0 2 f fd ["thing"] (spF isLow) := by
  refine F.ok c17 (fun vs H Q E h => ?_) (fun cdv A outer s H vs Q E hr h => ?_)
  · obtain ⟨x, d, rfl, _⟩ := h
    rfl
  · obtain ⟨x, d, rfl, en, k⟩ := h
    refine ⟨_, pss_one (ps_ret (pe_and (pe_call GN hr (by rfl) D.g D.k D.b .nil pass0 (pa_cons (pv 0) pa_nil))
      (pe_one (pe_bm0 PySem.F.plainAttrs_str PySem.F.slot_str_islower PySem.F.type_str_islower mt_islower (pe_ix ix_str (pv 0) pe_int (fun _ _ => rfl)))))), ?_⟩
    refine ⟨_, rfl, _, _, rfl, en, _, rfl, ?_⟩
    cases en with
    | str s hz =>
      refine ite2 (fun e => ?_) (fun e => ?_)
      · have e : isNamS s = true := e
        refine ⟨_, rfl, s, _, _, rfl, rfl, sz hz, at0 (nam_len e), rfl, _, rfl, rfl, trivial, ?_⟩
        have ek : isLow (.str s) = (isNamS s && Txt.islower (head1 s)) := rfl
        rw [ek, e, Bool.true_and] at k
        exact k
      · have e : ¬ isNamS s = true := e
        have ek : isLow (.str s) = (isNamS s && Txt.islower (head1 s)) := rfl
        rw [ek, Bool.eq_false_iff.mpr e, Bool.false_and] at k
        exact k
    | non => exact iteF k
    | bl b => exact iteF k
    | int i => exact iteF k
    | tup h e => exact iteF k
    | lst h e => exact iteF k
theorem ok_hig {f fN : Addr} {fd fdN : FuncData} (F : Fun K "is_high" "is_high" sHig f fd) (GN : FnOk P w K mg base CX0 1 fN fdN ["thing"] (spF isNam)) (D : Df K mg "is_name" ["thing"] fN fdN) : FnOk P w K mg base CX0 2 f fd ["thing"] (spF isHig) := by
  refine F.ok c18 (fun vs H Q E h => ?_) (fun cdv A outer s H vs Q E hr h => ?_)
  · obtain ⟨x, d, rfl, _⟩ := h
    rfl
  · obtain ⟨x, d, rfl, en, k⟩ := h
    refine ⟨_, pss_one (ps_ret (pe_and (pe_call GN hr (by rfl) D.g D.k D.b .nil pass0 (pa_cons (pv 0) pa_nil))
      (pe_one (pe_bm0 PySem.F.plainAttrs_str PySem.F.slot_str_isupper PySem.F.type_str_isupper mt_isupper (pe_ix ix_str (pv 0) pe_int (fun _ _ => rfl)))))), ?_⟩
    refine ⟨_, rfl, _, _, rfl, en, _, rfl, ?_⟩
    cases en with
    | str s hz =>
      refine ite2 (fun e => ?_) (fun e => ?_)
      · have e : isNamS s = true := e
        refine ⟨_, rfl, s, _, _, rfl, rfl, sz hz, at0 (nam_len e), rfl, _, rfl, rfl, trivial, ?_⟩
        have ek : isHig (.str s) = (isNamS s && Txt.isupper (head1 s)) := rfl
        rw [ek, e, Bool.true_and] at k
        exact k
      · have e : ¬ isNamS s = true := e
        have ek : isHig (.str s) = (isNamS s && Txt.isupper (head1 s)) := rfl
        rw [ek, Bool.eq_false_iff.mpr e, Bool.false_and] at k
        exact k
    | non => exact iteF k
    | bl b => exact iteF k
    | int i => exact iteF k
    | tup h e => exact iteF k
    | lst h e => exact iteF k
theorem ok_kin {f fH : Addr} {fd fdH : FuncData} (F : Fun K "is_kind" "is_kind" sKin f fd) (N : Gn K mg) (GH : FnOk P w K mg base CX0 2 fH fdH ["thing"] (spF isHig)) (D : Df K mg "is_high" ["thing"] fH fdH) : FnOk P w K mg base CX0 3 f fd ["thing"] (spF isKin) := by
  obtain ⟨t, hW⟩ := N.whole
  refine F.ok c19 (fun vs H Q E h => ?_) (fun cdv A outer s H vs Q E hr h => ?_)
  · obtain ⟨x, d, rfl, _⟩ := h
    rfl
  · obtain ⟨x, d, rfl, en, k⟩ := h
    obtain ⟨_, _, kS, _⟩ := kitD d
    refine ⟨_, pss_one (ps_ret (pe_and (pe_callB call_isi (by rfl) N.nI boot_isinstance (pa_cons (pv 0) (pa_cons (pe_bltn (v := .ty "str") rfl N.ns (by decide +kernel) rfl) pa_nil)))
      (pe_one (pe_or (pe_cmpR op_eq (pv 0) (pe_glob (v := .str "whole") (by rfl) hW ⟨t, rfl⟩) (nomark _)) (pe_one (pe_call GH hr (by rfl) D.g D.k D.b .nil pass0 (pa_cons (pv 0) pa_nil))))))), ?_⟩
    refine ⟨_, rfl, _, _, _, _, _, rfl, .ty "str", en.ty, kit_ty kS, _, rfl, ?_⟩
    cases en with
    | str s hz =>
      have ek : isKin (.str s) = (decide (s = "whole") || isHig (.str s)) := rfl
      refine iteT ⟨_, rfl, rfl, _, rfl, ?_⟩
      have eq1 : decide (V.str s = V.str "whole") = decide (s = "whole") := decide_eq_decide.mpr ⟨fun z => V.str.inj z, fun z => by rw [z]⟩
      show if decide (V.str s = V.str "whole") = true then _ else _
      rw [eq1]
      by_cases h1 : s = "whole"
      · rw [ek, decide_eq_true h1, Bool.true_or] at k
        exact ifT h1 k
      · rw [ek, decide_eq_false h1, Bool.false_or] at k
        exact ifF h1 ⟨_, rfl, _, _, rfl, .str s hz, k⟩
    | non => exact iteF k
    | bl b => exact iteF k
    | int i => exact iteF k
    | tup h e => exact iteF k
    | lst h e => exact iteF k
theorem ok_fir {f : Addr} {fd : FuncData} (F : Fun K "first_word" "first_word" sFir f fd) (N : Gn K mg) : FnOk P w K mg base CX0 1 f fd ["thing"] spW := by
  refine F.ok c20 (fun vs H Q E h => ?_) (fun cdv A outer s H vs Q E hr h => ?_)
  · obtain ⟨x, d, rfl, _⟩ := h
    rfl
  · obtain ⟨x, d, rfl, en, k⟩ := h
    obtain ⟨_, _, _, kT⟩ := kitD d
    refine ⟨_, pss_cons (ps_if (PW.pt (pw_and (pt_val (pe_callB call_isi (by rfl) N.nI boot_isinstance (pa_cons (pv 0) (pa_cons (pe_bltn (v := .ty "tuple") rfl N.nt (by decide +kernel) rfl) pa_nil))))
        (pw_and (pt_truth (pv 0) (fun _ => rfl)) (pw_and1 (pt_val (pe_callB call_isi (by rfl) N.nI boot_isinstance (pa_cons (pe_ix ix_tup (pv 0) pe_int (fun _ _ => rfl)) (pa_cons (pe_bltn (v := .ty "str") rfl N.ns (by decide +kernel) rfl) pa_nil)))))))) (pss_one (ps_ret (pe_ix ix_tup (pv 0) pe_int (fun _ _ => rfl)))) pss_nil)
      (pss_one (ps_ret pe_str)), ?_⟩
    refine ⟨_, rfl, _, _, _, _, _, rfl, .ty "tuple", en.ty, kit_ty kT, _, rfl, ?_⟩
    cases en with
    | @tup a xs l h e =>
      cases e with
      | nil => exact iteT ⟨_, rfl, _, .inr (.inl ⟨_, SqT.of h, rfl⟩), iteF k⟩
      | @cons d x l xs h1 t =>
        obtain ⟨_, _, kS, _⟩ := kitD d
        have g0 : atI (x :: xs) 0 = some x := at_of (j := 0) rfl rfl
        refine iteT ⟨_, rfl, _, .inr (.inl ⟨_, SqT.of h, rfl⟩), iteT ⟨_, rfl, a, _, _, _, rfl, rfl, SqT.of h, g0, _, _, _, _, _, rfl, .ty "str", h1.ty, kit_ty kS, _, rfl, ?_⟩⟩
        cases h1 with
        | str s hz => exact iteT ⟨_, rfl, a, _, _, _, rfl, rfl, SqT.of h, g0, k⟩
        | non => exact iteF k
        | bl b => exact iteF k
        | int i => exact iteF k
        | tup h e => exact iteF k
        | lst h e => exact iteF k
    | non => exact iteF k
    | bl b => exact iteF k
    | int i => exact iteF k
    | str s _ => exact iteF k
    | lst h e => exact iteF k
end
end J1
set_option Elab.async false
set_option linter.all false
set_option maxRecDepth 100000
set_option maxHeartbeats 4000000
namespace J1
open PySem PySem.Spec PyProof.Rows L2 GxR GA
abbrev sKinds : Stmt := top 60
abbrev sEntry : Stmt := top 61
abbrev sMaker : Stmt := top 62
/-- a judge of one thing; tables may grow; T: the tables that it needs -/
def spG (T : Hp → Prop) (g : Da → Bool) : Sp := fun vs H Q _ => ∃ x d, vs = [x] ∧ Enc H d x ∧ T H ∧ ∀ H', Grow H H' → Q (.bl (g d)) H'
def Stays (T : Hp → Prop) : Prop := ∀ H H', Grow H H' → T H → T H'
theorem wipe_set {σ : L2.St} {j : Nat} {x : V} : wipe ((wipe σ [j]).set j (some x)) [j] = wipe σ [j] := by
  show (((σ.set j none).set j (some x)).set j none) = σ.set j none
  rw [List.set_set, List.set_set]
theorem all_take {l : List Da} {g : Da → Bool} {i : Nat} {d : Da} (h : (l.take i).all g = true) (e : l[i]? = some d) : (l.take (i + 1)).all g = g d := by
  rw [List.take_succ, e, List.all_append, h]
  simp
theorem all_not {l : List Da} {g : Da → Bool} {i : Nat} {d : Da} (e : l[i]? = some d) (h : g d = false) : l.all g = false := by
  rw [Bool.eq_false_iff]
  intro z
  rw [List.all_eq_true] at z
  rw [z d (List.mem_of_getElem? e)] at h
  cases h
/-- all(judge for x in t): behind the walked tuple -/
theorem rd_all {K : PySem.W.Frag} {P a : Addr} {xs : List V} {l : List Da} {j : Nat} {te : TE} {gj : Da → Bool} {T : Hp → Prop} {σ : L2.St} {H1 : Hp} {Q : VK} (ha : H1 a = some (.tup xs)) (el : Encs H1 l xs) (st : Stays T) (hT : T H1) (hP : TabG H1 P)
    (hel : ∀ x d H R, Enc H d x → T H → (∀ H', Grow H H' → R (.bl (gj d)) H') → te ((wipe σ [j]).set j (some x)) H R) (hQ : ∀ H', Grow H1 H' → Q (.bl (l.all gj)) H') :
    TabG H1 P ∧ ∀ H2, Tabbed P H1 H2 → ∃ W : Nat → Nat → List V → Hp → Prop, (∃ m, W 0 m [] H2) ∧ Turns (Itt K a) (gName j) tYes te [j] σ (fun _ H' => Q (.bl true) H') (KAll Q) W := by
  refine ⟨hP, fun H2 t => turns_tup (xs := xs) (fun i _ H => Grow H1 H ∧ (l.take i).all gj = true) ⟨Grow.tab hP t, rfl⟩ (fun i _ H _ p => p.1.tup ha) (fun i x acc H hx p => ?_) (fun acc H p => ?_)⟩
  · obtain ⟨d, hd, en⟩ := (el.grow p.1).get hx
    refine ⟨wipe_set, ?_⟩
    unfold tYes
    refine iteT (hel x d H _ en (st _ _ p.1 hT) fun H' g' => ⟨gj d, rfl, fun e => ?_, fun e => ?_⟩)
    · have q := hQ H' (p.1.trans g')
      rw [all_not hd e] at q
      exact q
    · exact ⟨p.1.trans g', (all_take p.2 hd).trans e⟩
  · have q := hQ H p.1
    have e : l.all gj = true := by
      have z := p.2
      rw [← el.length, List.take_length] at z
      exact z
    rw [e] at q
    exact q
theorem tu2 {d : Da} (h : isTu 2 2 d = true) : ∃ x y, d = .tup [x, y] := by
  cases d with
  | tup l =>
    have h : (decide ((2 : Int) ≤ (l.length : Int)) && decide ((l.length : Int) ≤ 2)) = true := h
    rw [Bool.and_eq_true] at h
    have h1 := of_decide_eq_true h.1
    have h2 := of_decide_eq_true h.2
    match l, h1, h2 with
    | [], h1, _ => exact absurd h1 (by decide)
    | [_], h1, _ => exact absurd h1 (by rw [List.length_singleton]; decide)
    | [x, y], _, _ => exact ⟨x, y, rfl⟩
    | _ :: _ :: _ :: _, _, h2 =>
      rw [List.length_cons, List.length_cons, List.length_cons] at h2
      omega
  | _ => cases h
theorem encs2 {B : Addr → Prop} {H : Hp} {d1 d2 : Da} {xs : List V} (h : EncsB B H [d1, d2] xs) : ∃ x1 x2, xs = [x1, x2] ∧ EncB B H d1 x1 ∧ EncB B H d2 x2 := by
  cases h with
  | cons h1 t => cases t with
    | cons h2 t => cases t with
      | nil => exact ⟨_, _, rfl, h1, h2⟩
theorem enc_tup {B : Addr → Prop} {H : Hp} {l : List Da} {x : V} (h : EncB B H (.tup l) x) : ∃ a xs, x = .ref a ∧ H a = some (.tup xs) ∧ EncsB B H l xs := by
  cases h with
  | tup h e => exact ⟨_, _, rfl, h, e⟩
def partsAll (g : Da → Bool) : Da → Bool
  | .tup l => l.all g
  | _ => false
def isMaker : Da → Bool
  | .tup [n, .tup fs] => isHig n && (decide (fs.length ≤ 5) && fs.all isKin)
  | _ => false
def isEntry : Da → Bool
  | .tup [n, .tup ms] => isHig n && (decide (1 ≤ ms.length) && (decide (ms.length ≤ 8) && ms.all isMaker))
  | _ => false
def areKinds : Da → Bool
  | .tup es => decide (es.length ≤ 8) && es.all isEntry
  | _ => false
theorem len_le {n : Nat} {l : List Da} : isTu 0 (n : Int) (.tup l) = decide (l.length ≤ n) := by
  have e : isTu 0 (n : Int) (.tup l) = (decide ((0 : Int) ≤ (l.length : Int)) && decide ((l.length : Int) ≤ (n : Int))) := rfl
  rw [e, decide_eq_true (by omega : (0 : Int) ≤ (l.length : Int)), Bool.true_and]
  exact decide_eq_decide.mpr (by omega)
theorem maker_eq {d1 d2 : Da} (h : isHig d1 = true) : isMaker (.tup [d1, d2]) = (isTu 0 5 d2 && partsAll isKin d2) := by
  cases d2 with
  | tup fs =>
    have e : isMaker (.tup [d1, .tup fs]) = (isHig d1 && (decide (fs.length ≤ 5) && fs.all isKin)) := rfl
    rw [e, h, Bool.true_and, ← len_le (n := 5)]
    rfl
  | _ => rfl
theorem len_in {n : Nat} {l : List Da} : isTu 1 (n : Int) (.tup l) = (decide (1 ≤ l.length) && decide (l.length ≤ n)) := by
  have e : isTu 1 (n : Int) (.tup l) = (decide ((1 : Int) ≤ (l.length : Int)) && decide ((l.length : Int) ≤ (n : Int))) := rfl
  rw [e]
  congr 1
  · exact decide_eq_decide.mpr (by omega)
  · exact decide_eq_decide.mpr (by omega)
theorem entry_eq {d1 d2 : Da} (h : isHig d1 = true) : isEntry (.tup [d1, d2]) = (isTu 1 8 d2 && partsAll isMaker d2) := by
  cases d2 with
  | tup fs =>
    have e : isEntry (.tup [d1, .tup fs]) = (isHig d1 && (decide (1 ≤ fs.length) && (decide (fs.length ≤ 8) && fs.all isMaker))) := rfl
    rw [e, h, Bool.true_and, ← Bool.and_assoc, ← len_in (n := 8)]
    rfl
  | _ => rfl
theorem kinds_eq {d : Da} : areKinds d = (isTu 0 8 d && partsAll isEntry d) := by
  cases d with
  | tup es =>
    have e : areKinds (.tup es) = (decide (es.length ≤ 8) && es.all isEntry) := rfl
    rw [e, ← len_le (n := 8)]
    rfl
  | _ => rfl
structure Gk (mg : Str → Option Value) : Prop where
  kinds : ∃ t, mg "MOST_KINDS" = some (.int 8 t)
  makers : ∃ t, mg "MOST_MAKERS" = some (.int 8 t)
  fields : ∃ t, mg "MOST_FIELDS" = some (.int 5 t)
/-- the generator expression that stands as the n-th thing of a def's last return -/
theorem c26 : FnScope ["entry", "maker"] ["entry"] (defScope sEntry) := ⟨rfl, rfl, rfl, by decide +kernel, rfl, by decide +kernel, by decide +kernel⟩
theorem c25 : FnScope ["thing", "entry"] ["thing"] (defScope sKinds) := ⟨rfl, rfl, rfl, by decide +kernel, rfl, by decide +kernel, by decide +kernel⟩
theorem c27 : FnScope ["maker", "field"] ["maker"] (defScope sMaker) := ⟨rfl, rfl, rfl, by decide +kernel, rfl, by decide +kernel, by decide +kernel⟩
section
variable {P : Program} {w : World} {K : PySem.W.Frag} {mg : Str → Option Value} {base : Heap}
theorem ok_maker {f fT fH fK c PT : Addr} {fd fdT fdH fdK : FuncData} (F : FunC K "_is_maker" "_is_maker" sMaker f fd c) (N : Gn K mg) (G : Gk mg) (TB : TabB base mg c PT)
    (GT : FnOk P w K mg base CX0 1 fT fdT ["thing", "least", "most"] (spF3 isTu)) (DT : Df K mg "is_tuple" ["thing", "least", "most"] fT fdT) (GH : FnOk P w K mg base CX0 2 fH fdH ["thing"] (spF isHig)) (DH : Df K mg "is_high" ["thing"] fH fdH)
    (GK : FnOk P w K mg base CX0 3 fK fdK ["thing"] (spF isKin)) (DK : Df K mg "is_kind" ["thing"] fK fdK) : FnOk P w K mg base CX0 5 f fd ["maker"] (spG (fun H => TabG H PT) isMaker) := by
  obtain ⟨t, hF⟩ := G.fields
  refine F.ok (k := 4) c27 (fun vs H Q E h => ?_) (fun A outer s H vs Q E hr h => ?_)
  · obtain ⟨x, d, rfl, _⟩ := h
    rfl
  · obtain ⟨x, d, rfl, en, hT, k⟩ := h
    refine ⟨_, pss_cons (ps_if (PW.pt (pw_or (pt_not (pt_val (pe_call (GT.mono (by decide)) hr (by rfl) DT.g DT.k DT.b .nil pass0 (pa_cons (pv 0) (pa_cons pe_int (pa_cons pe_int pa_nil))))))
        (pw_or1 (pt_not (pt_val (pe_call (GH.mono (by decide)) hr (by rfl) DH.g DH.k DH.b .nil pass0 (pa_cons (pe_ix ix_tup (pv 0) pe_int (fun _ _ => rfl)) pa_nil))))))) (pss_one (ps_ret pe_bl)) pss_nil)
      (pss_one (ps_ret (pe_and (pe_call (GT.mono (by decide)) hr (by rfl) DT.g DT.k DT.b .nil pass0 (pa_cons (pe_ix ix_tup (pv 0) pe_int (fun _ _ => rfl)) (pa_cons pe_int (pa_cons (pe_glob (v := .int 5) (by rfl) hF ⟨t, rfl⟩) pa_nil))))
        (pe_one (pe_allG (k := 3) (own := [("field", 1)]) hr rfl (by rfl) N.na c27.nd TB rfl ⟨rfl, by decide +kernel, rfl⟩ (blkOk_by (by show blkC ["maker", "field"] (defScope sMaker) _ [("field", 1)] = true; decide +kernel)) (pi_tup (pe_ix ix_tup (pv 0) pe_int (fun _ _ => rfl)))
          (fun _ _ _ _ _ _ _ => pg_name c27.nd (i := 1) rfl (.inl rfl)) (fun _ _ _ _ _ _ _ => pts_nil)
          (fun _ _ _ _ _ _ hr' => pe_call GK hr' (by rfl) DK.g DK.k DK.b .nil pass0 (pa_cons (pv 1) pa_nil))))))), ?_⟩
    refine ⟨_, rfl, _, d, _, _, rfl, en, _, rfl, ?_⟩
    cases e2 : isTu 2 2 d with
    | false =>
      have em : isMaker d = false := by
        unfold isMaker
        split
        · cases e2
        · rfl
      have q := k H (Grow.refl H)
      rw [em] at q
      exact iteT q
    | true =>
      obtain ⟨d1, d2, rfl⟩ := tu2 e2
      obtain ⟨a, xs, rfl, ha, el⟩ := enc_tup en
      obtain ⟨x1, x2, rfl, h1, h2⟩ := encs2 el
      have g0 : atI [x1, x2] 0 = some x1 := at_of (j := 0) rfl rfl
      have g1 : atI [x1, x2] 1 = some x2 := at_of (j := 1) rfl rfl
      refine iteF ⟨_, rfl, a, _, _, _, rfl, rfl, SqT.of ha, g0, _, d1, rfl, h1, _, rfl, ?_⟩
      cases eh : isHig d1 with
      | false =>
        have em : isMaker (.tup [d1, d2]) = false := by
          unfold isMaker
          split
          · rename_i z
            cases z
            rw [eh, Bool.false_and]
          · rfl
        have q := k H (Grow.refl H)
        rw [em] at q
        exact iteT q
      | true =>
        refine iteF ⟨_, rfl, a, _, _, _, rfl, rfl, SqT.of ha, g1, _, d2, _, _, rfl, h2, _, rfl, ?_⟩
        have em : isMaker (.tup [d1, d2]) = (isTu 0 5 d2 && partsAll isKin d2) := maker_eq eh
        cases e5 : isTu 0 5 d2 with
        | false =>
          have q := k H (Grow.refl H)
          rw [em, e5, Bool.false_and] at q
          exact iteF q
        | true =>
          cases h2 with
          | @tup b fs l hb ef =>
            refine iteT ⟨_, rfl, a, _, _, _, rfl, rfl, SqT.of ha, g1, b, rfl, ⟨fs, SqT.of hb⟩, rd_all (T := fun _ => True) (gj := isKin) hb ef (fun _ _ _ h => h) trivial hT (fun x d H R en _ kk => ⟨_, rfl, _, d, rfl, en, kk H (Grow.refl H)⟩) fun H' g => ?_⟩
            have q := k H' g
            rw [em, e5, Bool.true_and] at q
            exact q
          | _ => cases e5
theorem ok_entry {f fT fH fM c PT : Addr} {fd fdT fdH fdM : FuncData} {T TM : Hp → Prop} (F : FunC K "_is_entry" "_is_entry" sEntry f fd c) (N : Gn K mg) (G : Gk mg) (TB : TabB base mg c PT) (st : Stays T) (hTP : ∀ H, T H → TabG H PT) (hTM : ∀ H, T H → TM H)
    (GT : FnOk P w K mg base CX0 1 fT fdT ["thing", "least", "most"] (spF3 isTu)) (DT : Df K mg "is_tuple" ["thing", "least", "most"] fT fdT) (GH : FnOk P w K mg base CX0 2 fH fdH ["thing"] (spF isHig)) (DH : Df K mg "is_high" ["thing"] fH fdH)
    (GM : FnOk P w K mg base CX0 5 fM fdM ["maker"] (spG TM isMaker)) (DM : Df K mg "_is_maker" ["maker"] fM fdM) : FnOk P w K mg base CX0 7 f fd ["entry"] (spG T isEntry) := by
  obtain ⟨t, hF⟩ := G.makers
  refine F.ok (k := 6) c26 (fun vs H Q E h => ?_) (fun A outer s H vs Q E hr h => ?_)
  · obtain ⟨x, d, rfl, _⟩ := h
    rfl
  · obtain ⟨x, d, rfl, en, hT, k⟩ := h
    refine ⟨_, pss_cons (ps_if (PW.pt (pw_or (pt_not (pt_val (pe_call (GT.mono (by decide)) hr (by rfl) DT.g DT.k DT.b .nil pass0 (pa_cons (pv 0) (pa_cons pe_int (pa_cons pe_int pa_nil))))))
        (pw_or1 (pt_not (pt_val (pe_call (GH.mono (by decide)) hr (by rfl) DH.g DH.k DH.b .nil pass0 (pa_cons (pe_ix ix_tup (pv 0) pe_int (fun _ _ => rfl)) pa_nil))))))) (pss_one (ps_ret pe_bl)) pss_nil)
      (pss_one (ps_ret (pe_and (pe_call (GT.mono (by decide)) hr (by rfl) DT.g DT.k DT.b .nil pass0 (pa_cons (pe_ix ix_tup (pv 0) pe_int (fun _ _ => rfl)) (pa_cons pe_int (pa_cons (pe_glob (v := .int 8) (by rfl) hF ⟨t, rfl⟩) pa_nil))))
        (pe_one (pe_allG (k := 5) (own := [("maker", 1)]) hr rfl (by rfl) N.na c26.nd TB rfl ⟨rfl, by decide +kernel, rfl⟩ (blkOk_by (by show blkC ["entry", "maker"] (defScope sEntry) _ [("maker", 1)] = true; decide +kernel)) (pi_tup (pe_ix ix_tup (pv 0) pe_int (fun _ _ => rfl)))
          (fun _ _ _ _ _ _ _ => pg_name c26.nd (i := 1) rfl (.inl rfl)) (fun _ _ _ _ _ _ _ => pts_nil)
          (fun _ _ _ _ _ _ hr' => pe_call GM hr' (by rfl) DM.g DM.k DM.b .nil pass0 (pa_cons (pv 1) pa_nil))))))), ?_⟩
    refine ⟨_, rfl, _, d, _, _, rfl, en, _, rfl, ?_⟩
    cases e2 : isTu 2 2 d with
    | false =>
      have em : isEntry d = false := by
        unfold isEntry
        split
        · cases e2
        · rfl
      have q := k H (Grow.refl H)
      rw [em] at q
      exact iteT q
    | true =>
      obtain ⟨d1, d2, rfl⟩ := tu2 e2
      obtain ⟨a, xs, rfl, ha, el⟩ := enc_tup en
      obtain ⟨x1, x2, rfl, h1, h2⟩ := encs2 el
      have g0 : atI [x1, x2] 0 = some x1 := at_of (j := 0) rfl rfl
      have g1 : atI [x1, x2] 1 = some x2 := at_of (j := 1) rfl rfl
      refine iteF ⟨_, rfl, a, _, _, _, rfl, rfl, SqT.of ha, g0, _, d1, rfl, h1, _, rfl, ?_⟩
      cases eh : isHig d1 with
      | false =>
        have em : isEntry (.tup [d1, d2]) = false := by
          unfold isEntry
          split
          · rename_i z
            cases z
            rw [eh, Bool.false_and]
          · rfl
        have q := k H (Grow.refl H)
        rw [em] at q
        exact iteT q
      | true =>
        refine iteF ⟨_, rfl, a, _, _, _, rfl, rfl, SqT.of ha, g1, _, d2, _, _, rfl, h2, _, rfl, ?_⟩
        have em := entry_eq (d2 := d2) eh
        cases e5 : isTu 1 8 d2 with
        | false =>
          have q := k H (Grow.refl H)
          rw [em, e5, Bool.false_and] at q
          exact iteF q
        | true =>
          cases h2 with
          | @tup b fs l hb ef =>
            refine iteT ⟨_, rfl, a, _, _, _, rfl, rfl, SqT.of ha, g1, b, rfl, ⟨fs, SqT.of hb⟩, rd_all (T := T) (gj := isMaker) hb ef st hT (hTP H hT) (fun x d H R en hT' kk => ⟨_, rfl, _, d, rfl, en, hTM H hT', kk⟩) fun H' g => ?_⟩
            have q := k H' g
            rw [em, e5, Bool.true_and] at q
            exact q
          | _ => cases e5
theorem ok_kinds {f fT fE c PT : Addr} {fd fdT fdE : FuncData} {T TE' : Hp → Prop} (F : FunC K "are_kinds" "are_kinds" sKinds f fd c) (N : Gn K mg) (G : Gk mg) (TB : TabB base mg c PT) (st : Stays T) (hTP : ∀ H, T H → TabG H PT) (hTE : ∀ H, T H → TE' H)
    (GT : FnOk P w K mg base CX0 1 fT fdT ["thing", "least", "most"] (spF3 isTu)) (DT : Df K mg "is_tuple" ["thing", "least", "most"] fT fdT)
    (GE : FnOk P w K mg base CX0 7 fE fdE ["entry"] (spG TE' isEntry)) (DE : Df K mg "_is_entry" ["entry"] fE fdE) : FnOk P w K mg base CX0 9 f fd ["thing"] (spG T areKinds) := by
  obtain ⟨t, hF⟩ := G.kinds
  refine F.ok (k := 8) c25 (fun vs H Q E h => ?_) (fun A outer s H vs Q E hr h => ?_)
  · obtain ⟨x, d, rfl, _⟩ := h
    rfl
  · obtain ⟨x, d, rfl, en, hT, k⟩ := h
    refine ⟨_, pss_one (ps_ret (pe_and (pe_call (GT.mono (by decide)) hr (by rfl) DT.g DT.k DT.b .nil pass0 (pa_cons (pv 0) (pa_cons pe_int (pa_cons (pe_glob (v := .int 8) (by rfl) hF ⟨t, rfl⟩) pa_nil))))
        (pe_one (pe_allG (k := 7) (own := [("entry", 1)]) hr rfl (by rfl) N.na c25.nd TB rfl ⟨rfl, by decide +kernel, rfl⟩ (blkOk_by (by show blkC ["thing", "entry"] (defScope sKinds) _ [("entry", 1)] = true; decide +kernel)) (pi_tup (pv 0))
          (fun _ _ _ _ _ _ _ => pg_name c25.nd (i := 1) rfl (.inl rfl)) (fun _ _ _ _ _ _ _ => pts_nil)
          (fun _ _ _ _ _ _ hr' => pe_call GE hr' (by rfl) DE.g DE.k DE.b .nil pass0 (pa_cons (pv 1) pa_nil)))))), ?_⟩
    refine ⟨_, rfl, _, d, _, _, rfl, en, _, rfl, ?_⟩
    have em := kinds_eq (d := d)
    cases e5 : isTu 0 8 d with
    | false =>
      have q := k H (Grow.refl H)
      rw [em, e5, Bool.false_and] at q
      exact iteF q
    | true =>
      cases en with
      | @tup b fs l hb ef =>
        refine iteT ⟨_, rfl, b, rfl, ⟨fs, SqT.of hb⟩, rd_all (T := T) (gj := isEntry) hb ef st hT (hTP H hT) (fun x d H R en hT' kk => ⟨_, rfl, _, d, rfl, en, hTE H hT', kk⟩) fun H' g => ?_⟩
        have q := k H' g
        rw [em, e5, Bool.true_and] at q
        exact q
      | _ => cases e5
end
end J1
set_option Elab.async false
set_option linter.all false
set_option maxRecDepth 100000
set_option maxHeartbeats 4000000
namespace J1
open PySem PySem.Spec PyProof.Rows L2 GxR GA
abbrev sParam : Stmt := top 95
abbrev sBranch : Stmt := top 98
abbrev sTerm : Stmt := top 99
abbrev sSign : Stmt := top 100
theorem c40 : FnScope ["thing"] ["thing"] (defScope sParam) := ⟨rfl, rfl, rfl, by decide +kernel, rfl, by decide +kernel, by decide +kernel⟩
theorem c43 : FnScope ["thing", "name"] ["thing"] (defScope sBranch) := ⟨rfl, rfl, rfl, by decide +kernel, rfl, by decide +kernel, by decide +kernel⟩
theorem c44 : FnScope ["term", "word", "terms"] ["term"] (defScope sTerm) := ⟨rfl, rfl, rfl, by decide +kernel, rfl, by decide +kernel, by decide +kernel⟩
theorem c45 : FnScope ["thing"] ["thing"] (defScope sSign) := ⟨rfl, rfl, rfl, by decide +kernel, rfl, by decide +kernel, by decide +kernel⟩
def isParam : Da → Bool
  | .tup [n, k] => isLow n && isKin k
  | _ => false
def isBranch : Da → Bool
  | .tup [m, .tup ns, _] => isHig m && (decide (ns.length ≤ 5) && ns.all isLow)
  | _ => false
def isSign : Da → Bool
  | .str s => inV (.str s) [.str "+", .str "-"]
  | _ => false
def isNum : Da → Bool := isBet (-1000000000000) 1000000000000
def isFac : Da → Bool := isBet (-1000000) 1000000
theorem tu3 {d : Da} (h : isTu 3 3 d = true) : ∃ x y z, d = .tup [x, y, z] := by
  cases d with
  | tup l =>
    have h : (decide ((3 : Int) ≤ (l.length : Int)) && decide ((l.length : Int) ≤ 3)) = true := h
    rw [Bool.and_eq_true] at h
    have h1 := of_decide_eq_true h.1
    have h2 := of_decide_eq_true h.2
    have e : l.length = 3 := by omega
    match l, e with
    | [x, y, z], _ => exact ⟨x, y, z, rfl⟩
  | _ => cases h
theorem encs3 {B : Addr → Prop} {H : Hp} {d1 d2 d3 : Da} {xs : List V} (h : EncsB B H [d1, d2, d3] xs) : ∃ x1 x2 x3, xs = [x1, x2, x3] ∧ EncB B H d1 x1 ∧ EncB B H d2 x2 ∧ EncB B H d3 x3 := by
  cases h with
  | cons h1 t =>
    obtain ⟨x2, x3, rfl, h2, h3⟩ := encs2 t
    exact ⟨_, x2, x3, rfl, h1, h2, h3⟩
theorem branch_eq {d1 d2 d3 : Da} (h : isHig d1 = true) : isBranch (.tup [d1, d2, d3]) = (isTu 0 5 d2 && partsAll isLow d2) := by
  cases d2 with
  | tup fs =>
    have e : isBranch (.tup [d1, .tup fs, d3]) = (isHig d1 && (decide (fs.length ≤ 5) && fs.all isLow)) := rfl
    rw [e, h, Bool.true_and, ← len_le (n := 5)]
    rfl
  | _ => rfl
section
variable {P : Program} {w : World} {K : PySem.W.Frag} {mg : Str → Option Value} {base : Heap}
theorem ok_param {f fT fL fK : Addr} {fd fdT fdL fdK : FuncData} (F : Fun K "_is_param" "_is_param" sParam f fd)
    (GT : FnOk P w K mg base CX0 1 fT fdT ["thing", "least", "most"] (spF3 isTu)) (DT : Df K mg "is_tuple" ["thing", "least", "most"] fT fdT) (GL : FnOk P w K mg base CX0 2 fL fdL ["thing"] (spF isLow)) (DL : Df K mg "is_low" ["thing"] fL fdL)
    (GK : FnOk P w K mg base CX0 3 fK fdK ["thing"] (spF isKin)) (DK : Df K mg "is_kind" ["thing"] fK fdK) : FnOk P w K mg base CX0 4 f fd ["thing"] (spF isParam) := by
  refine F.ok (k := 3) c40 (fun vs H Q E h => ?_) (fun cdv A outer s H vs Q E hr h => ?_)
  · obtain ⟨x, d, rfl, _⟩ := h
    rfl
  · obtain ⟨x, d, rfl, en, k⟩ := h
    refine ⟨_, pss_one (ps_ret (pe_and (pe_call (GT.mono (by decide)) hr (by rfl) DT.g DT.k DT.b .nil pass0 (pa_cons (pv 0) (pa_cons pe_int (pa_cons pe_int pa_nil))))
      (pe_and (pe_call (GL.mono (by decide)) hr (by rfl) DL.g DL.k DL.b .nil pass0 (pa_cons (pe_ix ix_tup (pv 0) pe_int (fun _ _ => rfl)) pa_nil))
      (pe_one (pe_call GK hr (by rfl) DK.g DK.k DK.b .nil pass0 (pa_cons (pe_ix ix_tup (pv 0) pe_int (fun _ _ => rfl)) pa_nil)))))), ?_⟩
    refine ⟨_, rfl, _, d, _, _, rfl, en, _, rfl, ?_⟩
    cases e2 : isTu 2 2 d with
    | false =>
      have em : isParam d = false := by
        unfold isParam
        split
        · cases e2
        · rfl
      rw [em] at k
      exact iteF k
    | true =>
      obtain ⟨d1, d2, rfl⟩ := tu2 e2
      obtain ⟨a, xs, rfl, ha, el⟩ := enc_tup en
      obtain ⟨x1, x2, rfl, h1, h2⟩ := encs2 el
      have g0 : atI [x1, x2] 0 = some x1 := at_of (j := 0) rfl rfl
      have g1 : atI [x1, x2] 1 = some x2 := at_of (j := 1) rfl rfl
      have em : isParam (.tup [d1, d2]) = (isLow d1 && isKin d2) := rfl
      rw [em] at k
      refine iteT ⟨_, rfl, a, _, _, _, rfl, rfl, SqT.of ha, g0, _, d1, rfl, h1, _, rfl, ite2 (fun e => ?_) (fun e => ?_)⟩
      · rw [e, Bool.true_and] at k
        exact ⟨_, rfl, a, _, _, _, rfl, rfl, SqT.of ha, g1, _, d2, rfl, h2, k⟩
      · rw [Bool.eq_false_iff.mpr e, Bool.false_and] at k
        exact k
theorem ok_sign {f : Addr} {fd : FuncData} (F : Fun K "_is_sign" "_is_sign" sSign f fd) (N : Gn K mg) : FnOk P w K mg base CX0 1 f fd ["thing"] (spG (fun _ => True) isSign) := by
  refine F.ok c45 (fun vs H Q E h => ?_) (fun cdv A outer s H vs Q E hr h => ?_)
  · obtain ⟨x, d, rfl, _⟩ := h
    rfl
  · obtain ⟨x, d, rfl, en, _, k⟩ := h
    obtain ⟨_, _, kS, _⟩ := kitD d
    refine ⟨_, pss_one (ps_ret (pe_and (pe_callB call_isi (by rfl) N.nI boot_isinstance (pa_cons (pv 0) (pa_cons (pe_bltn (v := .ty "str") rfl N.ns (by decide +kernel) rfl) pa_nil)))
      (pe_one (pe_cmpR op_in_seq (pv 0) (pe_tup (pa_cons pe_str (pa_cons pe_str pa_nil))) (by rfl))))), ?_⟩
    refine ⟨_, rfl, _, _, _, _, _, rfl, .ty "str", en.ty, kit_ty kS, _, rfl, ?_⟩
    cases en with
    | str s hz => exact iteT ⟨_, rfl, (by show 2 ≤ sizeLine; decide), fun p hp => ⟨p, _, rfl, .inr (SqT.of upd_same), rfl, rfl, k _ (Grow.new hp)⟩⟩
    | non => exact iteF (k H (Grow.refl H))
    | bl b => exact iteF (k H (Grow.refl H))
    | int i => exact iteF (k H (Grow.refl H))
    | tup h e => exact iteF (k H (Grow.refl H))
    | lst h e => exact iteF (k H (Grow.refl H))
theorem ok_branch {f fT fH fL c PT : Addr} {fd fdT fdH fdL : FuncData} (F : FunC K "_is_branch" "_is_branch" sBranch f fd c) (N : Gn K mg) (G : Gk mg) (TB : TabB base mg c PT)
    (GT : FnOk P w K mg base CX0 1 fT fdT ["thing", "least", "most"] (spF3 isTu)) (DT : Df K mg "is_tuple" ["thing", "least", "most"] fT fdT) (GH : FnOk P w K mg base CX0 2 fH fdH ["thing"] (spF isHig)) (DH : Df K mg "is_high" ["thing"] fH fdH)
    (GL : FnOk P w K mg base CX0 2 fL fdL ["thing"] (spF isLow)) (DL : Df K mg "is_low" ["thing"] fL fdL) : FnOk P w K mg base CX0 4 f fd ["thing"] (spG (fun H => TabG H PT) isBranch) := by
  obtain ⟨t, hF⟩ := G.fields
  refine F.ok (k := 3) c43 (fun vs H Q E h => ?_) (fun A outer s H vs Q E hr h => ?_)
  · obtain ⟨x, d, rfl, _⟩ := h
    rfl
  · obtain ⟨x, d, rfl, en, hT, k⟩ := h
    refine ⟨_, pss_cons (ps_if (PW.pt (pw_or (pt_not (pt_val (pe_call (GT.mono (by decide)) hr (by rfl) DT.g DT.k DT.b .nil pass0 (pa_cons (pv 0) (pa_cons pe_int (pa_cons pe_int pa_nil))))))
        (pw_or1 (pt_not (pt_val (pe_call (GH.mono (by decide)) hr (by rfl) DH.g DH.k DH.b .nil pass0 (pa_cons (pe_ix ix_tup (pv 0) pe_int (fun _ _ => rfl)) pa_nil))))))) (pss_one (ps_ret pe_bl)) pss_nil)
      (pss_one (ps_ret (pe_and (pe_call (GT.mono (by decide)) hr (by rfl) DT.g DT.k DT.b .nil pass0 (pa_cons (pe_ix ix_tup (pv 0) pe_int (fun _ _ => rfl)) (pa_cons pe_int (pa_cons (pe_glob (v := .int 5) (by rfl) hF ⟨t, rfl⟩) pa_nil))))
        (pe_one (pe_allG (k := 2) (own := [("name", 1)]) hr rfl (by rfl) N.na c43.nd TB rfl ⟨rfl, by decide +kernel, rfl⟩ (blkOk_by (by show blkC ["thing", "name"] (defScope sBranch) _ [("name", 1)] = true; decide +kernel)) (pi_tup (pe_ix ix_tup (pv 0) pe_int (fun _ _ => rfl)))
          (fun _ _ _ _ _ _ _ => pg_name c43.nd (i := 1) rfl (.inl rfl)) (fun _ _ _ _ _ _ _ => pts_nil)
          (fun _ _ _ _ _ _ hr' => pe_call GL hr' (by rfl) DL.g DL.k DL.b .nil pass0 (pa_cons (pv 1) pa_nil))))))), ?_⟩
    refine ⟨_, rfl, _, d, _, _, rfl, en, _, rfl, ?_⟩
    cases e2 : isTu 3 3 d with
    | false =>
      have em : isBranch d = false := by
        unfold isBranch
        split
        · cases e2
        · rfl
      have q := k H (Grow.refl H)
      rw [em] at q
      exact iteT q
    | true =>
      obtain ⟨d1, d2, d3, rfl⟩ := tu3 e2
      obtain ⟨a, xs, rfl, ha, el⟩ := enc_tup en
      obtain ⟨x1, x2, x3, rfl, h1, h2, h3⟩ := encs3 el
      have g0 : atI [x1, x2, x3] 0 = some x1 := at_of (j := 0) rfl rfl
      have g1 : atI [x1, x2, x3] 1 = some x2 := at_of (j := 1) rfl rfl
      refine iteF ⟨_, rfl, a, _, _, _, rfl, rfl, SqT.of ha, g0, _, d1, rfl, h1, _, rfl, ?_⟩
      cases eh : isHig d1 with
      | false =>
        have em : isBranch (.tup [d1, d2, d3]) = false := by
          unfold isBranch
          split
          · rename_i z
            cases z
            rw [eh, Bool.false_and]
          · rfl
        have q := k H (Grow.refl H)
        rw [em] at q
        exact iteT q
      | true =>
        refine iteF ⟨_, rfl, a, _, _, _, rfl, rfl, SqT.of ha, g1, _, d2, _, _, rfl, h2, _, rfl, ?_⟩
        have em := branch_eq (d2 := d2) (d3 := d3) eh
        cases e5 : isTu 0 5 d2 with
        | false =>
          have q := k H (Grow.refl H)
          rw [em, e5, Bool.false_and] at q
          exact iteF q
        | true =>
          cases h2 with
          | @tup b fs l hb ef =>
            refine iteT ⟨_, rfl, a, _, _, _, rfl, rfl, SqT.of ha, g1, b, rfl, ⟨fs, SqT.of hb⟩, rd_all (T := fun _ => True) (gj := isLow) hb ef (fun _ _ _ h => h) trivial hT (fun x d H R en _ kk => ⟨_, rfl, _, d, rfl, en, kk H (Grow.refl H)⟩) fun H' g => ?_⟩
            have q := k H' g
            rw [em, e5, Bool.true_and] at q
            exact q
          | _ => cases e5
end
end J1
set_option Elab.async false
set_option linter.all false
set_option maxRecDepth 100000
set_option maxHeartbeats 4000000
namespace J1
open PySem PySem.Spec PyProof.Rows L2 GxR GA
/-! ### the parts of an expression -/
def parts : Da → List Da
  | .tup l => l
  | _ => []
def g1 (l : List Da) : Da := l.getD 1 .non
def g2 (l : List Da) : Da := l.getD 2 .non
def lenIs (l : List Da) (n : Nat) : Bool := decide (l.length = n)
def k1 (w : Str) (l : List Da) : Bool := decide (w = "num") && (lenIs l 2 && isNum (g1 l))
def k2 (w : Str) (l : List Da) : Bool := decide (w = "name") && (lenIs l 2 && isLow (g1 l))
def k3 (w : Str) (l : List Da) : Bool := decide (w = "op") && (lenIs l 4 && isSign (g1 l))
def k4 (w : Str) (l : List Da) : Bool := decide (w = "times") && (lenIs l 3 && isFac (g1 l))
def k5 (w : Str) (l : List Da) : Bool := decide (w = "make") && (lenIs l 3 && (isHig (g1 l) && isTu 0 5 (g2 l)))
def k6 (w : Str) (l : List Da) : Bool := decide (w = "call") && (lenIs l 3 && (isLow (g1 l) && isTu 0 6 (g2 l)))
def termL (w : Str) (l : List Da) : Option (List Da) :=
  if k1 w l = true then some [] else if k2 w l = true then some [] else if k3 w l = true then some (l.drop 2) else if k4 w l = true then some (l.drop 2) else if k5 w l = true then some (parts (g2 l)) else if k6 w l = true then some (parts (g2 l)) else none
def termP (d : Da) : Option (List Da) := termL (firstW d) (parts d)
theorem wtup {d : Da} {w W : Str} (hw : firstW d = w) (e : decide (w = W) = true) (hW : W ≠ "") : ∃ l, d = .tup l := by
  cases d with
  | tup l => exact ⟨l, rfl⟩
  | _ => exact absurd ((of_decide_eq_true e).symm.trans hw.symm) hW
theorem rd_and {t u : TT} {σ : L2.St} {H : Hp} {R : Bool → Hp → Prop} {c1 c2 : Bool} (h1 : ∀ R' : Bool → Hp → Prop, R' c1 H → t σ H R') (h2 : c1 = true → (∀ H', Grow H H' → R c2 H') → u σ H R) (k : ∀ H', Grow H H' → R (c1 && c2) H') : tAnd t u σ H R := by
  refine h1 _ ?_
  cases c1 with
  | true => exact iteT (h2 rfl k)
  | false => exact iteF (k H (Grow.refl H))
theorem eqS {s W : Str} : decide (V.str s = V.str W) = decide (s = W) := decide_eq_decide.mpr ⟨fun z => V.str.inj z, fun z => by rw [z]⟩
theorem eqL {l : List Da} {xs : List V} {H : Hp} {n : Nat} (e : EncsB B H l xs) : decide (V.int (xs.length : Nat) = V.int (n : Nat)) = lenIs l n := by
  unfold lenIs
  refine decide_eq_decide.mpr ⟨fun z => ?_, fun z => ?_⟩
  · have := V.int.inj z
    rw [e.length]
    omega
  · rw [e.length] at z
    rw [z]
/-- word == W -/
theorem rd_w {σ : L2.St} {H : Hp} {w W : Str} {R' : Bool → Hp → Prop} (hσ : σ[1]? = some (some (.str w))) (h : R' (decide (w = W)) H) : tTest (tOp rEq (tVar 1) fun _ H Q => Q (.str W) H) σ H R' := by
  refine ⟨_, hσ, rfl, _, rfl, ?_⟩
  rw [eqS]
  exact h
theorem get_at {B : Addr → Prop} {H : Hp} {l : List Da} {xs : List V} {j : Nat} (e : EncsB B H l xs) (h : j < l.length) : ∃ y, atI xs (j : Int) = some y ∧ xs[j]? = some y ∧ EncB B H (l.getD j .non) y := by
  obtain ⟨x, hx, en⟩ := e.got (i := j) (d := l[j]) (List.getElem?_eq_getElem h)
  refine ⟨x, at_of rfl hx, hx, ?_⟩
  rw [List.getD_eq_getElem?_getD, List.getElem?_eq_getElem h]
  exact en
theorem encs_drop {B : Addr → Prop} {H : Hp} : ∀ {l : List Da} {xs : List V} (n : Nat), EncsB B H l xs → EncsB B H (l.drop n) (xs.drop n)
  | _, _, 0, e => e
  | _, _, n + 1, .nil => .nil
  | _, _, n + 1, .cons _ t => encs_drop n t
theorem rd_t1 {B : Addr → Prop} {tl tj : TT} {n : Nat} {σ : L2.St} {H : Hp} {d : Da} {x : V} {R : Bool → Hp → Prop} {W : Str} {gj : Da → Bool} (hσ : σ[1]? = some (some (.str (firstW d)))) (en : EncB B H d x) (hW : W ≠ "") (hn : 1 < n)
    (hl : ∀ a xs l, x = .ref a → H a = some (.tup xs) → EncsB B H l xs → ∀ R' : Bool → Hp → Prop, R' (lenIs l n) H → tl σ H R')
    (hj : ∀ a xs l y, x = .ref a → H a = some (.tup xs) → atI xs 1 = some y → EncB B H (g1 l) y → (∀ H', Grow H H' → R (gj (g1 l)) H') → tj σ H R)
    (k : ∀ H', Grow H H' → R (decide (firstW d = W) && (lenIs (parts d) n && gj (g1 (parts d)))) H') : tAnd (tTest (tOp rEq (tVar 1) fun _ H Q => Q (.str W) H)) (tAnd tl tj) σ H R := by
  refine rd_and (fun R' h => rd_w hσ h) (fun e kk => ?_) k
  obtain ⟨l, rfl⟩ := wtup rfl e hW
  obtain ⟨a, xs, rfl, ha, el⟩ := enc_tup en
  refine rd_and (fun R' h => hl a xs l rfl ha el R' h) (fun e kk => ?_) kk
  have ln : l.length = n := of_decide_eq_true e
  obtain ⟨y, gy, _, ey⟩ := get_at (j := 1) el (by omega)
  exact hj a xs l y rfl ha gy ey kk
theorem rd_t2 {B : Addr → Prop} {tl tj tj2 : TT} {n : Nat} {σ : L2.St} {H : Hp} {d : Da} {x : V} {R : Bool → Hp → Prop} {W : Str} {gj gj2 : Da → Bool} (hσ : σ[1]? = some (some (.str (firstW d)))) (en : EncB B H d x) (hW : W ≠ "") (hn : 2 < n)
    (hl : ∀ a xs l, x = .ref a → H a = some (.tup xs) → EncsB B H l xs → ∀ R' : Bool → Hp → Prop, R' (lenIs l n) H → tl σ H R')
    (hj : ∀ a xs l y, x = .ref a → H a = some (.tup xs) → atI xs 1 = some y → EncB B H (g1 l) y → ∀ R' : Bool → Hp → Prop, R' (gj (g1 l)) H → tj σ H R')
    (hj2 : ∀ a xs l y, x = .ref a → H a = some (.tup xs) → atI xs 2 = some y → EncB B H (g2 l) y → R (gj2 (g2 l)) H → tj2 σ H R)
    (k : ∀ H', Grow H H' → R (decide (firstW d = W) && (lenIs (parts d) n && (gj (g1 (parts d)) && gj2 (g2 (parts d))))) H') : tAnd (tTest (tOp rEq (tVar 1) fun _ H Q => Q (.str W) H)) (tAnd tl (tAnd tj tj2)) σ H R := by
  refine rd_and (fun R' h => rd_w hσ h) (fun e kk => ?_) k
  obtain ⟨l, rfl⟩ := wtup rfl e hW
  obtain ⟨a, xs, rfl, ha, el⟩ := enc_tup en
  refine rd_and (fun R' h => hl a xs l rfl ha el R' h) (fun e kk => ?_) kk
  have ln : l.length = n := of_decide_eq_true e
  obtain ⟨y, gy, _, ey⟩ := get_at (j := 1) el (by omega)
  obtain ⟨z, gz, _, ez⟩ := get_at (j := 2) el (by omega)
  refine rd_and (fun R' h => hj a xs l y rfl ha gy ey R' h) (fun _ kk => ?_) kk
  exact hj2 a xs l z rfl ha gz ez (kk H (Grow.refl H))
theorem cut2 {xs : List V} (h : 2 < xs.length) : ¬ (HT.sIx xs.length 0 (some 2) = 0 ∧ HT.sIx xs.length xs.length none = xs.length) ∧ cutV xs (some 2) none = xs.drop 2 := by
  have e : HT.sIx xs.length 0 (some 2) = 2 := (HT.sIx_nat xs.length 0 2).trans (by omega)
  refine ⟨fun z => ?_, ?_⟩
  · rw [e] at z
    exact absurd z.1 (by decide)
  · unfold cutV
    rw [e, HT.sIx_none]
    exact List.take_of_length_le (by rw [List.length_drop]; omega)
def spTerm : Sp := fun vs H Q _ => ∃ B x d, vs = [x] ∧ EncB B H d x ∧ (termP d = none → ∀ H', Grow H H' → Q .non H') ∧ ∀ l, termP d = some l → ∀ H' p q e xs, Grow H H' → H' p = some (.tup [.int 0, .ref q, .ref e]) → H' q = some (.tup xs) → EncsB B H' l xs → H' e = some (.tup []) → Q (.ref p) H'
section
variable {P : Program} {w : World} {K : PySem.W.Frag} {mg : Str → Option Value} {base : Heap}
theorem ok_term {f fF fN fL fS fC fH fT : Addr} {fd fdF fdN fdL fdS fdC fdH fdT : FuncData} (F : Fun K "_term_parts" "_term_parts" sTerm f fd) (N : Gn K mg) (G : Gk mg) (hMP : ∃ t, mg "MOST_PARAMS" = some (.int 6 t))
    (GF : FnOk P w K mg base CX0 1 fF fdF ["thing"] spW) (DF : Df K mg "first_word" ["thing"] fF fdF) (GN : FnOk P w K mg base CX0 3 fN fdN ["thing"] (spF isNum)) (DN : Df K mg "is_number" ["thing"] fN fdN) (GL : FnOk P w K mg base CX0 2 fL fdL ["thing"] (spF isLow)) (DL : Df K mg "is_low" ["thing"] fL fdL)
    (GS : FnOk P w K mg base CX0 1 fS fdS ["thing"] (spG (fun _ => True) isSign)) (DS : Df K mg "_is_sign" ["thing"] fS fdS) (GC : FnOk P w K mg base CX0 3 fC fdC ["thing"] (spF isFac)) (DC : Df K mg "is_factor" ["thing"] fC fdC)
    (GH : FnOk P w K mg base CX0 2 fH fdH ["thing"] (spF isHig)) (DH : Df K mg "is_high" ["thing"] fH fdH) (GT : FnOk P w K mg base CX0 1 fT fdT ["thing", "least", "most"] (spF3 isTu)) (DT : Df K mg "is_tuple" ["thing", "least", "most"] fT fdT) :
    FnOk P w K mg base CX0 4 f fd ["term"] spTerm := by
  obtain ⟨tf, hF⟩ := G.fields
  obtain ⟨tp, hP⟩ := hMP
  refine F.ok (k := 3) c44 (fun vs H Q E h => ?_) (fun cdv A outer s H vs Q E hr h => ?_)
  · obtain ⟨B, x, d, rfl, _⟩ := h
    rfl
  · obtain ⟨B, x, d, rfl, en, k0, ks⟩ := h
    refine ⟨_, (pss_cons (ps_set (i := 1) c44.nd rfl (Or.inl rfl) (pe_call (GF.mono (by decide)) hr (by rfl) DF.g DF.k DF.b .nil pass0 (pa_cons (pv 0) pa_nil))) (pss_cons (ps_set (i := 2) c44.nd rfl (Or.inl rfl) pe_non) (C8.pss_cut (ps_if (PW.pt (pw_and (pt_cmpR op_eq (pv 1) pe_str (nomark _)) (pw_and (pt_cmpR op_eq (pe_callB call_len_seq (by rfl) N.nl PySem.boot_len (pa_cons (pv 0) pa_nil)) pe_int (nomark _)) (pw_and1 (pt_val (pe_call GN hr (by rfl) DN.g DN.k DN.b .nil pass0 (pa_cons (pe_ix ix_tup (pv 0) pe_int (fun _ _ => rfl)) pa_nil))))))) (pss_one (ps_set (i := 2) c44.nd rfl (Or.inl rfl) (pe_tup pa_nil))) (pss_one (ps_if (PW.pt (pw_and (pt_cmpR op_eq (pv 1) pe_str (nomark _)) (pw_and (pt_cmpR op_eq (pe_callB call_len_seq (by rfl) N.nl PySem.boot_len (pa_cons (pv 0) pa_nil)) pe_int (nomark _)) (pw_and1 (pt_val (pe_call (GL.mono (by decide)) hr (by rfl) DL.g DL.k DL.b .nil pass0 (pa_cons (pe_ix ix_tup (pv 0) pe_int (fun _ _ => rfl)) pa_nil))))))) (pss_one (ps_set (i := 2) c44.nd rfl (Or.inl rfl) (pe_tup pa_nil))) (pss_one (ps_if (PW.pt (pw_and (pt_cmpR op_eq (pv 1) pe_str (nomark _)) (pw_and (pt_cmpR op_eq (pe_callB call_len_seq (by rfl) N.nl PySem.boot_len (pa_cons (pv 0) pa_nil)) pe_int (nomark _)) (pw_and1 (pt_val (pe_call (GS.mono (by decide)) hr (by rfl) DS.g DS.k DS.b .nil pass0 (pa_cons (pe_ix ix_tup (pv 0) pe_int (fun _ _ => rfl)) pa_nil))))))) (pss_one (ps_set (i := 2) c44.nd rfl (Or.inl rfl) (pe_slice sl_tup (pv 0) (po_some pe_int) po_none))) (pss_one (ps_if (PW.pt (pw_and (pt_cmpR op_eq (pv 1) pe_str (nomark _)) (pw_and (pt_cmpR op_eq (pe_callB call_len_seq (by rfl) N.nl PySem.boot_len (pa_cons (pv 0) pa_nil)) pe_int (nomark _)) (pw_and1 (pt_val (pe_call GC hr (by rfl) DC.g DC.k DC.b .nil pass0 (pa_cons (pe_ix ix_tup (pv 0) pe_int (fun _ _ => rfl)) pa_nil))))))) (pss_one (ps_set (i := 2) c44.nd rfl (Or.inl rfl) (pe_slice sl_tup (pv 0) (po_some pe_int) po_none))) (pss_one (ps_if (PW.pt (pw_and (pt_cmpR op_eq (pv 1) pe_str (nomark _)) (pw_and (pt_cmpR op_eq (pe_callB call_len_seq (by rfl) N.nl PySem.boot_len (pa_cons (pv 0) pa_nil)) pe_int (nomark _)) (pw_and (pt_val (pe_call (GH.mono (by decide)) hr (by rfl) DH.g DH.k DH.b .nil pass0 (pa_cons (pe_ix ix_tup (pv 0) pe_int (fun _ _ => rfl)) pa_nil))) (pw_and1 (pt_val (pe_call (GT.mono (by decide)) hr (by rfl) DT.g DT.k DT.b .nil pass0 (pa_cons (pe_ix ix_tup (pv 0) pe_int (fun _ _ => rfl)) (pa_cons pe_int (pa_cons (pe_glob (v := .int 5) (by rfl) hF ⟨tf, rfl⟩) pa_nil)))))))))) (pss_one (ps_set (i := 2) c44.nd rfl (Or.inl rfl) (pe_ix ix_tup (pv 0) pe_int (fun _ _ => rfl)))) (pss_one (ps_if (PW.pt (pw_and (pt_cmpR op_eq (pv 1) pe_str (nomark _)) (pw_and (pt_cmpR op_eq (pe_callB call_len_seq (by rfl) N.nl PySem.boot_len (pa_cons (pv 0) pa_nil)) pe_int (nomark _)) (pw_and (pt_val (pe_call (GL.mono (by decide)) hr (by rfl) DL.g DL.k DL.b .nil pass0 (pa_cons (pe_ix ix_tup (pv 0) pe_int (fun _ _ => rfl)) pa_nil))) (pw_and1 (pt_val (pe_call (GT.mono (by decide)) hr (by rfl) DT.g DT.k DT.b .nil pass0 (pa_cons (pe_ix ix_tup (pv 0) pe_int (fun _ _ => rfl)) (pa_cons pe_int (pa_cons (pe_glob (v := .int 6) (by rfl) hP ⟨tp, rfl⟩) pa_nil)))))))))) (pss_one (ps_set (i := 2) c44.nd rfl (Or.inl rfl) (pe_ix ix_tup (pv 0) pe_int (fun _ _ => rfl)))) pss_nil))))))))))) (pss_cons (ps_if (pt_cmpR op_isN (pv 2) pe_non (nomark _)) (pss_one (ps_ret pe_non)) pss_nil) (pss_one (ps_ret (pe_tup (pa_cons pe_int (pa_cons (pv 2) (pa_cons (pe_tup pa_nil) pa_nil)))))))))), ?_⟩
    refine ⟨_, rfl, _, d, rfl, en.any, ?_⟩
    refine ⟨fun σ' H' => ∃ v, σ' = [some x, some (.str (firstW d)), some v] ∧ Grow H H' ∧ ((termP d = none ∧ v = .non) ∨ ∃ l' q xs', termP d = some l' ∧ v = .ref q ∧ H' q = some (.tup xs') ∧ EncsB B H' l' xs'), ?_, ?_⟩
    · refine rd_t1 (gj := isNum) rfl en (by decide) (by decide) (fun a xs l e0 ha el R' h => ⟨_, e0 ▸ rfl, a, xs, rfl, .inr (SqT.of ha), rfl, _, rfl, eqL (n := 2) el ▸ h⟩) (fun a xs l y e0 ha gy ey kk => ⟨_, rfl, a, _, _, _, e0, rfl, SqT.of ha, gy, _, _, rfl, ey.any, _, rfl, kk _ (Grow.refl _)⟩) (fun H1 gr1 => ?_)
      have gg1 := gr1
      have en1 := en.grow gg1
      refine ite2 (fun e1 => ?_) (fun e1 => ?_)
      · have e1 : k1 (firstW d) (parts d) = true := e1
        have et : termP d = some [] := by
          show termL (firstW d) (parts d) = _
          unfold termL
          rw [if_pos e1]
        exact ⟨Nat.zero_le _, fun p hp => ⟨.ref p, rfl, gg1.trans (Grow.new hp), .inr ⟨_, p, [], et, rfl, upd_same, .nil⟩⟩⟩
      · have e1 : ¬ k1 (firstW d) (parts d) = true := e1
        refine rd_t1 (gj := isLow) rfl en1 (by decide) (by decide) (fun a xs l e0 ha el R' h => ⟨_, e0 ▸ rfl, a, xs, rfl, .inr (SqT.of ha), rfl, _, rfl, eqL (n := 2) el ▸ h⟩) (fun a xs l y e0 ha gy ey kk => ⟨_, rfl, a, _, _, _, e0, rfl, SqT.of ha, gy, _, _, rfl, ey.any, _, rfl, kk _ (Grow.refl _)⟩) (fun H2 gr2 => ?_)
        have gg2 := gg1.trans gr2
        have en2 := en.grow gg2
        refine ite2 (fun e2 => ?_) (fun e2 => ?_)
        · have e2 : k2 (firstW d) (parts d) = true := e2
          have et : termP d = some [] := by
            show termL (firstW d) (parts d) = _
            unfold termL
            rw [if_neg e1, if_pos e2]
          exact ⟨Nat.zero_le _, fun p hp => ⟨.ref p, rfl, gg2.trans (Grow.new hp), .inr ⟨_, p, [], et, rfl, upd_same, .nil⟩⟩⟩
        · have e2 : ¬ k2 (firstW d) (parts d) = true := e2
          refine rd_t1 (gj := isSign) rfl en2 (by decide) (by decide) (fun a xs l e0 ha el R' h => ⟨_, e0 ▸ rfl, a, xs, rfl, .inr (SqT.of ha), rfl, _, rfl, eqL (n := 4) el ▸ h⟩) (fun a xs l y e0 ha gy ey kk => ⟨_, rfl, a, _, _, _, e0, rfl, SqT.of ha, gy, _, _, rfl, ey.any, trivial, fun H9 g9 => ⟨_, rfl, kk H9 g9⟩⟩) (fun H3 gr3 => ?_)
          have gg3 := gg2.trans gr3
          have en3 := en.grow gg3
          refine ite2 (fun e3 => ?_) (fun e3 => ?_)
          · have e3 : k3 (firstW d) (parts d) = true := e3
            have et : termP d = some ((parts d).drop 2) := by
              show termL (firstW d) (parts d) = _
              unfold termL
              rw [if_neg e1, if_neg e2, if_pos e3]
            unfold k3 at e3
            rw [Bool.and_eq_true, Bool.and_eq_true] at e3
            obtain ⟨l, rfl⟩ := wtup rfl e3.1 (by decide)
            obtain ⟨a, xs, rfl, ha, el⟩ := enc_tup en3
            have ln : l.length = 4 := of_decide_eq_true e3.2.1
            have hl : 2 < xs.length := by rw [← el.length]; omega
            refine ⟨_, rfl, _, rfl, a, xs, rfl, SqT.of ha, (cut2 hl).1, fun p hp => ⟨.ref p, rfl, gg3.trans (Grow.new hp), .inr ⟨_, p, xs.drop 2, et, rfl, ?_, encs_drop 2 (el.grow (Grow.new hp))⟩⟩⟩
            rw [(cut2 hl).2]
            exact upd_same
          · have e3 : ¬ k3 (firstW d) (parts d) = true := e3
            refine rd_t1 (gj := isFac) rfl en3 (by decide) (by decide) (fun a xs l e0 ha el R' h => ⟨_, e0 ▸ rfl, a, xs, rfl, .inr (SqT.of ha), rfl, _, rfl, eqL (n := 3) el ▸ h⟩) (fun a xs l y e0 ha gy ey kk => ⟨_, rfl, a, _, _, _, e0, rfl, SqT.of ha, gy, _, _, rfl, ey.any, _, rfl, kk _ (Grow.refl _)⟩) (fun H4 gr4 => ?_)
            have gg4 := gg3.trans gr4
            have en4 := en.grow gg4
            refine ite2 (fun e4 => ?_) (fun e4 => ?_)
            · have e4 : k4 (firstW d) (parts d) = true := e4
              have et : termP d = some ((parts d).drop 2) := by
                show termL (firstW d) (parts d) = _
                unfold termL
                rw [if_neg e1, if_neg e2, if_neg e3, if_pos e4]
              unfold k4 at e4
              rw [Bool.and_eq_true, Bool.and_eq_true] at e4
              obtain ⟨l, rfl⟩ := wtup rfl e4.1 (by decide)
              obtain ⟨a, xs, rfl, ha, el⟩ := enc_tup en4
              have ln : l.length = 3 := of_decide_eq_true e4.2.1
              have hl : 2 < xs.length := by rw [← el.length]; omega
              refine ⟨_, rfl, _, rfl, a, xs, rfl, SqT.of ha, (cut2 hl).1, fun p hp => ⟨.ref p, rfl, gg4.trans (Grow.new hp), .inr ⟨_, p, xs.drop 2, et, rfl, ?_, encs_drop 2 (el.grow (Grow.new hp))⟩⟩⟩
              rw [(cut2 hl).2]
              exact upd_same
            · have e4 : ¬ k4 (firstW d) (parts d) = true := e4
              refine rd_t2 (gj := isHig) (gj2 := isTu 0 5) rfl en4 (by decide) (by decide) (fun a xs l e0 ha el R' h => ⟨_, e0 ▸ rfl, a, xs, rfl, .inr (SqT.of ha), rfl, _, rfl, eqL (n := 3) el ▸ h⟩) (fun a xs l y e0 ha gy ey R' h => ⟨_, rfl, a, _, _, _, e0, rfl, SqT.of ha, gy, _, _, rfl, ey.any, _, rfl, h⟩) (fun a xs l y e0 ha gy ey h => ⟨_, rfl, a, _, _, _, e0, rfl, SqT.of ha, gy, _, _, _, _, rfl, ey.any, _, rfl, h⟩) (fun H5 gr5 => ?_)
              have gg5 := gg4.trans gr5
              have en5 := en.grow gg5
              refine ite2 (fun e5 => ?_) (fun e5 => ?_)
              · have e5 : k5 (firstW d) (parts d) = true := e5
                have et : termP d = some (parts (g2 (parts d))) := by
                  show termL (firstW d) (parts d) = _
                  unfold termL
                  rw [if_neg e1, if_neg e2, if_neg e3, if_neg e4, if_pos e5]
                unfold k5 at e5
                rw [Bool.and_eq_true, Bool.and_eq_true] at e5
                obtain ⟨l, rfl⟩ := wtup rfl e5.1 (by decide)
                obtain ⟨a, xs, rfl, ha, el⟩ := enc_tup en5
                have ln : l.length = 3 := of_decide_eq_true e5.2.1
                obtain ⟨z, gz, _, ez⟩ := get_at (j := 2) el (by omega)
                have ez : EncB B H5 (g2 l) z := ez
                refine ⟨_, rfl, a, _, _, _, rfl, rfl, SqT.of ha, gz, ?_⟩
                have e2 := e5.2.2
                rw [Bool.and_eq_true] at e2
                have e2 : isTu 0 5 (g2 l) = true := e2.2
                have et : termP (.tup l) = some (parts (g2 l)) := et
                generalize g2 l = d2 at e2 ez et
                cases ez with
                | @tup q xs2 l2 hq e3 => exact ⟨.ref q, rfl, gg5, .inr ⟨l2, q, xs2, et, rfl, hq, e3⟩⟩
                | _ => cases e2
              · have e5 : ¬ k5 (firstW d) (parts d) = true := e5
                refine rd_t2 (gj := isLow) (gj2 := isTu 0 6) rfl en5 (by decide) (by decide) (fun a xs l e0 ha el R' h => ⟨_, e0 ▸ rfl, a, xs, rfl, .inr (SqT.of ha), rfl, _, rfl, eqL (n := 3) el ▸ h⟩) (fun a xs l y e0 ha gy ey R' h => ⟨_, rfl, a, _, _, _, e0, rfl, SqT.of ha, gy, _, _, rfl, ey.any, _, rfl, h⟩) (fun a xs l y e0 ha gy ey h => ⟨_, rfl, a, _, _, _, e0, rfl, SqT.of ha, gy, _, _, _, _, rfl, ey.any, _, rfl, h⟩) (fun H6 gr6 => ?_)
                have gg6 := gg5.trans gr6
                have en6 := en.grow gg6
                refine ite2 (fun e6 => ?_) (fun e6 => ?_)
                · have e6 : k6 (firstW d) (parts d) = true := e6
                  have et : termP d = some (parts (g2 (parts d))) := by
                    show termL (firstW d) (parts d) = _
                    unfold termL
                    rw [if_neg e1, if_neg e2, if_neg e3, if_neg e4, if_neg e5, if_pos e6]
                  unfold k6 at e6
                  rw [Bool.and_eq_true, Bool.and_eq_true] at e6
                  obtain ⟨l, rfl⟩ := wtup rfl e6.1 (by decide)
                  obtain ⟨a, xs, rfl, ha, el⟩ := enc_tup en6
                  have ln : l.length = 3 := of_decide_eq_true e6.2.1
                  obtain ⟨z, gz, _, ez⟩ := get_at (j := 2) el (by omega)
                  have ez : EncB B H6 (g2 l) z := ez
                  refine ⟨_, rfl, a, _, _, _, rfl, rfl, SqT.of ha, gz, ?_⟩
                  have e2 := e6.2.2
                  rw [Bool.and_eq_true] at e2
                  have e2 : isTu 0 6 (g2 l) = true := e2.2
                  have et : termP (.tup l) = some (parts (g2 l)) := et
                  generalize g2 l = d2 at e2 ez et
                  cases ez with
                  | @tup q xs2 l2 hq e3 => exact ⟨.ref q, rfl, gg6, .inr ⟨l2, q, xs2, et, rfl, hq, e3⟩⟩
                  | _ => cases e2
                · have e6 : ¬ k6 (firstW d) (parts d) = true := e6
                  have et : termP d = none := by
                    show termL (firstW d) (parts d) = _
                    unfold termL
                    rw [if_neg e1, if_neg e2, if_neg e3, if_neg e4, if_neg e5, if_neg e6]
                  exact ⟨.non, rfl, gg6, .inl ⟨et, rfl⟩⟩
    · rintro σ' H' ⟨v, rfl, gr, h⟩
      rcases h with ⟨et, rfl⟩ | ⟨l', q, xs', et, rfl, hq, eq⟩
      · exact ⟨_, rfl, rfl, _, rfl, iteT (k0 et H' gr)⟩
      · refine ⟨_, rfl, rfl, _, rfl, iteF ?_⟩
        refine ⟨_, rfl, Nat.zero_le _, fun e he => ⟨by show 3 ≤ sizeLine; decide, fun p hp => ?_⟩⟩
        have g1' : Grow H' (upd H' e (.tup [])) := Grow.new he
        have g2' : Grow (upd H' e (.tup [])) (upd (upd H' e (.tup [])) p (.tup [.int 0, .ref q, .ref e])) := Grow.new hp
        exact ks l' et _ p q e xs' ((gr.trans g1').trans g2') upd_same ((g1'.trans g2').tup hq) (eq.grow (g1'.trans g2')) (g2'.tup upd_same)
end
end J1
set_option Elab.async false
set_option linter.all false
set_option maxRecDepth 100000
set_option maxHeartbeats 4000000
namespace J1
open PySem PySem.Spec PyProof.Rows L2 GxR GA
abbrev sBody : Stmt := top 97
theorem c42 : FnScope ["body", "word", "branches", "names", "branch"] ["body"] (defScope sBody) := ⟨rfl, rfl, rfl, by decide +kernel, rfl, by decide +kernel, by decide +kernel⟩
def g3 (l : List Da) : Da := l.getD 3 .non
def b1 (w : Str) (l : List Da) : Bool := decide (w = "let") && (lenIs l 4 && isLow (g1 l))
def b2 (w : Str) (l : List Da) : Bool := decide (w = "if") && lenIs l 5
def b3 (w : Str) (l : List Da) : Bool := decide (w = "give") && lenIs l 2
def b4 (w : Str) (l : List Da) : Bool := decide (w = "match") && (lenIs l 3 && isTu 1 8 (g2 l))
def namesOf (b : Da) : List Da := parts (g1 (parts b))
def bodyOf (b : Da) : Da := g2 (parts b)
def sumN (bs : List Da) : Nat := (bs.map fun b => (namesOf b).length).sum
def bodyL (w : Str) (l : List Da) : Option (Nat × List Da × List Da) :=
  if b1 w l = true then some (1, [g2 l], [g3 l]) else if b2 w l = true then some (0, (l.drop 1).take 2, l.drop 3) else if b3 w l = true then some (0, l.drop 1, [])
  else if b4 w l = true then (if (parts (g2 l)).all isBranch = true then some (sumN (parts (g2 l)), [g1 l], (parts (g2 l)).map bodyOf) else none) else none
def bodyP (d : Da) : Option (Nat × List Da × List Da) := bodyL (firstW d) (parts d)
theorem rd_t0 {B : Addr → Prop} {tl : TT} {n : Nat} {σ : L2.St} {H : Hp} {d : Da} {x : V} {R : Bool → Hp → Prop} {W : Str} (hσ : σ[1]? = some (some (.str (firstW d)))) (en : EncB B H d x) (hW : W ≠ "")
    (hl : ∀ a xs l, x = .ref a → H a = some (.tup xs) → EncsB B H l xs → ∀ R' : Bool → Hp → Prop, R' (lenIs l n) H → tl σ H R')
    (k : R (decide (firstW d = W) && lenIs (parts d) n) H) : tAnd (tTest (tOp rEq (tVar 1) fun _ H Q => Q (.str W) H)) tl σ H R := by
  refine rd_w hσ ?_
  by_cases e : decide (firstW d = W) = true
  · obtain ⟨l, rfl⟩ := wtup rfl e hW
    obtain ⟨a, xs, rfl, ha, el⟩ := enc_tup en
    rw [e]
    refine iteT (hl a xs l rfl ha el R ?_)
    rw [e, Bool.true_and] at k
    exact k
  · rw [Bool.eq_false_iff.mpr e]
    rw [Bool.eq_false_iff.mpr e, Bool.false_and] at k
    exact iteF k
theorem rd_t3 {B : Addr → Prop} {tl tj : TT} {n : Nat} {σ : L2.St} {H : Hp} {d : Da} {x : V} {R : Bool → Hp → Prop} {W : Str} {gj : Da → Bool} (hσ : σ[1]? = some (some (.str (firstW d)))) (en : EncB B H d x) (hW : W ≠ "") (hn : 2 < n)
    (hl : ∀ a xs l, x = .ref a → H a = some (.tup xs) → EncsB B H l xs → ∀ R' : Bool → Hp → Prop, R' (lenIs l n) H → tl σ H R')
    (hj : ∀ a xs l y, x = .ref a → H a = some (.tup xs) → atI xs 2 = some y → EncB B H (g2 l) y → R (gj (g2 l)) H → tj σ H R)
    (k : R (decide (firstW d = W) && (lenIs (parts d) n && gj (g2 (parts d)))) H) : tAnd (tTest (tOp rEq (tVar 1) fun _ H Q => Q (.str W) H)) (tAnd tl tj) σ H R := by
  refine rd_w hσ ?_
  by_cases e : decide (firstW d = W) = true
  · obtain ⟨l, rfl⟩ := wtup rfl e hW
    obtain ⟨a, xs, rfl, ha, el⟩ := enc_tup en
    rw [e]
    rw [e, Bool.true_and] at k
    refine iteT (hl a xs l rfl ha el _ ?_)
    by_cases e2 : lenIs l n = true
    · have ln : l.length = n := of_decide_eq_true e2
      obtain ⟨y, gy, _, ey⟩ := get_at (j := 2) el (by omega)
      have k : R (lenIs l n && gj (g2 l)) H := k
      rw [e2, Bool.true_and] at k
      rw [e2]
      exact iteT (hj a xs l y rfl ha gy ey k)
    · have k : R (lenIs l n && gj (g2 l)) H := k
      rw [Bool.eq_false_iff.mpr e2, Bool.false_and] at k
      rw [Bool.eq_false_iff.mpr e2]
      exact iteF k
  · rw [Bool.eq_false_iff.mpr e]
    rw [Bool.eq_false_iff.mpr e, Bool.false_and] at k
    exact iteF k
theorem encs_take {B : Addr → Prop} {H : Hp} : ∀ {l : List Da} {xs : List V} (n : Nat), EncsB B H l xs → EncsB B H (l.take n) (xs.take n)
  | _, _, 0, _ => .nil
  | _, _, n + 1, .nil => .nil
  | _, _, n + 1, .cons h t => .cons h (encs_take n t)
theorem encs_push {B : Addr → Prop} {H : Hp} : ∀ {l : List Da} {xs : List V} {d : Da} {x : V}, EncsB B H l xs → EncB B H d x → EncsB B H (l ++ [d]) (xs ++ [x])
  | _, _, _, _, .nil, h => .cons h .nil
  | _, _, _, _, .cons h t, e => .cons h (encs_push t e)
/-- all(..), what is wanted at the end in any form -/
theorem rd_allS {K : PySem.W.Frag} {P a : Addr} {xs : List V} {l : List Da} {j : Nat} {te : TE} {gj : Da → Bool} {T : Hp → Prop} {σ : L2.St} {H1 : Hp} {Q : VK} {S : List V → Hp → Prop} (ha : H1 a = some (.tup xs)) (el : Encs H1 l xs) (st : Stays T) (hT : T H1) (hP : TabG H1 P)
    (hel : ∀ x d H R, Enc H d x → T H → (∀ H', Grow H H' → R (.bl (gj d)) H') → te ((wipe σ [j]).set j (some x)) H R) (hS : ∀ acc H', Q (.bl true) H' → S acc H') (hQ : ∀ H', Grow H1 H' → Q (.bl (l.all gj)) H') :
    TabG H1 P ∧ ∀ H2, Tabbed P H1 H2 → ∃ W : Nat → Nat → List V → Hp → Prop, (∃ m, W 0 m [] H2) ∧ Turns (Itt K a) (gName j) tYes te [j] σ S (KAll Q) W := by
  obtain ⟨h1, h2⟩ := rd_all (K := K) (Q := Q) ha el st hT hP hel hQ
  refine ⟨h1, fun H2 t => ?_⟩
  obtain ⟨W, w0, turn⟩ := h2 H2 t
  refine ⟨W, w0, fun i m acc H w => ?_⟩
  rcases turn i m acc H w with ⟨z1, z2⟩ | z
  · exact .inl ⟨z1, hS acc H z2⟩
  · exact .inr z
/-- tuple(f(x) for x in t) -/
theorem rd_tupG {B : Addr → Prop} {K : PySem.W.Frag} {P a : Addr} {xs : List V} {l : List Da} {j : Nat} {te : TE} {f : Da → Da} {σ : L2.St} {H1 : Hp} {S : List V → Hp → Prop} (ha : H1 a = some (.tup xs)) (el : EncsB B H1 l xs) (hP : TabG H1 P) (hz : xs.length ≤ 1000)
    (hel : ∀ x d H R, d ∈ l → EncB B H d x → (∀ y, EncB B H (f d) y → R y H) → te ((wipe σ [j]).set j (some x)) H R)
    (hQ : ∀ acc H', Grow H1 H' → EncsB B H' (l.map f) acc → S acc H') :
    TabG H1 P ∧ ∀ H2, Tabbed P H1 H2 → ∃ W : Nat → Nat → List V → Hp → Prop, (∃ m, W 0 m [] H2) ∧ Turns (Itt K a) (gName j) tYes te [j] σ S KTup W := by
  refine ⟨hP, fun H2 t => turns_tup (xs := xs) (fun i acc H => Grow H1 H ∧ EncsB B H ((l.take i).map f) acc ∧ acc.length = i) ⟨Grow.tab hP t, .nil, rfl⟩ (fun i _ H _ p => p.1.tup ha) (fun i x acc H hx p => ?_) (fun acc H p => ?_)⟩
  · obtain ⟨d, hd, en⟩ := (el.grow p.1).get hx
    refine ⟨wipe_set, ?_⟩
    unfold tYes
    have hi : i < xs.length := (List.getElem?_eq_some_iff.mp hx).1
    refine iteT (hel x d H _ (List.mem_of_getElem? hd) en fun y ey => ⟨?_, p.1, ?_, ?_⟩)
    · rw [p.2.2, sizeLine_eq]; omega
    · rw [List.take_succ, hd, List.map_append]
      exact encs_push p.2.1 ey
    · rw [List.length_append, List.length_singleton, p.2.2]
  · have e := p.2.1
    rw [← el.length, List.take_length] at e
    exact hQ acc H p.1 e
/-- sum(f(x) for x in t), small -/
theorem rd_sumG {B : Addr → Prop} {K : PySem.W.Frag} {P a : Addr} {xs : List V} {l : List Da} {j : Nat} {te : TE} {f : Da → Nat} {σ : L2.St} {H1 : Hp} {S : List V → Hp → Prop} (ha : H1 a = some (.tup xs)) (el : EncsB B H1 l xs) (hP : TabG H1 P) (hz : xs.length ≤ 1000) (hf : ∀ d ∈ l, f d ≤ 1000)
    (hel : ∀ x d H R, d ∈ l → EncB B H d x → R (.int (f d)) H → te ((wipe σ [j]).set j (some x)) H R)
    (hQ : ∀ acc H', Grow H1 H' → accSum acc = ((l.map f).sum : Nat) → S acc H') :
    TabG H1 P ∧ ∀ H2, Tabbed P H1 H2 → ∃ W : Nat → Nat → List V → Hp → Prop, (∃ m, W 0 m [] H2) ∧ Turns (Itt K a) (gName j) tYes te [j] σ S KSum W := by
  have bound : ∀ i, ((l.take i).map f).sum ≤ 1000 * (l.take i).length := fun i => by
    have key : ∀ ll : List Da, (∀ d ∈ ll, f d ≤ 1000) → (ll.map f).sum ≤ 1000 * ll.length := fun ll => by
      induction ll with
      | nil => intro _; exact Nat.le_refl _
      | cons d r ih =>
        intro h
        have := ih fun d hd => h d (List.mem_cons_of_mem _ hd)
        have h1 := h d List.mem_cons_self
        rw [List.map_cons, List.sum_cons, List.length_cons]
        omega
    exact key _ fun d hd => hf d (List.mem_of_mem_take hd)
  refine ⟨hP, fun H2 t => turns_tup (xs := xs) (fun i acc H => Grow H1 H ∧ accSum acc = (((l.take i).map f).sum : Nat)) ⟨Grow.tab hP t, rfl⟩ (fun i _ H _ p => p.1.tup ha) (fun i x acc H hx p => ?_) (fun acc H p => ?_)⟩
  · obtain ⟨d, hd, en⟩ := (el.grow p.1).get hx
    refine ⟨wipe_set, ?_⟩
    unfold tYes
    have hi : i < xs.length := (List.getElem?_eq_some_iff.mp hx).1
    have hb := bound i
    have hlt : (l.take i).length ≤ i := by rw [List.length_take]; omega
    have hfd := hf d (List.mem_of_getElem? hd)
    have es : (((l.take (i + 1)).map f).sum : Nat) = ((l.take i).map f).sum + f d := by
      rw [List.take_succ, hd, List.map_append, List.sum_append]
      rfl
    refine iteT (hel x d H _ (List.mem_of_getElem? hd) en ⟨_, rfl, ⟨by omega, by omega⟩, ⟨by rw [p.2]; omega, by rw [p.2]; omega⟩, p.1, ?_⟩)
    rw [accSum_push, p.2, es]
    omega
  · have e := p.2
    rw [← el.length, List.take_length] at e
    exact hQ acc H p.1 e
theorem cutN {xs : List V} {n : Nat} (h0 : 0 < n) (h : n ≤ xs.length) : ¬ (HT.sIx xs.length 0 (some (n : Int)) = 0 ∧ HT.sIx xs.length xs.length none = xs.length) ∧ cutV xs (some (n : Int)) none = xs.drop n := by
  have e : HT.sIx xs.length 0 (some (n : Int)) = n := (HT.sIx_nat xs.length 0 n).trans (by omega)
  refine ⟨fun z => ?_, ?_⟩
  · rw [e] at z
    omega
  · unfold cutV
    rw [e, HT.sIx_none]
    exact List.take_of_length_le (by rw [List.length_drop]; omega)
theorem cut13 {xs : List V} (h : xs.length = 5) : ¬ (HT.sIx xs.length 0 (some ((1 : Nat) : Int)) = 0 ∧ HT.sIx xs.length xs.length (some ((3 : Nat) : Int)) = xs.length) ∧ cutV xs (some ((1 : Nat) : Int)) (some ((3 : Nat) : Int)) = (xs.drop 1).take 2 := by
  have e : HT.sIx xs.length 0 (some ((1 : Nat) : Int)) = 1 := (HT.sIx_nat xs.length 0 1).trans (by omega)
  have e3 : HT.sIx xs.length xs.length (some ((3 : Nat) : Int)) = 3 := (HT.sIx_nat xs.length xs.length 3).trans (by omega)
  refine ⟨fun z => ?_, ?_⟩
  · rw [e] at z
    omega
  · unfold cutV
    rw [e, e3]
theorem encs_eq {B : Addr → Prop} {H : Hp} {l : List Da} {xs ys : List V} (e : ys = xs) (h : EncsB B H l xs) : EncsB B H l ys := by
  rw [e]
  exact h
theorem branch_form {d : Da} (h : isBranch d = true) : ∃ d1 ns d3, d = .tup [d1, .tup ns, d3] ∧ ns.length ≤ 5 := by
  unfold isBranch at h
  split at h
  · rename_i d1 ns d3
    rw [Bool.and_eq_true, Bool.and_eq_true] at h
    exact ⟨d1, ns, d3, rfl, of_decide_eq_true h.2.1⟩
  · cases h
def rLen (K : PySem.W.Frag) : List V → Hp → VK → Prop := fun xs H Q => ∃ p ys, xs = [.ref p] ∧ (SqL K H p ys ∨ SqT K H p ys) ∧ Q (.int ys.length) H
def spBody (T : Hp → Prop) : Sp := fun vs H Q _ => ∃ B x d, vs = [x] ∧ EncB B H d x ∧ T H ∧ (bodyP d = none → ∀ H', Grow H H' → Q .non H') ∧
  ∀ n ts bs, bodyP d = some (n, ts, bs) → ∀ H' p q r xs ys, Grow H H' → H' p = some (.tup [.int (n : Nat), .ref q, .ref r]) → H' q = some (.tup xs) → EncsB B H' ts xs → H' r = some (.tup ys) → EncsB B H' bs ys → Q (.ref p) H'
section
variable {P : Program} {w : World} {K : PySem.W.Frag} {mg : Str → Option Value} {base : Heap}
theorem ok_body {f fF fL fT fB c PT : Addr} {fd fdF fdL fdT fdB : FuncData} {T TB' : Hp → Prop} (F : FunC K "_body_parts" "_body_parts" sBody f fd c) (N : Gn K mg) (G : Gk mg) (hsum : mg "sum" = none) (TB : TabB base mg c PT) (st : Stays T) (hTP : ∀ H, T H → TabG H PT) (hTB : ∀ H, T H → TB' H)
    (GF : FnOk P w K mg base CX0 1 fF fdF ["thing"] spW) (DF : Df K mg "first_word" ["thing"] fF fdF) (GL : FnOk P w K mg base CX0 2 fL fdL ["thing"] (spF isLow)) (DL : Df K mg "is_low" ["thing"] fL fdL)
    (GT : FnOk P w K mg base CX0 1 fT fdT ["thing", "least", "most"] (spF3 isTu)) (DT : Df K mg "is_tuple" ["thing", "least", "most"] fT fdT)
    (GB : FnOk P w K mg base CX0 4 fB fdB ["thing"] (spG TB' isBranch)) (DB : Df K mg "_is_branch" ["thing"] fB fdB) : FnOk P w K mg base CX0 6 f fd ["body"] (spBody T) := by
  obtain ⟨tm, hM⟩ := G.makers
  refine F.ok (k := 5) c42 (fun vs H Q E h => ?_) (fun A outer s H vs Q E hr h => ?_)
  · obtain ⟨B, x, d, rfl, _⟩ := h
    rfl
  · obtain ⟨B, x, d, rfl, en, hT, k0, ks⟩ := h
    refine ⟨_, (pss_cons (ps_set (i := 1) c42.nd rfl (Or.inl rfl) (pe_call (GF.mono (by decide)) hr (by rfl) DF.g DF.k DF.b .nil pass0 (pa_cons (pv 0) pa_nil))) (pss_cons (ps_if (PW.pt (pw_and (pt_cmpR op_eq (pv 1) pe_str (nomark _)) (pw_and (pt_cmpR op_eq (pe_callB call_len_seq (by rfl) N.nl PySem.boot_len (pa_cons (pv 0) pa_nil)) pe_int (nomark _)) (pw_and1 (pt_val (pe_call (GL.mono (by decide)) hr (by rfl) DL.g DL.k DL.b .nil pass0 (pa_cons (pe_ix ix_tup (pv 0) pe_int (fun _ _ => rfl)) pa_nil))))))) (pss_one (ps_ret (pe_tup (pa_cons pe_int (pa_cons (pe_tup (pa_cons (pe_ix ix_tup (pv 0) pe_int (fun _ _ => rfl)) pa_nil)) (pa_cons (pe_tup (pa_cons (pe_ix ix_tup (pv 0) pe_int (fun _ _ => rfl)) pa_nil)) pa_nil)))))) pss_nil) (pss_cons (ps_if (PW.pt (pw_and (pt_cmpR op_eq (pv 1) pe_str (nomark _)) (pw_and1 (pt_cmpR op_eq (pe_callB call_len_seq (by rfl) N.nl PySem.boot_len (pa_cons (pv 0) pa_nil)) pe_int (nomark _))))) (pss_one (ps_ret (pe_tup (pa_cons pe_int (pa_cons (pe_slice sl_tup (pv 0) (po_some pe_int) (po_some pe_int)) (pa_cons (pe_slice sl_tup (pv 0) (po_some pe_int) po_none) pa_nil)))))) pss_nil) (pss_cons (ps_if (PW.pt (pw_and (pt_cmpR op_eq (pv 1) pe_str (nomark _)) (pw_and1 (pt_cmpR op_eq (pe_callB call_len_seq (by rfl) N.nl PySem.boot_len (pa_cons (pv 0) pa_nil)) pe_int (nomark _))))) (pss_one (ps_ret (pe_tup (pa_cons pe_int (pa_cons (pe_slice sl_tup (pv 0) (po_some pe_int) po_none) (pa_cons (pe_tup pa_nil) pa_nil)))))) pss_nil) (pss_cons (ps_if (PW.pt (pw_and (pt_cmpR op_eq (pv 1) pe_str (nomark _)) (pw_and (pt_cmpR op_eq (pe_callB call_len_seq (by rfl) N.nl PySem.boot_len (pa_cons (pv 0) pa_nil)) pe_int (nomark _)) (pw_and1 (pt_val (pe_call (GT.mono (by decide)) hr (by rfl) DT.g DT.k DT.b .nil pass0 (pa_cons (pe_ix ix_tup (pv 0) pe_int (fun _ _ => rfl)) (pa_cons pe_int (pa_cons (pe_glob (v := .int 8) (by rfl) hM ⟨tm, rfl⟩) pa_nil))))))))) (pss_cons (ps_set (i := 2) c42.nd rfl (Or.inl rfl) (pe_ix ix_tup (pv 0) pe_int (fun _ _ => rfl))) (pss_one (ps_if (pt_val (pe_allG (k := 4) (own := [("branch", 4)]) hr rfl (by rfl) N.na c42.nd TB rfl ⟨rfl, by decide +kernel, rfl⟩ (blkOk_by (by show blkC ["body", "word", "branches", "names", "branch"] (defScope sBody) _ [("branch", 4)] = true; decide +kernel)) (pi_tup (pv 2)) (fun _ _ _ _ _ _ _ => pg_name c42.nd (i := 4) rfl (.inl rfl)) (fun _ _ _ _ _ _ _ => pts_nil) (fun _ _ _ _ _ _ hr' => pe_call GB hr' (by rfl) DB.g DB.k DB.b .nil pass0 (pa_cons (pv 4) pa_nil)))) (pss_cons (ps_set (i := 3) c42.nd rfl (Or.inl rfl) (pe_sumG (k := 4) (own := [("branch", 4)]) hr (by rfl) hsum c42.nd TB rfl ⟨rfl, by decide +kernel, rfl⟩ (blkOk_by (by show blkC ["body", "word", "branches", "names", "branch"] (defScope sBody) _ [("branch", 4)] = true; decide +kernel)) (pi_tup (pv 2)) (fun _ _ _ _ _ _ _ => pg_name c42.nd (i := 4) rfl (.inl rfl)) (fun _ _ _ _ _ _ _ => pts_nil) (fun _ _ _ _ _ _ hr' => pe_callB (r := rLen K) call_len_seq (by rfl) N.nl PySem.boot_len (pa_cons (pe_ix (r := rIxT K) ix_tup (pv 4) pe_int (fun _ _ => rfl)) pa_nil)))) (pss_one (ps_ret (pe_tup (pa_cons (pv 3) (pa_cons (pe_tup (pa_cons (pe_ix ix_tup (pv 0) pe_int (fun _ _ => rfl)) pa_nil)) (pa_cons (pe_tupG (k := 4) (own := [("branch", 4)]) hr (by rfl) N.nt c42.nd TB rfl ⟨rfl, by decide +kernel, rfl⟩ (blkOk_by (by show blkC ["body", "word", "branches", "names", "branch"] (defScope sBody) _ [("branch", 4)] = true; decide +kernel)) (pi_tup (pv 2)) (fun _ _ _ _ _ _ _ => pg_name c42.nd (i := 4) rfl (.inl rfl)) (fun _ _ _ _ _ _ _ => pts_nil) (fun _ _ _ _ _ _ hr' => pe_ix (r := rIxT K) ix_tup (pv 4) pe_int (fun _ _ => rfl))) pa_nil))))))) pss_nil))) pss_nil) (pss_one (ps_ret pe_non))))))), ?_⟩
    refine ⟨_, rfl, _, d, rfl, en.any, ?_⟩
    refine rd_t1 (gj := isLow) rfl en (by decide) (by decide) (fun a xs l e0 ha el R' h => ⟨_, e0 ▸ rfl, a, xs, rfl, .inr (SqT.of ha), rfl, _, rfl, eqL (n := 4) el ▸ h⟩) (fun a xs l y e0 ha gy ey kk => ⟨_, rfl, a, _, _, _, e0, rfl, SqT.of ha, gy, _, _, rfl, ey.any, _, rfl, kk _ (Grow.refl _)⟩) (fun H1 gr1 => ?_)
    have en1 := en.grow gr1
    refine ite2 (fun e1 => ?_) (fun e1 => ?_)
    · have e1 : b1 (firstW d) (parts d) = true := e1
      have et : bodyP d = some (1, [g2 (parts d)], [g3 (parts d)]) := by
          show bodyL (firstW d) (parts d) = _
          unfold bodyL
          rw [if_pos e1]
      unfold b1 at e1
      rw [Bool.and_eq_true, Bool.and_eq_true] at e1
      obtain ⟨l, rfl⟩ := wtup rfl e1.1 (by decide)
      obtain ⟨a, xs, rfl, ha, el⟩ := enc_tup en1
      have ln : l.length = 4 := of_decide_eq_true e1.2.1
      obtain ⟨z, gz, _, ez⟩ := get_at (j := 2) el (by omega)
      obtain ⟨y, gy, _, ey⟩ := get_at (j := 3) el (by omega)
      refine ⟨_, rfl, a, _, _, _, rfl, rfl, SqT.of ha, gz, (by show 1 ≤ sizeLine; decide), fun q hq => ?_⟩
      have gq : Grow H1 (upd H1 q (.tup [z])) := Grow.new hq
      refine ⟨_, rfl, a, _, _, _, rfl, rfl, SqT.of (gq.tup ha), gy, (by show 1 ≤ sizeLine; decide), fun r hr2 => ⟨by show 3 ≤ sizeLine; decide, fun p hp => ?_⟩⟩
      have gr2 : Grow (upd H1 q (.tup [z])) (upd (upd H1 q (.tup [z])) r (.tup [y])) := Grow.new hr2
      have gp : Grow (upd (upd H1 q (.tup [z])) r (.tup [y])) (upd (upd (upd H1 q (.tup [z])) r (.tup [y])) p (.tup [.int 1, .ref q, .ref r])) := Grow.new hp
      exact ks 1 _ _ et _ p q r [z] [y] (((gr1.trans gq).trans gr2).trans gp) upd_same ((gr2.trans gp).tup upd_same) (.cons (ez.grow ((gq.trans gr2).trans gp)) .nil) (gp.tup upd_same) (.cons (ey.grow ((gq.trans gr2).trans gp)) .nil)
    · have e1 : ¬ b1 (firstW d) (parts d) = true := e1
      refine rd_t0 (n := 5) rfl en1 (by decide) (fun a xs l e0 ha el R' h => ⟨_, e0 ▸ rfl, a, xs, rfl, .inr (SqT.of ha), rfl, _, rfl, eqL (n := 5) el ▸ h⟩) ?_
      refine ite2 (fun e2 => ?_) (fun e2 => ?_)
      · have e2 : b2 (firstW d) (parts d) = true := e2
        have et : bodyP d = some (0, ((parts d).drop 1).take 2, (parts d).drop 3) := by
            show bodyL (firstW d) (parts d) = _
            unfold bodyL
            rw [if_neg e1, if_pos e2]
        unfold b2 at e2
        rw [Bool.and_eq_true] at e2
        obtain ⟨l, rfl⟩ := wtup rfl e2.1 (by decide)
        obtain ⟨a, xs, rfl, ha, el⟩ := enc_tup en1
        have ln : l.length = 5 := of_decide_eq_true e2.2
        have hl : xs.length = 5 := by rw [← el.length]; exact ln
        refine ⟨_, rfl, _, rfl, _, rfl, a, xs, rfl, SqT.of ha, (cut13 hl).1, fun q hq => ?_⟩
        have gq : Grow H1 (upd H1 q (.tup (cutV xs (some ((1 : Nat) : Int)) (some ((3 : Nat) : Int))))) := Grow.new hq
        refine ⟨_, rfl, _, rfl, a, xs, rfl, SqT.of (gq.tup ha), (cutN (n := 3) (by decide) (by omega)).1, fun r hr2 => ⟨by show 3 ≤ sizeLine; decide, fun p hp => ?_⟩⟩
        have gr2 := Grow.new (o := .tup (cutV xs (some ((3 : Nat) : Int)) none)) hr2
        have gp := Grow.new (o := .tup [.int 0, .ref q, .ref r]) hp
        exact ks 0 _ _ et _ p q r _ _ (((gr1.trans gq).trans gr2).trans gp) upd_same ((gr2.trans gp).tup upd_same) (encs_eq (cut13 hl).2 (encs_take 2 (encs_drop 1 (el.grow ((gq.trans gr2).trans gp))))) (gp.tup upd_same) (encs_eq (cutN (n := 3) (by decide) (by omega)).2 (encs_drop 3 (el.grow ((gq.trans gr2).trans gp))))
      · have e2 : ¬ b2 (firstW d) (parts d) = true := e2
        refine rd_t0 (n := 2) rfl en1 (by decide) (fun a xs l e0 ha el R' h => ⟨_, e0 ▸ rfl, a, xs, rfl, .inr (SqT.of ha), rfl, _, rfl, eqL (n := 2) el ▸ h⟩) ?_
        refine ite2 (fun e3 => ?_) (fun e3 => ?_)
        · have e3 : b3 (firstW d) (parts d) = true := e3
          have et : bodyP d = some (0, (parts d).drop 1, []) := by
              show bodyL (firstW d) (parts d) = _
              unfold bodyL
              rw [if_neg e1, if_neg e2, if_pos e3]
          unfold b3 at e3
          rw [Bool.and_eq_true] at e3
          obtain ⟨l, rfl⟩ := wtup rfl e3.1 (by decide)
          obtain ⟨a, xs, rfl, ha, el⟩ := enc_tup en1
          have ln : l.length = 2 := of_decide_eq_true e3.2
          have hl : xs.length = 2 := by rw [← el.length]; exact ln
          refine ⟨_, rfl, _, rfl, a, xs, rfl, SqT.of ha, (cutN (n := 1) (by decide) (by omega)).1, fun q hq => ?_⟩
          have gq := Grow.new (o := .tup (cutV xs (some ((1 : Nat) : Int)) none)) hq
          refine ⟨Nat.zero_le _, fun r hr2 => ⟨by show 3 ≤ sizeLine; decide, fun p hp => ?_⟩⟩
          have gr2 := Grow.new (o := .tup []) hr2
          have gp := Grow.new (o := .tup [.int 0, .ref q, .ref r]) hp
          exact ks 0 _ _ et _ p q r _ _ (((gr1.trans gq).trans gr2).trans gp) upd_same ((gr2.trans gp).tup upd_same) (encs_eq (cutN (n := 1) (by decide) (by omega)).2 (encs_drop 1 (el.grow ((gq.trans gr2).trans gp)))) (gp.tup upd_same) .nil
        · have e3 : ¬ b3 (firstW d) (parts d) = true := e3
          refine rd_t3 (n := 3) (gj := isTu 1 8) rfl en1 (by decide) (by decide) (fun a xs l e0 ha el R' h => ⟨_, e0 ▸ rfl, a, xs, rfl, .inr (SqT.of ha), rfl, _, rfl, eqL (n := 3) el ▸ h⟩) (fun a xs l y e0 ha gy ey h => ⟨_, rfl, a, _, _, _, e0, rfl, SqT.of ha, gy, _, _, _, _, rfl, ey.any, _, rfl, h⟩) ?_
          refine ite2 (fun e4 => ?_) (fun e4 => ?_)
          · have e4 : b4 (firstW d) (parts d) = true := e4
            have et : bodyP d = if (parts (g2 (parts d))).all isBranch = true then some (sumN (parts (g2 (parts d))), [g1 (parts d)], (parts (g2 (parts d))).map bodyOf) else none := by
              show bodyL (firstW d) (parts d) = _
              unfold bodyL
              rw [if_neg e1, if_neg e2, if_neg e3, if_pos e4]
            unfold b4 at e4
            rw [Bool.and_eq_true, Bool.and_eq_true] at e4
            obtain ⟨l, rfl⟩ := wtup rfl e4.1 (by decide)
            obtain ⟨a, xs, rfl, ha, el⟩ := enc_tup en1
            have ln : l.length = 3 := of_decide_eq_true e4.2.1
            obtain ⟨z1, gz1, _, ez1⟩ := get_at (j := 1) el (by omega)
            obtain ⟨z, gz, _, ez⟩ := get_at (j := 2) el (by omega)
            have ez : EncB B H1 (g2 l) z := ez
            have ez1 : EncB B H1 (g1 l) z1 := ez1
            have e8 : isTu 1 8 (g2 l) = true := e4.2.2
            have et : bodyP (.tup l) = if (parts (g2 l)).all isBranch = true then some (sumN (parts (g2 l)), [g1 l], (parts (g2 l)).map bodyOf) else none := et
            generalize g2 l = d2 at e8 ez et
            cases ez with
            | @tup b xs2 l2 hb e3' =>
              have hT1 := st _ _ gr1 hT
              have hlen : xs2.length ≤ 1000 := by
                have e8 : (decide ((1 : Int) ≤ (l2.length : Int)) && decide ((l2.length : Int) ≤ 8)) = true := e8
                rw [Bool.and_eq_true] at e8
                have := of_decide_eq_true e8.2
                rw [← e3'.length]
                omega
              have et : bodyP (.tup l) = if l2.all isBranch = true then some (sumN l2, [g1 l], l2.map bodyOf) else none := et
              refine ⟨_, rfl, a, _, _, _, rfl, rfl, SqT.of ha, gz, ?_⟩
              refine ⟨_, rfl, b, rfl, ⟨xs2, SqT.of hb⟩, ?_⟩
              show _ ∧ _
              refine rd_allS (T := T) (gj := isBranch) hb e3'.any st hT1 (hTP _ hT1) (fun x d H R en hT' kk => ⟨_, rfl, _, d, rfl, en, hTB H hT', kk⟩) (fun _ _ h => h) (fun H2 gr2 => ?_)
              refine ⟨_, rfl, ?_⟩
              cases eall : l2.all isBranch with
              | false =>
                rw [if_neg (by rw [eall]; decide)] at et
                exact iteF (k0 et H2 (gr1.trans gr2))
              | true =>
                rw [if_pos eall] at et
                have allB := List.all_eq_true.mp eall
                refine iteT ⟨_, rfl, b, rfl, ⟨xs2, SqT.of (gr2.tup hb)⟩, ?_⟩
                show _ ∧ _
                refine rd_sumG (f := fun b => (namesOf b).length) (gr2.tup hb) (e3'.grow gr2) (hTP _ (st _ _ gr2 hT1)) hlen (fun d hd => ?_) (fun x d H R hd en kk => ?_) (fun acc3 H3 gr3 es3 => ?_)
                · obtain ⟨d1, ns, d3, rfl, h5⟩ := branch_form (allB d hd)
                  exact Nat.le_trans h5 (by decide)
                · obtain ⟨d1, ns, d3, rfl, h5⟩ := branch_form (allB d hd)
                  obtain ⟨c1, ys, rfl, hc1, ey⟩ := enc_tup en
                  obtain ⟨x1, x2, x3, rfl, h1, h2, h3⟩ := encs3 ey
                  obtain ⟨c2, ys2, rfl, hc2, ey2⟩ := enc_tup h2
                  refine ⟨_, rfl, c1, _, _, _, rfl, rfl, SqT.of hc1, at_of (j := 1) rfl rfl, c2, ys2, rfl, .inr (SqT.of hc2), ?_⟩
                  have e9 : (namesOf (.tup [d1, .tup ns, d3])).length = ys2.length := ey2.length
                  rw [e9] at kk
                  exact kk
                · refine ⟨_, rfl, ?_⟩
                  have g13 := gr2.trans gr3
                  refine ⟨_, rfl, a, _, _, _, rfl, rfl, SqT.of (g13.tup ha), gz1, (by show 1 ≤ sizeLine; decide), fun q hq => ?_⟩
                  have gq := Grow.new (o := .tup [z1]) hq
                  have g1q := g13.trans gq
                  refine ⟨_, rfl, b, rfl, ⟨xs2, SqT.of (g1q.tup hb)⟩, ?_⟩
                  show _ ∧ _
                  refine rd_tupG (f := bodyOf) (g1q.tup hb) (e3'.grow g1q) (hTP _ (st _ _ g1q hT1)) hlen (fun x d H R hd en kk => ?_) (fun ys H4 gr4 ey4 r hr4 => ⟨by show 3 ≤ sizeLine; decide, fun p hp => ?_⟩)
                  · obtain ⟨d1, ns, d3, rfl, h5⟩ := branch_form (allB d hd)
                    obtain ⟨c1, ys, rfl, hc1, ey⟩ := enc_tup en
                    obtain ⟨x1, x2, x3, rfl, h1, h2, h3⟩ := encs3 ey
                    exact ⟨_, rfl, c1, _, _, _, rfl, rfl, SqT.of hc1, at_of (j := 2) rfl rfl, kk x3 h3⟩
                  · have gn := Grow.new (o := .tup ys) hr4
                    have gp := Grow.new (o := .tup [.int (accSum acc3), .ref q, .ref r]) hp
                    exact ks _ _ _ et _ p q r [z1] ys ((((gr1.trans g1q).trans gr4).trans gn).trans gp) (by rw [← show accSum acc3 = ((sumN l2 : Nat) : Int) from es3]; exact upd_same) (((gr4.trans gn).trans gp).tup upd_same) (.cons (ez1.grow (((g1q.trans gr4).trans gn).trans gp)) .nil) (gp.tup upd_same) (ey4.grow (gn.trans gp))
            | _ => cases e8
          · have e4 : ¬ b4 (firstW d) (parts d) = true := e4
            have et : bodyP d = none := by
                show bodyL (firstW d) (parts d) = _
                unfold bodyL
                rw [if_neg e1, if_neg e2, if_neg e3, if_neg e4]
            exact k0 et H1 gr1
end
end J1
set_option Elab.async false
set_option linter.all false
set_option maxRecDepth 100000
set_option maxHeartbeats 4000000
namespace J1
open PySem PySem.Spec PyProof.Rows L2 GxR GA
abbrev sWhole : Stmt := top 96
theorem c41 : FnScope ["thing", "found", "waiting", "part", "as_body", "depth", "inner", "names", "terms", "bodies", "term", "body"] ["thing"] (defScope sWhole) := ⟨rfl, rfl, rfl, by decide +kernel, rfl, by decide +kernel, by decide +kernel⟩
abbrev It := Da × Bool × Nat
/-- the parts of a thing that is looked at as a body, or as an expression -/
def innerP (d : Da) (b : Bool) : Option (Nat × List Da × List Da) := if b = true then bodyP d else (termP d).map fun l => (0, l, [])
def next (n : Nat) (ts bs : List Da) : List It := ts.map (fun d => (d, false, n + 1)) ++ bs.map (fun d => (d, true, n + 1))
/-- what still waits, from the first on; how many parts were found -/
def runW : Nat → List It → Nat → Bool
  | 0, _, _ => false
  | k + 1, ws, found => match ws.reverse with
    | [] => true
    | (d, b, n) :: rest => match innerP d b with
      | none => false
      | some (nm, ts, bs) => if 100 < found + (1 + nm) ∨ 30 < n then false else runW k (rest.reverse ++ next n ts bs) (found + (1 + nm))
def wholeB (d : Da) : Bool := runW 102 [(d, true, 1)] 0
inductive ItsB (B : Addr → Prop) (H : Hp) : List It → List V → Prop
  | nil : ItsB B H [] []
  | cons {d : Da} {b : Bool} {n : Nat} {t : Addr} {y : V} {ws : List It} {xs : List V} (h : H t = some (.tup [y, .bl b, .int (n : Nat)])) (e : EncB B H d y) (r : ItsB B H ws xs) : ItsB B H ((d, b, n) :: ws) (.ref t :: xs)
theorem ItsB.app {B : Addr → Prop} {H : Hp} : ∀ {ws us : List It} {xs ys : List V}, ItsB B H ws xs → ItsB B H us ys → ItsB B H (ws ++ us) (xs ++ ys)
  | _, _, _, _, .nil, h => h
  | _, _, _, _, .cons h e r, k => .cons h e (ItsB.app r k)
theorem ItsB.length {B : Addr → Prop} {H : Hp} : ∀ {ws : List It} {xs : List V}, ItsB B H ws xs → ws.length = xs.length
  | _, _, .nil => rfl
  | _, _, .cons _ _ r => by rw [List.length_cons, List.length_cons, ItsB.length r]
theorem ItsB.last {B : Addr → Prop} {H : Hp} {i : It} : ∀ {ws : List It} {xs : List V}, ItsB B H (ws ++ [i]) xs → ∃ xs0 t y, xs = xs0 ++ [.ref t] ∧ ItsB B H ws xs0 ∧ H t = some (.tup [y, .bl i.2.1, .int (i.2.2 : Nat)]) ∧ EncB B H i.1 y
  | [], _, h => by
    cases h with
    | cons h e r =>
      cases r
      exact ⟨[], _, _, rfl, .nil, h, e⟩
  | j :: ws, _, h => by
    cases h with
    | cons h e r =>
      obtain ⟨xs0, t, y, rfl, r0, ht, ey⟩ := ItsB.last r
      exact ⟨_ :: xs0, t, y, rfl, .cons h e r0, ht, ey⟩
theorem GrowW.tup {w : Addr} {H H' : Hp} (g : GrowW w H H') (hw : ∀ xs, H w ≠ some (.tup xs)) {a : Addr} {xs : List V} (h : H a = some (.tup xs)) : H' a = some (.tup xs) := by
  rcases g a _ (fun z => hw xs (z ▸ h)) h with q | ⟨⟨ps, q⟩, _⟩
  · exact q
  · cases q
theorem ItsB.growW {B : Addr → Prop} {w : Addr} {H H' : Hp} (g : GrowW w H H') (hB : ¬ B w) (hw : ∀ xs, H w ≠ some (.tup xs)) : ∀ {ws : List It} {xs : List V}, ItsB B H ws xs → ItsB B H' ws xs
  | _, _, .nil => .nil
  | _, _, .cons h e r => .cons (g.tup hw h) (EncB.growW g hB hw e) (ItsB.growW g hB hw r)
theorem Grow.w {w : Addr} {H H' : Hp} (g : Grow H H') : GrowW w H H' := fun a o _ h => g a o h
theorem ItsB.grow {B : Addr → Prop} {H H' : Hp} (g : Grow H H') : ∀ {ws : List It} {xs : List V}, ItsB B H ws xs → ItsB B H' ws xs
  | _, _, .nil => .nil
  | _, _, .cons h e r => .cons (g.tup h) (e.grow g) (ItsB.grow g r)
theorem GrowW.upd {w : Addr} {H : Hp} {o : HO} : GrowW w H (upd H w o) := fun a u n h => .inl (by rw [upd_ne n]; exact h)
mutual
/-- lists stand where there are some -/
theorem EncB.here {H : Hp} : ∀ {d : Da} {x : V}, Enc H d x → EncB (fun a => ∃ xs, H a = some (.lst xs)) H d x
  | _, _, .non => .non
  | _, _, .bl b => .bl b
  | _, _, .int i => .int i
  | _, _, .str s h => .str s h
  | _, _, .tup h e => .tup h (EncsB.here e)
  | _, _, .lst h e _ => .lst h (EncsB.here e) ⟨_, h⟩
theorem EncsB.here {H : Hp} : ∀ {l : List Da} {xs : List V}, Encs H l xs → EncsB (fun a => ∃ xs, H a = some (.lst xs)) H l xs
  | _, _, .nil => .nil
  | _, _, .cons h t => .cons (EncB.here h) (EncsB.here t)
end
/-- what was there at the entry stays -/
theorem Grow.but {w : Addr} {H0 H : Hp} {o : HO} (g : Grow H0 H) (hw : H0 w = none) : Grow H0 (upd H w o) := fun a u h => by
  have n : a ≠ w := fun z => by rw [z, hw] at h; cases h
  rcases g a u h with q | ⟨q1, ps, q2, q3⟩
  · exact .inl (by rw [upd_ne n]; exact q)
  · exact .inr ⟨q1, ps, by rw [upd_ne n]; exact q2, q3⟩
theorem parts_len {d : Da} {n : Int} (h : isTu 0 n d = true) : ((parts d).length : Int) ≤ n := by
  cases d with
  | tup l =>
    have h : (decide ((0 : Int) ≤ (l.length : Int)) && decide ((l.length : Int) ≤ n)) = true := h
    rw [Bool.and_eq_true] at h
    exact of_decide_eq_true h.2
  | _ => cases h
theorem term_len {d : Da} {l : List Da} (h : termP d = some l) : l.length ≤ 6 := by
  have h : termL (firstW d) (parts d) = some l := h
  unfold termL at h
  split at h
  · cases h; exact Nat.zero_le _
  split at h
  · cases h; exact Nat.zero_le _
  split at h
  · rename_i e
    cases h
    unfold k3 lenIs at e
    simp only [Bool.and_eq_true, decide_eq_true_eq] at e
    rw [List.length_drop]; omega
  split at h
  · rename_i e
    cases h
    unfold k4 lenIs at e
    simp only [Bool.and_eq_true, decide_eq_true_eq] at e
    rw [List.length_drop]; omega
  split at h
  · rename_i e
    cases h
    unfold k5 at e
    simp only [Bool.and_eq_true] at e
    have := parts_len e.2.2.2
    omega
  split at h
  · rename_i e
    cases h
    unfold k6 at e
    simp only [Bool.and_eq_true] at e
    have := parts_len e.2.2.2
    omega
  · cases h
theorem body_len {d : Da} {n : Nat} {ts bs : List Da} (h : bodyP d = some (n, ts, bs)) : ts.length ≤ 2 ∧ bs.length ≤ 8 := by
  have h : bodyL (firstW d) (parts d) = some (n, ts, bs) := h
  unfold bodyL at h
  split at h
  · cases h; exact ⟨by simp, by simp⟩
  split at h
  · rename_i e
    cases h
    unfold b2 lenIs at e
    simp only [Bool.and_eq_true, decide_eq_true_eq] at e
    exact ⟨by rw [List.length_take]; omega, by rw [List.length_drop]; omega⟩
  split at h
  · rename_i e
    cases h
    unfold b3 lenIs at e
    simp only [Bool.and_eq_true, decide_eq_true_eq] at e
    exact ⟨by rw [List.length_drop]; omega, by simp⟩
  split at h
  · rename_i e
    unfold b4 at e
    simp only [Bool.and_eq_true] at e
    have e2 := e.2.2
    split at h
    · cases h
      refine ⟨by simp, ?_⟩
      rw [List.length_map]
      generalize g2 (parts d) = d2 at e2
      cases d2 with
      | tup l =>
        have e2 : (decide ((1 : Int) ≤ (l.length : Int)) && decide ((l.length : Int) ≤ 8)) = true := e2
        rw [Bool.and_eq_true] at e2
        have := of_decide_eq_true e2.2
        show l.length ≤ 8
        omega
      | _ => cases e2
    · cases h
  · cases h
theorem inner_len {d : Da} {b : Bool} {n : Nat} {ts bs : List Da} (h : innerP d b = some (n, ts, bs)) : ts.length ≤ 6 ∧ bs.length ≤ 8 := by
  unfold innerP at h
  split at h
  · have := body_len h
    omega
  · cases e : termP d with
    | none => rw [e] at h; cases h
    | some l =>
      rw [e] at h
      cases h
      exact ⟨term_len e, Nat.zero_le _⟩
theorem run_cons {k found n : Nat} {r : List It} {d : Da} {b : Bool} : runW (k + 1) (r ++ [(d, b, n)]) found = match innerP d b with
    | none => false
    | some (nm, ts, bs) => if 100 < found + (1 + nm) ∨ 30 < n then false else runW k (r ++ next n ts bs) (found + (1 + nm)) := by
  have e : (r ++ [(d, b, n)]).reverse = (d, b, n) :: r.reverse := by rw [List.reverse_append]; rfl
  show (match (r ++ [(d, b, n)]).reverse with
    | [] => true
    | (d, b, n) :: rest => match innerP d b with
      | none => false
      | some (nm, ts, bs) => if 100 < found + (1 + nm) ∨ 30 < n then false else runW k (rest.reverse ++ next n ts bs) (found + (1 + nm))) = _
  rw [e]
  show (match innerP d b with
      | none => false
      | some (nm, ts, bs) => if 100 < found + (1 + nm) ∨ 30 < n then false else runW k (r.reverse.reverse ++ next n ts bs) (found + (1 + nm))) = _
  rw [List.reverse_reverse]
theorem its_step {B : Addr → Prop} {Hd : Hp} {D t : Addr} {acc : List V} {ws : List It} {d : Da} {x : V} {b : Bool} {n : Nat} (hacc : Hd D = some (.lst acc)) (its : ItsB B Hd ws acc) (en : EncB B Hd d x) (ht : Hd t = none) (nD : ¬ B D) :
    ItsB B (upd (upd Hd t (.tup [x, .bl b, .int ((n + 1 : Nat) : Int)])) D (.lst (acc ++ [.ref t]))) (ws ++ [(d, b, n + 1)]) (acc ++ [.ref t]) := by
  have g : Grow Hd (upd Hd t (.tup [x, .bl b, .int ((n + 1 : Nat) : Int)])) := Grow.new ht
  have hw : ∀ xs, (upd Hd t (.tup [x, .bl b, .int ((n + 1 : Nat) : Int)])) D ≠ some (.tup xs) := fun xs z => by
    rw [g.lst hacc] at z
    cases z
  exact ((its.grow g).app (.cons upd_same (en.grow g) .nil)).growW GrowW.upd nD hw
theorem take_map {l : List Da} {f : Da → It} {i : Nat} {d : Da} (e : l[i]? = some d) : (l.take (i + 1)).map f = (l.take i).map f ++ [f d] := by
  rw [List.take_succ, e, List.map_append]
  rfl
theorem Grow.none {H H' : Hp} (g : Grow H H') {a : Addr} (h : H' a = none) : H a = none := by
  cases e : H a with
  | none => rfl
  | some o =>
    rcases g a o e with q | ⟨_, ps, q, _⟩
    · rw [h] at q; cases q
    · rw [h] at q; cases q
section
variable {P : Program} {w : World} {K : PySem.W.Frag} {mg : Str → Option Value} {base : Heap}
theorem ok_whole {f fB fT : Addr} {fd fdB fdT : FuncData} {T : Hp → Prop} (F : Fun K "_is_whole_body" "_is_whole_body" sWhole f fd) (hMP : ∃ t, mg "MOST_PARTS" = some (.int 100 t)) (hMC : ∃ t, mg "MOST_CHAIN" = some (.int 30 t)) (st : Stays T)
    (GB : FnOk P w K mg base CX0 6 fB fdB ["body"] (spBody T)) (DB : Df K mg "_body_parts" ["body"] fB fdB) (GT : FnOk P w K mg base CX0 4 fT fdT ["term"] spTerm) (DT : Df K mg "_term_parts" ["term"] fT fdT) :
    FnOk P w K mg base CX0 7 f fd ["thing"] (spG T wholeB) := by
  obtain ⟨tp, hMP⟩ := hMP
  obtain ⟨tc, hMC⟩ := hMC
  refine F.ok (k := 6) c41 (fun vs H Q E h => ?_) (fun cdv A outer s H vs Q E hr h => ?_)
  · obtain ⟨x, d, rfl, _⟩ := h
    rfl
  · obtain ⟨x, d, rfl, en, hT, kq⟩ := h
    refine ⟨_, (pss_cons (ps_set (i := 1) c41.nd rfl (Or.inl rfl) pe_int) (pss_cons (ps_set (i := 2) c41.nd rfl (Or.inl rfl) (pe_lst (pa_cons (pe_tup (pa_cons (pv 0) (pa_cons pe_bl (pa_cons pe_int pa_nil)))) pa_nil))) (pss_cons (ps_while PassesOwn.never (pt_truth (pv 2) (fun _ => rfl)) (pss_cons (ps_asg (pe_bm0 PySem.F.plainAttrs_list PySem.F.slot_list_pop PySem.F.type_list_pop mt_pop (pv 2)) (pg_tup (by rfl) (pgs_cons (pg_name (i := 3) c41.nd rfl (Or.inl rfl)) (pgs_cons (pg_name (i := 4) c41.nd rfl (Or.inl rfl)) (pgs_cons (pg_name (i := 5) c41.nd rfl (Or.inr rfl)) pgs_nil))))) (C8.pss_cut (ps_set (i := 6) c41.nd rfl (Or.inl rfl) (pe_ifExp (pt_val (pv 4)) (pe_call GB hr (by rfl) DB.g DB.k DB.b .nil pass0 (pa_cons (pv 3) pa_nil)) (pe_call (GT.mono (by decide)) hr (by rfl) DT.g DT.k DT.b .nil pass0 (pa_cons (pv 3) pa_nil)))) (pss_cons (ps_if (pt_cmpR op_isN (pv 6) pe_non (nomark _)) (pss_one (ps_ret pe_bl)) pss_nil) (pss_cons (ps_asg (pv 6) (pg_tup (by rfl) (pgs_cons (pg_name (i := 7) c41.nd rfl (Or.inl rfl)) (pgs_cons (pg_name (i := 8) c41.nd rfl (Or.inl rfl)) (pgs_cons (pg_name (i := 9) c41.nd rfl (Or.inl rfl)) pgs_nil))))) (pss_cons (ps_aug (i := 1) c41.nd rfl (.inl rfl) (pe_op op_add pe_int (pv 7)) ip_add) (pss_cons (ps_if (PW.pt (pw_or (pt_cmpR op_gt (pv 1) (pe_glob (v := .int 100) (by rfl) hMP ⟨tp, rfl⟩) (nomark _)) (pw_or1 (pt_cmpR op_gt (pv 5) (pe_glob (v := .int 30) (by rfl) hMC ⟨tc, rfl⟩) (nomark _))))) (pss_one (ps_ret pe_bl)) pss_nil) (pss_cons (ps_expr (pe_bm PySem.F.plainAttrs_list PySem.F.slot_list_extend PySem.F.type_list_extend mt_extend (pv 2) (pa_cons (pe_lc (own := [("term", 10)]) (g := gName 10) (tt := tYes) (by rfl) c41.nd (pi_tup (pv 8)) (blkOk_by (own := [("term", 10)]) (N := ["thing", "found", "waiting", "part", "as_body", "depth", "inner", "names", "terms", "bodies", "term", "body"]) (sc := defScope sWhole) (by decide +kernel)) (fun _ _ _ _ _ => pg_name (i := 10) c41.nd rfl (Or.inl rfl)) (fun _ _ _ _ _ => pts_nil) (fun _ _ _ _ _ => pe_tup (pa_cons (pv 10) (pa_cons pe_bl (pa_cons (pe_op op_add (pv 5) pe_int) pa_nil))))) pa_nil))) (pss_one (ps_expr (pe_bm PySem.F.plainAttrs_list PySem.F.slot_list_extend PySem.F.type_list_extend mt_extend (pv 2) (pa_cons (pe_lc (own := [("body", 11)]) (g := gName 11) (tt := tYes) (by rfl) c41.nd (pi_tup (pv 9)) (blkOk_by (own := [("body", 11)]) (N := ["thing", "found", "waiting", "part", "as_body", "depth", "inner", "names", "terms", "bodies", "term", "body"]) (sc := defScope sWhole) (by decide +kernel)) (fun _ _ _ _ _ => pg_name (i := 11) c41.nd rfl (Or.inl rfl)) (fun _ _ _ _ _ => pts_nil) (fun _ _ _ _ _ => pe_tup (pa_cons (pv 11) (pa_cons pe_bl (pa_cons (pe_op op_add (pv 5) pe_int) pa_nil))))) pa_nil)))))))))))) (pss_one (ps_ret pe_bl))))), ?_⟩
    have en := EncB.here en
    generalize hB : (fun a => ∃ xs, H a = some (.lst xs)) = B at en
    have young : ∀ w, H w = none → ¬ B w := fun w hw z => by
      rw [← hB] at z
      obtain ⟨xs, z⟩ := z
      rw [hw] at z
      cases z
    refine ⟨_, rfl, by show 3 ≤ sizeLine; decide, fun t0 ht0 => ⟨by show 1 ≤ sizeLine; decide, fun wl hwl => ?_⟩⟩
    have gt0 : Grow H (upd H t0 (.tup [x, .bl true, .int 1])) := Grow.new ht0
    have gw0 : Grow (upd H t0 (.tup [x, .bl true, .int 1])) (upd (upd H t0 (.tup [x, .bl true, .int 1])) wl (.lst [.ref t0])) := Grow.new hwl
    have hwl0 : H wl = none := by
      by_cases z : wl = t0
      · rw [z, upd_same] at hwl; cases hwl
      · rw [upd_ne z] at hwl; exact hwl
    have nB := young wl hwl0
    dsimp only [gName]
    unfold tSeq
    refine while_by (fun σ' Hc => ∃ (ws : List It) (xs : List V) (found k : Nat) (v3 v4 v5 v6 v7 v8 v9 v10 v11 : Option V), σ' = [some x, some (.int (found : Nat)), some (.ref wl), v3, v4, v5, v6, v7, v8, v9, v10, v11] ∧ Hc wl = some (.lst xs) ∧ Grow H Hc ∧ ItsB B Hc ws xs ∧
      found ≤ 100 ∧ 102 ≤ k + found ∧ runW k ws found = wholeB d ∧ xs.length ≤ 1 + 14 * found) (fun (σ' : L2.St) _ => match σ'[1]? with | some (some (V.int f)) => (101 - f).toNat | _ => 0) ?_ ?_ ?_
    · refine ⟨[(d, true, 1)], [.ref t0], 0, 102, none, none, none, none, none, none, none, none, none, rfl, upd_same, gt0.trans gw0, .cons (gw0.tup upd_same) (en.grow (gt0.trans gw0)) .nil, Nat.zero_le _, Nat.le_refl _, rfl, by simp⟩
    · rintro σ' Hc ⟨ws, xs, found, k, v3, v4, v5, v6, v7, v8, v9, v10, v11, rfl, hw, gH, its, hf, hk, hrun, hlen⟩
      have hwt : ∀ ys, Hc wl ≠ some (.tup ys) := fun ys z => by rw [hw] at z; cases z
      obtain ⟨k, rfl⟩ : ∃ k', k = k' + 1 := ⟨k - 1, by omega⟩
      refine ⟨_, rfl, _, .inl ⟨xs, SqL.of hw, rfl⟩, ?_⟩
      cases hr0 : ws.reverse with
      | nil =>
        have e0 : ws = [] := List.reverse_eq_nil_iff.mp hr0
        subst e0
        cases its
        have q := kq Hc gH
        have er : wholeB d = true := by
          rw [← hrun]
          rfl
        rw [er] at q
        exact iteF q
      | cons i rest =>
        obtain ⟨d1, b1, n1⟩ := i
        have ews : ws = rest.reverse ++ [(d1, b1, n1)] := by
          rw [← List.reverse_reverse ws, hr0, List.reverse_cons]
        subst ews
        obtain ⟨xs0, t, y, rfl, its0, ht, ey⟩ := ItsB.last its
        have hne : (!(xs0 ++ [V.ref t]).isEmpty) = true := by cases xs0 <;> rfl
        rw [hne]
        refine iteT ⟨_, rfl, .inl ⟨rfl, _, SqL.of hw⟩, wl, _, V.ref t, rfl, rfl, hw, by simp, ?_⟩
        rw [List.dropLast_concat]
        have gu : GrowW wl Hc (upd Hc wl (.lst xs0)) := GrowW.upd
        refine ⟨t, _, rfl, SqT.of (gu.tup hwt ht), rfl, _, _, rfl, _, _, rfl, _, _, rfl, rfl, ?_⟩
        have its1 := its0.growW gu nB hwt
        have ey1 := ey.growW gu nB hwt
        have g1 := gH.but (o := .lst xs0) hwl0
        generalize hH1 : upd Hc wl (.lst xs0) = H1 at its1 ey1 g1
        have hw1 : H1 wl = some (.lst xs0) := by rw [← hH1]; exact upd_same
        have hT1 := st _ _ g1 hT
        refine ⟨fun σ2 H2 => ∃ v, σ2 = [some x, some (.int (found : Nat)), some (.ref wl), some y, some (.bl b1), some (.int (n1 : Nat)), some v, v7, v8, v9, v10, v11] ∧ Grow H1 H2 ∧ ((innerP d1 b1 = none ∧ v = .non) ∨ ∃ nm ts bs p q r us zs, innerP d1 b1 = some (nm, ts, bs) ∧ v = .ref p ∧
          H2 p = some (.tup [.int (nm : Nat), .ref q, .ref r]) ∧ H2 q = some (.tup us) ∧ EncsB B H2 ts us ∧ H2 r = some (.tup zs) ∧ EncsB B H2 bs zs), ?_, ?_⟩
        · refine ⟨_, rfl, _, rfl, ?_⟩
          cases b1 with
          | true =>
            have ei : innerP d1 true = bodyP d1 := if_pos rfl
            exact iteT ⟨_, rfl, B, _, d1, rfl, ey1, hT1, fun e0 H2 g2 => ⟨.non, rfl, g2, .inl ⟨ei.trans e0, rfl⟩⟩, fun nm ts bs es H2 p q r us zs g2 hp hq eq hr er => ⟨.ref p, rfl, g2, .inr ⟨nm, ts, bs, p, q, r, us, zs, ei.trans es, rfl, hp, hq, eq, hr, er⟩⟩⟩
          | false =>
            have ei : innerP d1 false = (termP d1).map fun l => (0, l, []) := if_neg (by decide)
            exact iteF ⟨_, rfl, B, _, d1, rfl, ey1, fun e0 H2 g2 => ⟨.non, rfl, g2, .inl ⟨ei.trans (by rw [e0]; rfl), rfl⟩⟩, fun l es H2 p q e us g2 hp hq eq he => ⟨.ref p, rfl, g2, .inr ⟨0, l, [], p, q, e, us, [], ei.trans (by rw [es]; rfl), rfl, hp, hq, eq, he, .nil⟩⟩⟩
        · rintro σ2 H2 ⟨v, rfl, g2, h⟩
          rcases h with ⟨ei, rfl⟩ | ⟨nm, ts, bs, p, q, r, us, zs, ei, rfl, hp, hq, eq, hr, er⟩
          · have er : wholeB d = false := by
              rw [← hrun, run_cons, ei]
            have q := kq H2 (g1.trans g2)
            rw [er] at q
            exact ⟨_, rfl, rfl, _, rfl, iteT q⟩
          · refine ⟨_, rfl, rfl, _, rfl, iteF ?_⟩
            refine ⟨_, rfl, p, _, rfl, SqT.of hp, rfl, _, _, rfl, _, _, rfl, _, _, rfl, rfl, ?_⟩
            refine ⟨_, rfl, _, rfl, _, _, rfl, rfl, ?_⟩
            refine ⟨_, _, rfl, rfl, ?_⟩
            have q0 := kq H2 (g1.trans g2)
            have hil := inner_len ei
            by_cases c1 : (100 : Int) < (found : Int) + (1 + (nm : Int))
            · have er0 : wholeB d = false := by
                rw [← hrun, run_cons, ei]
                show (if 100 < found + (1 + nm) ∨ 30 < n1 then false else _) = false
                rw [if_pos (by omega)]
              rw [er0] at q0
              exact ⟨_, rfl, _, _, rfl, rfl, _, rfl, ifT c1 (iteT q0)⟩
            · refine ⟨_, rfl, _, _, rfl, rfl, _, rfl, ifF c1 ⟨_, rfl, _, _, rfl, rfl, _, rfl, ?_⟩⟩
              by_cases c2 : (30 : Int) < (n1 : Int)
              · have er0 : wholeB d = false := by
                  rw [← hrun, run_cons, ei]
                  show (if 100 < found + (1 + nm) ∨ 30 < n1 then false else _) = false
                  rw [if_pos (by omega)]
                rw [er0] at q0
                rw [decide_eq_true c2]
                exact iteT q0
              · rw [decide_eq_false c2]
                refine iteF ?_
                have hw2 := g2.lst hw1
                refine ⟨_, rfl, .inl ⟨rfl, _, SqL.of hw2⟩, _, rfl, q, rfl, ⟨us, SqT.of hq⟩, fun D1 hD1 => ?_⟩
                have nD1 := young D1 (Grow.none (g1.trans g2) hD1)
                have neD1 : wl ≠ D1 := fun z => by rw [← z, hw2] at hD1; cases hD1
                refine lc_tup (xs := us) (fun i Hc => ∃ acc, Hc D1 = some (.lst acc) ∧ ItsB B Hc ((ts.take i).map fun d => (d, false, n1 + 1)) acc ∧ acc.length = i ∧ Grow H2 Hc) ⟨[], upd_same, .nil, rfl, Grow.new hD1⟩ (fun i Hc _ hp => SqT.of (hp.choose_spec.2.2.2.tup hq)) (fun i z Hc hz hp => ?_) (fun Hd1 hp => ?_)
                · obtain ⟨acc, hacc, its, hl, gc⟩ := hp
                  obtain ⟨d2, hd2, en2⟩ := (eq.grow gc).get hz
                  refine ⟨wipe_set, ?_⟩
                  unfold tYes
                  refine iteT ⟨_, rfl, _, rfl, _, _, rfl, rfl, (by show 3 ≤ sizeLine; decide), fun t2 ht2 => ⟨acc, (Grow.new ht2).lst hacc, ?_, acc ++ [.ref t2], upd_same, ?_, ?_, ?_⟩⟩
                  · have h1 : i < us.length := (List.getElem?_eq_some_iff.mp hz).1
                    have h2 := eq.length
                    rw [hl, sizeLine_eq]
                    omega
                  · rw [take_map hd2]
                    exact its_step hacc its en2 ht2 nD1
                  · rw [List.length_append, List.length_singleton, hl]
                  · exact (gc.trans (Grow.new ht2)).but hD1
                · obtain ⟨acc1, hacc1, itsD1, hlD1, gD1⟩ := hp
                  have itsD1 : ItsB B Hd1 (ts.map fun d => (d, false, n1 + 1)) acc1 := by
                    have e := itsD1
                    rw [← eq.length, List.take_length] at e
                    exact e
                  have hw2' := gD1.lst hw2
                  have lenD1 : acc1.length ≤ 6 := by rw [hlD1, ← eq.length]; omega
                  refine ⟨wl, D1, xs0, acc1, rfl, rfl, hw2', hacc1, by rw [sizeLine_eq]; simp only [List.length_append] at hlen ⊢; omega, ?_⟩
                  have gu2 : GrowW wl Hd1 (upd Hd1 wl (.lst (xs0 ++ acc1))) := GrowW.upd
                  have hw2t : ∀ ys, Hd1 wl ≠ some (.tup ys) := fun ys z => by rw [hw2'] at z; cases z
                  have hr4 := gu2.tup hw2t (gD1.tup hr)
                  have er4 := (er.grow gD1).growW gu2 nB hw2t
                  have hw3 : (upd Hd1 wl (.lst (xs0 ++ acc1))) wl = some (.lst (xs0 ++ acc1)) := upd_same
                  have hH4 : upd Hd1 wl (.lst (xs0 ++ acc1)) = upd Hd1 wl (.lst (xs0 ++ acc1)) := rfl
                  refine ⟨_, rfl, .inl ⟨rfl, _, SqL.of hw3⟩, _, rfl, r, rfl, ⟨zs, SqT.of hr4⟩, fun D2 hD2 => ?_⟩
                  have nD2 := young D2 (Grow.none (((g1.trans g2).trans gD1).but hwl0) hD2)
                  have neD2 : wl ≠ D2 := fun z => by rw [← z, hw3] at hD2; cases hD2
                  refine lc_tup (xs := zs) (fun i Hc => ∃ acc, Hc D2 = some (.lst acc) ∧ ItsB B Hc ((bs.take i).map fun d => (d, true, n1 + 1)) acc ∧ acc.length = i ∧ Grow (upd Hd1 wl (.lst (xs0 ++ acc1))) Hc) ⟨[], upd_same, .nil, rfl, Grow.new hD2⟩ (fun i Hc _ hp => SqT.of (hp.choose_spec.2.2.2.tup hr4)) (fun i z Hc hz hp => ?_) (fun Hd2 hp => ?_)
                  · obtain ⟨acc, hacc, its, hl, gc⟩ := hp
                    obtain ⟨d2, hd2, en2⟩ := (er4.grow gc).get hz
                    refine ⟨wipe_set, ?_⟩
                    unfold tYes
                    refine iteT ⟨_, rfl, _, rfl, _, _, rfl, rfl, (by show 3 ≤ sizeLine; decide), fun t2 ht2 => ⟨acc, (Grow.new ht2).lst hacc, ?_, acc ++ [.ref t2], upd_same, ?_, ?_, ?_⟩⟩
                    · have h1 : i < zs.length := (List.getElem?_eq_some_iff.mp hz).1
                      have h2 := er4.length
                      rw [hl, sizeLine_eq]
                      omega
                    · rw [take_map hd2]
                      exact its_step hacc its en2 ht2 nD2
                    · rw [List.length_append, List.length_singleton, hl]
                    · exact (gc.trans (Grow.new ht2)).but hD2
                  · obtain ⟨acc2, hacc2, itsD2, hlD2, gD2⟩ := hp
                    have itsD2 : ItsB B Hd2 (bs.map fun d => (d, true, n1 + 1)) acc2 := by
                      have e := itsD2
                      rw [← er4.length, List.take_length] at e
                      exact e
                    have hw3' := gD2.lst hw3
                    have lenD2 : acc2.length ≤ 8 := by rw [hlD2, ← er4.length]; omega
                    refine ⟨wl, D2, (xs0 ++ acc1), acc2, rfl, rfl, hw3', hacc2, by rw [sizeLine_eq]; simp only [List.length_append] at hlen ⊢; omega, ?_⟩
                    have hw5t : ∀ ys, Hd2 wl ≠ some (.tup ys) := fun ys z => by rw [hw3'] at z; cases z
                    have gu3 : GrowW wl Hd2 (upd Hd2 wl (.lst (xs0 ++ acc1 ++ acc2))) := GrowW.upd
                    refine ⟨⟨rest.reverse ++ next n1 ts bs, xs0 ++ acc1 ++ acc2, found + (1 + nm), k, _, _, _, _, _, _, _, _, _, rfl, upd_same, ?_, ?_, by omega, by omega, ?_, ?_⟩, ?_⟩
                    · exact Grow.but (((g1.trans g2).trans gD1).but hwl0 |>.trans gD2) hwl0
                    · have i0 := (((its1.grow g2).grow gD1).growW GrowW.upd nB (fun ys z => by rw [hw2'] at z; cases z)).grow gD2
                      have i1 := (itsD1.growW GrowW.upd nB (fun ys z => by rw [hw2'] at z; cases z)).grow gD2
                      unfold next
                      rw [← List.append_assoc]
                      exact ((i0.app i1).app itsD2).growW gu3 nB hw5t
                    · rw [← hrun, run_cons, ei]
                      show _ = if 100 < found + (1 + nm) ∨ 30 < n1 then false else _
                      rw [if_neg (by omega)]
                    · simp only [List.length_append] at hlen ⊢
                      omega
                    · show (101 - ((found : Int) + (1 + (nm : Int)))).toNat < (101 - (found : Int)).toNat
                      omega
    · rintro σ3 H3 Q1 Q2 hqq ⟨v, e, k, tv, q⟩
      exact ⟨v, e, k, tv, hqq _ _ q⟩

end
end J1
set_option Elab.async false
set_option linter.all false
set_option maxRecDepth 100000
set_option maxHeartbeats 4000000
namespace J1
open PySem PySem.Spec PyProof.Rows L2 GxR GA
abbrev sProg : Stmt := top 92
abbrev sFunc : Stmt := top 94
theorem c37 : FnScope ["thing", "function"] ["thing"] (defScope sProg) := ⟨rfl, rfl, rfl, by decide +kernel, rfl, by decide +kernel, by decide +kernel⟩
theorem c39 : FnScope ["thing", "name", "params", "result", "body", "param"] ["thing"] (defScope sFunc) := ⟨rfl, rfl, rfl, by decide +kernel, rfl, by decide +kernel, by decide +kernel⟩
def isFunc : Da → Bool
  | .tup [n, ps, r, b] => isLow n && (isTu 0 6 ps && (isKin r && (partsAll isParam ps && wholeB b)))
  | _ => false
def isProg : Da → Bool
  | .tup [k, fs] => areKinds k && (isTu 0 12 fs && partsAll isFunc fs)
  | _ => false
theorem tu4 {d : Da} (h : isTu 4 4 d = true) : ∃ x y z u, d = .tup [x, y, z, u] := by
  cases d with
  | tup l =>
    have h : (decide ((4 : Int) ≤ (l.length : Int)) && decide ((l.length : Int) ≤ 4)) = true := h
    rw [Bool.and_eq_true] at h
    have h1 := of_decide_eq_true h.1
    have h2 := of_decide_eq_true h.2
    have e : l.length = 4 := by omega
    match l, e with
    | [x, y, z, u], _ => exact ⟨x, y, z, u, rfl⟩
  | _ => cases h
theorem encs4 {B : Addr → Prop} {H : Hp} {d1 d2 d3 d4 : Da} {xs : List V} (h : EncsB B H [d1, d2, d3, d4] xs) : ∃ x1 x2 x3 x4, xs = [x1, x2, x3, x4] ∧ EncB B H d1 x1 ∧ EncB B H d2 x2 ∧ EncB B H d3 x3 ∧ EncB B H d4 x4 := by
  cases h with
  | cons h1 t =>
    obtain ⟨x2, x3, x4, rfl, h2, h3, h4⟩ := encs3 t
    exact ⟨_, x2, x3, x4, rfl, h1, h2, h3, h4⟩
section
variable {P : Program} {w : World} {K : PySem.W.Frag} {mg : Str → Option Value} {base : Heap}
theorem ok_func {f fT fL fK fP fW c PT : Addr} {fd fdT fdL fdK fdP fdW : FuncData} {T TW : Hp → Prop} (F : FunC K "_is_function" "_is_function" sFunc f fd c) (N : Gn K mg) (hMP : ∃ t, mg "MOST_PARAMS" = some (.int 6 t)) (TB : TabB base mg c PT) (st : Stays T) (hTP : ∀ H, T H → TabG H PT) (hTW : ∀ H, T H → TW H)
    (GT : FnOk P w K mg base CX0 1 fT fdT ["thing", "least", "most"] (spF3 isTu)) (DT : Df K mg "is_tuple" ["thing", "least", "most"] fT fdT) (GL : FnOk P w K mg base CX0 2 fL fdL ["thing"] (spF isLow)) (DL : Df K mg "is_low" ["thing"] fL fdL)
    (GK : FnOk P w K mg base CX0 3 fK fdK ["thing"] (spF isKin)) (DK : Df K mg "is_kind" ["thing"] fK fdK) (GP : FnOk P w K mg base CX0 4 fP fdP ["thing"] (spF isParam)) (DP : Df K mg "_is_param" ["thing"] fP fdP)
    (GW : FnOk P w K mg base CX0 7 fW fdW ["thing"] (spG TW wholeB)) (DW : Df K mg "_is_whole_body" ["thing"] fW fdW) : FnOk P w K mg base CX0 8 f fd ["thing"] (spG T isFunc) := by
  obtain ⟨tp, hMP⟩ := hMP
  refine F.ok (k := 7) c39 (fun vs H Q E h => ?_) (fun A outer s H vs Q E hr h => ?_)
  · obtain ⟨x, d, rfl, _⟩ := h
    rfl
  · obtain ⟨x, d, rfl, en, hT, k⟩ := h
    refine ⟨_, (pss_cons (ps_if (pt_not (pt_val (pe_call (GT.mono (by decide)) hr (by rfl) DT.g DT.k DT.b .nil pass0 (pa_cons (pv 0) (pa_cons pe_int (pa_cons pe_int pa_nil)))))) (pss_one (ps_ret pe_bl)) pss_nil) (pss_cons (ps_asg (pv 0) (pg_tup (by rfl) (pgs_cons (pg_name (i := 1) c39.nd rfl (Or.inl rfl)) (pgs_cons (pg_name (i := 2) c39.nd rfl (Or.inl rfl)) (pgs_cons (pg_name (i := 3) c39.nd rfl (Or.inl rfl)) (pgs_cons (pg_name (i := 4) c39.nd rfl (Or.inl rfl)) pgs_nil)))))) (pss_cons (ps_if (PW.pt (pw_or (pt_not (pt_val (pe_call (GL.mono (by decide)) hr (by rfl) DL.g DL.k DL.b .nil pass0 (pa_cons (pv 1) pa_nil)))) (pw_or (pt_not (pt_val (pe_call (GT.mono (by decide)) hr (by rfl) DT.g DT.k DT.b .nil pass0 (pa_cons (pv 2) (pa_cons pe_int (pa_cons (pe_glob (v := .int 6) (by rfl) hMP ⟨tp, rfl⟩) pa_nil)))))) (pw_or1 (pt_not (pt_val (pe_call (GK.mono (by decide)) hr (by rfl) DK.g DK.k DK.b .nil pass0 (pa_cons (pv 3) pa_nil)))))))) (pss_one (ps_ret pe_bl)) pss_nil) (pss_one (ps_ret (pe_and (pe_allG (k := 6) (own := [("param", 5)]) hr rfl (by rfl) N.na c39.nd TB rfl ⟨rfl, by decide +kernel, rfl⟩ (blkOk_by (by show blkC ["thing", "name", "params", "result", "body", "param"] (defScope sFunc) _ [("param", 5)] = true; decide +kernel)) (pi_tup (pv 2)) (fun _ _ _ _ _ _ _ => pg_name c39.nd (i := 5) rfl (.inl rfl)) (fun _ _ _ _ _ _ _ => pts_nil) (fun _ _ _ _ _ _ hr' => pe_call (GP.mono (by decide)) hr' (by rfl) DP.g DP.k DP.b .nil pass0 (pa_cons (pv 5) pa_nil))) (pe_one (pe_call GW hr (by rfl) DW.g DW.k DW.b .nil pass0 (pa_cons (pv 4) pa_nil))))))))), ?_⟩
    refine ⟨_, rfl, _, d, _, _, rfl, en, _, rfl, ?_⟩
    cases e4 : isTu 4 4 d with
    | false =>
      have em : isFunc d = false := by
        unfold isFunc
        split
        · cases e4
        · rfl
      have q := k H (Grow.refl H)
      rw [em] at q
      exact iteT q
    | true =>
      obtain ⟨d1, d2, d3, d4, rfl⟩ := tu4 e4
      obtain ⟨a, xs, rfl, ha, el⟩ := enc_tup en
      obtain ⟨x1, x2, x3, x4, rfl, h1, h2, h3, h4⟩ := encs4 el
      have em : isFunc (.tup [d1, d2, d3, d4]) = (isLow d1 && (isTu 0 6 d2 && (isKin d3 && (partsAll isParam d2 && wholeB d4)))) := rfl
      refine iteF ⟨_, rfl, a, _, rfl, SqT.of ha, rfl, _, _, rfl, _, _, rfl, _, _, rfl, _, _, rfl, rfl, ?_⟩
      refine ⟨_, rfl, _, d1, rfl, h1, _, rfl, ?_⟩
      cases f1 : isLow d1 with
      | false =>
        have q := k H (Grow.refl H)
        rw [em, f1, Bool.false_and] at q
        exact iteT q
      | true =>
        refine iteF ⟨_, rfl, _, d2, _, _, rfl, h2, _, rfl, ?_⟩
        cases f2 : isTu 0 6 d2 with
        | false =>
          have q := k H (Grow.refl H)
          rw [em, f1, f2, Bool.true_and, Bool.false_and] at q
          exact iteT q
        | true =>
          refine iteF ⟨_, rfl, _, d3, rfl, h3, _, rfl, ?_⟩
          cases f3 : isKin d3 with
          | false =>
            have q := k H (Grow.refl H)
            rw [em, f1, f2, f3, Bool.true_and, Bool.true_and, Bool.false_and] at q
            exact iteT q
          | true =>
            have em2 : isFunc (.tup [d1, d2, d3, d4]) = (partsAll isParam d2 && wholeB d4) := by rw [em, f1, f2, f3, Bool.true_and, Bool.true_and, Bool.true_and]
            rw [em2] at k
            cases h2 with
            | @tup b fs l hb ef =>
              refine iteF ⟨_, rfl, b, rfl, ⟨fs, SqT.of hb⟩, ?_⟩
              show _ ∧ _
              refine rd_allS (T := T) (gj := isParam) hb ef st hT (hTP H hT) (fun x d H R en _ kk => ⟨_, rfl, _, d, rfl, en, kk H (Grow.refl H)⟩) (fun _ _ h => h) (fun H2 g => ?_)
              have k : ∀ H', Grow H H' → Q (.bl (l.all isParam && wholeB d4)) H' := k
              refine ⟨_, rfl, ?_⟩
              cases f5 : l.all isParam with
              | false =>
                have q := k H2 g
                rw [f5, Bool.false_and] at q
                exact iteF q
              | true =>
                refine iteT ⟨_, rfl, _, d4, rfl, h4.grow g, hTW _ (st _ _ g hT), fun H' g' => ?_⟩
                have q := k H' (g.trans g')
                rw [f5, Bool.true_and] at q
                exact q
            | _ => cases f2
theorem ok_prog {f fT fK fF c PT : Addr} {fd fdT fdK fdF : FuncData} {T TK TF : Hp → Prop} (F : FunC K "is_program" "is_program" sProg f fd c) (N : Gn K mg) (hMF : ∃ t, mg "MOST_FUNCTIONS" = some (.int 12 t)) (TB : TabB base mg c PT) (st : Stays T) (hTP : ∀ H, T H → TabG H PT) (hTK : ∀ H, T H → TK H) (hTF : ∀ H, T H → TF H)
    (GT : FnOk P w K mg base CX0 1 fT fdT ["thing", "least", "most"] (spF3 isTu)) (DT : Df K mg "is_tuple" ["thing", "least", "most"] fT fdT)
    (GK : FnOk P w K mg base CX0 9 fK fdK ["thing"] (spG TK areKinds)) (DK : Df K mg "are_kinds" ["thing"] fK fdK) (GF : FnOk P w K mg base CX0 8 fF fdF ["thing"] (spG TF isFunc)) (DF : Df K mg "_is_function" ["thing"] fF fdF) : FnOk P w K mg base CX0 11 f fd ["thing"] (spG T isProg) := by
  obtain ⟨tp, hMF⟩ := hMF
  refine F.ok (k := 10) c37 (fun vs H Q E h => ?_) (fun A outer s H vs Q E hr h => ?_)
  · obtain ⟨x, d, rfl, _⟩ := h
    rfl
  · obtain ⟨x, d, rfl, en, hT, k⟩ := h
    refine ⟨_, (pss_cons (ps_if (PW.pt (pw_or (pt_not (pt_val (pe_call (GT.mono (by decide)) hr (by rfl) DT.g DT.k DT.b .nil pass0 (pa_cons (pv 0) (pa_cons pe_int (pa_cons pe_int pa_nil)))))) (pw_or1 (pt_not (pt_val (pe_call (GK.mono (by decide)) hr (by rfl) DK.g DK.k DK.b .nil pass0 (pa_cons (pe_ix ix_tup (pv 0) pe_int (fun _ _ => rfl)) pa_nil))))))) (pss_one (ps_ret pe_bl)) pss_nil) (pss_one (ps_ret (pe_and (pe_call (GT.mono (by decide)) hr (by rfl) DT.g DT.k DT.b .nil pass0 (pa_cons (pe_ix ix_tup (pv 0) pe_int (fun _ _ => rfl)) (pa_cons pe_int (pa_cons (pe_glob (v := .int 12) (by rfl) hMF ⟨tp, rfl⟩) pa_nil)))) (pe_one (pe_allG (k := 9) (own := [("function", 1)]) hr rfl (by rfl) N.na c37.nd TB rfl ⟨rfl, by decide +kernel, rfl⟩ (blkOk_by (by show blkC ["thing", "function"] (defScope sProg) _ [("function", 1)] = true; decide +kernel)) (pi_tup (pe_ix ix_tup (pv 0) pe_int (fun _ _ => rfl))) (fun _ _ _ _ _ _ _ => pg_name c37.nd (i := 1) rfl (.inl rfl)) (fun _ _ _ _ _ _ _ => pts_nil) (fun _ _ _ _ _ _ hr' => pe_call (GF.mono (by decide)) hr' (by rfl) DF.g DF.k DF.b .nil pass0 (pa_cons (pv 1) pa_nil)))))))), ?_⟩
    refine ⟨_, rfl, _, d, _, _, rfl, en, _, rfl, ?_⟩
    cases e4 : isTu 2 2 d with
    | false =>
      have em : isProg d = false := by
        unfold isProg
        split
        · cases e4
        · rfl
      have q := k H (Grow.refl H)
      rw [em] at q
      exact iteT q
    | true =>
      obtain ⟨d1, d2, rfl⟩ := tu2 e4
      obtain ⟨a, xs, rfl, ha, el⟩ := enc_tup en
      obtain ⟨x1, x2, rfl, h1, h2⟩ := encs2 el
      have g0 : atI [x1, x2] 0 = some x1 := at_of (j := 0) rfl rfl
      have g1 : atI [x1, x2] 1 = some x2 := at_of (j := 1) rfl rfl
      have em : isProg (.tup [d1, d2]) = (areKinds d1 && (isTu 0 12 d2 && partsAll isFunc d2)) := rfl
      refine iteF ⟨_, rfl, a, _, _, _, rfl, rfl, SqT.of ha, g0, _, d1, rfl, h1, hTK _ hT, fun H1 gr1 => ⟨_, rfl, ?_⟩⟩
      cases f1 : areKinds d1 with
      | false =>
        have q := k H1 gr1
        rw [em, f1, Bool.false_and] at q
        exact iteT q
      | true =>
        rw [em, f1, Bool.true_and] at k
        have h2 := h2.grow gr1
        refine iteF ⟨_, rfl, a, _, _, _, rfl, rfl, SqT.of (gr1.tup ha), g1, _, d2, _, _, rfl, h2, _, rfl, ?_⟩
        cases f2 : isTu 0 12 d2 with
        | false =>
          have q := k H1 gr1
          rw [f2, Bool.false_and] at q
          exact iteF q
        | true =>
          rw [f2, Bool.true_and] at k
          have hT1 := st _ _ gr1 hT
          cases h2 with
          | @tup b fs l hb ef =>
            exact iteT ⟨_, rfl, a, _, _, _, rfl, rfl, SqT.of (gr1.tup ha), g1, b, rfl, ⟨fs, SqT.of hb⟩, rd_all (T := T) (gj := isFunc) hb ef st hT1 (hTP _ hT1) (fun x d H R en hT' kk => ⟨_, rfl, _, d, rfl, en, hTF H hT', kk⟩) fun H' g => k H' (gr1.trans g)⟩
          | _ => cases f2
end
end J1
set_option Elab.async false
set_option linter.all false
set_option maxRecDepth 100000
set_option maxHeartbeats 4000000
namespace SUX
open PySem PySem.Spec PyProof.Rows L2 PySem.W
/-- ValueError.__init__, bound to x -/
abbrev bw (x : Addr) : Obj := kxs_mw "ValueError.__init__" x
/-- the bound one, called: the exception's args are laid anew -/
theorem call_bw {prog : Program} {w : World} {A : Around} {E : Value → Shared → Prop} {hp : Heap} {gs : Array GenState} {dr : Drawn} {tk : Nat} {os : OsState} {nm q : Str} {C N u x t0 : Addr} {bs bm : List Value} {hdct ab : Bool} {sn : List Str} {sub ws : List Value} {col : Option Bool} {dd : Option Addr} {k0 k1 k2 k3 k5 : Option Value} {Q : Value → Shared → Prop}
    (hC : hp.get? C = some (excClassObj nm q C N bs bm hdct sn sub ab col dd k0 k1 k2 k3 k5 "ValueError.__new__")) (hx : hp.get? x = some ({ cls := .ref C, dict := none, data := .fields #[.ref t0, .none, .none, .none, .bool false, .none] } : Obj)) (hu : hp.get? u = some (bw x)) (hw : ws.length ≤ sizeLine)
    (hq : ∀ h2 t2, (∀ b o, b ≠ x → hp.get? b = some o → h2.get? b = some o) → h2.get? x = some ({ cls := .ref C, dict := none, data := .fields #[.ref t2, .none, .none, .none, .bool false, .none] } : Obj) → Q .none ⟨h2, gs, dr, tk, os⟩) :
    wpAny (model prog w) A (call (.ref u) ws) Q E ⟨hp, gs, dr, tk, os⟩ := by
  refine wpAny_call (codeAny_of_tree ?_)
  show wpAny _ A.in1 (callAny (.ref u) ⟨ws, []⟩) _ _ _
  simp only [callAny]
  refine wpAny_bind (wpAny_load hu ?_)
  have m1 : (Value.type "method-wrapper" == Value.type "method" || Value.type "method-wrapper" == Value.type "builtin_function_or_method" || Value.type "method-wrapper" == Value.type "method-wrapper") = true := by decide
  simp only [bw, kxs_mw, m1, if_true]
  refine KFB.if_so (by decide) ?_
  refine wpAny_bind (check_bound_init F.excBase_ValueError.toExcCallFacts hC hx rfl ?_)
  refine wpAny_bind (wpAny_pure (wpAny_pure ?_))
  refine ⟨plainId_quiet F.excBase_ValueError.init.plain _, codeAny_builtin F.excBase_ValueError.initEntry ?_⟩
  exact exc_init_tree (cls := .ref C) (t0 := t0) (dv := none) (c2 := .none) (c3 := .none) (b4 := .bool false) hx hw fun h2 k e2 _ => hq h2 _ k e2
end SUX
set_option Elab.async false
set_option linter.all false
set_option maxRecDepth 100000
set_option maxHeartbeats 4000000
namespace SU
open PySem PySem.Spec PyProof.Rows L2 PySem.W

/-- the frame of an __init__ that says super() -/
abbrev sEnv (qual : Str) (scope : Scope) (L f cda cc : Addr) : Env := envX qual scope L f (.ref cda) [("__class__", cc)]
def sCx (CX : CXT) (P : Program) (w : World) (K : Frag) (mg : Str → Option Value) (base : Heap) (N : List Str) (qual : Str) (scope : Scope) (f cda cc : Addr) (A : Around) (outer : List Env) (s : Shared) (H : Hp) (E : XK) : Cx :=
  let en := sEnv qual scope s.heap.objs.size f cda cc
  { prog := P, w := w, K := K, mg := mg, base := base, A := A.deeper en, N := N, s_0 := s, H_0 := H, env := en, outer := outer, stack := en :: outer, ex := [], calm := true, fn := fun _ => false, pn := [],
    xe := fun e s' => wpAny (model P w) (A.deeper en) (leaving en e) (fun _ s'' => CX outer H s E e s'') (fun e' s'' => CX outer H s E e' s'') s' }
structure SScope (N ps : List Str) (sc : Scope) : Prop where
  kind : sc.kind = .function
  co : sc.isCoroutine = false
  gen : sc.isGenerator = false
  nd : N.Nodup
  pre : N.take ps.length = ps
  par : ∀ x ∈ ps, sc.names.lookup x = some .local
  free : ∀ y ∈ sc.names, y.2 = .free → y.1 = "__class__"
  cell : ∀ y ∈ sc.names, y.2 ≠ .cell

theorem lookup_only {y : Str} {u : Value} : ∀ {l : List (Str × Value)}, (y, u) ∈ l → (∀ v, (y, v) ∈ l → v = u) → l.lookup y = some u
  | [], h, _ => absurd h (by simp)
  | (z, v) :: l, h, ha => by
    by_cases e : y = z
    · subst e
      rw [ha v List.mem_cons_self]
      simp [List.lookup]
    · have e2 : (y == z) = false := by simpa using e
      have hm : (y, u) ∈ l := by
        rcases List.mem_cons.mp h with q | q
        · exact absurd (congrArg Prod.fst q) e
        · exact q
      simp only [List.lookup, e2]
      exact lookup_only hm fun v hv => ha v (List.mem_cons_of_mem _ hv)
theorem zip_rev {ps : List Str} {us : List Value} {i : Nat} {y : Str} {u : Value} (nd : ps.Nodup) (h1 : ps[i]? = some y) (h2 : us[i]? = some u) : (ps.zip us).reverse.lookup y = some u := by
  refine lookup_only (List.mem_reverse.mpr ?_) fun v hv => ?_
  · exact List.mem_of_getElem? (i := i) (by rw [List.getElem?_zip_eq_some]; exact ⟨h1, h2⟩)
  · obtain ⟨j, hj⟩ := List.mem_iff_getElem?.mp (List.mem_reverse.mp hv)
    rw [List.getElem?_zip_eq_some] at hj
    have := nodup_ix nd h1 hj.1
    subst this
    rw [h2] at hj
    exact (Option.some.inj hj.2).symm

section
variable {CX : CXT} {P : Program} {w : World} {K : Frag} {mg : Str → Option Value} {base : Heap} {N ps : List Str} {qual : Str} {scope : Scope} {f cda cc : Addr} {A : Around} {outer : List Env} {s : Shared} {H : Hp} {E : XK}
theorem sInv {us : List Value} {vs : List V} {h₁ : Heap} {tk : Nat} {ccv : Option Value} (S : SScope N ps scope) (hd : A.handled = none) (e0 : Env0 P w K mg base A outer s H) (hl : vs.length = ps.length) (r : Vals vs us) (hcc : ∃ oc, base.get? cc = some oc ∧ oc.data = .cell ccv)
    (hns : h₁.Ns s.heap.objs.size (fun x => (ps.zip us).reverse.lookup x)) (hk : ∀ b o, s.heap.get? b = some o → h₁.get? b = some o) :
    Inv (sCx CX P w K mg base N qual scope f cda cc A outer s H E) [] (start N vs) H { s with heap := h₁, toks := tk } := by
  have hpl : ps.length ≤ N.length := by have := congrArg List.length S.pre; rw [List.length_take] at this; omega
  have ndP : ps.Nodup := by rw [← S.pre]; exact S.nd.sublist (List.take_sublist _ _)
  obtain ⟨oc, hoc, hocd⟩ := hcc
  have cellIs : ∀ {y c}, ([("__class__", cc)] : List (Str × Addr)).lookup y = some c → y = "__class__" ∧ c = cc := fun {y c} h => by
    by_cases e : y = "__class__"
    · subst e
      exact ⟨rfl, by simpa [List.lookup] using h.symm⟩
    · have e2 : (y == ("__class__" : Str)) = false := by simpa using e
      simp [List.lookup, e2] at h
  refine ⟨⟨e0.mod, S.kind, rfl, rfl, Nat.le_refl _, fun y z c h1 h2 => ?_, fun y hy => ?_, fun y c h _ => Bool.noConfusion (show false = true from h), fun _ => hd, Around.frames_deeper e0.frames, .inr ⟨rfl, rfl⟩, fun b z => absurd (show b ∈ ([] : List Addr) from z) (by simp), e0.bs, e0.bsz, fun b _ _ z => absurd (show b ∈ ([] : List Addr) from z) (by simp), fun b z => absurd (show b ∈ ([] : List Addr) from z) (by simp), e0.funs, e0.frf⟩,
    rfl, e0.bare, Un.kept hk, ⟨_, hns, fun i y v h1 h2 h3 => ?_⟩, fun y c h => ?_, e0.hok.fresh (Nat.le_refl _), fun y c h => ?_, fun p hp => absurd (show p ∈ ([] : List (Addr × Obj)) from hp) (by simp), e0.hok.kept hk, ?_⟩
  · exact (cellIs h1).1.trans (cellIs h2).1.symm
  · have hy : scope.names.lookup y = some .cell ∨ scope.names.lookup y = some .free := hy
    rcases hy with hy | hy
    · exact absurd rfl (S.cell _ (PySem.mem_of_lookup hy))
    · have := S.free _ (PySem.mem_of_lookup hy) rfl
      exact ⟨cc, by show ([("__class__", cc)] : List (Str × Addr)).lookup y = _; rw [show y = ("__class__" : Str) from this]; rfl⟩
  · have hi : i < vs.length := by
      unfold L2.start at h2
      by_cases hi : i < vs.length
      · exact hi
      · rw [List.getElem?_append_right (by simpa using hi), List.getElem?_replicate] at h2
        split at h2 <;> cases h2
    have ha : vs[i]? = some v := by
      unfold L2.start at h2
      rw [List.getElem?_append_left (by simpa using hi), List.getElem?_map] at h2
      cases e : vs[i]? with
      | none => rw [e] at h2; cases h2
      | some a => rw [e] at h2; cases h2; rfl
    obtain ⟨u, hu, rv⟩ := r.get ha
    have hp : ps[i]? = some y := by rw [← S.pre, List.getElem?_take_of_lt (by omega)]; exact h1
    exact ⟨u, rv, .inl ⟨S.par y (List.mem_of_getElem? hp), zip_rev ndP hp hu⟩⟩
  · obtain ⟨_, rfl⟩ := cellIs h
    exact ⟨ccv, oc, hk _ _ (e0.bs _ _ hoc).1, hocd⟩
  · obtain ⟨_, rfl⟩ := cellIs h
    exact (e0.bs _ _ hoc).2
  · unfold L2.start
    show _ = N.length
    rw [List.length_append, List.length_map, List.length_replicate]
    omega

/-- an __init__ of an exception class at D that begins with super().__init__(e) -/
theorem fn_super {k : Nat} {name : Str} {params : Arguments} {e : Expr} {rest : List Stmt} {dV kV doc pm ct oc ccl cl : Value} {an od cdd cld : Option Addr} {osl ccs csl : Array (Option Value)} {sp : Sp} {p0 p1 p2 p3 p4 : Pos} {D : Addr} {ar : Arg} {vs0 : Array Value} {file : Str} {tf : Tok} {cdD : ClassData} {l : List Value} {pl : Sem Bool}
    (lk : K.lookup f = some ⟨oc, od, .func (fnX name qual params (.Expr (.Call (.Attribute (.Call (.Name "super" p0) [] [] p1) "__init__" p2) [e] [] p3) p4 :: rest) scope [("__class__", cc)] dV kV doc pm an (.ref cda) ct), osl⟩) (hcd : codeIn K (.ref cda) qual = true) (S : SScope N ps scope)
    (hpar : (params.posonlyargs ++ params.args).head? = some ar) (hps : ps[0]? = some ar.arg) (hcode : K.lookup cda = some ⟨ccl, cdd, .fields vs0, ccs⟩) (hvs : vs0[2]? = some (.str file tf)) (hfile : ((P.main.file : Str) == file) = true)
    (hcell : K.lookup cc = some ⟨cl, cld, .cell (some (.ref D)), csl⟩) (hD : clsIn K D = some cdD) (T : OexC K D) (hsub : mroIn K D (.ref D) = some true) (hop : nsIn K cStatics "thirdparty.any" = some none)
    (hdrop : (cdD.mro.dropWhile (· != .ref D)).drop 1 = l) (hal : alongIn K "__init__" l = some (some (.builtin "ValueError.__init__"))) (hve : subIn K (.ref D) (.type "ValueError") = some true)
    (hsg : mg "super" = none) (hks : scope.names.lookup ("super" : Str) = some .globalImplicit) (hkc : scope.names.lookup ("__class__" : Str) = some .free) (htop : (P.main.scope.names.lookup ("super" : Str)).isSome = false) (hboot : bootBuiltins "super" = some (.type "super"))
    (len : ∀ vs H Q E, sp vs H Q E → vs.length = ps.length)
    (hbody : ∀ (A : Around) (outer : List Env) (s : Shared) (H : Hp) (vs : List V) (Q : VK) (E : XK), Room k (A.deeper (sEnv qual scope s.heap.objs.size f cda cc)) → sp vs H Q E →
      ∃ (a : Addr) (vs' : List V) (te : TE) (t : TS), vs = .ref a :: vs' ∧ H a = some (exo a D none) ∧ PE (sCx CX P w K mg base N qual scope f cda cc A outer s H E) e te ∧ PSs (sCx CX P w K mg base N qual scope f cda cc A outer s H E) rest t ∧
        te (start N vs) H fun _ H1 => H1 a = some (exo a D none) ∧ t { nx := fun _ H' => Q .non H', rt := Q } (start N vs) H1)
    (hcall : ∀ env : Env, eval (.Call (.Attribute (.Call (.Name "super" p0) [] [] p1) "__init__" p2) [e] [] p3) env = (do
      let ov ← attributeBase (.Call (.Name "super" p0) [] [] p1) "__init__" env (eval (.Call (.Name "super" p0) [] [] p1) env)
      standAt p2.atName
      let (f, first) ← holding [ov] (getMethod ov "__init__" pl)
      callWith p3 f first (backTo p3 (starEach [e] env)) []) := by intro _; rfl)
    (hst : ∀ env : Env, starEach [e] env = (false, eval e env) :: starEach [] env := by intro _; rfl)
    (hi : ∀ env : Env, env.scope = scope → interactive env = false := by intro _ h; first | rfl | (unfold interactive; rw [h]; rfl))
    (hsw : ∀ env : Env, swapsWith (.Call (.Attribute (.Call (.Name "super" p0) [] [] p1) "__init__" p2) [e] [] p3) none p4.line env = pure false := by intro _; rfl) :
    FnOk P w K mg base CX (k + 1) f (fnX name qual params (.Expr (.Call (.Attribute (.Call (.Name "super" p0) [] [] p1) "__init__" p2) [e] [] p3) p4 :: rest) scope [("__class__", cc)] dV kV doc pm an (.ref cda) ct) ps sp := by
  refine ⟨len, fun A outer s H args us vs Q E hr e0 hb r hsp => ?_⟩
  have hl := len _ _ _ _ hsp
  have KX : K.In s.heap := e0.mod.kin.keeps fun b o e => (e0.bs b o e).1
  have lim : s.heap.NoLimit := e0.mod.nolimit.keeps fun b o e => (e0.bs b o e).1
  have ndP : ps.Nodup := by rw [← S.pre]; exact S.nd.sublist (List.take_sublist _ _)
  obtain ⟨a, vs', te, t, ev, ea, he, ht, hq⟩ := hbody A outer s H vs Q E (hr.deeper _) hsp
  refine ks_codeAny_call_defAt (binds := ps.zip us) hr.depth (KX _ _ lk) rfl lim (codeRec_of KX hcd) rfl hb S.cell (fun y hy => S.par _ (List.of_mem_zip (show (y.1, y.2) ∈ ps.zip us from hy)).1) (fun h₁ hns hk₁ => ?_) S.co S.gen S.kind
  have I : Inv (sCx CX P w K mg base N qual scope f cda cc A outer s H E) [] (start N vs) H { s with heap := h₁, toks := s.toks + (ps.zip us).length } := sInv S hr.hd e0 hl r ⟨_, e0.mod.kin _ _ hcell, rfl⟩ hns hk₁
  have K1 : K.In h₁ := I.kIn
  have hv : (ps.zip us).reverse.lookup ar.arg = some (.ref a) := by
    subst ev
    obtain ⟨u, hu, rv⟩ := r.get (i := 0) rfl
    obtain rfl : u = .ref a := rv
    exact zip_rev ndP hps hu
  obtain ⟨t1, ho⟩ := exo_at I.hok ea
  obtain ⟨oD, hD1, hD2⟩ : ∃ oD, h₁.get? D = some oD ∧ oD.data = .cls cdD := by
    unfold clsIn at hD
    split at hD
    · rename_i q1 q2 q3 q4 q5
      cases hD
      exact ⟨_, K1 _ _ q5, rfl⟩
    · cases hD
  obtain ⟨mb, hmb, hbl⟩ := e0.mod.blt
  show _root_.PySem.wpAt (model P w) (A.deeper (sEnv qual scope s.heap.objs.size f cda cc)) (.func _ (sEnv qual scope s.heap.objs.size f cda cc)) (execs _ (sEnv qual scope s.heap.objs.size f cda cc)) _ (sCx CX P w K mg base N qual scope f cda cc A outer s H E).xe _
  refine ks_wpAt_execs_cons (ks_wpAt_Expr_any (ks_wpAt_MethodCall (pl := pl) ?_ (hcall _)) (hi _ rfl) (hsw _))
  refine ks_wpAt_super_base (env := sEnv qual scope s.heap.objs.size f cda cc) hks hkc (by decide) rfl (K1 _ _ lk) rfl hpar rfl (K1 _ _ hcode) rfl hvs hfile htop ?_
  refine ks_loadName_global S.kind hks (PySem.Calls.loadGlobal_builtin (env := sEnv qual scope s.heap.objs.size f cda cc) (e0.mod.glob.keeps I.bk) hsg (hmb.keeps I.bk) ((hbl "super" (by decide)).trans hboot) ⟨rfl, ?_⟩)
  refine wpAny_loadName_free S.kind hkc rfl ⟨_, K1 _ _ hcell, rfl⟩ ?_
  refine wpAny_loadName_local S.kind (show scope.names.lookup ar.arg = some .local from S.par _ (List.mem_of_getElem? hps)) hns hv ?_
  refine ks_wpAny_isType_cls hD1 hD2 ⟨rfl, ?_⟩
  obtain ⟨nm, qn, N0, bs, bm, sn, sub, ab, col, dd, k0, k1, k2, k3, k5, hC, hbm⟩ := T.cls
  have haD : a ≠ D := fun z => by
    have q1 := K1 _ _ hC
    rw [← z, ho] at q1
    cases q1
  refine ks_wpAny_call_super hD1 hD2 ho rfl (fun c q => by cases q) (looks_mroIn K1 hsub) fun h2 hso hk2 => ?_
  have I2 : Inv (sCx CX P w K mg base N qual scope f cda cc A outer s H E) [] (start N vs) H { s with heap := h2, toks := s.toks + (ps.zip us).length } := I.kept (t' := s.toks + (ps.zip us).length) hk2
  have K2 : K.In h2 := I2.kIn
  have ho2 := hk2 _ _ ho
  have hin : Looks (model P w) h2 (isInstance (.ref a) (.type "ValueError")) true := fun A' Q' E' s' kk hq' => by
    simp only [isInstance]
    exact wpAny_bind (wpAny_typeOf_ref (kk _ _ ho2) (looks_subIn K2 hve A' Q' E' s' kk hq'))
  refine kxs_getMethod kxs_ValueError (l₀ := cdD.mro) hso (looks_opaque K2 hop) (fun A' Q' E' s' kk hq' => wpAny_bind (looks_clsIn K2 hD A' _ E' s' kk (wpAny_pure hq'))) hdrop K2 hal hin haD (by decide) ?_
  -- the bound method, pinned
  have kp : ∀ b o, h2.get? b = some o → (h2.push (SUX.bw a)).get? b = some o := fun b o q => Heap.get?_push_of_some _ q
  have hbw : (h2.push (SUX.bw a)).get? h2.objs.size = some (SUX.bw a) := Heap.get?_push_size _ rfl
  have I3 : Inv (sCx CX P w K mg base N qual scope f cda cc A outer s H E) [(h2.objs.size, SUX.bw a)] (start N vs) H { s with heap := h2.push (SUX.bw a), toks := s.toks + (ps.zip us).length + 1 } := by
    have J := I2.kept (t' := s.toks + (ps.zip us).length + 1) kp
    have fo := I2.fpOk (H' := H) (Nat.le_refl _) (I2.hok.fresh (Nat.le_refl _))
    refine J.pins_of fun p hp => ?_
    rw [List.mem_singleton.mp hp]
    exact ⟨hbw, fo.1, fo.2.1, fo.2.2.1, fun v q => by cases q⟩
  refine kxs_callWith (i := "ValueError.__init__") (x := a) (by rw [hst]; rfl) ?_
  rw [hst]
  refine Calls.evalArgs_plain ?_
  show wpAny _ _ (spliced ((false, eval e (sEnv qual scope s.heap.objs.size f cda cc)) :: backTo p3 (starEach [] (sEnv qual scope s.heap.objs.size f cda cc)))) _ _ _
  refine Calls.spliced_cons (thn (he.run _ _ _ _ _ I3 hq) fun v s4 ⟨y, H1, I4, ry, ea1, q4⟩ => Calls.spliced_nil ?_)
  have hu4 : s4.heap.get? h2.objs.size = some (SUX.bw a) := (I4.pin (h2.objs.size, SUX.bw a) (List.mem_append_right _ (List.mem_singleton.mpr rfl))).1
  refine ⟨hu4, ?_⟩
  obtain ⟨t4, ho4⟩ := exo_at I4.hok ea1
  obtain ⟨h4, g4, d4, tk4, os4⟩ := s4
  refine SUX.call_bw (I4.kIn _ _ hC) ho4 hu4 (by show 1 ≤ sizeLine; decide) fun h5 t5 hk5 ho5 => ?_
  have J := I4.write (t' := tk4) (x := a) (e := a) (o := exo a D none) (by rw [ea1]; exact True.intro) (.inl rfl) hk5 ⟨_, ho5⟩ (exo_ok ho5)
  have eu : upd H1 a (exo a D none) = H1 := by
    funext b
    by_cases hb : b = a
    · rw [hb, upd_same, ea1]
    · rw [upd_ne hb]
  rw [eu] at J
  have J0 : Inv (sCx CX P w K mg base N qual scope f cda cc A outer s H E) [] (start N vs) H1 ⟨h5, g4, d4, tk4, os4⟩ := J.pins_of fun p hp => absurd hp (by simp)
  refine wpAt_of_wpAny (wpAny_mono (ht.run [] _ _ _ _ J0 q4) (fun fl s' hs => ?_) fun _ _ z => z)
  have fin : ∀ {σ' : L2.St} {H' : Hp} {v : V} {u : Value}, Inv (sCx CX P w K mg base N qual scope f cda cc A outer s H E) [] σ' H' s' → RelV v u → Q v H' → CE outer P w H s Q u s' :=
    fun {σ' H' v u} J rv q => ⟨v, H', J.os, J.bare, J.base, J.hok, rv, q⟩
  cases fl with
  | ret u =>
    obtain ⟨v, σ', H', J, rv, q⟩ := hs
    exact fin J rv q
  | next =>
    obtain ⟨σ', H', J, q⟩ := hs
    exact fin (v := V.non) (u := Value.none) J rfl q
  | brk =>
    obtain ⟨_, _, _, q⟩ := hs
    exact False.elim q
  | cont =>
    obtain ⟨_, _, _, q⟩ := hs
    exact False.elim q
end
end SU
set_option Elab.async false
set_option linter.all false
set_option maxRecDepth 100000
set_option maxHeartbeats 4000000
namespace PySem.W
open PySem PySem.Spec PySem.Calls PyProof.Rows
section
variable {prog : Program} {w : World} {A : Around} {E : Value → Shared → Prop} {s : Shared} {K : Frag} {x D : Addr} {ox : Obj} {od : Option Obj}
theorem findObj_dataM {a g : Value} {C : Addr} {n : Str} (h1 : (clsIn K C).isSome = true) (h2 : findIn K (.ref C) n = some (some a)) (h3 : specialIn K a "__get__" = some (some g)) (h4 : takesIn K a = some true) : findObj K C od n = some (.bind g a) := by
  cases hc : clsIn K C with
  | none => rw [hc] at h1; cases h1
  | some cd =>
    unfold findObj
    rw [hc, Option.bind_some, h2, Option.bind_some]
    simp [h3, h4]
/-- the class of an exception, its dict or none standing by: asked of the object -/
theorem kin_classM {Q : Option Value → Shared → Prop} (g1 : findIn K (.ref D) "__getattribute__" = some (some (.builtin "BaseException.__getattribute__"))) (g2 : findIn K (.ref D) "__getattr__" = some none) (g3 : subIn K (.ref D) (.type "BaseException") = some true)
    (g4 : hasDictIn K D = true) (g5 : findIn K (.ref D) "__class__" = some (some (.builtin "object.__class__"))) (g6 : specialIn K (.builtin "object.__class__") "__get__" = some (some (.builtin "getset_descriptor.__get__"))) (g7 : takesIn K (.builtin "object.__class__") = some true) (g8 : mroIn K D (.type "object") = some true)
    (X : K.In s.heap) (I : InstAt s.heap x ox D od) (h : Q (some (.ref D)) { s with toks := s.toks + 1 }) : wpAny (model prog w) A (getAttr? (.ref x) "__class__") Q E s := by
  have hf : findObj K D od "__class__" = some (.bind (.builtin "getset_descriptor.__get__") (.builtin "object.__class__")) := by
    obtain ⟨cd, hc, _⟩ := any_some g4
    exact findObj_dataM (by rw [hc]; rfl) g5 g6 g7
  obtain ⟨hp, gs, dr, tk, os⟩ := s
  have T0 := I.type (M := model prog w)
  have T3 := looks_find (M := model prog w) X I hf
  have isB : Looks (model prog w) hp (isInstance (.ref x) (.type "BaseException")) true := T0.andThen (looks_subIn X g3)
  have b1 : (Value.builtin "BaseException.__getattribute__" == Value.builtin "object.__getattribute__") = false := by decide +kernel
  have b2 : (onTheHeap (Value.ref D) && Value.builtin "BaseException.__getattribute__" == Value.builtin "object.__getattribute__") = false := by rw [b1]; rfl
  have b3 : ¬ ((false && onTheHeap (Value.builtin "BaseException.__getattribute__")) = true) := by decide
  unfold getAttr? getAttrBy? getAttrBy
  refine wpAny_bind (wpAny_mkText (wpAny_bind (wpAny_attempt (wpAny_holding (wpAny_bind (T0.at (wpAny_bind ((looks_findIn X g1).at ?_))))))))
  show wpAny _ _ (if (onTheHeap (Value.ref D) && Value.builtin "BaseException.__getattribute__" == Value.builtin "object.__getattribute__") = true then _ else _) _ _ _
  rw [b2, if_neg Bool.false_ne_true]
  unfold getAttrByItsOwn hookBefore
  apply wpAny_bind
  rw [if_pos (show onTheHeap (Value.ref D) = true from rfl)]
  refine (looks_findIn X g2).at (wpAny_bind (wpAny_attempt (wpAny_holding ?_)))
  unfold callGetattribute
  rw [if_neg b3]
  unfold boundAndCalled
  rw [F.excAttr_ValueError.ga.bind (.ref x)]
  apply wpAny_bind
  apply wpAny_pure
  show wpAny _ _ (call (.builtin "BaseException.__getattribute__") [.ref x, .str "__class__" tk]) _ _ _
  refine wpAny_call (codeAny_call_builtin F.excAttr_ValueError.ga.plain F.entry_bexc_ga (@check_slot (model prog w) _ _ ⟨hp, gs, dr, tk + 1, os⟩ "BaseException.__getattribute__" "BaseException" "__getattribute__" (.ref x) [.str "__class__" tk] [] _ (by decide +kernel) (by decide +kernel) isB (F.args_bexc_ga (.ref x) (.str "__class__" tk)) ?_))
  unfold Builtin.«object.__getattribute__»
  refine wpAny_bind (wpAny_of_eq (a := ((Value.ref x : Value), [Value.str "__class__" tk])) (by first | rfl | (simp only [slotArgs]; rfl)) (wpAny_bind (wpAny_pure (wpAny_bind (T0.at (wpAny_bind (T3.at ?_)))))))
  show wpAny _ _ (holding [Value.builtin "object.__class__"] (call (.builtin "getset_descriptor.__get__") [.builtin "object.__class__", .ref x, .ref D]) >>= ret) _ _ _
  refine wpAny_bind (wpAny_holding (wpAny_call (class_get (s := ⟨hp, gs, dr, tk + 1, os⟩) (ox := ox) (od := od) X I g8 (wpAny_pure ?_))))
  show wpAny _ _ (handedOut (.ref D)) _ _ _
  rw [handedOut_of (v := .ref D) rfl]
  first
    | exact wpAny_pure (wpAny_pure h)
    | exact wpAny_pure h
    | exact wpAny_pure (wpAny_bind (wpAny_pure (wpAny_pure h)))
end
end PySem.W
namespace L2
open PySem PySem.Spec PyProof.Rows
theorem kitX_dict {K : PySem.W.Frag} {x D : Addr} {ox : Obj} {od : Option Obj} (C : ExcC K D) : PySem.W.KitX K (.ref x) (.ref D) (fun h => PySem.W.InstAt h x ox D od) where
  ty := fun _ _ _ I => I.type
  it := fun M h X _ => by
    have hd := C.hd
    intro A' Q' E' s' k q
    obtain ⟨o, ho⟩ : ∃ o, h.get? D = some o ∧ ∃ cd, o.data = .cls cd := by
      obtain ⟨cd, hc, _⟩ := PySem.W.any_some hd
      unfold PySem.W.clsIn at hc
      split at hc
      · rename_i q1 q2 q3 q4 q5
        exact ⟨_, X _ _ q5, _, rfl⟩
      · cases hc
    obtain ⟨h1, cd, h2⟩ := ho
    obtain ⟨oc, od, oda, osl⟩ := o
    have h2 : oda = .cls cd := h2
    subst h2
    unfold isType loadHead
    exact wpAny_bind (wpAny_loadPart (k _ _ h1) (wpAny_pure q))
  ne := (PySem.W.handS_kitx_exc (x := x) (ox := ox) C.hg C.hk C.hs C.hd C.ha C.hn C.ht C.hm).ne
  ca := fun X I k => PySem.W.kin_classM C.hg C.hk C.hs C.hd C.ha C.hn C.ht C.hm X I k
/-- isinstance(e, c), e the exception that the suite holds, with a dict of its own -/
def rIsF (K : PySem.W.Frag) (D a : Addr) (dd : Option Addr) : List V → Hp → VK → Prop := fun xs H Q => ∃ (c : V) (cv : Value) (b : Bool) (dx : Addr) (fs : List (Str × V)), xs = [.ref a, c] ∧ (∀ u, RelV c u → u = cv) ∧ PySem.W.kitOne K (.ref D) cv = some b ∧ dd = some dx ∧ H dx = some (.xd fs) ∧ Q (.bl b) H
theorem call_isF {X : Cx} {a D : Addr} {dd : Option Addr} {oe : Obj} {pn : List (Addr × Obj)} (C : ExcC X.K D) (hz : Zc (.ref D) dd oe) (hf : ∃ vs, oe.data = .fields vs) : CallR (X.suite a ((a, oe) :: pn)) (.builtin "isinstance") (rIsF X.K D a dd) := by
  intro pins s σ H xs us Q I r h
  obtain ⟨c, cv, b, dx, fs, rfl, hcv, e, rfl, hdx, q⟩ := h
  cases r with
  | cons rx rr =>
    cases rr with
    | cons rt rr =>
      cases rr
      cases rx
      obtain rfl := hcv _ rt
      obtain ⟨hget, _⟩ := I.pin (a, oe) (List.mem_append_left _ List.mem_cons_self)
      have hx : ObjOk X.prog X.w H s.heap dx (.xd fs) := I.hok dx _ hdx
      obtain ⟨mA, hns, hr⟩ := hx
      obtain ⟨od, ho, hl⟩ := lookIn_ns hns
      obtain ⟨vs, hv⟩ := hf
      have J : PySem.W.InstAt s.heap a oe D (some od) := ⟨hget, hz.1, by unfold PySem.W.notCls; rw [hv] <;> rfl, by rw [hz.2]; exact ho⟩
      exact PySem.W.kia_one (kitX_dict C) I.kIn J e (fun z => nomatch z) fun tk => ⟨.bl b, H, I.kept (t' := tk) fun _ _ z => z, rfl, q⟩
end L2
set_option Elab.async false
set_option linter.all false
set_option maxRecDepth 100000
set_option maxHeartbeats 4000000
/-! exceptions that are held as values: isinstance of them, their fields, made by position -/
namespace L2
open PySem PySem.Spec PyProof.Rows
/-- at a: an exception of the class at D, its dict (none | at d) -/
def IsEx (H : Hp) (a D : Addr) (d : Option Addr) : Prop := ∃ φ : Heap → Prop, H a = some (.ext φ) ∧ ∀ h, φ h → ∃ (oe : Obj) (vs : Array Value), h.get? a = some oe ∧ Zc (.ref D) d oe ∧ oe.data = .fields vs
/-- at d: the dict of such a one, with the fields fs -/
def IsXd (H : Hp) (d : Addr) (fs : List (Str × V)) : Prop := H d = some (.xd fs) ∨ H d = some (exd d fs)
theorem isEx_exO {H : Hp} {a D : Addr} (e : H a = some (ExO (.ref D) a)) : IsEx H a D none := ⟨_, e, fun h ⟨oe, vs, h1, h2, h3, _⟩ => ⟨oe, vs, h1, h2, h3⟩⟩
theorem isEx_exo {H : Hp} {a D : Addr} {d : Option Addr} (e : H a = some (exo a D d)) : IsEx H a D d := ⟨_, e, fun h ⟨t1, h1⟩ => ⟨_, _, h1, ⟨rfl, rfl⟩, rfl⟩⟩
theorem isXd_at {P : Program} {w : World} {H : Hp} {h : Heap} {d : Addr} {fs : List (Str × V)} (hok : HOk P w H h) (e : IsXd H d fs) : ∃ mA, h.Ns1 d mA ∧ ∀ f, RelO (fs.lookup f) (mA f) := by
  rcases e with e | e
  · have x : ObjOk P w H h d (.xd fs) := hok d _ e
    exact x
  · exact exd_at hok e
theorem isEx_at {P : Program} {w : World} {H : Hp} {h : Heap} {a D : Addr} {d : Option Addr} (hok : HOk P w H h) (e : IsEx H a D d) : ∃ (oe : Obj) (vs : Array Value), h.get? a = some oe ∧ Zc (.ref D) d oe ∧ oe.data = .fields vs := by
  obtain ⟨φ, e, k⟩ := e
  have x : ObjOk P w H h a (.ext φ) := hok a _ e
  exact k h x.1
theorem isEx_inst {P : Program} {w : World} {H : Hp} {h : Heap} {a D : Addr} {d : Option Addr} (hok : HOk P w H h) (e : IsEx H a D d) (hd : ∀ dx, d = some dx → ∃ fs, IsXd H dx fs) : ∃ (oe : Obj) (od : Option Obj), PySem.W.InstAt h a oe D od := by
  obtain ⟨oe, vs, h1, hz, hv⟩ := isEx_at hok e
  have hn : PySem.W.notCls oe := by unfold PySem.W.notCls; rw [hv] <;> trivial
  cases d with
  | none => exact ⟨oe, none, h1, hz.1, hn, by rw [hz.2]; trivial⟩
  | some dx =>
    obtain ⟨fs, q⟩ := hd dx rfl
    obtain ⟨mA, hns, _⟩ := isXd_at hok q
    obtain ⟨od, ho, _⟩ := lookIn_ns hns
    exact ⟨oe, some od, h1, hz.1, hn, by rw [hz.2]; exact ho⟩
/-- isinstance(e, c), e such a value -/
def rIsV (K : PySem.W.Frag) : List V → Hp → VK → Prop := fun xs H Q => ∃ (a D : Addr) (d : Option Addr) (c : V) (cv : Value) (b : Bool), xs = [.ref a, c] ∧ (∀ u, RelV c u → u = cv) ∧ ExcC K D ∧ PySem.W.kitOne K (.ref D) cv = some b ∧ IsEx H a D d ∧ (∀ dx, d = some dx → ∃ fs, IsXd H dx fs) ∧ Q (.bl b) H
theorem call_isV {X : Cx} : CallR X (.builtin "isinstance") (rIsV X.K) := by
  intro pins s σ H xs us Q I r h
  obtain ⟨a, D, d, c, cv, b, rfl, hcv, C, e, hx, hd, q⟩ := h
  cases r with
  | cons rx rr =>
    cases rr with
    | cons rt rr =>
      cases rr
      cases rx
      obtain rfl := hcv _ rt
      obtain ⟨oe, od, J⟩ := isEx_inst I.hok hx hd
      exact PySem.W.kia_one (kitX_dict C) I.kIn J e (fun z => nomatch z) fun tk => ⟨.bl b, H, I.kept (t' := tk) fun _ _ z => z, rfl, q⟩
/-- e.f of such a value -/
def tXv (K : PySem.W.Frag) (n : Str) (te : TE) : TE := fun σ H Q => te σ H fun x H1 => ∃ (a D dx : Addr) (fs : List (Str × V)) (v : V), x = .ref a ∧ XfC K D ∧ PySem.W.findIn K (.ref D) n = some none ∧ IsEx H1 a D (some dx) ∧ IsXd H1 dx fs ∧ fs.lookup n = some v ∧ Q v H1
theorem pe_xv {X : Cx} {e : Expr} {te : TE} {pos : Pos} {n : Str} (he : PE X e te) (hb : attributeBase e n X.env (eval e X.env) = eval e X.env := by rfl) : PE X (.Attribute e n pos) (tXv X.K n te) := by
  refine ⟨fun pins s σ H Q I h => ?_⟩
  refine attr_of hb (thn (he.run pins s σ H _ I h) fun u s1 hh => ?_)
  obtain ⟨x, H1, I1, rx, a, D, dx, fs, v, ex, T, hno, hx, hd, l, q⟩ := hh
  subst ex
  obtain rfl : u = Value.ref a := rx
  obtain ⟨oe, vs, ha, hz, hv⟩ := isEx_at I1.hok hx
  obtain ⟨mA, hns, hr⟩ := isXd_at I1.hok hd
  obtain ⟨od, ho, hl⟩ := lookIn_ns hns
  obtain ⟨u, hu, ru⟩ := RelO.some_of (v := v) (o := mA n) (by rw [← l]; exact hr n)
  have J : PySem.W.InstAt s1.heap a oe D (some od) := ⟨ha, hz.1, by unfold PySem.W.notCls; rw [hv] <;> rfl, by rw [hz.2]; exact ho⟩
  exact HandSPX.exc_get I1.kIn J T.ga T.gg T.exC (PySem.W.findObj_own T.hdC hno rfl (by rw [hl, hu])) (handed_of ru) ⟨v, H1, I1.tok _, ru, q⟩
/-- C(e, ..) as a value, C's own __init__ keeping sp -/
def tMkV (C : Addr) (sp : Sp) (ta : TA) : TE := fun σ H Q => ta σ H fun vs H1 => vs.length ≤ 1000 ∧ ∀ a, H1 a = none → sp (.ref a :: vs) (upd H1 a (exo a C none)) (fun v H2 => v = .non ∧ Q (.ref a) H2) (fun _ _ _ => False)
section
variable {X : Cx} {CX : CXT} {x : Str} {e : Expr} {es : List Expr} {C fI : Addr} {k : Nat} {fd : FuncData} {ps : List Str} {sp : Sp} {ta : TA} {p pos : Pos}
theorem pe_oexV (T : OexC X.K C) (iC : PySem.W.findIn X.K (.ref C) "__init__" = some (some (.ref fI))) (tI : PySem.W.typeIn X.K (.ref fI) = some (.type "function"))
    (F1 : FnOk X.prog X.w X.K X.mg X.base CX k fI fd ps sp) (hr : Room (k + 1) X.A) (hb : Binds X.K fd ps []) (hx : Passes CX X (fun _ _ _ => False)) (hg : Gl X x) (hm : X.mg x = some (.ref C)) (ha : PA X (e :: es) ta)
    (hdb : (x == ("__debug__" : Str)) = false := by decide) (he : starEach (e :: es) X.env = (false, eval e X.env) :: starEach es X.env := by rfl) (hpl : (backTo pos (starEach es X.env)).any (·.1) = false := by rfl) :
    PE X (.Call (.Name x p) (e :: es) [] pos) (tMkV C sp ta) := by
  refine ⟨fun pins s σ H Q I h => ?_⟩
  obtain ⟨nm, q, N, bs, bm, sn, sub, ab, col, dd, k0, k1, k2, k3, k5, hC, hbm⟩ := T.cls
  refine wpAny_Call_Name_kw (ld_glob I hg hm ?_ hdb)
  refine PySem.W.callWith_K (h₀ := X.base) I.ok.mod.kin T.kC (thn (ha.run pos pins s σ H _ I h) fun us s1 ⟨vs, H1, I1, r1, hz, q1⟩ => ⟨I1.kIn, ?_⟩) he hpl
  show wpAny _ _ (call (.ref C) us) _ _ _
  obtain ⟨hp, g, dr, tk, os⟩ := s1
  have hsz : hp.objs.size ≤ hp.objs.size + 1 := Nat.le_succ _
  have hn : H1 (hp.objs.size + 1) = none := I1.hok.fresh hsz
  have hq := q1 (hp.objs.size + 1) hn
  have kk : ∀ b o, hp.get? b = some o → ((hp.push (PySem.W.kdv_tup us)).push (PySem.HandSPX.excO C hp.objs.size)).get? b = some o := fun b o e => Heap.get?_push_of_some _ (Heap.get?_push_of_some _ e)
  have hget : ((hp.push (PySem.W.kdv_tup us)).push (PySem.HandSPX.excO C hp.objs.size)).get? (hp.objs.size + 1) = some (PySem.HandSPX.excO C hp.objs.size) := by heap_get
  have I2 : Inv X pins σ (upd H1 (hp.objs.size + 1) (exo (hp.objs.size + 1) C none)) ⟨(hp.push (PySem.W.kdv_tup us)).push (PySem.HandSPX.excO C hp.objs.size), g, dr, tk, os⟩ :=
    I1.laid (t' := tk) kk hsz (exo_ok hget)
  have r2 : Vals (V.ref (hp.objs.size + 1) :: vs) (Value.ref (hp.objs.size + 1) :: us) := .cons rfl r1
  have hl : (Value.ref (hp.objs.size + 1) :: us).length = ps.length := by
    have e := r2.length
    rw [F1.len _ _ _ _ hq] at e
    exact e.symm
  have hus : us.length ≤ sizeLine := by
    rw [← Paired.length r1, sizeLine_eq]
    omega
  have b2 := hb _ (Value.ref (hp.objs.size + 1) :: us) I2.kIn (by rw [List.append_nil]; exact hl)
  rw [List.append_nil] at b2
  refine wpAny_call (PySem.HandSPX.call_own F.excBase_ValueError (fun Y => PySem.HandSPX.refsVE_contains Y bm hbm) (I1.kIn _ _ hC) (PySem.W.looks_findIn I1.kIn iC) (fun self => PySem.W.bind_fn I1.kIn self tI) hus
    (codeAny_mono (F1.run _ X.stack _ _ ⟨Value.ref (hp.objs.size + 1) :: us, []⟩ (Value.ref (hp.objs.size + 1) :: us) _ _ (fun _ _ _ => False) (hr.make C us []) (I2.env0.make C us []) b2 r2 hq) fun r s' hq' => ?_))
  cases r with
  | error er => exact hx pins σ _ _ er s' I2 hq'
  | ok fl =>
    cases fl with
    | ret u =>
      obtain ⟨v, H', I3, rv, ev, q3⟩ := I2.after hq'
      subst ev
      exact ⟨rv, ⟨V.ref _, H', I3, rfl, q3⟩⟩
    | next => exact False.elim hq'
    | brk => exact False.elim hq'
    | cont => exact False.elim hq'
end
end L2
set_option Elab.async false
set_option linter.all false
set_option maxRecDepth 100000
set_option maxHeartbeats 4000000
/-! an own exception class with its own __init__, called by keywords -/
namespace PySem
namespace ExKw
open HandSPX Builtin Builtin.ObjectAttr
section
variable {M : Model} {A : Around} {E : Value → Shared → Prop} {h : Heap} {g : Array GenState} {d : Drawn} {t : Nat} {os : OsState}
variable {nm q : Str} {C N : Addr} {bs bm bmB : List Value} {hdct : Bool} {sn : List Str} {sub : List Value} {ab : Bool} {col : Option Bool} {dd : Option Addr} {k0 k1 k2 k3 k5 : Option Value} {B newId initId : String}
theorem check_new (F : ExcBaseFacts B newId initId bmB) (hT : ∀ X : String, bm.contains (.type X) = bmB.contains (.type X)) {rest : List Value} {kw : List (Str × Value)} {Q : Unit → Shared → Prop}
    (hC : h.get? C = some (excClassObj nm q C N bs bm hdct sn sub ab col dd k0 k1 k2 k3 k5 newId)) (hq : Q () ⟨h, g, d, t, os⟩) : wpAny M A (checkBuiltinCall newId ⟨.ref C :: rest, kw⟩) Q E ⟨h, g, d, t, os⟩ := by
  have c1 : (Value.ref C :: bm).contains (.type B) = true := by rw [List.contains_cons, hT, F.hasB, Bool.or_true]
  have c2 := F.noStar
  simp only [checkBuiltinCall, F.newKind, F.newSplit, F.newRow]
  repeat (first | refine wpAny_loadPart_at hC ?_ | (refine wpAny_isSubtype_exc hC ?_; rw [c1]) | refine wpAny_staticBase_exc hC ?_ | refine wpAny_madeBy_exc hC ?_ | simp only [bne_self_eq_false, Bool.false_eq_true, if_false] | wp_step)
  exact hq
end
section
variable {prog : Program} {w : World} {A : Around} {E : Value → Shared → Prop} {R : Result → Shared → Prop} {h : Heap} {g : Array GenState} {d : Drawn} {t : Nat} {os : OsState}
variable {nm q : Str} {C N : Addr} {bs bm bmB : List Value} {hdct : Bool} {sn : List Str} {sub : List Value} {ab : Bool} {col : Option Bool} {dd : Option Addr} {k0 k1 k2 k3 k5 : Option Value} {B newId initId : String}
theorem new_of (F : ExcBaseFacts B newId initId bmB) (hT : ∀ X : String, bm.contains (.type X) = bmB.contains (.type X)) {rest : List Value} {kw : List (Str × Value)}
    (hC : h.get? C = some (excClassObj nm q C N bs bm hdct sn sub ab col dd k0 k1 k2 k3 k5 newId))
    (hq : R (.ok (.ret (.ref (h.objs.size + 1)))) ⟨(h.push (W.kdv_tup rest)).push (excO C h.objs.size), g, d, t, os⟩) (hrest : rest.length ≤ sizeLine) :
    codeAny (model prog w) A (.builtin newId ⟨.ref C :: rest, kw⟩) R ⟨h, g, d, t, os⟩ := by
  have c0 := F.ends
  have c1 : (Value.ref C :: bm).contains (.type B) = true := by rw [List.contains_cons, hT, F.hasB, Bool.or_true]
  have c2 : (Value.ref C :: bm).contains (.type "AttributeError") = false := by rw [List.contains_cons, hT, F.noAttr]; rfl
  have c3 : (Value.ref C :: bm).contains (.type "NameError") = false := by rw [List.contains_cons, hT, F.noName]; rfl
  refine codeAny_builtinAt F.entry ?_
  unfold Builtin.«BaseException.__new__»
  refine wpAt_bind ?_
  show wpAt _ _ _ (stack >>= _) _ _ _
  refine wpAt_bind (wpAt_stack fun p below => wpAt_of_wpAny ?_)
  wp_walk
  refine wpAt_of_wpAny ?_
  rw [F.owner]
  repeat (first | with_reducible refine wpAny_madeHere_exc F.canon hC ?_ | with_reducible refine wpAny_loadPart_at hC ?_ | (with_reducible refine wpAny_isSubtype_exc hC ?_; first | rw [c1] | rw [c2] | rw [c3]) | wp_step)
  show R _ _
  rw [Heap.size_push]
  exact hq
theorem type_call (F : ExcBaseFacts B newId initId bmB) (hT : ∀ X : String, bm.contains (.type X) = bmB.contains (.type X)) {rest : List Value} {kw : List (Str × Value)} {fI : Addr} {Q : Fin → Shared → Prop}
    (hC : h.get? C = some (excClassObj nm q C N bs bm hdct sn sub ab col dd k0 k1 k2 k3 k5 newId))
    (hi : W.Looks (model prog w) h (typeLookup (.ref C) "__init__") (some (.ref fI))) (hb : ∀ self, W.Looks (model prog w) h (bindSpecial (.ref fI) self) (.ref fI, [self])) (hrest : rest.length ≤ sizeLine)
    (hq : codeAny (model prog w) A (.call (.ref fI) ⟨.ref (h.objs.size + 1) :: rest, kw⟩)
      (fun r s' => match r with | .ok (.ret v) => v = .none ∧ Q (.done (.ret (.ref (h.objs.size + 1)))) s' | .ok _ => False | .error e => E e s')
      ⟨(h.push (W.kdv_tup rest)).push (excO C h.objs.size), g, d, t, os⟩) :
    wpAny (model prog w) A (Builtin.«type.__call__» ⟨.ref C :: rest, kw⟩) Q E ⟨h, g, d, t, os⟩ := by
  repeat (first | with_reducible refine wpAny_loadPart_at hC ?_ | with_reducible refine wpAny_madeBy_exc hC ?_ | wp_step)
  refine codeAny_call_builtin_code (Code.quiet_builtin _ F.quiet) (check_new F hT hC ?_)
  refine new_of F hT hC ?_ hrest
  show wpAny _ _ _ _ _ _
  have k : ∀ b o, h.get? b = some o → ((h.push (W.kdv_tup rest)).push (excO C h.objs.size)).get? b = some o := fun b o e => Heap.get?_push_of_some _ (Heap.get?_push_of_some _ e)
  have hC₁ := k _ _ hC
  have hget : ((h.push (W.kdv_tup rest)).push (excO C h.objs.size)).get? (h.objs.size + 1) = some (excO C h.objs.size) := by heap_get
  have hcC : (Value.ref C :: bm).contains (.ref C) = true := by simp
  have i1 := hi.keeps k
  have b1 := (hb (.ref (h.objs.size + 1))).keeps k
  unfold isInstance
  repeat (first | with_reducible refine wpAny_loadPart_at hget ?_ | (with_reducible refine wpAny_isSubtype_exc hC₁ ?_; rw [hcC]) | wp_step)
  show wpAny _ _ (typeLookup (.ref C) _) _ _ _
  refine i1.at ?_
  refine wpAny_holding (wpAny_bind (b1.at ?_))
  refine wpAny_bind (wpAny_call (codeAny_mono hq fun r s' z => ?_))
  rcases r with e | (v | _ | _ | _) <;> first | exact z | exact z.elim | skip
  obtain ⟨rfl, z⟩ := z
  first
    | exact wpAny_pure (wpAny_pure z)
    | (wp_walk; exact z)
theorem call_kw (F : ExcBaseFacts B newId initId bmB) (hT : ∀ X : String, bm.contains (.type X) = bmB.contains (.type X)) {rest : List Value} {kw : List (Str × Value)} {fI : Addr}
    (hC : h.get? C = some (excClassObj nm q C N bs bm hdct sn sub ab col dd k0 k1 k2 k3 k5 newId))
    (hi : W.Looks (model prog w) h (typeLookup (.ref C) "__init__") (some (.ref fI))) (hb : ∀ self, W.Looks (model prog w) h (bindSpecial (.ref fI) self) (.ref fI, [self])) (hrest : rest.length ≤ sizeLine)
    (hq : codeAny (model prog w) (A.under (.builtin "type.__call__" ⟨.ref C :: rest, kw⟩)) (.call (.ref fI) ⟨.ref (h.objs.size + 1) :: rest, kw⟩) (W.InitBack (h.objs.size + 1) R)
      ⟨(h.push (W.kdv_tup rest)).push (excO C h.objs.size), g, d, t, os⟩) :
    codeAny (model prog w) A (.call (.ref C) ⟨rest, kw⟩) R ⟨h, g, d, t, os⟩ := by
  have f1 := tc_lookup
  have f2 := tc_bind (.ref C)
  have hTy : (⟨h, g, d, t, os⟩ : Shared).TypeIs (.ref C) "type" := ⟨_, hC, rfl⟩
  refine codeAny_of_tree ?_
  show wpAny _ _ (callAny (.ref C) _) _ _ _
  repeat (any_goals (first | assumption | with_reducible refine wpAny_loadPart_at hC ?_ | wp_step))
  refine ⟨rfl, ?_⟩
  refine codeAny_call_builtin_at (Code.quiet_builtin _ (by decide +kernel)) entry_typeCall (wpAny_check_type_call_sub hC (type_call F hT hC hi hb hrest ?_))
  refine codeAny_mono hq fun r s' z => ?_
  rcases r with e | (v | _ | _ | _) <;> exact z
end
end ExKw
end PySem
namespace L2
open PySem PySem.Spec PyProof.Rows
/-- C(k = v, ..) as a value, C's own __init__ keeping sp; gV lays the values in the sequence of the params -/
def tMkVK (C : Addr) (m : Nat) (sp : Sp) (gV : List V → List V → List V) (tk : TA) : TE := fun σ H Q => tk σ H fun zs H1 => zs.length = m ∧ ∀ a, H1 a = none → sp (gV [.ref a] zs) (upd H1 a (exo a C none)) (fun v H2 => v = .non ∧ Q (.ref a) H2) (fun _ _ _ => False)
section
variable {X : Cx} {CX : CXT} {x : Str} {C fI : Addr} {k : Nat} {fd : FuncData} {ps ks : List Str} {sp : Sp} {tk : TA} {p pos : Pos} {kws : List Keyword} {g : List Value → List Value → List Value} {gV : List V → List V → List V}
theorem pe_oexVK (T : OexC X.K C) (iC : PySem.W.findIn X.K (.ref C) "__init__" = some (some (.ref fI))) (tI : PySem.W.typeIn X.K (.ref fI) = some (.type "function"))
    (F1 : FnOk X.prog X.w X.K X.mg X.base CX k fI fd ps sp) (hr : Room (k + 1) X.A) (hb : KBn X.K fd ps 1 ks g gV) (hx : Passes CX X (fun _ _ _ => False)) (hg : Gl X x) (hm : X.mg x = some (.ref C)) (hkw : PK X kws tk)
    (hall : (backToKw pos (keywordEach kws X.env)).all (·.1.isSome) = true := by rfl) (hks : (backToKw pos (keywordEach kws X.env)).filterMap (·.1) = ks := by rfl) (hdb : (x == ("__debug__" : Str)) = false := by decide)
    (hpl : ((backTo pos (starEach [] X.env)).any (·.1) || (backToKw pos (keywordEach kws X.env)).any (·.1.isNone)) = false := by rfl) :
    PE X (.Call (.Name x p) [] kws pos) (tMkVK C ks.length sp gV tk) := by
  refine ⟨fun pins s σ H Q I h => ?_⟩
  obtain ⟨nm, q, N, bs, bm, sn, sub, ab, col, dd, k0, k1, k2, k3, k5, hC, hbm⟩ := T.cls
  refine wpAny_Call_Name_kw (ld_glob I hg hm ?_ hdb)
  refine PySem.W.callWith_KW0 (h₀ := X.base) I.ok.mod.kin T.kC hall ?_ hpl
  refine thn (hkw.run pos pins s σ H _ I h) fun ws s2 ⟨zs, H1, I1, rz, l2, q1⟩ => ⟨I1.kIn, ?_⟩
  rw [hks]
  show wpAny _ _ (call (.ref C) [] (ks.zip ws)) _ _ _
  obtain ⟨hp, gs, dr, tk, os⟩ := s2
  have hsz : hp.objs.size ≤ hp.objs.size + 1 := Nat.le_succ _
  have hn : H1 (hp.objs.size + 1) = none := I1.hok.fresh hsz
  have hq := q1 (hp.objs.size + 1) hn
  have kk : ∀ b o, hp.get? b = some o → ((hp.push (PySem.W.kdv_tup [])).push (PySem.HandSPX.excO C hp.objs.size)).get? b = some o := fun b o e => Heap.get?_push_of_some _ (Heap.get?_push_of_some _ e)
  have hget : ((hp.push (PySem.W.kdv_tup [])).push (PySem.HandSPX.excO C hp.objs.size)).get? (hp.objs.size + 1) = some (PySem.HandSPX.excO C hp.objs.size) := by heap_get
  have I2 : Inv X pins σ (upd H1 (hp.objs.size + 1) (exo (hp.objs.size + 1) C none)) ⟨(hp.push (PySem.W.kdv_tup [])).push (PySem.HandSPX.excO C hp.objs.size), gs, dr, tk, os⟩ :=
    I1.laid (t' := tk) kk hsz (exo_ok hget)
  have r1 : Vals [V.ref (hp.objs.size + 1)] [Value.ref (hp.objs.size + 1)] := .cons rfl .nil
  have r2 := hb.rel r1 rz
  have e2 : ws.length = ks.length := rz.length.symm.trans l2
  refine wpAny_call (PySem.ExKw.call_kw F.excBase_ValueError (fun Y => PySem.HandSPX.refsVE_contains Y bm hbm) (I1.kIn _ _ hC) (PySem.W.looks_findIn I1.kIn iC) (fun self => PySem.W.bind_fn I1.kIn self tI) (by show 0 ≤ sizeLine; exact Nat.zero_le _)
    (codeAny_mono (F1.run _ X.stack _ _ ⟨[Value.ref (hp.objs.size + 1)], ks.zip ws⟩ (g [Value.ref (hp.objs.size + 1)] ws) _ _ (fun _ _ _ => False) (hr.make C [] (ks.zip ws)) (I2.env0.make C [] (ks.zip ws)) (hb.to _ [Value.ref (hp.objs.size + 1)] ws I2.kIn rfl e2) r2 hq) fun r s' hq' => ?_))
  cases r with
  | error er => exact hx pins σ _ _ er s' I2 hq'
  | ok fl =>
    cases fl with
    | ret u =>
      obtain ⟨v, H', I3, rv, ev, q3⟩ := I2.after hq'
      subst ev
      exact ⟨rv, ⟨V.ref _, H', I3, rfl, q3⟩⟩
    | next => exact False.elim hq'
    | brk => exact False.elim hq'
    | cont => exact False.elim hq'
end
end L2
set_option Elab.async false
set_option linter.all false
set_option maxRecDepth 100000
set_option maxHeartbeats 4000000
/-! try: .. except x as n: .. where the caught exception is kept as a value -/
namespace L2
open PySem PySem.Spec PyProof.Rows
/-- an exception that was caught, of the class cls, its dict (none | at d) -/
def ExK (cls : Value) (d : Option Addr) (a : Addr) : HO := .ext fun h => ∃ (oe : Obj) (vs : Array Value), h.get? a = some oe ∧ Zc cls d oe ∧ oe.data = .fields vs
theorem isEx_exK {H : Hp} {a D : Addr} {d : Option Addr} (e : H a = some (ExK (.ref D) d a)) : IsEx H a D d := ⟨_, e, fun h x => x⟩
theorem exK_ok {P : Program} {w : World} {H : Hp} {h : Heap} {a : Addr} {cls : Value} {d : Option Addr} {oe : Obj} {vs : Array Value} (e : h.get? a = some oe) (z : Zc cls d oe) (v : oe.data = .fields vs) : ObjOk P w H h a (ExK cls d a) :=
  ⟨⟨oe, vs, e, z, v⟩, ⟨oe, e⟩, fun _ _ ⟨o, u, q, r⟩ k => ⟨o, u, k o q, r⟩⟩
section
variable {X : Cx} {pins : List (Addr × Obj)} {σ : St} {H : Hp} {s : Shared}
/-- what stands on the heap, and wasn't there at the entry, may be tracked -/
theorem Inv.track {a : Addr} {φ : Heap → Prop} (I : Inv X pins σ H s) (hn : H a = none) (n0 : X.s_0.heap.get? a = none) (hp : ∀ p ∈ X.pn ++ pins, p.1 ≠ a) (nL : a ≠ X.env.locals) (nC : ∀ x c, X.env.cells.lookup x = some c → c ≠ a)
    (new : ObjOk X.prog X.w (upd H a (.ext φ)) s.heap a (.ext φ)) : Inv X pins σ (upd H a (.ext φ)) s := by
  have ne : ∀ {b : Addr} {u : HO}, H b = some u → b ≠ a := fun {b u} e z => by
    rw [z, hn] at e
    cases e
  refine ⟨I.ok, I.os, I.bare, ⟨I.base.keep, I.base.slot, fun b o e n hq => ?_, I.base.there, fun b xs e => ?_, fun b o u e => ?_, fun b ps e => ?_⟩, I.loc, I.cell, ?_, fun x c e => ?_, fun p q => ?_, fun b u e => ?_, I.len⟩
  · rw [upd_ne (fun z => by rw [z, n0] at e; cases e)]
    exact I.base.free b o e n hq
  · have q := I.base.tups b xs e
    rw [upd_ne (ne q)]
    exact q
  · have q := I.base.frzs b o u e
    rw [upd_ne (ne q)]
    exact q
  · obtain ⟨m, q⟩ := I.base.tbls b ps e
    exact ⟨m, by rw [upd_ne (ne q)]; exact q⟩
  · rw [upd_ne (Ne.symm nL)]
    exact I.free
  · rw [upd_ne (nC x c e)]
    exact I.freeC x c e
  · obtain ⟨e, n, n1, nf, d⟩ := I.pin p q
    exact ⟨e, by rw [upd_ne (hp p q)]; exact n, n1, nf, d⟩
  · by_cases hb : b = a
    · subst hb
      rw [upd_same] at e
      cases e
      exact new
    · rw [upd_ne hb] at e
      exact (I.hok b u e).stay (fun c v hc q => q) (fun c q => by rw [upd_ne (ne q)]; exact q) fun c xs q => by rw [upd_ne (ne q)]; exact q
end
/-- what the clause 'except x as n' wishes of an exception of the body, where the exception stays told behind the suite -/
def wKeep (K : PySem.W.Frag) (c : Value) (i : Nat) (ts : Addr → Value → Option Addr → TS) (Wout : WX) (D : Ends) : WX := fun cls d σ H =>
  ∃ b, PySem.W.exmOne K cls c = some b ∧ (b = true → ∀ a, H a = none → ts a cls d { nx := fun σ' H' => H' a = none → D.nx (σ'.set i none) (upd H' a (ExK cls d a)), rt := fun _ _ => False, bk := fun _ _ => False, ct := fun _ _ => False } (σ.set i (some (.ref a))) H) ∧
    (b = false → Wout cls d σ H)
section
variable {X : Cx} {x n : Str} {c : Value} {i : Nat} {body suite : List Stmt} {b₀ : Stmt} {np pos pos' : Pos} {tb : WX → TS} {ts : Addr → Value → Option Addr → TS} {Wout : WX}
theorem ps_try_keep (hx0 : X.ex = []) (hs : X.stack = X.env :: X.outer) (hf : X.env.frame = some X.env.locals) (hN : X.N.Nodup) (hi : X.N[i]? = some n) (hln : X.env.kindOf n = some .local) (hc : Names X x c) (tk : Takes X Wout)
    (hb : ∀ (W : WX) (pn : List (Addr × Obj)) (xe : Value → Shared → Prop), Takes (X.tr pn xe) W → PassesOwn (model X.prog X.w) X.A X.env xe → PSs (X.tr pn xe) body (tb W))
    (hsu : ∀ (a : Addr) (oe : Obj) (cls : Value) (d : Option Addr) (pn : List (Addr × Obj)), Zc cls d oe → (∃ vs, oe.data = .fields vs) → PSs (X.suite a ((a, oe) :: pn)) (b₀ :: suite) (ts a cls d)) :
    PS X (.Try body [.ExceptHandler (some (.Name x np)) (some n) (b₀ :: suite) pos'] [] [] pos) (fun D σ H => tb (wKeep X.K c i ts Wout D) D σ H) := by
  refine ⟨fun pins s σ H D I h => ?_⟩
  have ok := I.ok
  have hfr : X.A.frames = some (X.env :: X.outer) := by rw [ok.frames, hs]
  have hloc : Loc X.env.scope n := .inl hln
  refine wpAny_Try_except ?_
  refine wpAny_mono ((hb (wKeep X.K c i ts Wout D) (X.pn ++ pins) (fun e s₁ => wpAny (model X.prog X.w) X.A (noteFrame e X.env) (fun _ s₂ => wpAny (model X.prog X.w) X.A (setFlight e none) (fun _ s₃ =>
    wpAny (model X.prog X.w) X.A (handleBy e X.env [.ExceptHandler (some (.Name x np)) (some n) (b₀ :: suite) pos']) (SP X pins D) X.xe s₃) X.xe s₂) X.xe s₁) (fun u s' xx => ?_) PassesOwn.looking).run [] s σ H D (I.toTry _) h) (fun f s1 hsp => ?_) (fun e s1 he => he)
  · obtain ⟨a, B, sI, pins', σ', H', cls, d, rfl, J', nb, up, sky, na, os, ag, b, hb1, hyes, hno⟩ := xx
    have J : Inv X pins σ' H' sI := J'.ofTry ok
    have sky' : Sky B (X.env :: X.outer) a (Zc cls d) X.env.locals s'.heap := by rw [← hs]; exact sky
    show wpAny (model X.prog X.w) X.A (noteFrame (.ref a) X.env) _ _ _
    refine Sky.land Zc.steady hfr hf sky' fun h3 fl3 up3 => ?_
    have J3 : Inv X pins σ' H' { s' with heap := h3 } := J.landed nb fl3.1 (up.trans up3) os ag
    obtain ⟨oe3, vs3, he3, hz3, hd3⟩ := fl3.there
    have notFr : ∀ {h : Heap} {o : Obj} {vs : Array Value}, h.FunFrames B (X.env :: X.outer) → h.get? a = some o → o.data = .fields vs → a ∉ frs (X.env :: X.outer) := fun {h o vs} ff e dd hm => by
      obtain ⟨_, o', e', hnf⟩ := ff.mem hm
      rw [e] at e'; cases e'
      exact hnf _ dd
    have nfr := notFr fl3.2.2.1 he3 hd3
    have sIa : sI.heap.get? a = none := by
      cases e : sI.heap.get? a with
      | none => rfl
      | some o =>
        have y := nb a o e (by show a ∉ frs X.stack; rw [hs]; exact nfr)
        rw [fl3.2.1] at y
        cases y
    have n0 : X.s_0.heap.get? a = none := by
      cases e : X.s_0.heap.get? a with
      | none => rfl
      | some o =>
        obtain ⟨o', q⟩ := J.base.there a o e (by rw [hx0]; exact fun z => nomatch z)
        rw [sIa] at q
        cases q
    have hpa : ∀ p ∈ X.pn ++ pins, p.1 ≠ a := fun p q z => by
      have y := (J.pin p q).1
      rw [z, sIa] at y
      cases y
    have nC : ∀ x c, X.env.cells.lookup x = some c → c ≠ a := fun x c e z => by
      obtain ⟨v, o, y, _⟩ := J.cell x c e
      rw [z, sIa] at y
      cases y
    have nL : a ≠ X.env.locals := fun z => nfr (List.mem_filterMap.mpr ⟨X.env, List.mem_cons_self, by rw [hf, z]⟩)
    have nF : a ∉ X.fs := fun hm => by
      obtain ⟨e, he, q⟩ := List.mem_filterMap.mp hm
      exact nfr (List.mem_filterMap.mpr ⟨e, List.mem_cons_of_mem _ he, q⟩)
    have S3 := J3.suite he3 hd3 na nL nF
    refine wpAny_handleBy_cons (codeAny_handlers_test ?_) (by intro q; cases q)
    have LT : PySem.W.Looks (model X.prog X.w) h3 (typeOf (.ref a)) cls := fun A Q E s k q => wpAny_typeOf_ref (k _ _ he3) (by rw [hz3.1]; exact q)
    have LM := PySem.W.exm_one (M := model X.prog X.w) (J3.kIn) LT hb1
    have test : ∀ {Q : Value → Shared → Prop} {E : Value → Shared → Prop}, Q c { s' with heap := h3 } → wpAny (model X.prog X.w) (X.A.mark (some (.ref a))) (eval (.Name x np) X.env) Q E { s' with heap := h3 } := fun {Q E} q => by
      obtain ⟨hg, hdbg, hm | ⟨hm, hv, hnn⟩⟩ := hc
      · exact ld_glob (X := X.suite a ((a, oe3) :: (X.pn ++ pins))) S3 hg hm q hdbg
      · exact ld_blt (X := X.suite a ((a, oe3) :: (X.pn ++ pins))) S3 hg hm hv q hnn hdbg
    refine test (LM.here ?_)
    cases b with
    | true =>
      refine codeAny_handlers_suite_as ?_
      refine HandSPX.lands_againZ fl3 fun h4 fl4 up4 => ?_
      have J4 : Inv X pins σ' H' { s' with heap := h4 } := J.landed nb fl4.1 ((up.trans up3).trans up4) os ag
      obtain ⟨oe4, vs4, he4, hz4, hd4⟩ := fl4.there
      have S4 := J4.suite he4 hd4 na nL nF
      refine store_ok (X := X.suite a ((a, oe4) :: (X.pn ++ pins))) (v := .ref a) S4 hN hi hloc rfl (fun s5 S5 => ?_) (.inr hln)
      refine wpAny_mono ((hsu a oe4 cls d (X.pn ++ pins) hz4 ⟨_, hd4⟩).run [] s5 _ H' _ S5 (hyes rfl a na)) (fun f s6 hsp => ?_) (fun _ _ z => False.elim z)
      cases f with
      | next =>
        obtain ⟨σ6, H6, S6, q6⟩ := hsp
        obtain ⟨p1, p2, _⟩ := S6.pin (a, oe4) (List.mem_append_left _ List.mem_cons_self)
        have U := (S6.unsuite ok).track (φ := fun h => ∃ (oe : Obj) (vs : Array Value), h.get? a = some oe ∧ Zc cls d oe ∧ oe.data = .fields vs) p2 n0 hpa nL nC (exK_ok p1 hz4 hd4)
        exact gone_ok U hN hi hln fun s7 J7 => ⟨_, _, J7, q6 p2⟩
      | brk =>
        obtain ⟨σ6, H6, S6, q6⟩ := hsp
        exact q6.elim
      | cont =>
        obtain ⟨σ6, H6, S6, q6⟩ := hsp
        exact q6.elim
      | ret u =>
        obtain ⟨v6, σ6, H6, S6, r6, q6⟩ := hsp
        exact q6.elim
    | false =>
      show wpAny _ X.A (handleBy (.ref a) X.env []) _ _ _
      refine wpAny_handleBy_nil ?_
      obtain ⟨k1, k2, k3, oe, vs, T, oT, ts', he, hz, hd, h1, hr⟩ := id fl3
      unfold PySem.passOn
      refine wpAny_bind (wpAny_field he hd h1 ?_)
      rw [if_neg (show ¬ ((Value.ref T == Value.none) = true) from by simp)]
      have fin : wpAny (model X.prog X.w) X.A (setFlight (.ref a) X.env.frame) (fun _ s4 => wpAny (model X.prog X.w) X.A (throw (.ref a) : Sem Flow) (SP X pins D) X.xe s4) X.xe { s' with heap := h3 } := by
        rw [hf]
        refine HandSPX.setFlight_upZ fl3 fun h4 hh4 up4 => wpAny_throw (tk _ _ ?_)
        exact ⟨a, B, sI, pins, σ', H', cls, d, rfl, J, nb, (up.trans up3).trans up4, .inr (.inr (by rw [hs]; exact hh4)), na, os, ag, hno rfl⟩
      first
        | exact wpAny_bind (wpAny_pure (wpAny_bind fin))
        | exact wpAny_bind fin
  · cases f with
    | next =>
      obtain ⟨σ', H', J', q⟩ := hsp
      exact wpAny_execs_nil ⟨σ', H', J'.ofTry ok, q⟩
    | brk =>
      obtain ⟨σ', H', J', q⟩ := hsp
      exact ⟨σ', H', J'.ofTry ok, q⟩
    | cont =>
      obtain ⟨σ', H', J', q⟩ := hsp
      exact ⟨σ', H', J'.ofTry ok, q⟩
    | ret u =>
      obtain ⟨v, σ', H', J', r, q⟩ := hsp
      exact ⟨v, σ', H', J'.ofTry ok, r, q⟩
end
end L2
set_option Elab.async false
set_option linter.all false
set_option maxRecDepth 100000
set_option maxHeartbeats 4000000
/-! {t} in an f-string, t a tuple of a text and a text or None -/
namespace L2
open PySem PySem.Spec PyProof.Rows
def orNon : Option Str → V
  | none => .non
  | some t => .str t
def orTxt : Option Str → Str
  | none => "None"
  | some t => reprText t
theorem none_len : ("None" : Str).length = 4 := by decide +kernel
theorem none_log : (16 : Nat) ^ 8 > 0 := by decide
/-- {t}: some text of some 10,000 signs at most -/
def tFmt2 (K : PySem.W.Frag) (te : TE) : TE := fun σ H Q => te σ H fun x H1 => ∃ (a : Addr) (y : Str) (z : Option Str), x = .ref a ∧ SqT K H1 a [.str y, orNon z] ∧ (y.length ≤ 100 ∧ ∀ c ∈ y.cps.toList, c < 16 ^ 8) ∧ (∀ t, z = some t → t.length ≤ 100 ∧ ∀ c ∈ t.cps.toList, c < 16 ^ 8) ∧ ∀ m : Str, m.length ≤ 10000 → Q (.str m) H1
theorem pe_fmt2 {X : Cx} {e : Expr} {te : TE} {pos : Pos} {k : Nat} (hr : Room k X.A) (he : PE X e te) : PE X (.FormattedValue e (-1) none pos) (tFmt2 X.K te) := by
  refine ⟨fun pins s σ H Q I h => ?_⟩
  refine wpAny_FormattedValue_plain (thn (he.run pins s σ H _ I h) fun v s1 hv => ?_)
  obtain ⟨x, H1, I1, r1, a, y, z, rfl, ht, ⟨hy, hyc⟩, hz, q⟩ := hv
  cases r1
  obtain ⟨its, rv, ⟨o, ho, hcl, n, hd⟩, _⟩ := I1.tuple ht
  have h1 := StrLaws.reprText_len y hyc
  have hz1 : (orTxt z).length ≤ 1010 := by
    cases z with
    | none => show ("None" : Str).length ≤ 1010; rw [none_len]; decide
    | some t =>
      have := StrLaws.reprText_len t (hz t rfl).2
      have := (hz t rfl).1
      show (reprText t).length ≤ 1010
      omega
  have hu := hr.units
  have htx := fmt_text [reprText y, orTxt z]
  have hp : piled [reprText y, orTxt z] ≤ 3000 := by
    rw [piled_cons, piled_cons]
    have : piled [] = 0 := rfl
    omega
  have hR : ReprAll X.prog X.w its [reprText y, orTxt z] := by
    cases rv with
    | cons r2 r3 =>
      obtain ⟨t, rfl⟩ := r2
      cases r3 with
      | cons r4 r5 =>
        cases r5
        refine .cons (ReprIs.str y t (by rw [sizeLine_eq]; omega)) (.cons ?_ .nil)
        cases z with
        | none =>
          obtain rfl : _ = Value.none := r4
          exact ReprIs.none
        | some t2 =>
          obtain ⟨t3, rfl⟩ := (show ∃ t3, _ = Value.str t2 t3 from r4)
          exact ReprIs.str t2 t3 (by have : (reprText t2).length ≤ 1010 := hz1; rw [sizeLine_eq]; omega)
  exact fmt_tuple (by omega) ho hcl hd hR (by rw [sizeLine_eq]; omega) fun m u tk hm => ⟨.str m, H1, I1.tok _, ⟨u, rfl⟩, q m (by omega)⟩
end L2
set_option Elab.async false
set_option linter.all false
set_option maxRecDepth 100000
set_option maxHeartbeats 4000000
namespace J1
open PySem PySem.Spec PyProof.Rows L2 GxR GA
abbrev lDraw : Stmt := top 108
theorem c48 : FnScope ["_law_well_here", "_law_many", "_law_cell", "_law_got"] ["_law_well_here", "_law_many"] (defScope lDraw) := ⟨rfl, rfl, rfl, by decide +kernel, rfl, by decide +kernel, by decide +kernel⟩
/-- the well at p: what is left of a cell, how many cells were taken, the cells at l; n: how many draws there were at most -/
structure Wl (H : Hp) (p l : Addr) (ns : List Int) (n : Nat) : Prop where
  ex : ∃ c a : Int, H p = some (.lst [.int c, .int a, .ref l]) ∧ 0 ≤ c ∧ 0 ≤ a ∧ a ≤ n
  cells : H l = some (.lst (ns.map V.int))
/-- what a draw promises: only the well changes -/
def spDr : Sp := fun vs H Q _ => ∃ (p l : Addr) (ns : List Int) (n : Nat) (m : Int), vs = [.ref p, .int m] ∧ 0 < m ∧ CDivW 0 m ∧ Wl H p l ns n ∧ n ≤ 1000000000000000000000000000000000000000000000000000000000000 ∧
  ∀ (r : Int) (H' : Hp), 0 ≤ r → r < m → Wl H' p l ns (n + 1) → GrowW p H H' → Q (.int r) H'
structure Gd (mg : Str → Option Value) : Prop where
  len : mg "len" = none
  abs : mg "abs" = none
  int : mg "int" = none
theorem pget_l {X : Cx} : PGet X (fun x y H Q => ∃ (p : Addr) (xs : List V) (j : Nat) (v : V), x = .ref p ∧ y = .int (j : Int) ∧ SqL X.K H p xs ∧ xs[j]? = some v ∧ Q v H) := by
  intro pins s σ H o i ov iv Q I ro ri h
  obtain ⟨p, xs, j, z, rfl, rfl, hq, hz, q⟩ := h
  cases ro
  obtain ⟨t, rfl⟩ := ri
  obtain ⟨its, r, pl, hl⟩ := I.list hq
  obtain ⟨y, ey, ry⟩ := r.get hz
  have hj : j < xs.length := (List.getElem?_eq_some_iff.mp hz).1
  have hn := line63
  exact wpAny_getItem_list pl.isList (Int.natCast_nonneg j) (by omega) (by simpa using ey) ⟨z, H, I, ry, q⟩
theorem GrowW.trans' {w : Addr} {H H1 H2 : Hp} (x : GrowW w H H1) (y : GrowW w H1 H2) : GrowW w H H2 := fun a o n h => by
  rcases x a o n h with h1 | ⟨h1, ps, q, z⟩
  · exact y a o n h1
  · rcases y a _ n q with q2 | ⟨_, q2⟩
    · exact .inr ⟨h1, ps, q2, z⟩
    · exact .inr ⟨h1, q2⟩
theorem GrowW.refl' (w : Addr) (H : Hp) : GrowW w H H := fun _ _ _ h => .inl h
section
variable {P : Program} {w : World} {K : PySem.W.Frag} {mg : Str → Option Value} {base : Heap}
theorem ok_draw {f : Addr} {fd : FuncData} (F : Fun K "_law_draw" "_law_draw" lDraw f fd) (B : Gd mg) : FnOk P w K mg base CX0 1 f fd ["_law_well_here", "_law_many"] spDr := by
  refine F.ok c48 (fun vs H Q E h => ?_) (fun cdv A outer s H vs Q E hr h => ?_)
  · obtain ⟨p, l, ns, n, m, rfl, _⟩ := h
    rfl
  · obtain ⟨p, l, ns, n, m, rfl, hm, hm9, ⟨⟨c, a, hp, hc, ha, han⟩, hl⟩, hn, kq⟩ := h
    have npl : p ≠ l := fun e => by
      rw [e, hl] at hp
      have := HO.lst.inj (Option.some.inj hp)
      match ns, this with
      | [], q => cases q
      | [_], q => cases q
      | [_, _], q => cases q
      | _ :: _ :: _ :: _, q => simp at q
    refine ⟨_, C8.pss_cut (ps_if (pt_cmpR op_eq (pe_ix ix_list (pv 0) pe_int (fun _ _ => rfl)) pe_int (nomark _))
        (pss_cons (ps_set (i := 2) c48.nd rfl (Or.inl rfl) pe_int)
        (C8.pss_cut (ps_if (pt_cmpR op_lt (pe_ix ix_list (pv 0) pe_int (fun _ _ => rfl)) (pe_callB call_len_seq (by rfl) B.len PySem.boot_len (pa_cons (pe_ix ix_list (pv 0) pe_int (fun _ _ => rfl)) pa_nil)) (nomark _))
            (pss_one (ps_set (i := 2) c48.nd rfl (Or.inl rfl) (pe_callB call_abs (by rfl) B.abs (by decide +kernel) (pa_cons (pe_ix ix_list (pe_ix ix_list (pv 0) pe_int (fun _ _ => rfl)) (pe_ix ix_list (pv 0) pe_int (fun _ _ => rfl)) (fun _ _ => rfl)) pa_nil)))) pss_nil)
        (C8.pss_cut (ps_if (pt_cmpR op_lt (pv 2) (pe_op op_pow pe_int pe_int) (nomark _))
            (pss_cons (ps_set (i := 2) c48.nd rfl (Or.inl rfl)
                (pe_op op_add (pe_op op_add (pe_op op_mul (pv 2) pe_int) (pe_op op_mul (pe_ix ix_list (pv 0) pe_int (fun _ _ => rfl)) pe_int)) pe_int))
            (pss_one (ps_set (i := 2) c48.nd rfl (Or.inl rfl) (pe_op op_add (pe_op op_mul (pe_op op_fdiv (pe_op op_mulW (pv 2) (pv 2)) pe_int) pe_int) (pv 2))))) pss_nil)
        (pss_cons (ps_asg (pv 2) (pg_sub (pv 0) pe_int set_list))
        (pss_one (ps_augS (pv 0) pe_int pget_l pe_int ip_add set_list)))))) pss_nil)
      (pss_cons (ps_set (i := 3) c48.nd rfl (Or.inl rfl) (pe_op op_mod (pe_callTy call_int1 (by rfl) B.int (by decide +kernel) (pa_cons (pe_ix ix_list (pv 0) pe_int (fun _ _ => rfl)) pa_nil)) (pv 1)))
      (pss_cons (ps_asg (pe_op op_fdivW (pe_ix ix_list (pv 0) pe_int (fun _ _ => rfl)) (pv 1)) (pg_sub (pv 0) pe_int set_list))
      (pss_one (ps_ret (pv 3))))), ?_⟩
    refine ⟨fun σ' H' => ∃ (c' a' : Int) (v2 : Option V), σ' = [some (.ref p), some (.int m), v2, none] ∧ H' p = some (.lst [.int c', .int a', .ref l]) ∧ 0 ≤ c' ∧ 0 ≤ a' ∧ a' ≤ n + 1 ∧ GrowW p H H', ?_, ?_⟩
    · refine ⟨_, rfl, p, _, _, _, rfl, rfl, SqL.of hp, at_of (j := 0) rfl rfl, rfl, _, rfl, ?_⟩
      refine ite2 (fun _ => ?_) (fun _ => ?_)
      · refine ⟨fun σ' H' => ∃ c1 : Int, 0 ≤ c1 ∧ σ' = [some (.ref p), some (.int m), some (.int c1), none] ∧ H' = H, ?_, ?_⟩
        · refine ⟨_, rfl, p, _, _, _, rfl, rfl, SqL.of hp, at_of (j := 1) rfl rfl, _, rfl, p, _, _, _, rfl, rfl, SqL.of hp, at_of (j := 2) rfl rfl, l, _, rfl, .inl (SqL.of hl), _, _, rfl, rfl, _, rfl, ?_⟩
          refine ite2 (fun hlt => ?_) (fun _ => ?_)
          · have hlt := of_decide_eq_true hlt
            rw [List.length_map] at hlt
            have hj : a.toNat < ns.length := by omega
            refine ⟨_, rfl, p, _, _, _, rfl, rfl, SqL.of hp, at_of (j := 2) rfl rfl, _, rfl, p, _, _, _, rfl, rfl, SqL.of hp, at_of (j := 1) rfl rfl, l, _, _, _, rfl, rfl, SqL.of hl, at_of (j := a.toNat) (v := V.int ns[a.toNat]) (by omega) (by rw [List.getElem?_map, List.getElem?_eq_getElem hj]; rfl), _, rfl, ?_⟩
            refine ⟨if ns[a.toNat] < 0 then -ns[a.toNat] else ns[a.toNat], ?_, rfl, rfl⟩
            split <;> omega
          · exact ⟨7, by decide, rfl, rfl⟩
        · intro σ' H1 hh
          obtain ⟨c1, hc1, e1, e2⟩ := hh
          subst e1
          subst e2
          refine ⟨fun σ' H' => ∃ c2 : Int, 0 ≤ c2 ∧ σ' = [some (.ref p), some (.int m), some (.int c2), none] ∧ H' = H1, ?_, ?_⟩
          · refine ⟨_, rfl, _, _, rfl, rfl, ⟨by decide, by decide, by decide⟩, _, _, rfl, rfl, _, rfl, ?_⟩
            refine ite2 (fun hlt => ?_) (fun _ => ?_)
            · have hlt := of_decide_eq_true hlt
              have e18 : (10 : Int) ^ (Int.toNat 18) = 1000000000000000000 := by decide
              rw [e18] at hlt
              have hw : (c1 * 1000003 + a * 7919 + 12347).natAbs < 2 ^ 300 := Nat.lt_of_lt_of_le (show (c1 * 1000003 + a * 7919 + 12347).natAbs < 10000000000000000000000000000000000000000000000000000000000000000000000 by omega) (by decide)
              refine ⟨_, rfl, _, _, rfl, rfl, .inr ⟨by decide, by decide⟩, _, rfl, p, _, _, _, rfl, rfl, SqL.of hp, at_of (j := 1) rfl rfl, _, _, rfl, rfl, .inr ⟨by decide, by decide⟩, _, _, rfl, rfl, _, _, rfl, rfl, ?_⟩
              refine ⟨_, rfl, _, rfl, _, _, rfl, rfl, wide_mul hw hw (by decide) (by decide) (by decide), _, _, rfl, rfl, ⟨by decide, by decide⟩, _, _, rfl, rfl, .inr ⟨by decide, by decide⟩, _, rfl, _, _, rfl, rfl, ?_⟩
              refine ⟨_, ?_, rfl, rfl⟩
              have h0 : 0 ≤ c1 * 1000003 + a * 7919 + 12347 := by omega
              have h1 := Int.ediv_nonneg (Int.mul_nonneg h0 h0) (by decide : (0 : Int) ≤ 97)
              have h2 := Int.mul_nonneg h1 (by decide : (0 : Int) ≤ 48271)
              exact Int.add_nonneg h2 h0
            · exact ⟨c1, hc1, rfl, rfl⟩
          · intro σ2 H2 hh
            obtain ⟨c2, hc2, e1, e2⟩ := hh
            subst e1
            subst e2
            refine ⟨_, rfl, _, rfl, p, _, _, 0, rfl, rfl, hp, rfl, ?_⟩
            refine ⟨_, rfl, p, _, 1, _, rfl, rfl, SqL.of upd_same, rfl, _, _, rfl, rfl, p, _, _, 1, rfl, rfl, upd_same, rfl, ?_⟩
            exact ⟨c2, a + 1, _, rfl, upd_same, hc2, by omega, by omega, GrowW.upd.trans' GrowW.upd⟩
      · exact ⟨c, a, none, rfl, hp, hc, ha, by omega, GrowW.refl' p H⟩
    · rintro σ' H' ⟨c', a', v2, rfl, hp', hc', ha', han', kp⟩
      refine ⟨_, rfl, p, _, _, _, rfl, rfl, SqL.of hp', at_of (j := 0) rfl rfl, .inl ⟨_, rfl, _, rfl, _, _, rfl, rfl, hm, ?_⟩⟩
      refine ⟨_, rfl, p, _, _, _, rfl, rfl, SqL.of hp', at_of (j := 0) rfl rfl, _, rfl, _, _, rfl, rfl, hm9, _, rfl, p, _, _, 0, rfl, rfl, hp', rfl, ?_⟩
      refine ⟨_, rfl, kq _ _ (Int.emod_nonneg _ (by omega)) (Int.emod_lt_of_pos _ hm) ⟨⟨c' / m, a', upd_same, Int.ediv_nonneg hc' (by omega), ha', by omega⟩, ?_⟩ (kp.trans' GrowW.upd)⟩
      rw [upd_ne npl.symm]
      rcases kp l _ npl.symm hl with q | ⟨⟨ps, q⟩, _⟩
      · exact q
      · cases q
end
end J1
set_option Elab.async false
set_option linter.all false
set_option maxRecDepth 100000
set_option maxHeartbeats 4000000
namespace J1
open PySem PySem.Spec PyProof.Rows L2 GxR GA
theorem cdw {m : Int} (h : 0 < m) (h2 : m.natAbs < 2 ^ 1000) : CDivW 0 m := wide_div h h2 (by decide) (by decide)
theorem Wl.grow {H H' : Hp} {p l : Addr} {ns : List Int} {n : Nat} (W : Wl H p l ns n) (g : Grow H H') : Wl H' p l ns n := by
  obtain ⟨⟨c, a, h, r⟩, hl⟩ := W
  exact ⟨⟨c, a, g.lst h, r⟩, g.lst hl⟩
theorem Wl.upd {H : Hp} {p l q : Addr} {ns : List Int} {n : Nat} {o : HO} (W : Wl H p l ns n) (hp : q ≠ p) (hl : q ≠ l) : Wl (upd H q o) p l ns n := by
  obtain ⟨⟨c, a, h, r⟩, h2⟩ := W
  exact ⟨⟨c, a, by rw [upd_ne hp.symm]; exact h, r⟩, by rw [upd_ne hl.symm]; exact h2⟩
theorem Wl.more {H : Hp} {p l : Addr} {ns : List Int} {n m : Nat} (W : Wl H p l ns n) (h : n ≤ m) : Wl H p l ns m := by
  obtain ⟨⟨c, a, h0, h1, h2, h3⟩, hl⟩ := W
  exact ⟨⟨c, a, h0, h1, h2, by omega⟩, hl⟩
theorem Wl.np {H : Hp} {p l q : Addr} {ns : List Int} {n : Nat} (W : Wl H p l ns n) (h : H q = Option.none) : q ≠ p ∧ q ≠ l := by
  obtain ⟨⟨c, a, h0, _⟩, hl⟩ := W
  exact ⟨fun z => (by rw [z, h0] at h; cases h), fun z => (by rw [z, hl] at h; cases h)⟩
/-! ### drawn names -/
def cl (s : Str) : List Nat := s.cps.toList
theorem cl_inj {a b : Str} (h : cl a = cl b) : a = b := by
  cases a; cases b
  exact congrArg Str.mk (Array.toList_inj.mp h)
theorem cl_app (a b : Str) : cl (a ++ b) = cl a ++ cl b := by
  show (a ++ b).cps.toList = _
  rw [Str.cps_append, Array.toList_append]
  rfl
theorem len_cl (a : Str) : a.length = (cl a).length := by
  show a.cps.size = _
  rw [← Array.length_toList]
  rfl
def upL : List Nat := cl "ABCDEFGHIJKLMNOPQRSTUVWXYZ"
def loL : List Nat := cl "abcdefghijklmnopqrstuvwxyz"
def sgL : List Nat := (("abcdefghijklmnopqrstuvwxyz" : Str) ++ ("ABCDEFGHIJKLMNOPQRSTUVWXYZ" : Str) ++ ("0123456789" : Str)).cps.toList
theorem up_ok : ∀ c ∈ upL, 64 < c ∧ c < 128 ∧ Unicode.isAlnum c = true ∧ Txt.isalpha ⟨#[c]⟩ = true := by decide +kernel
theorem lo_ok : ∀ c ∈ loL, 64 < c ∧ c < 128 ∧ Unicode.isAlnum c = true ∧ Txt.isalpha ⟨#[c]⟩ = true ∧ Txt.islower ⟨#[c]⟩ = true := by decide +kernel
theorem sg_ok : ∀ c ∈ sgL, c < 128 ∧ Unicode.isAlnum c = true := by decide +kernel
theorem ls_len : upL.length = 26 ∧ loL.length = 26 ∧ sgL.length = 62 := by decide +kernel
theorem words_x : ∀ w ∈ wordsL, (w ++ ("x" : Str)).length ≤ 10 ∧ wordsL.contains (w ++ ("x" : Str)) = false := by decide +kernel
/-- a letter, then letters and digits, n at most -/
structure WdN (n : Nat) (cap : Bool) (s : Str) : Prop where
  ex : ∃ (c : Nat) (a : List Nat), cl s = c :: a ∧ c ∈ (if cap = true then upL else loL) ∧ (∀ k ∈ a, k ∈ sgL) ∧ a.length ≤ n
theorem WdN.len {n : Nat} {cap : Bool} {s : Str} (h : WdN n cap s) : s.length ≤ n + 1 := by
  obtain ⟨c, a, e, _, _, h⟩ := h.ex
  rw [len_cl, e, List.length_cons]
  omega
theorem WdN.le {n m : Nat} {cap : Bool} {s : Str} (h : WdN n cap s) (hm : n ≤ m) : WdN m cap s := by
  obtain ⟨c, a, e, h1, h2, h3⟩ := h.ex
  exact ⟨c, a, e, h1, h2, by omega⟩
theorem WdN.app {n : Nat} {cap : Bool} {s : Str} {k : Nat} (h : WdN n cap s) (hk : k ∈ sgL) : WdN (n + 1) cap (s ++ ⟨#[k]⟩) := by
  obtain ⟨c, a, e, h1, h2, h3⟩ := h.ex
  refine ⟨c, a ++ [k], by rw [cl_app, e]; rfl, h1, fun j hj => ?_, by rw [List.length_append]; exact Nat.succ_le_succ h3⟩
  rcases List.mem_append.mp hj with hj | hj
  · exact h2 j hj
  · rw [List.mem_singleton.mp hj]; exact hk
theorem first_ok {c : Nat} {cap : Bool} (h : c ∈ (if cap = true then upL else loL)) : c < 128 ∧ Unicode.isAlnum c = true ∧ Txt.isalpha ⟨#[c]⟩ = true ∧ (cap = false → Txt.islower ⟨#[c]⟩ = true) := by
  cases cap with
  | true =>
    obtain ⟨_, h2, h3, h4⟩ := up_ok c h
    exact ⟨h2, h3, h4, fun z => Bool.noConfusion z⟩
  | false =>
    obtain ⟨_, h2, h3, h4, h5⟩ := lo_ok c h
    exact ⟨h2, h3, h4, fun _ => h5⟩
theorem WdN.all {n : Nat} {cap : Bool} {s : Str} (h : WdN n cap s) : ∀ k ∈ cl s, k < 128 ∧ Unicode.isAlnum k = true := fun k hk => by
  obtain ⟨c, a, e, h1, h2, h3⟩ := h.ex
  rw [e] at hk
  rcases List.mem_cons.mp hk with rfl | hk
  · exact ⟨(first_ok h1).1, (first_ok h1).2.1⟩
  · exact sg_ok k (h2 k hk)
theorem WdN.s {n : Nat} {cap : Bool} {s : Str} (h : WdN n cap s) (hn : n ≤ 100) : SOk s := ⟨by have := h.len; omega, fun k hk => Nat.lt_trans (h.all k hk).1 (by decide)⟩
theorem WdN.nam {n : Nat} {cap : Bool} {s : Str} (h : WdN n cap s) (hl : s.length ≤ 10) (hw : inV (.str s) (wordsL.map V.str) = false) : isNamS s = true ∧ (cap = false → isLow (.str s) = true) := by
  have al := h.all
  obtain ⟨c, a, e, h1, h2, h3⟩ := h.ex
  obtain ⟨q1, q2, q3, q4⟩ := first_ok h1
  have eh : head1 s = ⟨#[c]⟩ := by
    unfold head1
    have e' : s.cps.toList = c :: a := e
    rw [e']
    rfl
  have a1 : Txt.isascii s = true := by
    show s.cps.all (fun c => decide (c < 128)) = true
    rw [← Array.all_toList, List.all_eq_true]
    exact fun k hk => decide_eq_true (al k hk).1
  have hp : 1 ≤ (cl s).length := by rw [e, List.length_cons]; omega
  have a2 : Txt.isalnum s = true := by
    show (decide (s.length > 0) && s.cps.all Unicode.isAlnum) = true
    rw [Bool.and_eq_true, ← Array.all_toList, List.all_eq_true]
    exact ⟨decide_eq_true (by rw [len_cl]; omega), fun k hk => (al k hk).2⟩
  have en : isNamS s = true := by
    unfold isNamS
    rw [eh, a1, a2, q3, hw, decide_eq_true (by rw [len_cl]; omega), decide_eq_true (by omega)]
    rfl
  refine ⟨en, fun hc => ?_⟩
  show (isNamS s && Txt.islower (head1 s)) = true
  rw [en, eh, q4 hc]
  rfl
theorem in_words {s : Str} : inV (.str s) (wordsL.map V.str) = wordsL.contains s := by
  unfold inV
  rw [List.any_map]
  have : ((fun y => eqV y (V.str s)) ∘ V.str) = fun y => y == s := funext fun y => rfl
  rw [this, Bool.eq_iff_iff, List.any_eq_true, List.contains_iff_mem]
  constructor
  · rintro ⟨y, hy, e⟩
    rw [← beq_iff_eq.mp e]; exact hy
  · exact fun h => ⟨s, h, by simp⟩
def GrowV (p u : Addr) (H H' : Hp) : Prop := ∀ a o, a ≠ p → a ≠ u → H a = some o → H' a = some o ∨ (∃ ps, o = .tbl ps) ∧ TabG H' a
theorem GrowW.lst {p : Addr} {H H' : Hp} (g : GrowW p H H') {a : Addr} {xs : List V} (n : a ≠ p) (h : H a = some (.lst xs)) : H' a = some (.lst xs) := by
  rcases g a _ n h with q | ⟨⟨ps, q⟩, _⟩
  · exact q
  · cases q
theorem GrowW.v {p u : Addr} {H H' : Hp} (g : GrowW p H H') : GrowV p u H H' := fun a o n _ h => g a o n h
theorem GrowV.trans {p u : Addr} {H H1 H2 : Hp} (x : GrowV p u H H1) (y : GrowV p u H1 H2) : GrowV p u H H2 := fun a o n m h => by
  rcases x a o n m h with h1 | ⟨h1, ps, q, z⟩
  · exact y a o n m h1
  · rcases y a _ n m q with q2 | ⟨_, q2⟩
    · exact .inr ⟨h1, ps, q2, z⟩
    · exact .inr ⟨h1, q2⟩
theorem GrowV.upd {p u : Addr} {H : Hp} {o : HO} : GrowV p u H (L2.upd H u o) := fun a v _ m h => .inl (by rw [upd_ne m]; exact h)
theorem GrowW.afterV {p u : Addr} {H0 H H' : Hp} (g : GrowW p H0 H) (hu : H0 u = Option.none) (v : GrowV p u H H') : GrowW p H0 H' := fun a o n h => by
  have m : a ≠ u := fun z => by rw [z, hu] at h; cases h
  rcases g a o n h with h1 | ⟨h1, ps, q, z⟩
  · exact v a o n m h1
  · rcases v a _ n m q with q2 | ⟨_, q2⟩
    · exact .inr ⟨h1, ps, q2, z⟩
    · exact .inr ⟨h1, q2⟩
theorem at_g {α : Type} {xs : List α} {z : Int} {j : Nat} {v : α} (e : z = (j : Int)) (h : xs[j]? = some v) : atI xs z = some v := by
  rw [e]
  exact atI_nat h
abbrev lWord : Stmt := top 111
theorem cW : FnScope ["_law_well_here", "_law_capital", "_law_used", "_law_small", "_law_large", "_law_name", "_law_size", "_law_k"] ["_law_well_here", "_law_capital", "_law_used"] (defScope lWord) := ⟨rfl, rfl, rfl, by decide +kernel, rfl, by decide +kernel, by decide +kernel⟩
def spWord : Sp := fun vs H Q _ => ∃ (p l u : Addr) (ns : List Int) (n : Nat) (cap : Bool), vs = [.ref p, .bl cap, .ref u] ∧ Wl H p l ns n ∧ u ≠ p ∧ u ≠ l ∧ H u = some (.lst []) ∧ n + 14 ≤ 1000000000000000000000000000000000000000000000000000000000000 ∧
  ∀ s H', SOk s → isNamS s = true → (cap = false → isLow (.str s) = true) → Wl H' p l ns (n + 14) → GrowV p u H H' → Q (.str s) H'
structure Gd3 (mg : Str → Option Value) : Prop where
  len : mg "len" = Option.none
  int : mg "int" = Option.none
  str : mg "str" = Option.none
  range : mg "range" = Option.none
section
variable {P : Program} {w : World} {K : PySem.W.Frag} {mg : Str → Option Value} {base : Heap}
theorem ok_word {f fD : Addr} {fd fdD : FuncData} (F : Fun K "_law_word" "_law_word" lWord f fd) (N : Gd3 mg) (GD : FnOk P w K mg base CX0 1 fD fdD ["_law_well_here", "_law_many"] spDr) (DD : Df K mg "_law_draw" ["_law_well_here", "_law_many"] fD fdD) :
    FnOk P w K mg base CX0 2 f fd ["_law_well_here", "_law_capital", "_law_used"] spWord := by
  refine F.ok (k := 1) cW (fun vs H Q E h => ?_) (fun cdv A outer s H vs Q E hr h => ?_)
  · obtain ⟨p, l, u, ns, n, cap, rfl, _⟩ := h
    rfl
  · obtain ⟨p, l, u, ns, n, cap, rfl, W, hup, hul, hu, hn, kq⟩ := h
    refine ⟨_, (pss_cons (ps_set (i := 3) cW.nd rfl (Or.inl rfl) pe_str) (pss_cons (ps_set (i := 4) cW.nd rfl (Or.inl rfl) pe_str) (pss_cons (ps_set (i := 5) cW.nd rfl (Or.inr rfl) (pe_ix ix_str (pe_ix ix_list (pe_lst (pa_cons (pv 3) (pa_cons (pv 4) pa_nil))) (pe_callTy call_int1 (by rfl) N.int (by decide +kernel) (pa_cons (pv 1) pa_nil)) (fun _ _ => rfl)) (pe_call GD hr (by rfl) DD.g DD.k DD.b .nil pass0 (pa_cons (pv 0) (pa_cons pe_int pa_nil))) (fun _ _ => rfl))) (pss_cons (ps_set (i := 6) cW.nd rfl (Or.inl rfl) (pe_call GD hr (by rfl) DD.g DD.k DD.b .nil pass0 (pa_cons (pv 0) (pa_cons pe_int pa_nil)))) (C8.pss_cut (ps_if (pt_cmpR op_eq (pe_call GD hr (by rfl) DD.g DD.k DD.b .nil pass0 (pa_cons (pv 0) (pa_cons pe_int pa_nil))) pe_int (nomark _)) (pss_one (ps_set (i := 6) cW.nd rfl (Or.inl rfl) (pe_call GD hr (by rfl) DD.g DD.k DD.b .nil pass0 (pa_cons (pv 0) (pa_cons pe_int pa_nil))))) pss_nil) (pss_cons (ps_for PassesOwn.never rfl (pi_range1 (by rfl) N.range (pa_cons (pv 6) pa_nil)) (pg_name (i := 7) cW.nd rfl (Or.inl rfl)) (pss_one (ps_set (i := 5) cW.nd rfl (Or.inr rfl) (pe_op op_add_str (pv 5) (pe_ix ix_str (pe_op op_add_str (pe_op op_add_str (pv 3) (pv 4)) pe_str) (pe_call GD hr (by rfl) DD.g DD.k DD.b .nil pass0 (pa_cons (pv 0) (pa_cons pe_int pa_nil))) (fun _ _ => rfl)))))) (C8.pss_cut (ps_if (pt_cmpR op_in_seq (pv 5) (pe_tup (pa_cons pe_str (pa_cons pe_str (pa_cons pe_str (pa_cons pe_str (pa_cons pe_str (pa_cons pe_str (pa_cons pe_str (pa_cons pe_str pa_nil))))))))) (by rfl)) (pss_one (ps_set (i := 5) cW.nd rfl (Or.inr rfl) (pe_op op_add_str (pv 5) pe_str))) pss_nil) (C8.pss_cut (ps_if (pt_cmpR op_in_seq (pv 5) (pv 2) (by rfl)) (pss_one (ps_set (i := 5) cW.nd rfl (Or.inr rfl) (pe_ix ix_list (pe_lc (own := [("_law_k", 7)]) (g := gName 7) (by rfl) cW.nd (pi_range1 (by rfl) N.range (pa_cons (pe_op op_add (pe_callB call_len_seq (by rfl) N.len PySem.boot_len (pa_cons (pv 2) pa_nil)) pe_int) pa_nil)) (blkOk_by (own := [("_law_k", 7)]) (N := ["_law_well_here", "_law_capital", "_law_used", "_law_small", "_law_large", "_law_name", "_law_size", "_law_k"]) (sc := defScope lWord) (by decide +kernel)) (fun _ _ _ _ _ => (pg_name (i := 7) cW.nd rfl (Or.inl rfl))) (fun _ _ _ _ _ => (pts_one (pt_cmpR (r := rIn K true) op_notIn_seq (pe_op op_add_str (pe_slice sl_str (pv 5) po_none (po_some pe_int)) (pe_callTy call_str_int (by rfl) N.str (by decide +kernel) (pa_cons (pv 7) pa_nil))) (pv 2) (by rfl)))) (fun _ _ _ _ _ => (pe_op op_add_str (pe_slice sl_str (pv 5) po_none (po_some pe_int)) (pe_callTy call_str_int (by rfl) N.str (by decide +kernel) (pa_cons (pv 7) pa_nil))))) pe_int (fun _ _ => rfl)))) pss_nil) (pss_cons (ps_expr (pe_bm PySem.F.plainAttrs_list PySem.F.slot_list_append PySem.F.type_list_append mt_append (pv 2) (pa_cons (pv 5) pa_nil))) (pss_one (ps_ret (pv 5)))))))))))), ?_⟩
    refine ⟨_, rfl, _, rfl, (by show 2 ≤ sizeLine; decide), fun D0 hD0 => ?_⟩
    have g0 := Grow.new (o := .lst [V.str "abcdefghijklmnopqrstuvwxyz", V.str "ABCDEFGHIJKLMNOPQRSTUVWXYZ"]) hD0
    refine ⟨_, rfl, .inr ⟨cap, rfl, D0, _, _, V.str (if cap = true then "ABCDEFGHIJKLMNOPQRSTUVWXYZ" else "abcdefghijklmnopqrstuvwxyz"), rfl, rfl, SqL.of upd_same, ?_, ?_⟩⟩
    · cases cap
      · exact at_of (j := 0) rfl rfl
      · exact at_of (j := 1) rfl rfl
    have W0 := W.grow g0
    have hu0 := g0.lst hu
    generalize upd H D0 (.lst [V.str "abcdefghijklmnopqrstuvwxyz", V.str "ABCDEFGHIJKLMNOPQRSTUVWXYZ"]) = H0 at g0 W0 hu0 ⊢
    obtain ⟨lz, hlz, haz⟩ : ∃ lz : List Nat, lz = ((if cap = true then ("ABCDEFGHIJKLMNOPQRSTUVWXYZ" : Str) else "abcdefghijklmnopqrstuvwxyz") : Str).cps.toList ∧ (lz.length = 26 ∧ ∀ k ∈ lz, k ∈ (if cap = true then upL else loL)) := by
      cases cap
      · exact ⟨_, rfl, ls_len.2.1, fun k hk => hk⟩
      · exact ⟨_, rfl, ls_len.1, fun k hk => hk⟩
    have hsz : ((if cap = true then ("ABCDEFGHIJKLMNOPQRSTUVWXYZ" : Str) else "abcdefghijklmnopqrstuvwxyz") : Str).length ≤ sizeLine := by
      have : ((if cap = true then ("ABCDEFGHIJKLMNOPQRSTUVWXYZ" : Str) else "abcdefghijklmnopqrstuvwxyz") : Str).cps.size = 26 := by rw [← Array.length_toList, ← hlz, haz.1]
      show Array.size _ ≤ _
      rw [this, sizeLine_eq]; omega
    refine ⟨_, rfl, p, l, ns, n, 26, rfl, by decide, cdw (by decide) (by decide), W0, by omega, fun r H1 ra rb W1 g1 => ?_⟩
    have hj : r.toNat < lz.length := by omega
    have hat : atI ((if cap = true then ("ABCDEFGHIJKLMNOPQRSTUVWXYZ" : Str) else "abcdefghijklmnopqrstuvwxyz") : Str).cps.toList r = some lz[r.toNat] := by
      rw [← hlz]
      exact at_g (j := r.toNat) (v := lz[r.toNat]) (by omega) (List.getElem?_eq_getElem hj)
    refine ⟨_, _, lz[r.toNat], rfl, rfl, hsz, hat, ?_⟩
    have nk0 : WdN 0 cap ⟨#[lz[r.toNat]]⟩ := ⟨lz[r.toNat], [], rfl, haz.2 _ (List.getElem_mem hj), fun _ h => (nomatch h), Nat.le_refl _⟩
    generalize (⟨#[lz[r.toNat]]⟩ : Str) = s0 at nk0 ⊢
    have hu1 := g1.lst hup hu0
    have v1 : GrowV p u H H1 := g0.w.v.trans g1.v
    refine ⟨_, rfl, p, l, ns, n + 1, 3, rfl, by decide, cdw (by decide) (by decide), W1, by omega, fun sz H2 sa sb W2 g2 => ?_⟩
    have hu2 := g2.lst hup hu1
    have v2 := v1.trans g2.v
    refine ⟨fun σ' H' => ∃ sz : Int, σ' = [some (.ref p), some (.bl cap), some (.ref u), some (.str "abcdefghijklmnopqrstuvwxyz"), some (.str "ABCDEFGHIJKLMNOPQRSTUVWXYZ"), some (.str s0), some (.int sz), none] ∧ 0 ≤ sz ∧ sz < 10 ∧ H' u = some (.lst []) ∧ Wl H' p l ns (n + 4) ∧ GrowV p u H H', ?_, ?_⟩
    · refine ⟨_, rfl, p, l, ns, n + 2, 3, rfl, by decide, cdw (by decide) (by decide), W2, by omega, fun r3 H3 _ _ W3 g3 => ?_⟩
      refine ⟨rfl, _, rfl, ite2 (fun _ => ?_) (fun _ => ?_)⟩
      · exact ⟨_, rfl, p, l, ns, n + 3, 10, rfl, by decide, cdw (by decide) (by decide), W3, by omega, fun r4 H4 a4 b4 W4 g4 => ⟨r4, rfl, a4, b4, g4.lst hup (g3.lst hup hu2), W4, (v2.trans g3.v).trans g4.v⟩⟩
      · exact ⟨sz, rfl, sa, by omega, g3.lst hup hu2, W3.more (by omega), v2.trans g3.v⟩
    rintro σ' H3 ⟨sz, rfl, s1, s2, hu3, W3, v3⟩
    have hszb : sz < 2 ^ 62 := Int.lt_of_lt_of_le s2 (by decide)
    refine ⟨_, rfl, sz, rfl, Int.le_trans (by decide) s1, hszb, ?_⟩
    refine for_range (n := sz.toNat) (fun i' σ' Hc => ∃ (s : Str) (v7 : Option V), σ' = [some (.ref p), some (.bl cap), some (.ref u), some (.str "abcdefghijklmnopqrstuvwxyz"), some (.str "ABCDEFGHIJKLMNOPQRSTUVWXYZ"), some (.str s), some (.int sz), v7] ∧ WdN i' cap s ∧ Hc u = some (.lst []) ∧ Wl Hc p l ns (n + 4 + i') ∧ GrowV p u H Hc)
      ⟨s0, none, rfl, nk0, hu3, W3, v3⟩ (fun i' σ' Hc hi hp => ?_) (fun σ' Hc hp => ?_)
    · obtain ⟨s, v7, rfl, ns', hu4, W4, v4⟩ := hp
      refine ⟨_, rfl, _, rfl, _, rfl, _, _, rfl, rfl, by decide, _, _, rfl, rfl, by decide, _, rfl, p, l, ns, n + 4 + i', 62, rfl, by decide, cdw (by decide) (by decide), W4, by omega, fun r5 H5 a5 b5 W5 g5 => ?_⟩
      have hj5 : r5.toNat < sgL.length := by rw [ls_len.2.2]; omega
      have hat5 : atI sgL r5 = some sgL[r5.toNat] := at_g (j := r5.toNat) (v := sgL[r5.toNat]) (by omega) (List.getElem?_eq_getElem hj5)
      refine ⟨_, _, sgL[r5.toNat], rfl, rfl, by decide, hat5, _, _, rfl, rfl, ?_, ?_⟩
      · have h1 : s.length ≤ i' + 1 := ns'.len
        show s.length + 1 ≤ sizeLine
        rw [sizeLine_eq]; omega
      · exact ⟨s ++ ⟨#[sgL[r5.toNat]]⟩, _, rfl, ns'.app (List.getElem_mem hj5), g5.lst hup hu4, W5, v4.trans g5.v⟩
    obtain ⟨s, v7, rfl, ns', hu4, W4, v4⟩ := hp
    have ns' : WdN 9 cap s := ns'.le (by omega)
    have W4 := W4.more (show n + 4 + sz.toNat ≤ n + 13 by omega)
    refine ⟨fun σ' H' => ∃ (s : Str) (v7 : Option V), σ' = [some (.ref p), some (.bl cap), some (.ref u), some (.str "abcdefghijklmnopqrstuvwxyz"), some (.str "ABCDEFGHIJKLMNOPQRSTUVWXYZ"), some (.str s), some (.int sz), v7] ∧ (SOk s ∧ isNamS s = true ∧ (cap = false → isLow (.str s) = true)) ∧ H' u = some (.lst []) ∧ Wl H' p l ns (n + 13) ∧ GrowV p u H H', ?_, ?_⟩
    · refine ⟨_, rfl, (by show 8 ≤ sizeLine; decide), fun q hq => ⟨q, _, rfl, .inr (SqT.of upd_same), rfl, words_flat, _, rfl, ?_⟩⟩
      have gq := Grow.new (o := .tup (wordsL.map V.str)) hq
      have ew : inV (.str s) (wordsL.map V.str) = wordsL.contains s := in_words
      show if inV (.str s) (wordsL.map V.str) = true then _ else _
      refine ite2 (fun e => ?_) (fun e => ?_)
      · rw [ew, List.contains_iff_mem] at e
        obtain ⟨x1, x2⟩ := words_x s e
        have nx : WdN 10 cap (s ++ ("x" : Str)) := ns'.app (k := 120) (by decide +kernel)
        refine ⟨_, rfl, _, _, rfl, rfl, ?_, s ++ "x", _, rfl, ⟨nx.s (by decide), nx.nam x1 (by rw [in_words]; exact x2)⟩, gq.lst hu4, W4.grow gq, v4.trans gq.w.v⟩
        have h1 : s.length ≤ 10 := ns'.len
        show s.length + 1 ≤ sizeLine
        rw [sizeLine_eq]; omega
      · exact ⟨s, _, rfl, ⟨ns'.s (by decide), ns'.nam ns'.len (Bool.eq_false_iff.mpr e)⟩, gq.lst hu4, W4.grow gq, v4.trans gq.w.v⟩
    rintro σ' H5 ⟨s, v7, rfl, nn, hu5, W5, v5⟩
    refine ⟨fun σ' H' => ∃ (v7 : Option V), σ' = [some (.ref p), some (.bl cap), some (.ref u), some (.str "abcdefghijklmnopqrstuvwxyz"), some (.str "ABCDEFGHIJKLMNOPQRSTUVWXYZ"), some (.str s), some (.int sz), v7] ∧ H' u = some (.lst []) ∧ Wl H' p l ns (n + 13) ∧ GrowV p u H H', ?_, ?_⟩
    · exact ⟨_, rfl, _, rfl, u, _, rfl, .inl (SqL.of hu5), rfl, rfl, _, rfl, iteF ⟨_, rfl, hu5, W5, v5⟩⟩
    rintro σ' H6 ⟨v8, rfl, hu6, W6, v6⟩
    refine ⟨_, rfl, .inl ⟨rfl, _, SqL.of hu6⟩, _, rfl, u, _, _, rfl, rfl, hu6, by rw [sizeLine_eq]; decide, ?_⟩
    exact ⟨_, rfl, kq s _ nn.1 nn.2.1 nn.2.2 ((W6.more (by omega)).upd hup hul) (v6.trans GrowV.upd)⟩
end
end J1
set_option Elab.async false
set_option linter.all false
set_option maxRecDepth 100000
set_option maxHeartbeats 4000000
namespace J1
open PySem PySem.Spec PyProof.Rows L2 GxR GA
/-! ### the exceptions with fields of their own, made -/
/-- an __init__: what its arguments must be, and the fields behind it -/
def spIni (D : Addr) (m : Nat) (C : List V → Hp → Prop) (F : List V → List (Str × V)) : Sp := fun vs H Q _ => ∃ (a : Addr) (us : List V), vs = .ref a :: us ∧ us.length = m ∧ C us H ∧ H a = some (exo a D none) ∧
  ∀ dx H', H dx = none → dx ≠ a → H' a = some (exo a D (some dx)) → H' dx = some (exd dx (F us)) → (∀ b, b ≠ a → b ≠ dx → H' b = H b) → Q .non H'
def cInt : List V → Hp → Prop := fun us _ => ∃ i : Int, us = [.int i] ∧ i.natAbs < 10 ^ 13
def SOk2 (y : Str) : Prop := y.length ≤ 100 ∧ ∀ c ∈ y.cps.toList, c < 16 ^ 8
def cWha : List V → Hp → Prop := fun us H => ∃ (t : Addr) (y : Str) (z : Option Str), us = [.ref t] ∧ H t = some (.tup [.str y, orNon z]) ∧ SOk2 y ∧ ∀ s, z = some s → SOk2 s
def cRef : List V → Hp → Prop := fun us _ => ∃ (s : Str) (i j : Int), us = [.str s, .int i, .int j] ∧ s.length ≤ 100 ∧ i.natAbs < 10 ^ 13 ∧ j.natAbs < 10 ^ 13
def fOne (f : Str) : List V → List (Str × V) := fun us => match us with | [v] => [(f, v)] | _ => []
def fRef : List V → List (Str × V) := fun us => match us with | [a, b, c] => [("address", c), ("row", b), ("name", a)] | _ => []
theorem log_ok {i : Int} (hi : i.natAbs < 10 ^ 13) : i.natAbs.log2 < 1920 := by
  by_cases h0 : i.natAbs = 0
  · rw [h0]; decide
  · exact Nat.lt_of_lt_of_le ((Nat.log2_lt h0).mpr (Nat.lt_trans hi (show (10 : Nat) ^ 13 < 2 ^ 60 by decide))) (by decide)
theorem ilen {i : Int} (hi : i.natAbs < 10 ^ 13) : (Str.ofString (toString i)).length ≤ 1921 := int_text_len_1921 (log_ok hi)
theorem app_len (a b : Str) : (a ++ b).length = a.length + b.length := by
  rw [len_cl, len_cl, len_cl, cl_app, List.length_append]
/-- what the written part says of the class and its __init__ -/
structure IniK (P : Program) (K : PySem.W.Frag) (mg : Str → Option Value) (st : Stmt) (qual : Str) (fs : List Str) (D f : Addr) (fd : FuncData) : Prop where
  ex : ∃ (cc cda : Addr) (dV kV doc pm ct oc ccl cl : Value) (an od cdd cld : Option Addr) (osl ccs csl : Array (Option Value)) (vs0 : Array Value) (file : Str) (tf : Tok) (cdD : ClassData) (l : List Value),
    fd = PySem.W.fnX "__init__" qual (defArgs st) (defBody st) (defScope st) [("__class__", cc)] dV kV doc pm an (.ref cda) ct ∧ K.lookup f = some ⟨oc, od, .func fd, osl⟩ ∧ PySem.W.codeIn K (.ref cda) qual = true ∧
    K.lookup cda = some ⟨ccl, cdd, .fields vs0, ccs⟩ ∧ vs0[2]? = some (.str file tf) ∧ ((P.main.file : Str) == file) = true ∧ K.lookup cc = some ⟨cl, cld, .cell (some (.ref D)), csl⟩ ∧ PySem.W.clsIn K D = some cdD ∧
    (cdD.mro.dropWhile (· != .ref D)).drop 1 = l ∧ PySem.W.alongIn K "__init__" l = some (some (.builtin "ValueError.__init__"))
  T : OexC K D
  sub : PySem.W.mroIn K D (.ref D) = some true
  op : PySem.W.nsIn K cStatics "thirdparty.any" = some none
  ve : PySem.W.subIn K (.ref D) (.type "ValueError") = some true
  sg : mg "super" = none
  top : (P.main.scope.names.lookup ("super" : Str)).isSome = false
  boot : bootBuiltins "super" = some (.type "super")
  no : ∀ x ∈ fs, PySem.W.findIn K (.ref D) x = some none
abbrev sIBadText : Stmt := inClass (top 3) 0
theorem cIBadText : SU.SScope ["self", "place"] ["self", "place"] (defScope sIBadText) := ⟨rfl, rfl, rfl, by decide +kernel, rfl, by decide +kernel, by decide +kernel, by decide +kernel⟩
abbrev sINotChecked : Stmt := inClass (top 4) 0
theorem cINotChecked : SU.SScope ["self", "what"] ["self", "what"] (defScope sINotChecked) := ⟨rfl, rfl, rfl, by decide +kernel, rfl, by decide +kernel, by decide +kernel, by decide +kernel⟩
abbrev sINotLet : Stmt := inClass (top 13) 0
theorem cINotLet : SU.SScope ["self", "index"] ["self", "index"] (defScope sINotLet) := ⟨rfl, rfl, rfl, by decide +kernel, rfl, by decide +kernel, by decide +kernel, by decide +kernel⟩
abbrev sIBadListing : Stmt := inClass (top 16) 0
theorem cIBadListing : SU.SScope ["self", "line"] ["self", "line"] (defScope sIBadListing) := ⟨rfl, rfl, rfl, by decide +kernel, rfl, by decide +kernel, by decide +kernel, by decide +kernel⟩
abbrev sIRefused : Stmt := inClass (top 18) 0
theorem cIRefused : SU.SScope ["self", "name", "row", "address"] ["self", "name", "row", "address"] (defScope sIRefused) := ⟨rfl, rfl, rfl, by decide +kernel, rfl, by decide +kernel, by decide +kernel, by decide +kernel⟩
section
variable {P : Program} {w : World} {K : PySem.W.Frag} {mg : Str → Option Value} {base : Heap}
theorem ini_BadText {D f : Addr} {fd : FuncData} (I : IniK P K mg sIBadText "BadText.__init__" ["place"] D f fd) : FnOk P w K mg base CX0 1 f fd ["self", "place"] (spIni D 1 cInt (fOne "place")) := by
  obtain ⟨cc, cda, dV, kV, doc, pm, ct, oc, ccl, cl, an, od, cdd, cld, osl, ccs, csl, vs0, file, tf, cdD, l, rfl, lk, hcd, hcode, hvs, hfile, hcell, hD, hdrop, hal⟩ := I.ex
  refine SU.fn_super (ps := ["self", "place"]) (N := ["self", "place"]) (k := 0) lk hcd cIBadText rfl rfl hcode hvs hfile hcell hD I.T I.sub I.op hdrop hal I.ve I.sg (by decide +kernel) (by decide +kernel) I.top I.boot (fun vs H Q E h => ?_) (fun A outer s H vs Q E hr h => ?_)
  · obtain ⟨a, us, rfl, e, _⟩ := h
    exact congrArg Nat.succ e
  · obtain ⟨a, us, rfl, _, ⟨i, rfl, hi⟩, ha, k⟩ := h
    have hw := ilen hi
    refine ⟨a, [.int i], _, _, rfl, ha, pe_joined (.cons pe_str (.cons (pe_fmt (pv 1)) .nil)), pss_one (ps_ost (pv 0) (pv 1)), ?_⟩
    have e1 : (Str.empty ++ Str.ofString "no text of a program, seen at place ").length = 36 := by decide +kernel
    refine ⟨_, rfl, by rw [e1, sizeLine_eq]; omega, _, rfl, .inr ⟨i, rfl, log_ok hi, _, rfl, ?_, ha, ?_⟩⟩
    · rw [app_len, e1, sizeLine_eq]
      omega
    · exact ⟨_, rfl, _, rfl, a, D, rfl, I.T, I.no _ (by simp), .inl ⟨ha, fun dx nd ne => k dx _ nd ne upd_same ((upd_ne ne).trans upd_same) fun b n1 n2 => (upd_ne n1).trans (upd_ne n2)⟩⟩
theorem ini_NotChecked {D f : Addr} {fd : FuncData} (I : IniK P K mg sINotChecked "NotChecked.__init__" ["what"] D f fd) : FnOk P w K mg base CX0 1 f fd ["self", "what"] (spIni D 1 cWha (fOne "what")) := by
  obtain ⟨cc, cda, dV, kV, doc, pm, ct, oc, ccl, cl, an, od, cdd, cld, osl, ccs, csl, vs0, file, tf, cdD, l, rfl, lk, hcd, hcode, hvs, hfile, hcell, hD, hdrop, hal⟩ := I.ex
  refine SU.fn_super (ps := ["self", "what"]) (N := ["self", "what"]) (k := 0) lk hcd cINotChecked rfl rfl hcode hvs hfile hcell hD I.T I.sub I.op hdrop hal I.ve I.sg (by decide +kernel) (by decide +kernel) I.top I.boot (fun vs H Q E h => ?_) (fun A outer s H vs Q E hr h => ?_)
  · obtain ⟨a, us, rfl, e, _⟩ := h
    exact congrArg Nat.succ e
  · obtain ⟨a, us, rfl, _, ⟨t, y, z, rfl, ht, hy, hz⟩, ha, k⟩ := h
    refine ⟨a, [.ref t], _, _, rfl, ha, pe_joined (.cons pe_str (.cons (pe_fmt2 hr (pv 1)) .nil)), pss_one (ps_ost (pv 0) (pv 1)), ?_⟩
    have e1 : (Str.empty ++ Str.ofString "the program is not checked: ").length = 28 := by decide +kernel
    refine ⟨_, rfl, by rw [e1, sizeLine_eq]; omega, _, rfl, t, y, z, rfl, SqT.of ht, hy, hz, fun mm hm => ⟨_, rfl, ?_, ha, ?_⟩⟩
    · rw [app_len, e1, sizeLine_eq]
      omega
    · exact ⟨_, rfl, _, rfl, a, D, rfl, I.T, I.no _ (by simp), .inl ⟨ha, fun dx nd ne => k dx _ nd ne upd_same ((upd_ne ne).trans upd_same) fun b n1 n2 => (upd_ne n1).trans (upd_ne n2)⟩⟩
theorem ini_NotLet {D f : Addr} {fd : FuncData} (I : IniK P K mg sINotLet "NotLet.__init__" ["index"] D f fd) : FnOk P w K mg base CX0 1 f fd ["self", "index"] (spIni D 1 cInt (fOne "index")) := by
  obtain ⟨cc, cda, dV, kV, doc, pm, ct, oc, ccl, cl, an, od, cdd, cld, osl, ccs, csl, vs0, file, tf, cdD, l, rfl, lk, hcd, hcode, hvs, hfile, hcell, hD, hdrop, hal⟩ := I.ex
  refine SU.fn_super (ps := ["self", "index"]) (N := ["self", "index"]) (k := 0) lk hcd cINotLet rfl rfl hcode hvs hfile hcell hD I.T I.sub I.op hdrop hal I.ve I.sg (by decide +kernel) (by decide +kernel) I.top I.boot (fun vs H Q E h => ?_) (fun A outer s H vs Q E hr h => ?_)
  · obtain ⟨a, us, rfl, e, _⟩ := h
    exact congrArg Nat.succ e
  · obtain ⟨a, us, rfl, _, ⟨i, rfl, hi⟩, ha, k⟩ := h
    have hw := ilen hi
    refine ⟨a, [.int i], _, _, rfl, ha, pe_joined (.cons pe_str (.cons (pe_fmt (pv 1)) (.cons pe_str .nil))), pss_one (ps_ost (pv 0) (pv 1)), ?_⟩
    have e1 : (Str.empty ++ Str.ofString "the step ").length = 9 := by decide +kernel
    have e2 : (Str.ofString " is not let").length = 11 := by decide +kernel
    refine ⟨_, rfl, by rw [e1, sizeLine_eq]; omega, _, rfl, .inr ⟨i, rfl, log_ok hi, _, rfl, ?_, _, rfl, ?_, ha, ?_⟩⟩
    · rw [app_len, e1, sizeLine_eq]
      omega
    · rw [app_len, app_len, e1, e2, sizeLine_eq]
      omega
    · exact ⟨_, rfl, _, rfl, a, D, rfl, I.T, I.no _ (by simp), .inl ⟨ha, fun dx nd ne => k dx _ nd ne upd_same ((upd_ne ne).trans upd_same) fun b n1 n2 => (upd_ne n1).trans (upd_ne n2)⟩⟩
theorem ini_BadListing {D f : Addr} {fd : FuncData} (I : IniK P K mg sIBadListing "BadListing.__init__" ["line"] D f fd) : FnOk P w K mg base CX0 1 f fd ["self", "line"] (spIni D 1 cInt (fOne "line")) := by
  obtain ⟨cc, cda, dV, kV, doc, pm, ct, oc, ccl, cl, an, od, cdd, cld, osl, ccs, csl, vs0, file, tf, cdD, l, rfl, lk, hcd, hcode, hvs, hfile, hcell, hD, hdrop, hal⟩ := I.ex
  refine SU.fn_super (ps := ["self", "line"]) (N := ["self", "line"]) (k := 0) lk hcd cIBadListing rfl rfl hcode hvs hfile hcell hD I.T I.sub I.op hdrop hal I.ve I.sg (by decide +kernel) (by decide +kernel) I.top I.boot (fun vs H Q E h => ?_) (fun A outer s H vs Q E hr h => ?_)
  · obtain ⟨a, us, rfl, e, _⟩ := h
    exact congrArg Nat.succ e
  · obtain ⟨a, us, rfl, _, ⟨i, rfl, hi⟩, ha, k⟩ := h
    have hw := ilen hi
    refine ⟨a, [.int i], _, _, rfl, ha, pe_joined (.cons pe_str (.cons (pe_fmt (pv 1)) .nil)), pss_one (ps_ost (pv 0) (pv 1)), ?_⟩
    have e1 : (Str.empty ++ Str.ofString "no text of an image, seen at line ").length = 34 := by decide +kernel
    refine ⟨_, rfl, by rw [e1, sizeLine_eq]; omega, _, rfl, .inr ⟨i, rfl, log_ok hi, _, rfl, ?_, ha, ?_⟩⟩
    · rw [app_len, e1, sizeLine_eq]
      omega
    · exact ⟨_, rfl, _, rfl, a, D, rfl, I.T, I.no _ (by simp), .inl ⟨ha, fun dx nd ne => k dx _ nd ne upd_same ((upd_ne ne).trans upd_same) fun b n1 n2 => (upd_ne n1).trans (upd_ne n2)⟩⟩
theorem ini_Refused {D f : Addr} {fd : FuncData} (I : IniK P K mg sIRefused "Refused.__init__" ["name", "row", "address"] D f fd) : FnOk P w K mg base CX0 1 f fd ["self", "name", "row", "address"] (spIni D 3 cRef (fRef)) := by
  obtain ⟨cc, cda, dV, kV, doc, pm, ct, oc, ccl, cl, an, od, cdd, cld, osl, ccs, csl, vs0, file, tf, cdD, l, rfl, lk, hcd, hcode, hvs, hfile, hcell, hD, hdrop, hal⟩ := I.ex
  refine SU.fn_super (ps := ["self", "name", "row", "address"]) (N := ["self", "name", "row", "address"]) (k := 0) lk hcd cIRefused rfl rfl hcode hvs hfile hcell hD I.T I.sub I.op hdrop hal I.ve I.sg (by decide +kernel) (by decide +kernel) I.top I.boot (fun vs H Q E h => ?_) (fun A outer s H vs Q E hr h => ?_)
  · obtain ⟨a, us, rfl, e, _⟩ := h
    exact congrArg Nat.succ e
  · obtain ⟨a, us, rfl, _, ⟨z, i, j, rfl, hz, hi, hj⟩, ha, k⟩ := h
    have hwi := ilen hi
    have hwj := ilen hj
    refine ⟨a, [.str z, .int i, .int j], _, _, rfl, ha, pe_joined (.cons pe_str (.cons (pe_fmt (pv 1)) (.cons pe_str (.cons (pe_fmt (pv 2)) (.cons pe_str (.cons (pe_fmt (pv 3)) .nil)))))), pss_cons (ps_ost (pv 0) (pv 1)) (pss_cons (ps_ost (pv 0) (pv 2)) (pss_one (ps_ost (pv 0) (pv 3)))), ?_⟩
    have e1 : (Str.empty ++ Str.ofString "refused in ").length = 11 := by decide +kernel
    have e2 : (Str.ofString " at row ").length = 8 := by decide +kernel
    have e3 : (Str.ofString " and address ").length = 13 := by decide +kernel
    refine ⟨_, rfl, by rw [e1, sizeLine_eq]; omega, _, rfl, .inl ⟨z, rfl, by rw [sizeLine_eq]; omega, _, rfl, ?_, _, rfl, ?_, _, rfl, .inr ⟨i, rfl, log_ok hi, _, rfl, ?_, _, rfl, ?_, _, rfl, .inr ⟨j, rfl, log_ok hj, _, rfl, ?_, ha, ?_⟩⟩⟩⟩
    · rw [app_len, e1, sizeLine_eq]; omega
    · rw [app_len, app_len, e1, e2, sizeLine_eq]; omega
    · rw [app_len, app_len, app_len, e1, e2, sizeLine_eq]; omega
    · rw [app_len, app_len, app_len, app_len, e1, e2, e3, sizeLine_eq]; omega
    · rw [app_len, app_len, app_len, app_len, app_len, e1, e2, e3, sizeLine_eq]; omega
    · refine ⟨_, rfl, _, rfl, a, D, rfl, I.T, I.no _ (by simp), .inl ⟨ha, fun dx nd ne => ?_⟩⟩
      refine ⟨_, rfl, _, rfl, a, D, rfl, I.T, I.no _ (by simp), .inr ⟨dx, _, upd_same, (upd_ne ne).trans upd_same, (by show 1 ≤ 900; decide), ?_⟩⟩
      refine ⟨_, rfl, _, rfl, a, D, rfl, I.T, I.no _ (by simp), .inr ⟨dx, _, (upd_ne (Ne.symm ne)).trans upd_same, upd_same, (by show 2 ≤ 900; decide), ?_⟩⟩
      exact k dx _ nd ne ((upd_ne (Ne.symm ne)).trans ((upd_ne (Ne.symm ne)).trans upd_same)) upd_same fun b n1 n2 => (upd_ne n2).trans ((upd_ne n2).trans ((upd_ne n1).trans (upd_ne n2)))
end
end J1
set_option Elab.async false
set_option linter.all false
set_option maxRecDepth 100000
set_option maxHeartbeats 4000000
namespace J1
open PySem PySem.Spec PyProof.Rows L2 GxR GA
theorem pss_no {X : Cx} {b : List Stmt} : PSs X b (fun _ _ _ => False) := ⟨fun _ _ _ _ _ _ h => h.elim⟩
theorem ps_no {X : Cx} {b : Stmt} : PS X b (fun _ _ _ => False) := ⟨fun _ _ _ _ _ _ h => h.elim⟩
/-- what makes or raises an exception of fields: its class, its __init__, by name -/
structure RaiK (P : Program) (w : World) (K : PySem.W.Frag) (mg : Str → Option Value) (base : Heap) (x : Str) (D fI : Addr) (fd : FuncData) (ps : List Str) (m : Nat) (C : List V → Hp → Prop) (F : List V → List (Str × V)) : Prop where
  T : OexC K D
  iC : PySem.W.findIn K (.ref D) "__init__" = some (some (.ref fI))
  tI : PySem.W.typeIn K (.ref fI) = some (.type "function")
  F1 : FnOk P w K mg base CX0 1 fI fd ps (spIni D m C F)
  b : Binds K fd ps []
  g : mg x = some (.ref D)
/-- it is raised -/
theorem ini_raise {D : Addr} {m : Nat} {C : List V → Hp → Prop} {F : List V → List (Str × V)} {us : List V} {H : Hp} {Wx : XK} (hm : us.length = m) (hm2 : m ≤ 1000) (hc : ∀ a, H a = none → C us (upd H a (exo a D none)))
    (hW : ∀ dd H', H' dd = some (.xd (F us)) → Grow H H' → Wx (.ref D) (some dd) H') :
    us.length ≤ 1000 ∧ ∀ a, H a = none → spIni D m C F (.ref a :: (us ++ [])) (upd H a (exo a D none)) (fun v H2 => v = .non ∧ ∃ (d : Addr) (fs : List (Str × V)), H2 a = some (exo a D (some d)) ∧ H2 d = some (exd d fs) ∧ H d = none ∧ Wx (.ref D) (some d) (upd (del H2 a) d (.xd fs))) (fun _ _ _ => False) := by
  refine ⟨by omega, fun a na => ⟨a, us, by rw [List.append_nil], hm, hc a na, upd_same, fun dx H' nd ne h1 h2 h3 => ⟨rfl, dx, F us, h1, h2, by rw [upd_ne ne] at nd; exact nd, hW dx _ upd_same fun b o h => .inl ?_⟩⟩⟩
  have hba : b ≠ a := fun z => by rw [z, na] at h; cases h
  have hbd : b ≠ dx := fun z => by rw [upd_ne ne] at nd; rw [z, nd] at h; cases h
  rw [upd_ne hbd, del_ne hba, h3 b hba hbd, upd_ne hba]
  exact h
/-- it is made, and stays -/
theorem ini_make {D : Addr} {m : Nat} {C : List V → Hp → Prop} {F : List V → List (Str × V)} {us : List V} {H : Hp} {Q : VK} (hm : us.length = m) (hc : ∀ a, H a = none → C us (upd H a (exo a D none)))
    (hQ : ∀ a dx H', H a = none → H dx = none → dx ≠ a → H' a = some (exo a D (some dx)) → H' dx = some (exd dx (F us)) → Grow H H' → Q (.ref a) H') :
    ∀ a, H a = none → spIni D m C F (.ref a :: us) (upd H a (exo a D none)) (fun v H2 => v = .non ∧ Q (.ref a) H2) (fun _ _ _ => False) := by
  refine fun a na => ⟨a, us, rfl, hm, hc a na, upd_same, fun dx H' nd ne h1 h2 h3 => ⟨rfl, hQ a dx H' na (by rw [upd_ne ne] at nd; exact nd) ne h1 h2 fun b o h => .inl ?_⟩⟩
  have hba : b ≠ a := fun z => by rw [z, na] at h; cases h
  have hbd : b ≠ dx := fun z => by rw [upd_ne ne] at nd; rw [z, nd] at h; cases h
  rw [h3 b hba hbd, upd_ne hba]
  exact h
/-! ### read_program of what is no text -/
abbrev sRp : Stmt := top 93
theorem cRp : FnScope ["text", "program"] ["text"] (defScope sRp) := ⟨rfl, rfl, rfl, by decide +kernel, rfl, by decide +kernel, by decide +kernel⟩
def spRp (D : Addr) : Sp := fun vs H Q E => ∃ (d : Da) (x : V), vs = [x] ∧ Enc H d x ∧ bS d = false ∧ ∀ dd H', H' dd = some (.xd [("place", .int 0)]) → Grow H H' → E (.ref D) (some dd) H'
section
variable {P : Program} {w : World} {K : PySem.W.Frag} {mg : Str → Option Value} {base : Heap}
theorem ok_rp {f D fB : Addr} {fd fdB : FuncData} (F : Fun K "read_program" "read_program" sRp f fd) (N : Gn K mg) (B : RaiK P w K mg base "BadText" D fB fdB ["self", "place"] 1 cInt (fOne "place")) :
    FnOk P w K mg base (L2.CX P w) 3 f fd ["text"] (spRp D) := by
  refine F.okX (k := 2) cRp (fun vs H Q E h => ?_) (fun cdv A outer s H vs Q E hr h => ?_)
  · obtain ⟨d, x, rfl, _⟩ := h
    rfl
  · obtain ⟨d, x, rfl, en, hd, kE⟩ := h
    refine ⟨_, (pss_cons (ps_if (pt_not (pt_val (pe_callB call_isi (by rfl) N.nI boot_isinstance (pa_cons (pv 0) (pa_cons (pe_bltn (v := .ty "str") rfl N.ns (by decide +kernel) rfl) pa_nil))))) (pss_one (ps_raise rfl (takes_of rfl rfl rfl rfl) (pmk_oex B.T B.iC B.tI B.F1 (hr.mono (by decide)) B.b .nil pass0 rfl B.g (pa_cons pe_int pa_nil)))) pss_nil) pss_no), ?_⟩
    obtain ⟨_, _, kS, _⟩ := kitD d
    refine ⟨_, rfl, _, _, _, _, _, rfl, .ty "str", en.ty, kit_ty kS, _, rfl, ?_⟩
    rw [hd]
    exact iteT (ini_raise (us := [.int 0]) rfl (by decide) (fun _ _ => ⟨0, rfl, by decide⟩) kE)
end
end J1
set_option Elab.async false
set_option linter.all false
set_option maxRecDepth 100000
set_option maxHeartbeats 4000000
namespace L2
open PySem PySem.Spec PyProof.Rows
section
variable {X : Cx} {CX : CXT} {k : Nat} {f C : Addr} {fd : FuncData} {ps : List Str} {sp : Sp} {W : WX} {m : Str} {apos pos : Pos} {e o : Expr} {es : List Expr} {ta : TE} {t : TA}
/-- o.m(e, ..), which may raise -/
def tMethE (C : Addr) (m : Str) (sp : Sp) (E : St → XK) (ta : TE) (t : TA) : TE := fun σ H Q => ta σ H fun x H1 => ∃ a dx fs, x = .ref a ∧ H1 a = some (.ins C dx fs) ∧ fs.lookup m = none ∧ t σ H1 fun vs H2 => sp (x :: vs) H2 Q (E σ)
theorem pe_methE {pl : Sem Bool} (he : PE X o ta) (c : Cls X.K C) (hm : Meth X.K C m f) (F : FnOk X.prog X.w X.K X.mg X.base (L2.CX X.prog X.w) k f fd ps sp) (hr : Room k X.A) (hb : Binds X.K fd ps []) (tk : Takes X W) (ha : PA X (e :: es) t)
    (hst : starEach (e :: es) X.env = (false, eval e X.env) :: starEach es X.env := by rfl) (hpl : (backTo pos (starEach es X.env)).any (·.1) = false := by rfl)
    (ht : eval (.Call (.Attribute o m apos) (e :: es) [] pos) X.env = (do
      let ov ← eval o X.env
      standAt apos.atName
      let (f, first) ← holding [ov] (getMethod ov m pl)
      callWith pos f first (backTo pos (starEach (e :: es) X.env)) (backToKw pos (keywordEach [] X.env))) := by rfl) :
    PE X (.Call (.Attribute o m apos) (e :: es) [] pos) (tMethE C m sp (WE W) ta t) := by
  refine ⟨fun pins s σ H Q I h => ?_⟩
  refine PySem.W.methodCall_KW (pl := pl) (thn (he.run pins s σ H _ I h) fun u s1 ⟨x, H1, I1, rx, a, dx, fs, ex, ea, l, q⟩ => ?_) ht
  subst ex
  obtain rfl : u = Value.ref a := rx
  refine getmeth_ok I1 ea c hm l ?_
  refine PySem.W.callWith_K (first := [.ref a]) (h₀ := X.base) I.ok.mod.kin hm.kp (thn (ha.run pos pins s1 σ H1 _ I1 q) fun us s2 ⟨vs, H2, I2, r, q2⟩ => ⟨I2.kIn, ?_⟩) hst hpl
  exact run_fnS (us := .ref a :: us) (vs := .ref a :: vs) (E := WE W) F hr hb (passAt tk σ) I2 (.cons rfl r) q2
end
end L2
namespace J1
open PySem PySem.Spec PyProof.Rows L2 GxR GA
/-! ### BodyChecker, on the way that raises NotChecked(("count", name)) -/
structure TxB (K : PySem.W.Frag) (mg : Str → Option Value) (C : Addr) : Prop where
  cl : Cls K C
  n1 : NoAttr K C "kinds"
  n2 : NoAttr K C "makers"
  n3 : NoAttr K C "heads"
  n4 : NoAttr K C "name"
  n5 : NoAttr K C "result"
  mgC : mg "BodyChecker" = some (.ref C)
theorem Grow.ins {H H' : Hp} (g : Grow H H') {p C dx : Addr} {fs : List (Str × V)} (h : H p = some (.ins C dx fs)) : H' p = some (.ins C dx fs) := by
  rcases g p _ h with q | ⟨⟨_, q⟩, _⟩
  · exact q
  · cases q
theorem Grow.tup' {H H' : Hp} (g : Grow H H') {p : Addr} {xs : List V} (h : H p = some (.tup xs)) : H' p = some (.tup xs) := by
  rcases g p _ h with q | ⟨⟨_, q⟩, _⟩
  · exact q
  · cases q
theorem Grow.dk {H H' : Hp} (g : Grow H H') {p : Addr} {kvs : List (Key × V)} (h : H p = some (.dK kvs)) : H' p = some (.dK kvs) := by
  rcases g p _ h with q | ⟨⟨_, q⟩, _⟩
  · exact q
  · cases q
theorem sok_w {y : Str} (h : (decide (y.length ≤ 100) && y.cps.toList.all fun c => decide (c < 16 ^ 8)) = true) : SOk2 y := by
  rw [Bool.and_eq_true, List.all_eq_true] at h
  exact ⟨of_decide_eq_true h.1, fun c hc => of_decide_eq_true (h.2 c hc)⟩
theorem hu_of {k : Nat} {A : Around} (hr : Room k A) : A.units + 1 < cLine := by
  have := hr.units
  omega
/-- what is raised -/
def CntE (D : Addr) (wd n : Str) (H : Hp) (E : XK) : Prop := ∀ dd t H', H' dd = some (.xd [("what", .ref t)]) → H' t = some (.tup [.str wd, .str n]) → Grow H H' → E (.ref D) (some dd) H'
theorem CntE.grow {D : Addr} {wd n : Str} {H H1 : Hp} {E : XK} (h : CntE D wd n H E) (g : Grow H H1) : CntE D wd n H1 E := fun dd t H' a b c => h dd t H' a b (g.trans c)
theorem CntE.mono {D : Addr} {wd n : Str} {H : Hp} {E E' : XK} (h : CntE D wd n H E) (he : ∀ c d H', E c d H' → E' c d H') : CntE D wd n H E' := fun dd t H' a b c => he _ _ _ (h dd t H' a b c)
def meB (n : Str) (C dx hd : Addr) (fs : List (Str × V)) (a : Addr) (H : Hp) : Prop := H a = some (.ins C dx fs) ∧ fs.lookup ("name" : Str) = some (.str n) ∧ fs.lookup ("result" : Str) = some (.str "whole") ∧ fs.lookup ("heads" : Str) = some (.ref hd) ∧
  (fs.lookup ("demand" : Str) = none ∧ fs.lookup ("fit_all" : Str) = none ∧ fs.lookup ("kind_of" : Str) = none ∧ fs.lookup ("fits" : Str) = none ∧ fs.lookup ("body" : Str) = none) ∧ SOk2 n
theorem meB.grow {n : Str} {C dx hd : Addr} {fs : List (Str × V)} {a : Addr} {H H' : Hp} (h : meB n C dx hd fs a H) (g : Grow H H') : meB n C dx hd fs a H' := ⟨g.ins h.1, h.2⟩
abbrev sDem : Stmt := inClass (top 105) 1
theorem cDem : FnScope ["self", "right", "word"] ["self", "right", "word"] (defScope sDem) := ⟨rfl, rfl, rfl, by decide +kernel, rfl, by decide +kernel, by decide +kernel⟩
def spDem (D C : Addr) : Sp := fun vs H Q E => ∃ (a dx hd : Addr) (fs : List (Str × V)) (n wd : Str) (b : Bool), vs = [.ref a, .bl b, .str wd] ∧ meB n C dx hd fs a H ∧ SOk2 wd ∧ (b = true → Q .non H) ∧ (b = false → CntE D wd n H E)
abbrev sFal : Stmt := inClass (top 105) 6
theorem cFal : FnScope ["self", "terms", "kinds", "reach", "term", "kind"] ["self", "terms", "kinds", "reach"] (defScope sFal) := ⟨rfl, rfl, rfl, by decide +kernel, rfl, by decide +kernel, by decide +kernel⟩
def spFal (D C : Addr) : Sp := fun vs H Q E => ∃ (a dx hd t L : Addr) (fs : List (Str × V)) (n : Str) (x r : V), vs = [.ref a, .ref t, .ref L, r] ∧ meB n C dx hd fs a H ∧ H t = some (.tup [x]) ∧ H L = some (.lst []) ∧ CntE D "count" n H E
abbrev sKof : Stmt := inClass (top 105) 5
theorem cKof : FnScope ["self", "term", "reach", "word", "kind", "fields", "params", "result", "side"] ["self", "term", "reach"] (defScope sKof) := ⟨rfl, rfl, rfl, by decide +kernel, rfl, by decide +kernel, by decide +kernel⟩
/-- the call of the function n with one argument, and its head with no param -/
def CallT (H : Hp) (n : Str) (q : Addr) : Prop := ∃ (t : Addr) (x : V), H q = some (.tup [.str "call", .str n, .ref t]) ∧ H t = some (.tup [x])
def HdsT (H : Hp) (n : Str) (hd : Addr) : Prop := ∃ (pr L : Addr), H hd = some (.dK [(Sum.inr n, .ref pr)]) ∧ H pr = some (.tup [.ref L, .str "whole"]) ∧ H L = some (.lst [])
theorem CallT.grow {H H' : Hp} {n : Str} {q : Addr} (h : CallT H n q) (g : Grow H H') : CallT H' n q := by
  obtain ⟨t, x, h1, h2⟩ := h
  exact ⟨t, x, g.tup' h1, g.tup' h2⟩
theorem HdsT.grow {H H' : Hp} {n : Str} {q : Addr} (h : HdsT H n q) (g : Grow H H') : HdsT H' n q := by
  obtain ⟨t, x, h1, h2, h3⟩ := h
  exact ⟨t, x, g.dk h1, g.tup' h2, g.lst h3⟩
def spKof (D C : Addr) : Sp := fun vs H Q E => ∃ (a dx hd q : Addr) (fs : List (Str × V)) (n : Str) (r : V), vs = [.ref a, .ref q, r] ∧ meB n C dx hd fs a H ∧ CallT H n q ∧ HdsT H n hd ∧ CntE D "count" n H E
abbrev sFts : Stmt := inClass (top 105) 4
theorem cFts : FnScope ["self", "term", "kind", "reach", "found"] ["self", "term", "kind", "reach"] (defScope sFts) := ⟨rfl, rfl, rfl, by decide +kernel, rfl, by decide +kernel, by decide +kernel⟩
def spFts (D C : Addr) : Sp := fun vs H Q E => ∃ (a dx hd q : Addr) (fs : List (Str × V)) (n : Str) (k r : V), vs = [.ref a, .ref q, k, r] ∧ meB n C dx hd fs a H ∧ CallT H n q ∧ HdsT H n hd ∧ CntE D "count" n H E
abbrev sBod : Stmt := inClass (top 105) 2
theorem cBod : FnScope ["self", "body", "reach", "word", "kind"] ["self", "body", "reach"] (defScope sBod) := ⟨rfl, rfl, rfl, by decide +kernel, rfl, by decide +kernel, by decide +kernel⟩
def spBod (D C : Addr) : Sp := fun vs H Q E => ∃ (a dx hd b q : Addr) (fs : List (Str × V)) (n : Str) (r : V), vs = [.ref a, .ref b, r] ∧ meB n C dx hd fs a H ∧ H b = some (.tup [.str "give", .ref q]) ∧ CallT H n q ∧ HdsT H n hd ∧ CntE D "count" n H E
section
variable {P : Program} {w : World} {K : PySem.W.Frag} {mg : Str → Option Value} {base : Heap}
theorem ok_dem {f D C fB : Addr} {fd fdB : FuncData} (F : Fun K "demand" "BodyChecker.demand" sDem f fd) (T : TxB K mg C) (B : RaiK P w K mg base "NotChecked" D fB fdB ["self", "what"] 1 cWha (fOne "what")) :
    FnOk P w K mg base (L2.CX P w) 3 f fd ["self", "right", "word"] (spDem D C) := by
  refine F.okX (k := 2) cDem (fun vs H Q E h => ?_) (fun cdv A outer s H vs Q E hr h => ?_)
  · obtain ⟨a, dx, hd, fs, n, wd, b, rfl, _⟩ := h
    rfl
  · obtain ⟨a, dx, hd, fs, n, wd, b, rfl, me, hw, kt, kf⟩ := h
    refine ⟨_, (pss_one (ps_if (pt_not (pt_val (pv 1))) (pss_one (ps_raise rfl (takes_of rfl rfl rfl rfl) (pmk_oex B.T B.iC B.tI B.F1 (hr.mono (by decide)) B.b .nil pass0 rfl B.g (pa_cons (pe_tup (pa_cons (pv 2) (pa_cons (pe_fld (pv 0) rfl) pa_nil))) pa_nil)))) pss_nil)), ?_⟩
    refine ⟨_, rfl, b, rfl, ?_⟩
    cases b with
    | true => exact iteF (kt rfl)
    | false =>
      refine iteT ?_
      refine ⟨_, rfl, _, rfl, a, C, dx, fs, _, rfl, me.1, T.cl, T.n4, me.2.1, (by show 2 ≤ sizeLine; decide), fun t ht => ?_⟩
      have g := Grow.new (o := .tup [.str wd, .str n]) ht
      refine ini_raise (us := [.ref t]) rfl (by decide) (fun b nb => ⟨t, wd, some n, rfl, ?_, hw, fun s e => ?_⟩) fun dd H' hd' g' => kf rfl dd t H' hd' (g'.tup' upd_same) (g.trans g')
      · rw [upd_ne (fun z => by rw [← z, upd_same] at nb; cases nb)]
        exact upd_same
      · cases e
        exact me.2.2.2.2.2
theorem ok_fal {f fD D C : Addr} {fd fdD : FuncData} (F : Fun K "fit_all" "BodyChecker.fit_all" sFal f fd) (N : Gn K mg) (T : TxB K mg C)
    (GD : FnOk P w K mg base (L2.CX P w) 3 fD fdD ["self", "right", "word"] (spDem D C)) (MD : Meth K C "demand" fD) (DD : Binds K fdD ["self", "right", "word"] []) :
    FnOk P w K mg base (L2.CX P w) 4 f fd ["self", "terms", "kinds", "reach"] (spFal D C) := by
  refine F.okX (k := 3) cFal (fun vs H Q E h => ?_) (fun cdv A outer s H vs Q E hr h => ?_)
  · obtain ⟨a, dx, hd, t, L, fs, n, x, r, rfl, _⟩ := h
    rfl
  · obtain ⟨a, dx, hd, t, L, fs, n, x, r, rfl, me, ht, hL, kE⟩ := h
    refine ⟨_, (pss_cons (ps_expr (pe_methE (pv 0) T.cl MD (GD.mono (by decide)) hr DD (takes_of rfl rfl rfl rfl) (pa_cons (pe_cmpR op_eq (pe_callB call_len_seq (by rfl) N.nl PySem.boot_len (pa_cons (pv 1) pa_nil)) (pe_callB call_len_seq (by rfl) N.nl PySem.boot_len (pa_cons (pv 2) pa_nil)) (nomark _)) (pa_cons pe_str pa_nil)))) pss_no), ?_⟩
    refine ⟨_, rfl, a, dx, fs, rfl, me.1, me.2.2.2.2.1.1, _, rfl, t, _, rfl, .inr (SqT.of ht), _, rfl, L, _, rfl, .inl (SqL.of hL), rfl, ?_⟩
    exact ⟨a, dx, hd, fs, n, "count", false, rfl, me, sok_w (by decide +kernel), fun z => Bool.noConfusion z, fun _ => kE⟩
theorem ok_kof {f fD fF D C : Addr} {fd fdD fdF : FuncData} (F : Fun K "kind_of" "BodyChecker.kind_of" sKof f fd) (T : TxB K mg C)
    (GD : FnOk P w K mg base (L2.CX P w) 3 fD fdD ["self", "right", "word"] (spDem D C)) (MD : Meth K C "demand" fD) (DD : Binds K fdD ["self", "right", "word"] [])
    (GF : FnOk P w K mg base (L2.CX P w) 4 fF fdF ["self", "terms", "kinds", "reach"] (spFal D C)) (MF : Meth K C "fit_all" fF) (DF : Binds K fdF ["self", "terms", "kinds", "reach"] []) :
    FnOk P w K mg base (L2.CX P w) 5 f fd ["self", "term", "reach"] (spKof D C) := by
  refine F.okX (k := 4) cKof (fun vs H Q E h => ?_) (fun cdv A outer s H vs Q E hr h => ?_)
  · obtain ⟨a, dx, hd, q, fs, n, r, rfl, _⟩ := h
    rfl
  · obtain ⟨a, dx, hd, q, fs, n, r, rfl, me, ⟨t, x, hq, ht⟩, ⟨pr, L, hh, hp, hL⟩, kE⟩ := h
    have hu := hu_of hr
    refine ⟨_, (pss_cons (ps_set (i := 3) cKof.nd rfl (Or.inl rfl) (pe_ix ix_tup (pv 1) pe_int (fun _ _ => rfl))) (pss_cons (ps_if (pt_cmpR op_eq (pv 3) pe_str (nomark _)) pss_no pss_nil) (pss_cons (ps_if (pt_cmpR op_eq (pv 3) pe_str (nomark _)) pss_no pss_nil) (pss_cons (ps_if (pt_cmpR op_eq (pv 3) pe_str (nomark _)) (pss_cons (ps_expr (pe_methE (pv 0) T.cl MD (GD.mono (by decide)) hr DD (takes_of rfl rfl rfl rfl) (pa_cons (pe_cmp (pc_din hu (pe_ix ix_tup (pv 1) pe_int (fun _ _ => rfl)) (pe_fld (pv 0) rfl))) (pa_cons pe_str pa_nil)))) (pss_cons (ps_asg (pe_dget hu (pe_fld (pv 0) rfl) (pe_ix ix_tup (pv 1) pe_int (fun _ _ => rfl)) (fun _ _ => rfl)) (pg_tup (by rfl) (pgs_cons (pg_name (i := 6) cKof.nd rfl (Or.inl rfl)) (pgs_cons (pg_name (i := 7) cKof.nd rfl (Or.inl rfl)) pgs_nil)))) (pss_cons (ps_expr (pe_methE (pv 0) T.cl MF (GF.mono (by decide)) hr DF (takes_of rfl rfl rfl rfl) (pa_cons (pe_ix ix_tup (pv 1) pe_int (fun _ _ => rfl)) (pa_cons (pv 6) (pa_cons (pv 2) pa_nil))))) pss_no))) pss_nil) pss_no)))), ?_⟩
    refine ⟨_, rfl, q, _, 0, _, rfl, rfl, SqT.of hq, at_of (j := 0) rfl rfl, ?_⟩
    refine ⟨_, rfl, rfl, _, rfl, ite2 (fun e => absurd e (by decide +kernel)) (fun _ => ?_)⟩
    refine ⟨_, rfl, rfl, _, rfl, ite2 (fun e => absurd e (by decide +kernel)) (fun _ => ?_)⟩
    refine ⟨_, rfl, rfl, _, rfl, ite2 (fun _ => ?_) (fun e => absurd (by decide +kernel) e)⟩
    have hv : valV [((Sum.inr n : Key), V.ref pr)] (Sum.inr n) = some (.ref pr) := by simp [valV]
    have dg : DGet H hd (.str n) (some (.ref pr)) := by
      have z := DGet.k (k := (Sum.inr n : Key)) hh
      rw [hv] at z
      exact z
    refine ⟨_, rfl, a, dx, fs, rfl, me.1, me.2.2.2.2.1.1, _, rfl, q, _, 1, _, rfl, rfl, SqT.of hq, at_of (j := 1) rfl rfl, _, rfl, a, C, dx, fs, _, rfl, me.1, T.cl, T.n3, me.2.2.2.1, hd, _, rfl, dg, ?_⟩
    refine ⟨a, dx, hd, fs, n, "name", true, rfl, me, sok_w (by decide +kernel), fun _ => ?_, fun z => Bool.noConfusion z⟩
    refine ⟨_, rfl, a, C, dx, fs, _, rfl, me.1, T.cl, T.n3, me.2.2.2.1, _, rfl, q, _, 1, _, rfl, rfl, SqT.of hq, at_of (j := 1) rfl rfl, hd, .ref pr, rfl, dg, pr, _, rfl, SqT.of hp, rfl, _, _, rfl, _, _, rfl, rfl, ?_⟩
    exact ⟨_, rfl, a, dx, fs, rfl, me.1, me.2.2.2.2.1.2.1, _, rfl, q, _, 2, _, rfl, rfl, SqT.of hq, at_of (j := 2) rfl rfl, _, rfl, _, rfl, a, dx, hd, t, L, fs, n, x, r, rfl, me, ht, hL, kE⟩
theorem ok_fts {f fK D C : Addr} {fd fdK : FuncData} (F : Fun K "fits" "BodyChecker.fits" sFts f fd) (T : TxB K mg C)
    (GK : FnOk P w K mg base (L2.CX P w) 5 fK fdK ["self", "term", "reach"] (spKof D C)) (MK : Meth K C "kind_of" fK) (DK : Binds K fdK ["self", "term", "reach"] []) :
    FnOk P w K mg base (L2.CX P w) 6 f fd ["self", "term", "kind", "reach"] (spFts D C) := by
  refine F.okX (k := 5) cFts (fun vs H Q E h => ?_) (fun cdv A outer s H vs Q E hr h => ?_)
  · obtain ⟨a, dx, hd, q, fs, n, k, r, rfl, _⟩ := h
    rfl
  · obtain ⟨a, dx, hd, q, fs, n, k, r, rfl, me, hc, hh, kE⟩ := h
    refine ⟨_, (pss_cons (ps_set (i := 4) cFts.nd rfl (Or.inl rfl) (pe_methE (pv 0) T.cl MK (GK.mono (by decide)) hr DK (takes_of rfl rfl rfl rfl) (pa_cons (pv 1) (pa_cons (pv 3) pa_nil)))) pss_no), ?_⟩
    exact ⟨_, rfl, a, dx, fs, rfl, me.1, me.2.2.2.2.1.2.2.1, _, rfl, _, rfl, a, dx, hd, q, fs, n, r, rfl, me, hc, hh, kE⟩
theorem ok_bod {f fT D C : Addr} {fd fdT : FuncData} (F : Fun K "body" "BodyChecker.body" sBod f fd) (T : TxB K mg C)
    (GT : FnOk P w K mg base (L2.CX P w) 6 fT fdT ["self", "term", "kind", "reach"] (spFts D C)) (MT : Meth K C "fits" fT) (DT : Binds K fdT ["self", "term", "kind", "reach"] []) :
    FnOk P w K mg base (L2.CX P w) 7 f fd ["self", "body", "reach"] (spBod D C) := by
  refine F.okX (k := 6) cBod (fun vs H Q E h => ?_) (fun cdv A outer s H vs Q E hr h => ?_)
  · obtain ⟨a, dx, hd, b, q, fs, n, r, rfl, _⟩ := h
    rfl
  · obtain ⟨a, dx, hd, b, q, fs, n, r, rfl, me, hb, hc, hh, kE⟩ := h
    refine ⟨_, (pss_cons (ps_set (i := 3) cBod.nd rfl (Or.inl rfl) (pe_ix ix_tup (pv 1) pe_int (fun _ _ => rfl))) (pss_one (ps_if (pt_cmpR op_eq (pv 3) pe_str (nomark _)) pss_no (pss_one (ps_if (pt_cmpR op_eq (pv 3) pe_str (nomark _)) pss_no (pss_one (ps_if (pt_cmpR op_eq (pv 3) pe_str (nomark _)) pss_no (pss_one (ps_expr (pe_methE (pv 0) T.cl MT (GT.mono (by decide)) hr DT (takes_of rfl rfl rfl rfl) (pa_cons (pe_ix ix_tup (pv 1) pe_int (fun _ _ => rfl)) (pa_cons (pe_fld (pv 0) rfl) (pa_cons (pv 2) pa_nil))))))))))))), ?_⟩
    refine ⟨_, rfl, b, _, 0, _, rfl, rfl, SqT.of hb, at_of (j := 0) rfl rfl, ?_⟩
    refine ⟨_, rfl, rfl, _, rfl, ite2 (fun e => absurd e (by decide +kernel)) (fun _ => ?_)⟩
    refine ⟨_, rfl, rfl, _, rfl, ite2 (fun e => absurd e (by decide +kernel)) (fun _ => ?_)⟩
    refine ⟨_, rfl, rfl, _, rfl, ite2 (fun e => absurd e (by decide +kernel)) (fun _ => ?_)⟩
    exact ⟨_, rfl, a, dx, fs, rfl, me.1, me.2.2.2.2.1.2.2.2.1, _, rfl, b, _, 1, _, rfl, rfl, SqT.of hb, at_of (j := 1) rfl rfl, _, rfl, a, C, dx, fs, _, rfl, me.1, T.cl, T.n5, me.2.2.1, _, rfl, a, dx, hd, q, fs, n, _, r, rfl, me, hc, hh, kE⟩
end
end J1
set_option Elab.async false
set_option linter.all false
set_option maxRecDepth 100000
set_option maxHeartbeats 4000000
namespace DC2
open PySem PySem.Spec PyProof.Rows L2
/-! {k: v for t1 in it1 if .. for t2 in it2 if ..}: a dict comprehension with two fors -/
section
variable {prog : Program} {w : World} {A : Around} {R : Result → Shared → Prop} {s : Shared} {kx vx t1 t2 it1 it2 : Expr} {if1 if2 : List Expr} {scope : Scope} {pos : Pos} {it : Value} {D : Addr} {env : Env}
abbrev two (kx vx t1 it1 t2 it2 : Expr) (if1 if2 : List Expr) (scope : Scope) (pos : Pos) : Expr := .DictComp kx vx [⟨t1, it1, if1, 0⟩, ⟨t2, it2, if2, 0⟩] scope pos
theorem turn_in : compTurn (two kx vx t1 it1 t2 it2 if1 if2 scope pos) 1 it (.ref D) env = (do
    standAt it2.pos
    match ← pyNext it with
    | none => pure (.done .next)
    | some v =>
      letOwnedTupleGo t2 it v
      assign t2 env v
      let mut ok := true
      for c in if2 do
        if ok then ok ← isTrue c env (eval c env)
      if ok then
        (do
          let kv ← eval kx env
          let vv ← holding [kv] (eval vx env)
          standAt { kx.pos with endLine := vx.pos.endLine, endCol := vx.pos.endCol }
          holding [kv, vv] (dictSet D kv vv))
      again (.compLoop (two kx vx t1 it1 t2 it2 if1 if2 scope pos) 1 it (.ref D) env)) := by rfl
theorem turn_out : compTurn (two kx vx t1 it1 t2 it2 if1 if2 scope pos) 0 it (.ref D) env = (do
    standAt it1.pos
    match ← pyNext it with
    | none => pure (.done .next)
    | some v =>
      letOwnedTupleGo t1 it v
      assign t1 env v
      let mut ok := true
      for c in if1 do
        if ok then ok ← isTrue c env (eval c env)
      if ok then
        let x ← eval it2 env
        standAt it2.pos
        let x ← foldedSetIterable it2 env x
        let _ ← runOwn (.compStart (two kx vx t1 it1 t2 it2 if1 if2 scope pos) 1 (← holding [x] (pyIter x)) (.ref D) env) env
      again (.compLoop (two kx vx t1 it1 t2 it2 if1 if2 scope pos) 0 it (.ref D) env)) := by rfl
abbrev NE (prog : Program) (w : World) (A : Around) (env : Env) (R : Result → Shared → Prop) : Value → Shared → Prop := notedBy (model prog w) A env fun e s' => R (.error e) s'
abbrev tests (ifs : List Expr) (env : Env) : Sem Bool := forIn ifs true fun c r => if r = true then do let ok ← isTrue c env (eval c env); pure (ForInStep.yield ok) else pure (ForInStep.yield r)
/-- the inner loop, a measure and what holds between two turns -/
theorem loop_in (I : Nat → Shared → Prop)
    (turn : ∀ n s, I n s → wpAny (model prog w) A (pyNext it) (fun r s₁ => match r with
      | none => R (.ok .next) s₁
      | some v => wpAny (model prog w) A (letOwnedTupleGo t2 it v) (fun _ s₂ => wpAny (model prog w) A (assign t2 env v) (fun _ s₃ => wpAny (model prog w) A (tests if2 env) (fun ok s₄ =>
          if ok = true then wpAny (model prog w) A (eval kx env) (fun kv s₅ => wpAny (model prog w) A (eval vx env) (fun vv s₆ => wpAny (model prog w) A (dictSet D kv vv) (fun _ s₇ => ∃ m, m < n ∧ I m s₇) (NE prog w A env R) s₆) (NE prog w A env R) s₅) (NE prog w A env R) s₄
          else ∃ m, m < n ∧ I m s₄) (NE prog w A env R) s₃) (NE prog w A env R) s₂) (NE prog w A env R) s₁) (NE prog w A env R) s)
    (n : Nat) (h : I n s) : codeAny (model prog w) A (.compLoop (two kx vx t1 it1 t2 it2 if1 if2 scope pos) 1 it (.ref D) env) R s := by
  refine codeAny_loop rfl I (fun n s hI => ?_) n h
  show wpAny _ A ((compTurn (two kx vx t1 it1 t2 it2 if1 if2 scope pos) 1 it (.ref D) env).onRaise (fun x => do noteFrame x env; theTreesLotGoes x)) _ _ s
  refine wpAny_noted ?_
  rw [turn_in]
  refine wpAny_bind (wpAny_standAt (wpAny_bind (wpAny_mono (turn n s hI) (fun r s₁ q1 => ?_) fun _ _ z => z)))
  cases r with
  | none => exact wpAny_pure q1
  | some v =>
    refine wpAny_bind (wpAny_mono q1 (fun _ s₂ q2 => wpAny_bind (wpAny_mono q2 (fun _ s₃ q3 => wpAny_bind (wpAny_mono q3 (fun ok s₄ q4 => ?_) fun _ _ z => z)) fun _ _ z => z)) fun _ _ z => z)
    cases ok with
    | false => exact wpAny_pure ⟨rfl, q4⟩
    | true =>
      refine wpAny_bind (wpAny_bind (wpAny_mono q4 (fun kv s₅ q5 => wpAny_bind (wpAny_holding (wpAny_mono q5 (fun vv s₆ q6 => ?_) fun _ _ z => z))) fun _ _ z => z))
      exact wpAny_bind (wpAny_standAt (wpAny_holding (wpAny_mono q6 (fun _ s₇ q7 => wpAny_pure ⟨rfl, q7⟩) fun _ _ z => z)))
theorem start_in {acc : Value} (h0 : codeAny (model prog w) A (.compLoop (two kx vx t1 it1 t2 it2 if1 if2 scope pos) 1 it acc env) R s)
    (h : wpAny (model prog w) A (pyIter it) (fun it' s' => codeAny (model prog w) A (.compLoop (two kx vx t1 it1 t2 it2 if1 if2 scope pos) 1 it' acc env) R s') (notedBy (model prog w) A env fun x s' => R (.error x) s') s) :
    codeAny (model prog w) A (.compStart (two kx vx t1 it1 t2 it2 if1 if2 scope pos) 1 it acc env) R s := by
  refine codeAny_of_tree ?_
  show wpAny _ A ((compStart (two kx vx t1 it1 t2 it2 if1 if2 scope pos) 1 it acc env).onRaise (fun x => do noteFrame x env; standAt theWindowsPlace)) _ _ s
  refine wpAny_notedAt ?_
  unfold compStart
  show wpAny _ A (ask >>= _) _ _ s
  refine wpAny_bind (wpAny_askSetting (wpAny_ite ?_))
  split
  · first
      | exact wpAny_bind (wpAny_pure (wpAny_pure (And.intro rfl h0)))
      | exact wpAny_pure (And.intro rfl h0)
  · refine wpAny_bind (wpAny_rule ?_)
    show wpAny _ _ (standAt it2.pos >>= _) _ _ s
    exact wpAny_bind (wpAny_standAt (wpAny_bind (wpAny_mono h (fun it' s' q => wpAny_pure (And.intro rfl q)) fun _ _ z => z)))
/-- the outer loop; the inner one's end is what holds at the next turn -/
theorem loop_out (I : Nat → Shared → Prop) (hs : ∀ x, foldedSetIterable it2 env x = pure x)
    (turn : ∀ n s, I n s → wpAny (model prog w) A (pyNext it) (fun r s₁ => match r with
      | none => R (.ok .next) s₁
      | some v => wpAny (model prog w) A (letOwnedTupleGo t1 it v) (fun _ s₂ => wpAny (model prog w) A (assign t1 env v) (fun _ s₃ => wpAny (model prog w) A (tests if1 env) (fun ok s₄ =>
          if ok = true then wpAny (model prog w) A (eval it2 env) (fun x s₅ => wpAny (model prog w) A (pyIter x) (fun j s₆ =>
              codeAny (model prog w) A (.compStart (two kx vx t1 it1 t2 it2 if1 if2 scope pos) 1 j (.ref D) env) (fun r s₇ => match r with | .ok _ => ∃ m, m < n ∧ I m s₇ | .error _ => False) s₆) (NE prog w A env R) s₅) (NE prog w A env R) s₄
          else ∃ m, m < n ∧ I m s₄) (NE prog w A env R) s₃) (NE prog w A env R) s₂) (NE prog w A env R) s₁) (NE prog w A env R) s)
    (n : Nat) (h : I n s) : codeAny (model prog w) A (.compLoop (two kx vx t1 it1 t2 it2 if1 if2 scope pos) 0 it (.ref D) env) R s := by
  refine codeAny_loop rfl I (fun n s hI => ?_) n h
  show wpAny _ A ((compTurn (two kx vx t1 it1 t2 it2 if1 if2 scope pos) 0 it (.ref D) env).onRaise (fun x => do noteFrame x env; theTreesLotGoes x)) _ _ s
  refine wpAny_noted ?_
  rw [turn_out]
  refine wpAny_bind (wpAny_standAt (wpAny_bind (wpAny_mono (turn n s hI) (fun r s₁ q1 => ?_) fun _ _ z => z)))
  cases r with
  | none => exact wpAny_pure q1
  | some v =>
    refine wpAny_bind (wpAny_mono q1 (fun _ s₂ q2 => wpAny_bind (wpAny_mono q2 (fun _ s₃ q3 => wpAny_bind (wpAny_mono q3 (fun ok s₄ q4 => ?_) fun _ _ z => z)) fun _ _ z => z)) fun _ _ z => z)
    cases ok with
    | false => exact wpAny_pure ⟨rfl, q4⟩
    | true =>
      refine wpAny_bind (wpAny_mono q4 (fun x s₅ q5 => ?_) fun _ _ z => z)
      refine wpAny_bind (wpAny_standAt (wpAny_bind (wpAny_of_eq (hs x) (wpAny_bind (wpAny_holding (wpAny_mono q5 (fun j s₆ q6 => ?_) fun _ _ z => z))))))
      refine wpAny_bind (wpAny_runOwn (codeAny_mono q6 fun r s₇ q7 => ?_))
      cases r with
      | ok f => exact wpAny_pure ⟨rfl, q7⟩
      | error e => exact q7.elim
end
/-! ### the rule -/
theorem wipe_in {σ : L2.St} {i : Nat} : ∀ {vs : List Nat}, i ∈ vs → (wipe σ vs)[i]? = if i < σ.length then some none else none
  | [], h => absurd h List.not_mem_nil
  | v :: vs, h => by
    show ((wipe σ vs).set v none)[i]? = _
    by_cases e : v = i
    · subst e
      rw [List.getElem?_set_self', ← wipe_length σ vs]
      by_cases q : v < (wipe σ vs).length
      · rw [if_pos q, List.getElem?_eq_getElem q]
        rfl
      · rw [if_neg q, List.getElem?_eq_none (Nat.le_of_not_lt q)]
        rfl
    · rw [List.getElem?_set_ne e]
      exact wipe_in ((List.mem_cons.mp h).resolve_left fun z => e z.symm)
theorem wipe_wipe {σ : L2.St} {vs vs2 : List Nat} (h : ∀ v ∈ vs2, v ∈ vs) : wipe (wipe σ vs2) vs = wipe σ vs := by
  refine List.ext_getElem? fun i => ?_
  by_cases q : i ∈ vs
  · rw [wipe_in q, wipe_in q, wipe_length]
  · rw [wipe_out q, wipe_out q, wipe_out fun z => q (h i z)]
section
variable {X : Cx}
/-- what the inner loop asks: D the dict; the slots of its own names are wiped ahead of each turn -/
def dcIn (g2 : TG) (tt2 : TT) (tk tv : TE) (vs2 : List Nat) (D : Addr) (σ2 : L2.St) (Nx : Hp → Prop) (J2 : It) (H : Hp) : Prop :=
  ∃ W2 : Nat → Nat → Hp → Prop, (∃ m, W2 0 m H) ∧ ∀ i m H, W2 i m H → (J2.stop i H ∧ Nx H) ∨ (J2.go i H ∧ ∃ N2 : Hp → Prop, (∀ H', N2 H' → ∃ m', m' < m ∧ W2 (i + 1) m' H') ∧ ∀ x H', J2.yld i H x H' → g2 x (wipe σ2 vs2) H' fun σ3 H3 => wipe σ3 vs2 = wipe σ2 vs2 ∧ tt2 σ3 H3 fun b H4 =>
    if b = true then tk σ3 H4 fun y H5 => tv σ3 H5 fun z H6 => ∃ kvs k, y = kV k ∧ H6 D = some (.dK kvs) ∧ kvs.length < sizeLine ∧ N2 (upd H6 D (.dK (putK kvs k z))) else N2 H4)
def tDc2 (wi : TI) (g : TG) (tt : TT) (wi2 : TI) (g2 : TG) (tt2 : TT) (tk tv : TE) (vs vs2 : List Nat) : TE := fun σ H Q => wi σ H fun J H1 => ∀ D, H1 D = none → ∃ W : Nat → Nat → Hp → Prop, (∃ m, W 0 m (upd H1 D (.dK []))) ∧ ∀ i m H, W i m H →
  (J.stop i H ∧ Q (.ref D) H) ∨ (J.go i H ∧ ∃ Nx : Hp → Prop, (∀ H', Nx H' → ∃ m', m' < m ∧ W (i + 1) m' H') ∧ ∀ x H', J.yld i H x H' → g x (wipe σ vs) H' fun σ2 H2 => wipe σ2 vs = wipe σ vs ∧ tt σ2 H2 fun b H3 =>
    if b = true then wi2 σ2 H3 (dcIn g2 tt2 tk tv vs2 D σ2 Nx) else Nx H3)
end
end DC2
set_option Elab.async false
set_option linter.all false
set_option maxRecDepth 100000
set_option maxHeartbeats 4000000
namespace DC2
open PySem PySem.Spec PyProof.Rows L2
section
variable {X : Cx}
/-- the inner loop within a block's context Y, the outer iterator pinned -/
theorem inner_ok {Y : Cx} {pins : List (Addr × Obj)} {kx vx t1 it1 t2 it2 : Expr} {if1 if2 : List Expr} {scope : Scope} {pos : Pos} {g2 : TG} {tt2 : TT} {tk tv : TE} {vs2 : List Nat} {D : Addr} {σ2 : L2.St} {Nx : Hp → Prop} {itv : Value} {s : Shared} {R : Result → Shared → Prop}
    (hc : Y.calm = true) (pg : PG Y t2 g2) (pt : PTs Y if2 tt2) (pk : PE Y kx tk) (pe : PE Y vx tv) (h : PIE Y pins σ2 t2 (dcIn g2 tt2 tk tv vs2 D σ2 Nx) itv s)
    (hR : ∀ s' H', Inv Y pins (wipe σ2 vs2) H' s' → Nx H' → R (.ok .next) s') (hE : ∀ e s', Y.xe e s' → notedBy (model Y.prog Y.w) Y.A Y.env (fun e s' => R (.error e) s') e s') :
    codeAny (model Y.prog Y.w) Y.A (.compStart (two kx vx t1 it1 t2 it2 if1 if2 scope pos) 1 itv (.ref D) Y.env) R s := by
  obtain ⟨it, fp, tn, J, H1, rfl, I1, T, st1, f1, W, ⟨m0, w0⟩, turn⟩ := h
  have stat : ∀ {H' : Hp}, (∀ b ∈ fp, H' b = none) → ∀ b ∈ fp, FpOk Y pins H' b := fun n b hb => ⟨n b hb, (f1 b hb).2⟩
  have I2 : Inv Y pins (wipe σ2 vs2) H1 s := I1.weak (wipe_length _ _) fun j v e => (wipe_some e).1
  have loop : codeAny (model Y.prog Y.w) Y.A (.compLoop (two kx vx t1 it1 t2 it2 if1 if2 scope pos) 1 (.ref it) (.ref D) Y.env) R s := by
    refine loop_in (fun n s' => ∃ i H', Inv Y pins (wipe σ2 vs2) H' s' ∧ tn i s'.heap ∧ (∀ b ∈ fp, H' b = none) ∧ W i n H') ?_ m0 ⟨0, H1, I2, st1, fun b hb => (f1 b hb).1, w0⟩
    rintro n s5 ⟨i, H5, I5, st5, n5, w5⟩
    rcases turn i n H5 w5 with ⟨stop, qq⟩ | ⟨go, N2, hN, step⟩
    · refine wpAny_mono (T.done Y rfl rfl rfl hc i pins s5 _ H5 (fun _ _ => False) I5 (stat n5) st5 stop) (fun r s6 h6 => ?_) fun _ _ z => z.elim
      obtain ⟨rfl, I6⟩ := h6
      exact hR s6 H5 I6 qq
    · refine wpAny_mono (T.item Y rfl rfl rfl hc i pins s5 _ H5 (fun _ _ => False) I5 (stat n5) st5 go) (fun r s6 h6 => ?_) fun _ _ z => z.elim
      obtain ⟨u, rfl, h6⟩ := h6
      refine wpAny_mono h6 (fun _ s7 h7 => ?_) fun _ _ z => z.elim
      obtain ⟨x, H7, I7, r7, y7, st7, n7⟩ := h7
      have P7 := I7.pinned (stat n7) (T.obj _ _ st7)
      refine wpAny_mono (pg.run _ s7 _ H7 x u _ P7 r7 (step x H7 y7)) (fun _ s8 h8 => ?_) hE
      obtain ⟨σ8, H8, I8, hw8, q8⟩ := h8
      refine wpAny_mono (pt.run _ s8 σ8 H8 _ I8 q8) (fun b s9 h9 => ?_) hE
      obtain ⟨H9, I9, q9⟩ := h9
      have fin : ∀ {s' : Shared} {H' : Hp}, Inv Y (pins ++ pinsAt fp s7.heap) σ8 H' s' → N2 H' → ∃ m, m < n ∧ ∃ i H', Inv Y pins (wipe σ2 vs2) H' s' ∧ tn i s'.heap ∧ (∀ b ∈ fp, H' b = none) ∧ W i m H' := fun {s' H'} I' nx => by
        obtain ⟨m', hm, w'⟩ := hN H' nx
        have pin' : ∀ b ∈ fp, ∀ o, s7.heap.get? b = some o → s'.heap.get? b = some o ∧ H' b = none := fun b hb o e =>
          let z := I'.pin (b, o) (List.mem_append_right _ (List.mem_append_right _ (mem_pinsAt hb e)))
          ⟨z.1, z.2.1⟩
        refine ⟨m', hm, i + 1, H', I'.unpinned.weak (by rw [← hw8, wipe_length]) (fun j v e => ?_), T.keep _ _ _ st7 fun b hb o e => (pin' b hb o e).1, fun b hb => ?_, w'⟩
        · rw [← hw8] at e
          exact (wipe_some e).1
        · obtain ⟨o, e, _⟩ := T.obj _ _ st7 b hb
          exact (pin' b hb o e).2
      cases b with
      | false => exact fin I9 q9
      | true =>
        refine wpAny_mono (pk.run _ s9 σ8 H9 _ I9 q9) (fun z s10 h10 => ?_) hE
        obtain ⟨yk, H10, I10, r10, q10⟩ := h10
        refine wpAny_mono (pe.run _ s10 σ8 H10 _ I10 q10) (fun z2 s11 h11 => ?_) hE
        obtain ⟨yv, H11, I11, r11, kvs, k, ek, hD11, hz11, nx⟩ := h11
        subst ek
        exact d_dictSet (X := Y) I11 hD11 hz11 r10 r11 fun s12 I12 => fin I12 nx
  exact start_in loop (T.self Y.A 0 _ _ _ st1 loop)
end
end DC2
set_option Elab.async false
set_option linter.all false
set_option maxRecDepth 100000
set_option maxHeartbeats 4000000
namespace DC2
open PySem PySem.Spec PyProof.Rows L2
section
variable {X : Cx}
theorem pe_dc2 {kx vx t1 it1 t2 it2 : Expr} {if1 if2 : List Expr} {scope : Scope} {own : List (Str × Nat)} {vs2 : List Nat} {pos : Pos} {wi wi2 : TI} {g g2 : TG} {tt tt2 : TT} {tk tv : TE} (hc : X.calm = true) (hN : X.N.Nodup) (hi : PI X t1 it1 wi) (ok : BlkOk X.N X.env.scope scope own) (sub : ∀ v ∈ vs2, v ∈ own.map (·.2))
    (hg : ∀ (s : Shared) (H : Hp) (C : Addr) (cl : List (Str × Addr)) (fp : List Addr), PG (X.blk s H scope (compEnvC scope cl C X.env) fp) t1 g) (ht : ∀ (s : Shared) (H : Hp) (C : Addr) (cl : List (Str × Addr)) (fp : List Addr), PTs (X.blk s H scope (compEnvC scope cl C X.env) fp) if1 tt)
    (hi2 : ∀ (s : Shared) (H : Hp) (C : Addr) (cl : List (Str × Addr)) (fp : List Addr), PI (X.blk s H scope (compEnvC scope cl C X.env) fp) t2 it2 wi2)
    (hg2 : ∀ (s : Shared) (H : Hp) (C : Addr) (cl : List (Str × Addr)) (fp : List Addr), PG (X.blk s H scope (compEnvC scope cl C X.env) fp) t2 g2) (ht2 : ∀ (s : Shared) (H : Hp) (C : Addr) (cl : List (Str × Addr)) (fp : List Addr), PTs (X.blk s H scope (compEnvC scope cl C X.env) fp) if2 tt2)
    (hk : ∀ (s : Shared) (H : Hp) (C : Addr) (cl : List (Str × Addr)) (fp : List Addr), PE (X.blk s H scope (compEnvC scope cl C X.env) fp) kx tk)
    (he : ∀ (s : Shared) (H : Hp) (C : Addr) (cl : List (Str × Addr)) (fp : List Addr), PE (X.blk s H scope (compEnvC scope cl C X.env) fp) vx tv)
    (hs : ∀ x, foldedSetIterable it1 X.env x = pure x := by intro _; rfl) (hs2 : ∀ env x, foldedSetIterable it2 env x = pure x := by intro _ _; rfl) :
    PE X (two kx vx t1 it1 t2 it2 if1 if2 scope pos) (tDc2 wi g tt wi2 g2 tt2 tk tv (own.map (·.2)) vs2) := by
  refine ⟨fun pins s σ H Q I h => ?_⟩
  rw [arm_eval_DictComp]
  have hfree : ∀ y ∈ scope.names, y.2 = .free → ∃ c, X.env.cells.lookup y.1 = some c := fun y hy e => by
    rcases ok.free y hy e with k | k
    · exact I.ok.has _ (.inl k)
    · exact I.ok.has _ (.inr k)
  refine wpAny_comprehension_free rfl hs (closure_ok hfree) ok.kind (fun y hy e => by rw [ok.uniq y hy, e])
    (thn (hi.run pins s σ H _ I h) fun xv s1 hx => thn hx fun itv s2 h2 => ?_)
  obtain ⟨it, fp, tn, J, H2, rfl, I2, T, st2, f2, q⟩ := h2
  refine wpAny_newObj_type (newEnv_comp ?_)
  generalize hD : s2.heap.objs.size = D
  have hDn : H2 D = none := I2.hok.fresh (Nat.le_of_eq hD)
  obtain ⟨W, ⟨m0, w0⟩, turn⟩ := q D hDn
  generalize hs3 : ({ s2 with heap := s2.heap.push { cls := .type "dict", data := .dict #[] } } : Shared) = s3
  have I3 : Inv X pins σ (upd H2 D (.dK [])) s3 := by
    rw [← hs3]
    refine I2.laid (t' := s2.toks) (fun b o e => Heap.get?_push_of_some _ e) (Nat.le_of_eq hD) ?_
    rw [← hD]
    exact dk_empty s2.heap I2.big
  have h3 : s3.heap = s2.heap.push { cls := .type "dict", data := .dict #[] } := by rw [← hs3]
  have f3 : ∀ b ∈ fp, FpOk X pins (upd H2 D (.dK [])) b ∧ b < s3.heap.objs.size := fun b hb => by
    obtain ⟨o, e, _⟩ := T.obj _ _ st2 b hb
    have hlt := Heap.lt_size e
    refine ⟨⟨?_, (f2 b hb).2⟩, by rw [h3, Heap.size_push]; exact Nat.lt_succ_of_lt hlt⟩
    rw [upd_ne (by rw [← hD]; exact Nat.ne_of_lt hlt)]
    exact (f2 b hb).1
  have st3 : tn 0 s3.heap := T.keep _ _ _ st2 fun b _ o e => by rw [h3]; exact Heap.get?_push_of_some _ e
  have I4 := block_start I3 ok hN f3
  have pg := hg s3 (upd H2 D (.dK [])) s3.heap.objs.size (cellsFrom (s3.heap.objs.size + 1) scope.names (cloFrom X.env.cells scope.names [])) fp
  have pt := ht s3 (upd H2 D (.dK [])) s3.heap.objs.size (cellsFrom (s3.heap.objs.size + 1) scope.names (cloFrom X.env.cells scope.names [])) fp
  have pi2 := hi2 s3 (upd H2 D (.dK [])) s3.heap.objs.size (cellsFrom (s3.heap.objs.size + 1) scope.names (cloFrom X.env.cells scope.names [])) fp
  have pg2 := hg2 s3 (upd H2 D (.dK [])) s3.heap.objs.size (cellsFrom (s3.heap.objs.size + 1) scope.names (cloFrom X.env.cells scope.names [])) fp
  have pt2 := ht2 s3 (upd H2 D (.dK [])) s3.heap.objs.size (cellsFrom (s3.heap.objs.size + 1) scope.names (cloFrom X.env.cells scope.names [])) fp
  have pk := hk s3 (upd H2 D (.dK [])) s3.heap.objs.size (cellsFrom (s3.heap.objs.size + 1) scope.names (cloFrom X.env.cells scope.names [])) fp
  have pe := he s3 (upd H2 D (.dK [])) s3.heap.objs.size (cellsFrom (s3.heap.objs.size + 1) scope.names (cloFrom X.env.cells scope.names [])) fp
  show codeAny _ _ (.compStart (two kx vx t1 it1 t2 it2 if1 if2 scope pos) 0 (.ref it) (.ref D) (compEnvC scope (cellsFrom (s3.heap.objs.size + 1) scope.names (cloFrom X.env.cells scope.names [])) s3.heap.objs.size X.env)) (compPost (model X.prog X.w) X.A X.xe none _ (.ref D) s3.heap.objs.size) { s3 with heap := pushCells (s3.heap.push { cls := .type "dict", data := .dict #[] }) scope.names }
  have nfp : ∀ b ∈ fp, (upd H2 D (.dK [])) b = none := fun b hb => (f3 b hb).1.1
  generalize hce : compEnvC scope (cellsFrom (s3.heap.objs.size + 1) scope.names (cloFrom X.env.cells scope.names [])) s3.heap.objs.size X.env = ce at I4 pg pt pi2 pg2 pt2 pk pe ⊢
  have cL : ce.locals = s3.heap.objs.size := by subst hce; rfl
  generalize hH3 : upd H2 D (.dK []) = H3 at I3 I4 pg pt pi2 pg2 pt2 pk pe w0 nfp f3
  generalize hs4 : ({ s3 with heap := pushCells (s3.heap.push { cls := .type "dict", data := .dict #[] }) scope.names } : Shared) = s4 at I4 ⊢
  have st4 : tn 0 s4.heap := T.keep _ _ _ st3 fun b _ o e => by rw [← hs4]; exact pushCells_keeps _ _ _ _ (Heap.get?_push_of_some _ e)
  have stat : ∀ {σ' : L2.St} {H' : Hp} {s' : Shared}, Inv (X.blk s3 H3 scope ce fp) [] σ' H' s' → (∀ b ∈ fp, H' b = none) → ∀ b ∈ fp, FpOk (X.blk s3 H3 scope ce fp) [] H' b := fun {σ' H' s'} I' hn b hb =>
    ⟨hn b hb, (I'.ok.exf b hb).1, I'.ok.exfs b hb, .inl hb, fun x c e => (I'.ok.exf b hb).2 x c e, fun p hp => absurd (show p ∈ ([] : List (Addr × Obj)) ++ [] from hp) (by simp)⟩
  have loop : codeAny (model X.prog X.w) X.A (.compLoop (two kx vx t1 it1 t2 it2 if1 if2 scope pos) 0 (.ref it) (.ref D) ce) (compPost (model X.prog X.w) X.A X.xe none (EP X pins σ Q) (.ref D) s3.heap.objs.size) s4 := by
    refine loop_out (fun n s' => ∃ i H', Inv (X.blk s3 H3 scope ce fp) [] (wipe σ (own.map (·.2))) H' s' ∧ tn i s'.heap ∧ (∀ b ∈ fp, H' b = none) ∧ W i n H') (hs2 ce) ?_ m0 ⟨0, H3, I4, st4, nfp, w0⟩
    rintro n s5 ⟨i, H5, I5, st5, n5, w5⟩
    rcases turn i n H5 w5 with ⟨stop, qq⟩ | ⟨go, Nx, hNx, step⟩
    · refine wpAny_mono (T.done (X.blk s3 H3 scope ce fp) rfl rfl rfl hc i [] s5 _ H5 (fun _ _ => False) I5 (stat I5 n5) st5 stop) (fun r s6 h6 => ?_) fun _ _ z => z.elim
      obtain ⟨rfl, I6⟩ := h6
      have I7 : Inv X pins σ H5 s6 := I3.call' (ch := fp) I6.os I6.base I6.hok I6.bare fun b hb => ⟨(f3 b hb).1.2.2.2.1, (f3 b hb).1.2.1, (f3 b hb).1.2.2.2.2.1, (f3 b hb).1.2.2.2.2.2⟩
      have nC : H5 s3.heap.objs.size = none := by
        have z : H5 ce.locals = none := I6.free
        rw [cL] at z
        exact z
      obtain ⟨m, hn, _⟩ := I6.loc
      have hn : s6.heap.Ns ce.locals m := hn
      rw [cL] at hn
      refine ⟨m, hn, fun h'' sb => ?_⟩
      obtain ⟨f0, f1, f2', f3', f4, f5⟩ := I3.fpOk (H' := H5) (Nat.le_refl _) nC
      exact ⟨.ref D, H5, I7.turned (t' := s6.toks) (fun b o hb e => (sb.2 b hb).trans e) f0 f1 f3' f4 f5, rfl, qq⟩
    · refine wpAny_mono (T.item (X.blk s3 H3 scope ce fp) rfl rfl rfl hc i [] s5 _ H5 (fun _ _ => False) I5 (stat I5 n5) st5 go) (fun r s6 h6 => ?_) fun _ _ z => z.elim
      obtain ⟨u, rfl, h6⟩ := h6
      refine wpAny_mono h6 (fun _ s7 h7 => ?_) fun _ _ z => z.elim
      obtain ⟨x, H7, I7, r7, y7, st7, n7⟩ := h7
      have P7 := I7.pinned (stat I7 n7) (T.obj _ _ st7)
      refine wpAny_mono (pg.run _ s7 _ H7 x u _ P7 r7 (step x H7 y7)) (fun _ s8 h8 => ?_) fun _ _ z => z.elim
      obtain ⟨σ8, H8, I8, hw8, q8⟩ := h8
      refine wpAny_mono (pt.run _ s8 σ8 H8 _ I8 q8) (fun b s9 h9 => ?_) fun _ _ z => z.elim
      obtain ⟨H9, I9, q9⟩ := h9
      have fin : ∀ {s' : Shared} {H' : Hp} {σ' : L2.St}, wipe σ' (own.map (·.2)) = wipe σ (own.map (·.2)) → Inv (X.blk s3 H3 scope ce fp) ([] ++ pinsAt fp s7.heap) σ' H' s' → Nx H' → ∃ m, m < n ∧ ∃ i H', Inv (X.blk s3 H3 scope ce fp) [] (wipe σ (own.map (·.2))) H' s' ∧ tn i s'.heap ∧ (∀ b ∈ fp, H' b = none) ∧ W i m H' := fun {s' H' σ'} hw I' nx => by
        obtain ⟨m', hm, w'⟩ := hNx H' nx
        have pin' : ∀ b ∈ fp, ∀ o, s7.heap.get? b = some o → s'.heap.get? b = some o ∧ H' b = none := fun b hb o e =>
          let z := I'.pin (b, o) (List.mem_append_right _ (List.mem_append_right _ (mem_pinsAt hb e)))
          ⟨z.1, z.2.1⟩
        refine ⟨m', hm, i + 1, H', (I'.unpinned (pins := [])).weak (by rw [← hw, wipe_length]) (fun j v e => ?_), T.keep _ _ _ st7 fun b hb o e => (pin' b hb o e).1, fun b hb => ?_, w'⟩
        · rw [← hw] at e
          exact (wipe_some e).1
        · obtain ⟨o, e, _⟩ := T.obj _ _ st7 b hb
          exact (pin' b hb o e).2
      cases b with
      | false => exact fin hw8 I9 q9
      | true =>
        refine wpAny_mono (pi2.run _ s9 σ8 H9 _ I9 q9) (fun v s10 h10 => ?_) fun _ _ z => z.elim
        refine wpAny_mono h10 (fun j s11 h11 => ?_) fun _ _ z => z.elim
        exact inner_ok (Y := X.blk s3 H3 scope ce fp) hc pg2 pt2 pk pe h11 (fun s' H' I' nx => fin (by rw [wipe_wipe sub, hw8]) I' nx) fun _ _ z => z.elim
  exact codeAny_compStart_dict loop (T.self X.A 0 _ _ _ st4 loop)
end
end DC2
set_option Elab.async false
set_option linter.all false
set_option maxRecDepth 100000
set_option maxHeartbeats 1000000
/-! enumerate of a tuple -/
namespace ET
open PySem PySem.Spec PyProof.Rows L2
/-- the tuple at a, each item in a new pair with its place -/
def Iet (K : PySem.W.Frag) (a : Addr) : It :=
  ⟨fun i H => ∃ (xs : List V) (x : V), SqT K H a xs ∧ xs[i]? = some x, fun i H v H' => ∃ T x, v = .ref T ∧ H T = none ∧ H' = L2.upd H T (.tup [.int (i : Nat), x]) ∧ ∀ xs, SqT K H a xs → xs[i]? = some x, fun i H => ∃ xs : List V, SqT K H a xs ∧ xs.length = i⟩
theorem start_1 {v : Value} {o : Obj} {H : Heap → Prop} (B : Begins v o H) :
    Meets (Builtin.«enumerate.__new__» ⟨[.type "enumerate", v], []⟩) (fun _ R s => H s.heap ∧
      R (.ok (.ret (.ref (s.heap.push o).objs.size))) { s with heap := (s.heap.push o).push { cls := .type "enumerate", data := .fields #[.none, .bool false, .ref s.heap.objs.size, rawInt 0, .none, .none] } }) :=
  .of_wp fun prog w A R s h => by
    obtain ⟨hp, g, d, tk, os⟩ := s
    obtain ⟨h1, h⟩ := h
    have sub := sub_enumerate
    have begin_ : ∀ {A' : Around} {E : Value → Shared → Prop} {Q : Value → Shared → Prop}, Q (.ref hp.objs.size) ⟨hp.push o, g, d, tk, os⟩ → wpAny (model prog w) A' (pyIter v) Q E ⟨hp, g, d, tk, os⟩ := fun q => B.iter prog w _ _ ⟨hp, g, d, tk, os⟩ _ h1 q
    wp_walk using begin_
    refine wpAny_stack_any fun st => wpAny_pure ?_
    split
    · rename_i c _ _ _ _ _
      cases (c == Value.type "enumerate") <;> (wp_walk using begin_; exact ⟨_, rfl, h⟩)
    · wp_walk using begin_
      exact ⟨_, rfl, h⟩
section
variable {prog : Program} {w : World} {A : Around} {E : Value → Shared → Prop} {s : Shared}
theorem begins_1 {v : Value} {o : Obj} {H : Heap → Prop} {Q : Value → Shared → Prop} (B : Begins v o H) (h1 : H s.heap)
    (h : ∀ h', IsEnum h' (s.heap.objs.size + 1) s.heap.objs.size 0 .none → h'.get? s.heap.objs.size = some o → (∀ b o, s.heap.get? b = some o → h'.get? b = some o) → Q (.ref (s.heap.objs.size + 1)) { s with heap := h' }) :
    wpAny (model prog w) A (call (.type "enumerate") [v]) Q E s := by
  refine callType_new F.called_enumerate (by decide) (F.typeCall_enumerate_1 _) (F.newCall_enumerate_1 _) (fun obj => F.args_object_init_2 obj _) F.entry_enumerate_new (start_1 B) ⟨h1, ?_⟩
  have hz : (s.heap.push o).objs.size = s.heap.objs.size + 1 := Heap.size_push ..
  show _ ∧ _
  rw [hz]
  have he : IsEnum ((s.heap.push o).push { cls := .type "enumerate", data := .fields #[.none, .bool false, .ref s.heap.objs.size, rawInt 0, .none, .none] }) (s.heap.objs.size + 1) s.heap.objs.size 0 .none := by
    have q := Heap.get?_push_size (s.heap.push o) (o := { cls := .type "enumerate", data := .fields #[.none, .bool false, .ref s.heap.objs.size, rawInt 0, .none, .none] }) rfl
    rw [hz] at q
    exact q
  exact ⟨⟨_, he, rfl⟩, h _ he (Heap.get?_push_of_some _ (Heap.get?_push_size _ B.free)) fun b o x => Heap.get?_push_of_some _ (Heap.get?_push_of_some _ x)⟩
end
theorem turn_et {P : Program} {w : World} {K : PySem.W.Frag} {elts : List Expr} {kk : Nat} {tpos : Pos} (a e it : Addr) (ha : a ≠ it) :
    Turn P w K (.Tuple elts kk tpos) (Iet K a) [e, it] e (fun i h => (∃ old, IsEnum h e it ((i : Nat) : Int) old) ∧ h.IsTupleIter it a i ∧ e ≠ it) where
  mem := by simp
  obj := fun i h st b hb => by
    obtain ⟨⟨old, he⟩, ⟨o, ho, hc, hd⟩, _⟩ := st
    rcases List.mem_cons.mp hb with z | z
    · rw [z]
      exact ⟨_, he, fun v q => nomatch q⟩
    · rw [List.mem_singleton.mp z]
      exact ⟨o, ho, fun v q => by rw [hd] at q; cases q⟩
  keep := fun i h h' st k => by
    obtain ⟨⟨old, he⟩, hi, hne⟩ := st
    exact ⟨⟨old, k e List.mem_cons_self _ he⟩, hi.at fun o q => k it (List.mem_cons_of_mem _ List.mem_cons_self) o q, hne⟩
  item := by
    intro X hP hw hK hc i pins s σ H E I hf st hg
    subst hP hw hK
    obtain ⟨⟨old, he⟩, hit, hne⟩ := st
    obtain ⟨xs, x, hq, hx⟩ := hg
    obtain ⟨its, rv, p, hz⟩ := I.tuple hq
    obtain ⟨u, hu, ru⟩ := rv.get hx
    have hel : e < s.heap.objs.size := Heap.lt_size he
    have hil : it < s.heap.objs.size := by
      obtain ⟨_, q, _⟩ := hit
      exact Heap.lt_size q
    have hea : e ≠ a := fun z => by
      obtain ⟨o, ho, hc, _⟩ := p
      rw [← z, show s.heap.get? e = _ from he] at ho
      cases ho
      injection hc with hc
      exact absurd hc (by decide)
    have D := Draws.tuple (prog := X.prog) (w := X.w) (A := X.A.in1) (I.ok.hd hc) it a ha its.toArray
    refine wpAny_pyNext_enum_itemD D he ⟨hit, p⟩ (by have := (List.getElem?_eq_some_iff.mp hu).1; simpa using this) hne (by simp [hne, hea]) fun u' h' tk hu' ho st' hT hsz hk => ?_
    have eu : u' = u := Option.some.inj ((show its.toArray[i]? = some u' from hu').symm.trans (by simpa using hu))
    subst eu
    refine ⟨_, rfl, wpAny_letOwnedTupleGo_enum (s := { s with heap := h', toks := tk + 1 }) ho fun h'' he' sb => ?_⟩
    have hT2 : h''.get? s.heap.objs.size = some { cls := .type "tuple", data := .seq #[.int i tk, u'] } := (sb.2 _ (Nat.ne_of_gt hel)).trans hT
    have new : ObjOk X.prog X.w (L2.upd H s.heap.objs.size (.tup [.int (i : Nat), x])) h'' s.heap.objs.size (.tup [.int (i : Nat), x]) :=
      ⟨by show 2 ≤ sizeLine; decide, [.int i tk, u'], .cons ⟨_, rfl⟩ (.cons ru .nil), ⟨_, hT2, rfl, _, rfl⟩⟩
    have I1 : L2.Inv X pins σ (L2.upd H s.heap.objs.size (.tup [.int (i : Nat), x])) { s with heap := h'', toks := tk + 1 } :=
      I.turnedNew (ch := [e, it]) (fun b ob hb q => (sb.2 b (fun z => hb (by simp [z]))).trans (hk b ob (fun z => hb (by simp [z])) (fun z => hb (by simp [z])) q)) hf (Nat.le_refl _) new
    refine ⟨.ref s.heap.objs.size, _, I1, rfl, ⟨_, x, rfl, I.hok.fresh (Nat.le_refl _), rfl, fun ys hy => by rw [I.tuple_inj hy hq]; exact hx⟩, ⟨⟨u', ?_⟩, st'.1.at fun o q => (sb.2 it (Ne.symm hne)).trans q, hne⟩, fun b hb => ?_⟩
    · rw [show ((i + 1 : Nat) : Int) = (i : Int) + 1 by omega]
      exact he'
    · have hb' : b < s.heap.objs.size := by
        rcases List.mem_cons.mp hb with z | z
        · rw [z]; exact hel
        · rw [List.mem_singleton.mp z]; exact hil
      rw [upd_ne (Nat.ne_of_lt hb')]
      exact (hf b hb).1
  done := by
    intro X hP hw hK hc i pins s σ H E I hf st hg
    subst hP hw hK
    obtain ⟨⟨old, he⟩, hit, hne⟩ := st
    obtain ⟨xs, hq, hx⟩ := hg
    obtain ⟨its, rv, p, hz⟩ := I.tuple hq
    obtain ⟨f0, f1, f2, f3, f4, f5⟩ := hf it (List.mem_cons_of_mem _ List.mem_cons_self)
    have hl := rv.length
    have D := Draws.tuple (prog := X.prog) (w := X.w) (A := X.A.in1) (I.ok.hd hc) it a ha its.toArray
    have en : i = its.toArray.size := by rw [List.size_toArray, ← hl, hx]
    subst en
    exact wpAny_pyNext_enum_endD D he ⟨hit, p⟩ fun h' eb => ⟨rfl, I.turned (t' := s.toks) (fun b o hb q => eb b o hb q) f0 f1 f3 f4 f5⟩
  self := fun A i s Q E st h => by
    obtain ⟨⟨_, he⟩, _⟩ := st
    exact wpAny_pyIter_enum he h
def iEnumT (K : PySem.W.Frag) (ta : TA) : TI := fun σ H R => ta σ H fun vs H1 => ∃ a xs, vs = [.ref a] ∧ SqT K H1 a xs ∧ R (Iet K a) H1
theorem pi_enumT {X : Cx} {e : Expr} {ta : TA} {p pos tpos : Pos} {elts : List Expr} {kk : Nat} (hg : Gl X "enumerate") (hm : X.mg "enumerate" = none) (ha : PA X [e] ta) (hs : starEach [e] X.env = [(false, eval e X.env)] := by rfl) :
    PI X (.Tuple elts kk tpos) (.Call (.Name "enumerate" p) [e] [] pos) (iEnumT X.K ta) := by
  refine ⟨fun pins s σ H R I h => ?_⟩
  refine Call_ (ld_blt I hg hm boot_enumerate (PyProof.Rows.callWith_type1 (thn (ha.run pos pins s σ H _ I h) fun us s1 ⟨vs, H1, I1, r1, q1⟩ => ?_) hs rfl))
  obtain ⟨a, xs, rfl, hq, q⟩ := q1
  cases r1 with
  | cons r rr =>
    cases rr
    cases r
    obtain ⟨its, rv, p', hz⟩ := I1.tuple hq
    have hla : a < s1.heap.objs.size := by
      obtain ⟨o, ho, _⟩ := p'
      exact Heap.lt_size ho
    refine begins_1 (begins_tuple a its.toArray) p' fun h' he hit hk => wpAny_pyIter_enum he ?_
    have I2 : L2.Inv X pins σ H1 { s1 with heap := h' } := I1.kept (t' := s1.toks) hk
    refine ⟨s1.heap.objs.size + 1, [s1.heap.objs.size + 1, s1.heap.objs.size], _, _, H1, rfl, I2, turn_et a (s1.heap.objs.size + 1) s1.heap.objs.size (Nat.ne_of_lt hla), ⟨⟨.none, he⟩, ⟨_, hit, rfl, rfl⟩, Nat.succ_ne_self _⟩, fun b hb => ?_, q⟩
    have hle : s1.heap.objs.size ≤ b := by
      rcases List.mem_cons.mp hb with z | z
      · rw [z]; exact Nat.le_add_right _ _
      · rw [List.mem_singleton.mp z]; exact Nat.le_refl _
    exact I1.fpOk hle (I1.hok.fresh hle)
theorem walk_et {K : PySem.W.Frag} {a : Addr} {xs : List V} : Walk (Iet K a) xs.length (fun H => SqT K H a xs) (YPair (fun i => some (.int (i : Nat))) (fun i => xs[i]?)) := by
  refine ⟨fun i _ hi q => ⟨xs, xs[i], q, by simp [hi]⟩, fun _ q => ⟨xs, q, rfl⟩, fun i H v H' _ q y => ?_⟩
  obtain ⟨T, x, h1, h2, h3, h4⟩ := y
  exact ⟨T, .int (i : Nat), x, h1, h2, h3, rfl, h4 xs q⟩
end ET
set_option Elab.async false
set_option linter.all false
set_option maxRecDepth 100000
set_option maxHeartbeats 4000000
namespace J1
open PySem PySem.Spec PyProof.Rows L2 GxR GA
abbrev sMk : Stmt := top 64
theorem cMk : FnScope ["kinds", "name", "makers"] ["kinds"] (defScope sMk) := ⟨rfl, rfl, rfl, by decide +kernel, rfl, by decide +kernel, by decide +kernel⟩
abbrev sMn : Stmt := top 65
theorem cMn : FnScope ["kinds", "name", "makers", "maker", "fields"] ["kinds"] (defScope sMn) := ⟨rfl, rfl, rfl, by decide +kernel, rfl, by decide +kernel, by decide +kernel⟩
abbrev sKf : Stmt := top 63
theorem cKf : FnScope ["kinds", "known", "name", "_", "makers_ahead", "at", "makers", "maker", "fields", "field"] ["kinds"] (defScope sKf) := ⟨rfl, rfl, rfl, by decide +kernel, rfl, by decide +kernel, by decide +kernel⟩
def spMk : Sp := fun vs H Q _ => ∃ (x : V), vs = [x] ∧ Enc H (.tup []) x ∧ ∀ d, H d = none → Q (.ref d) (L2.upd H d (.dK []))
section
variable {P : Program} {w : World} {K : PySem.W.Frag} {mg : Str → Option Value} {base : Heap}
theorem ok_mk {f : Addr} {fd : FuncData} (F : Fun K "makers_by_kind" "makers_by_kind" sMk f fd) : FnOk P w K mg base CX0 1 f fd ["kinds"] spMk := by
  refine F.ok (k := 0) cMk (fun vs H Q E h => ?_) (fun cdv A outer s H vs Q E hr h => ?_)
  · obtain ⟨x, rfl, _⟩ := h
    rfl
  · obtain ⟨x, rfl, en, k⟩ := h
    refine ⟨_, (pss_one (ps_ret (pe_dc (own := [("name", 1), ("makers", 2)]) (g := gTup K 2 (gCons (gName 1) (gCons (gName 2) gNil))) (tt := tYes) (by rfl) cMk.nd (pi_tup (pv 0)) (blkOk_by (own := [("name", 1), ("makers", 2)]) (N := ["kinds", "name", "makers"]) (sc := defScope sMk) (by decide +kernel)) (fun _ _ _ _ _ => (pg_tup (by rfl) (pgs_cons (pg_name (i := 1) cMk.nd rfl (Or.inl rfl)) (pgs_cons (pg_name (i := 2) cMk.nd rfl (Or.inl rfl)) pgs_nil)))) (fun _ _ _ _ _ => pts_nil) (fun _ _ _ _ _ => (pv 1)) (fun _ _ _ _ _ => (pv 2))))), ?_⟩
    cases en with
    | @tup a xs _ ha es =>
    cases es
    refine ⟨_, rfl, a, rfl, ⟨_, SqT.of ha⟩, fun D hD => ?_⟩
    exact dc_tup (K := K) (xs := []) (fun i Hc => Hc = L2.upd H D (.dK [])) rfl (fun i Hc _ hp => by rw [hp]; exact SqT.of ((Grow.new hD).tup ha)) (fun i z Hc hz _ => by cases hz) (fun Hd hp => by rw [hp]; exact k D hD)
theorem ok_mn {f : Addr} {fd : FuncData} (F : Fun K "makers_by_name" "makers_by_name" sMn f fd) : FnOk P w K mg base CX0 1 f fd ["kinds"] spMk := by
  refine F.ok (k := 0) cMn (fun vs H Q E h => ?_) (fun cdv A outer s H vs Q E hr h => ?_)
  · obtain ⟨x, rfl, _⟩ := h
    rfl
  · obtain ⟨x, rfl, en, k⟩ := h
    refine ⟨_, (pss_one (ps_ret (DC2.pe_dc2 (own := [("name", 1), ("makers", 2), ("maker", 3), ("fields", 4)]) (vs2 := [3, 4]) (g := gTup K 2 (gCons (gName 1) (gCons (gName 2) gNil))) (g2 := gTup K 2 (gCons (gName 3) (gCons (gName 4) gNil))) (tt := tYes) (tt2 := tYes) (wi2 := iTup K (tVar 2)) (by rfl) cMn.nd (pi_tup (pv 0)) (blkOk_by (own := [("name", 1), ("makers", 2), ("maker", 3), ("fields", 4)]) (N := ["kinds", "name", "makers", "maker", "fields"]) (sc := defScope sMn) (by decide +kernel)) (by decide) (fun _ _ _ _ _ => (pg_tup (by rfl) (pgs_cons (pg_name (i := 1) cMn.nd rfl (Or.inl rfl)) (pgs_cons (pg_name (i := 2) cMn.nd rfl (Or.inl rfl)) pgs_nil)))) (fun _ _ _ _ _ => pts_nil) (fun _ _ _ _ _ => (pi_tup (pv 2))) (fun _ _ _ _ _ => (pg_tup (by rfl) (pgs_cons (pg_name (i := 3) cMn.nd rfl (Or.inl rfl)) (pgs_cons (pg_name (i := 4) cMn.nd rfl (Or.inl rfl)) pgs_nil)))) (fun _ _ _ _ _ => pts_nil) (fun _ _ _ _ _ => (pv 3)) (fun _ _ _ _ _ => (pe_tup (pa_cons (pv 1) (pa_cons (pv 4) pa_nil))))))), ?_⟩
    cases en with
    | @tup a xs _ ha es =>
    cases es
    refine ⟨_, rfl, a, rfl, ⟨_, SqT.of ha⟩, fun D hD => ?_⟩
    refine ⟨fun i m H' => i = 0 ∧ H' = L2.upd H D (.dK []), ⟨0, rfl, rfl⟩, fun i m H' hw => .inl ⟨⟨[], ?_, Nat.zero_le _⟩, ?_⟩⟩
    · rw [hw.2]
      exact SqT.of ((Grow.new hD).tup ha)
    · rw [hw.2]
      exact k D hD
def spKf : Sp := fun vs H Q _ => ∃ (x : V), vs = [x] ∧ Enc H (.tup []) x ∧ ∀ H', Grow H H' → Q .non H'
theorem ok_kf {f : Addr} {fd : FuncData} {tW : Tok} (F : Fun K "kinds_fault" "kinds_fault" sKf f fd) (hW : mg "WHOLE" = some (.str "whole" tW)) (hEn : mg "enumerate" = none) : FnOk P w K mg base CX0 1 f fd ["kinds"] spKf := by
  refine F.ok (k := 0) cKf (fun vs H Q E h => ?_) (fun cdv A outer s H vs Q E hr h => ?_)
  · obtain ⟨x, rfl, _⟩ := h
    rfl
  · obtain ⟨x, rfl, en, k⟩ := h
    refine ⟨_, (pss_cons (ps_set (i := 1) cKf.nd rfl (Or.inr rfl) (pe_op op_cat (pe_lst (pa_cons (pe_glob (v := .str "whole") (by rfl) hW ⟨_, rfl⟩) pa_nil)) (pe_lc (own := [("name", 2), ("_", 3)]) (g := gTup K 2 (gCons (gName 2) (gCons (gName 3) gNil))) (tt := tYes) (by rfl) cKf.nd (pi_tup (pv 0)) (blkOk_by (own := [("name", 2), ("_", 3)]) (N := ["kinds", "known", "name", "_", "makers_ahead", "at", "makers", "maker", "fields", "field"]) (sc := defScope sKf) (by decide +kernel)) (fun _ _ _ _ _ => (pg_tup (by rfl) (pgs_cons (pg_name (i := 2) cKf.nd rfl (Or.inl rfl)) (pgs_cons (pg_name (i := 3) cKf.nd rfl (Or.inl rfl)) pgs_nil)))) (fun _ _ _ _ _ => pts_nil) (fun _ _ _ _ _ => (pv 2))))) (pss_cons (ps_set (i := 4) cKf.nd rfl (Or.inl rfl) pe_dnewK) (pss_cons (ps_for PassesOwn.never rfl (ET.pi_enumT (by rfl) hEn (pa_cons (pv 0) pa_nil)) (pg_tup (by rfl) (pgs_cons (pg_name (i := 5) cKf.nd rfl (Or.inl rfl)) (pgs_cons (pg_tup (by rfl) (pgs_cons (pg_name (i := 2) cKf.nd rfl (Or.inl rfl)) (pgs_cons (pg_name (i := 6) cKf.nd rfl (Or.inl rfl)) pgs_nil))) pgs_nil))) pss_no) (pss_one (ps_ret pe_non))))), ?_⟩
    cases en with
    | @tup a xs _ ha es =>
    cases es
    refine ⟨(by show 1 ≤ sizeLine; decide), fun l hl => ⟨_, rfl, a, rfl, ⟨_, SqT.of ((Grow.new hl).tup ha)⟩, fun D hD => ?_⟩⟩
    refine lc_tup (K := K) (xs := []) (fun i Hc => Hc D = some (.lst []) ∧ Hc l = some (.lst [.str "whole"]) ∧ Grow H Hc) ⟨upd_same, (Grow.new hD).lst upd_same, (Grow.new hl).trans (Grow.new hD)⟩ (fun i Hc _ hp => SqT.of (hp.2.2.tup ha)) (fun i z Hc hz _ => by cases hz) (fun H1 hp => ?_)
    obtain ⟨h1, h2, g⟩ := hp
    refine ⟨l, D, _, _, rfl, rfl, h2, h1, (by show 1 + 0 ≤ sizeLine; decide), fun p hp d hd => ?_⟩
    have g3 := (g.trans (Grow.new hp (o := .lst ([.str "whole"] ++ [])))).trans (Grow.new hd (o := .dK []))
    refine ⟨_, rfl, a, [], rfl, SqT.of (g3.tup ha), ?_⟩
    exact ⟨fun i m σ' Hc => i = 0 ∧ Grow H Hc, ⟨0, rfl, g3⟩, fun i m σ' Hc hw => .inl ⟨⟨[], SqT.of (hw.2.tup ha), hw.1.symm⟩, k Hc hw.2⟩⟩
end
end J1
set_option Elab.async false
set_option linter.all false
set_option maxRecDepth 100000
set_option maxHeartbeats 4000000
namespace J1
open PySem PySem.Spec PyProof.Rows L2
section
variable {X : Cx}
theorem swd_true {kx vx : Expr} {gs : List Comprehension} {scope : Scope} {pos py : Pos} {y : Str} {l : Nat} {env : Env} (hk : env.scope.kind = .function) (hy : env.scope.names.lookup y = some .local) (hl : (py.line == pos.line) = true)
    (ha : (scope.names.any fun (n, k) => n == y && (k == .local || k == .cell)) = false) : swapsWith (.DictComp kx vx gs scope pos) (some (.Name y py)) l env = pure true := by
  have ky : env.kindOf y = some .local := hy
  have hb : env.blockKind = .function := by unfold Env.blockKind; rw [hk]; rfl
  unfold swapsWith
  simp only [hb, ky, ha, Expr.pos, hl]
  rfl
/-- name = {.. for ..} on one line, the name a local -/
theorem ps_setDc {i : Nat} {y : Str} {py : Pos} {kx vx tg iter : Expr} {ifs : List Expr} {scope : Scope} {own : List (Str × Nat)} {pos spos : Pos} {wi : TI} {g : TG} {tt : TT} {tk tv : TE} (hc : X.calm = true) (hN : X.N.Nodup) (hy : X.N[i]? = some y) (hyl : X.env.scope.names.lookup y = some .local)
    (hsw : swapsWith (.DictComp kx vx [⟨tg, iter, ifs, 0⟩] scope pos) (some (.Name y py)) spos.line X.env = pure true) (hi : PI X tg iter wi) (ok : BlkOk X.N X.env.scope scope own)
    (hg : ∀ (s : Shared) (H : Hp) (C : Addr) (cl : List (Str × Addr)) (fp : List Addr), PG (X.blk s H scope (compEnvC scope cl C X.env) fp) tg g) (ht : ∀ (s : Shared) (H : Hp) (C : Addr) (cl : List (Str × Addr)) (fp : List Addr), PTs (X.blk s H scope (compEnvC scope cl C X.env) fp) ifs tt)
    (hk : ∀ (s : Shared) (H : Hp) (C : Addr) (cl : List (Str × Addr)) (fp : List Addr), PE (X.blk s H scope (compEnvC scope cl C X.env) fp) kx tk)
    (he : ∀ (s : Shared) (H : Hp) (C : Addr) (cl : List (Str × Addr)) (fp : List Addr), PE (X.blk s H scope (compEnvC scope cl C X.env) fp) vx tv) (hs : ∀ x, foldedSetIterable iter X.env x = pure x := by intro _; rfl) :
    PS X (.Assign [.Name y py] (.DictComp kx vx [⟨tg, iter, ifs, 0⟩] scope pos) spos) (tAsg (tDc wi g tt tk tv (own.map (·.2))) (gName i)) := by
  refine ⟨fun pins s σ H D I h => ?_⟩
  rw [exec_Assign_Name_used _ _ _ _ hsw]
  refine wpAny_bind (wpAny_standAt (wpAny_bind ?_))
  show wpAny _ X.A (do let _ ← comprehension (.DictComp kx vx [⟨tg, iter, ifs, 0⟩] scope pos) scope X.env (firstIterPos [⟨tg, iter, ifs, 0⟩] pos) newDict false (eval iter X.env) (some (assign (.Name y py) X.env))) _ _ s
  have h : tDc wi g tt tk tv (own.map (·.2)) σ H (fun x H1 => gName i x σ H1 D.nx) := h
  refine wpAny_bind (thn (dc_core (Qf := fun _ s' => SP X pins D .next s') hc hN I hi ok hg ht hk he hs h fun L C s' m H' I' q hn f => ?_) fun _ s' hq => wpAny_pure (wpAny_pure hq))
  show wpAny _ _ (assign (.Name y py) X.env (.ref L)) _ _ _
  refine wpAny_assign_Name (store_ok2 (v := V.ref L) I' hN hy (.inl hyl) rfl (fun s2 I2 ⟨a, sb, ha⟩ => ?_) (.inr hyl))
  obtain ⟨f0, f1, f2, f3, f4, f5⟩ := f
  have haC : C ≠ a := by
    rcases ha with z | z
    · rw [z]; exact f1
    · exact fun e => f4 y a z e.symm
  refine ⟨m, hn.sameBut sb haC, fun h3 sb3 => ?_⟩
  exact ⟨_, H', I2.turned (t' := s2.toks) (fun b o hb e => (sb3.2 b hb).trans e) f0 f1 f3 f4 f5, q⟩
end
end J1
set_option Elab.async false
set_option linter.all false
set_option maxRecDepth 100000
set_option maxHeartbeats 4000000
namespace J1
open PySem PySem.Spec PyProof.Rows L2 GxR GA
theorem grow_but {H H1 : Hp} {d : Addr} {o : HO} (g : Grow H H1) (nd : H d = none) : Grow H (L2.upd H1 d o) := fun b u h => by
  have hb : b ≠ d := fun z => by rw [z, nd] at h; cases h
  rcases g b u h with q | ⟨q1, ps, q2, q3⟩
  · exact .inl (by rw [upd_ne hb]; exact q)
  · exact .inr ⟨q1, ps, by rw [upd_ne hb]; exact q2, q3⟩
abbrev sHdf : Stmt := top 104
theorem cHdf : FnScope ["kinds", "params", "result", "ahead", "param", "kind"] ["kinds", "params", "result"] (defScope sHdf) := ⟨rfl, rfl, rfl, by decide +kernel, rfl, by decide +kernel, by decide +kernel⟩
def spHdf : Sp := fun vs H Q _ => ∃ (L p : Addr), vs = [.ref L, .ref p, .str "whole"] ∧ H L = some (.lst [.str "whole"]) ∧ H p = some (.tup []) ∧ ∀ H', Grow H H' → Q .non H'
abbrev sChh : Stmt := top 103
theorem cChh : FnScope ["kinds", "functions", "names", "name", "params", "result", "_", "word"] ["kinds", "functions"] (defScope sChh) := ⟨rfl, rfl, rfl, by decide +kernel, rfl, by decide +kernel, by decide +kernel⟩
def spChh : Sp := fun vs H Q _ => ∃ (L f q p : Addr) (n : Str) (b : V), vs = [.ref L, .ref f] ∧ H L = some (.lst [.str "whole"]) ∧ H f = some (.tup [.ref q]) ∧ H q = some (.tup [.str n, .ref p, .str "whole", b]) ∧ H p = some (.tup []) ∧ ∀ H', Grow H H' → Q .non H'
abbrev sBin : Stmt := inClass (top 105) 0
theorem cBin : FnScope ["self", "kinds", "heads", "name", "result"] ["self", "kinds", "heads", "name", "result"] (defScope sBin) := ⟨rfl, rfl, rfl, by decide +kernel, rfl, by decide +kernel, by decide +kernel⟩
def bcF (d1 d2 hd : Addr) (n : Str) : List (Str × V) := [("kinds", .ref d1), ("makers", .ref d2), ("heads", .ref hd), ("name", .str n), ("result", .str "whole")]
def spBin (C : Addr) : Sp := fun vs H Q _ => ∃ (a dx hd : Addr) (xk : V) (n : Str), vs = [.ref a, xk, .ref hd, .str n, .str "whole"] ∧ H a = some (.ins C dx []) ∧ Enc H (.tup []) xk ∧ ∀ d1 d2 H', H' a = some (.ins C dx (bcF d1 d2 hd n)) → GrowW a H H' → Q .non H'
section
variable {P : Program} {w : World} {K : PySem.W.Frag} {mg : Str → Option Value} {base : Heap}
theorem ok_hdf {f : Addr} {fd : FuncData} (F : Fun K "_head_fault" "_head_fault" sHdf f fd) : FnOk P w K mg base CX0 1 f fd ["kinds", "params", "result"] spHdf := by
  refine F.ok (k := 0) cHdf (fun vs H Q E h => ?_) (fun cdv A outer s H vs Q E hr h => ?_)
  · obtain ⟨_, _, rfl, _⟩ := h
    rfl
  · obtain ⟨L, p, rfl, hL, hp, k⟩ := h
    refine ⟨_, (pss_cons (ps_set (i := 3) cHdf.nd rfl (Or.inl rfl) pe_dnewK) (pss_cons (ps_for PassesOwn.never rfl (pi_tup (pv 1)) (pg_tup (by rfl) (pgs_cons (pg_name (i := 4) cHdf.nd rfl (Or.inl rfl)) (pgs_cons (pg_name (i := 5) cHdf.nd rfl (Or.inl rfl)) pgs_nil))) pss_no) (pss_one (ps_ret (pe_ifExp (pt_cmpR op_in_seq (pv 2) (pv 0) (by rfl)) pe_non pe_str))))), ?_⟩
    refine fun d hd => ?_
    have g := Grow.new (o := .dK []) hd
    refine ⟨_, rfl, p, rfl, ⟨_, SqT.of (g.tup' hp)⟩, ?_⟩
    refine ⟨fun i m σ' Hc => i = 0 ∧ Hc = L2.upd H d (.dK []) ∧ σ' = [some (.ref L), some (.ref p), some (.str "whole"), some (.ref d), none, none], ⟨0, rfl, rfl, rfl⟩, fun i m σ' Hc hw => .inl ⟨⟨[], ?_, Nat.zero_le _⟩, ?_⟩⟩
    · rw [hw.2.1]
      exact SqT.of (g.tup' hp)
    · obtain ⟨_, rfl, rfl⟩ := hw
      refine ⟨_, rfl, _, rfl, L, _, rfl, .inl (SqL.of (g.lst hL)), rfl, rfl, _, rfl, iteT (k _ g)⟩
theorem ok_chh {f fH : Addr} {fd fdH : FuncData} (F : Fun K "_check_heads" "_check_heads" sChh f fd)
    (GH : FnOk P w K mg base CX0 1 fH fdH ["kinds", "params", "result"] spHdf) (DH : Df K mg "_head_fault" ["kinds", "params", "result"] fH fdH) : FnOk P w K mg base CX0 2 f fd ["kinds", "functions"] spChh := by
  refine F.ok (k := 1) cChh (fun vs H Q E h => ?_) (fun cdv A outer s H vs Q E hr h => ?_)
  · obtain ⟨_, _, _, _, _, _, rfl, _⟩ := h
    rfl
  · obtain ⟨L, fa, q, p, n, b, rfl, hL, hf, hq, hp, k⟩ := h
    have hu := hu_of hr
    refine ⟨_, (pss_cons (ps_set (i := 2) cChh.nd rfl (Or.inl rfl) pe_dnewK) (pss_one (ps_for PassesOwn.never rfl (pi_tup (pv 1)) (pg_tup (by rfl) (pgs_cons (pg_name (i := 3) cChh.nd rfl (Or.inl rfl)) (pgs_cons (pg_name (i := 4) cChh.nd rfl (Or.inl rfl)) (pgs_cons (pg_name (i := 5) cChh.nd rfl (Or.inl rfl)) (pgs_cons (pg_name (i := 6) cChh.nd rfl (Or.inl rfl)) pgs_nil))))) (pss_cons (ps_set (i := 7) cChh.nd rfl (Or.inl rfl) (pe_ifExp (pt_cmp (pc_din hu (pv 3) (pv 2))) pe_str (pe_call GH hr (by rfl) DH.g DH.k DH.b .nil pass0 (pa_cons (pv 0) (pa_cons (pv 4) (pa_cons (pv 5) pa_nil)))))) (pss_cons (ps_if (pt_cmpR op_notN (pv 7) pe_non (nomark _)) (pss_one ps_no) pss_nil) (pss_one (ps_dput hu (pv 2) (pv 3) pe_bl rfl))))))), ?_⟩
    refine fun d hd => ?_
    have g := Grow.new (o := .dK []) hd
    refine ⟨_, rfl, fa, rfl, ⟨_, SqT.of (g.tup' hf)⟩, ?_⟩
    refine for_tup (K := K) (xs := [.ref q]) (fun i σ' Hc => Grow H Hc ∧ ∃ v3 v4 v5 v6 v7 kvs, σ' = [some (.ref L), some (.ref fa), some (.ref d), v3, v4, v5, v6, v7] ∧ Hc d = some (.dK kvs) ∧ (i = 0 → kvs = []) ∧ kvs.length ≤ i)
      ⟨g, _, _, _, _, _, _, rfl, upd_same, fun _ => rfl, Nat.le_refl _⟩ (fun i σ' Hc hi hp => ?_) (fun i z σ' Hc hz hp => ?_) (fun σ' Hc hp => ?_)
    · exact SqT.of (hp.1.tup' hf)
    · obtain ⟨gc, v3, v4, v5, v6, v7, kvs, rfl, hd', h0, hl⟩ := hp
      cases i with
      | succ j =>
        rw [List.getElem?_cons_succ] at hz
        cases hz
      | zero =>
        cases hz
        obtain rfl := h0 rfl
        have dg : DGet Hc d (.str n) none := DGet.k (k := (Sum.inr n : Key)) hd'
        refine ⟨q, _, rfl, SqT.of (gc.tup' hq), rfl, _, _, rfl, _, _, rfl, _, _, rfl, _, _, rfl, rfl, ?_⟩
        refine ⟨_, rfl, _, rfl, d, none, rfl, dg, _, rfl, iteF ⟨_, rfl, _, rfl, _, rfl, L, p, rfl, gc.lst hL, gc.tup' hp, fun H' g' => ?_⟩⟩
        refine ⟨_, rfl, rfl, _, rfl, ite2 (fun e => absurd e (by decide +kernel)) (fun _ => ?_)⟩
        refine ⟨_, rfl, _, rfl, d, _, rfl, DPut.k (k := (Sum.inr n : Key)) (g'.dk hd') (by show 0 < sizeLine; decide), ?_⟩
        exact ⟨grow_but (gc.trans g') hd, _, _, _, _, _, _, rfl, upd_same, fun z => (nomatch z), (by show 1 ≤ 1; decide)⟩
    · exact k _ hp.1
theorem ok_bin {f C fK fN : Addr} {fd fdK fdN : FuncData} (F : Fun K "__init__" "BodyChecker.__init__" sBin f fd) (T : TxB K mg C)
    (GK : FnOk P w K mg base CX0 1 fK fdK ["kinds"] spMk) (DK : Df K mg "makers_by_kind" ["kinds"] fK fdK)
    (GN : FnOk P w K mg base CX0 1 fN fdN ["kinds"] spMk) (DN : Df K mg "makers_by_name" ["kinds"] fN fdN) : FnOk P w K mg base CX0 2 f fd ["self", "kinds", "heads", "name", "result"] (spBin C) := by
  refine F.ok (k := 1) cBin (fun vs H Q E h => ?_) (fun cdv A outer s H vs Q E hr h => ?_)
  · obtain ⟨_, _, _, _, _, rfl, _⟩ := h
    rfl
  · obtain ⟨a, dx, hd, xk, n, rfl, ha, en, k⟩ := h
    refine ⟨_, (pss_cons (ps_fld (pv 0) (pe_call (GK.mono (by decide)) hr (by rfl) DK.g DK.k DK.b .nil pass0 (pa_cons (pv 1) pa_nil)) rfl) (pss_cons (ps_fld (pv 0) (pe_call (GN.mono (by decide)) hr (by rfl) DN.g DN.k DN.b .nil pass0 (pa_cons (pv 1) pa_nil)) rfl) (pss_cons (ps_fld (pv 0) (pv 2) rfl) (pss_cons (ps_fld (pv 0) (pv 3) rfl) (pss_one (ps_fld (pv 0) (pv 4) rfl)))))), ?_⟩
    refine ⟨_, rfl, xk, rfl, en, fun d1 n1 => ?_⟩
    have g1 := Grow.new (o := .dK []) n1
    refine ⟨_, rfl, a, C, dx, [], rfl, g1.ins ha, T.cl, T.n1, (by show 0 < 1000; decide), ?_⟩
    have w1 := g1.w.trans' (GrowW.upd (w := a) (o := .ins C dx (putF "kinds" (.ref d1) [])))
    have h1 : L2.upd (L2.upd H d1 (.dK [])) a (.ins C dx (putF "kinds" (.ref d1) [])) a = some (.ins C dx [("kinds", .ref d1)]) := upd_same
    generalize L2.upd (L2.upd H d1 (.dK [])) a (.ins C dx (putF "kinds" (.ref d1) [])) = H2 at w1 h1 ⊢
    have en2 : Enc H2 (.tup []) xk := by
      cases en with
      | @tup b xs _ hb es =>
        cases es
        refine .tup ?_ .nil
        rcases w1 b _ (fun z => by rw [z, ha] at hb; cases hb) hb with q | ⟨⟨_, q⟩, _⟩
        · exact q
        · cases q
    refine ⟨_, rfl, xk, rfl, en2, fun d2 n2 => ?_⟩
    have g2 := Grow.new (o := .dK []) n2
    refine ⟨_, rfl, a, C, dx, _, rfl, g2.ins h1, T.cl, T.n2, (by show 1 < 1000; decide), ?_⟩
    refine ⟨_, rfl, _, rfl, a, C, dx, _, rfl, upd_same, T.cl, T.n3, (by show 2 < 1000; decide), ?_⟩
    refine ⟨_, rfl, _, rfl, a, C, dx, _, rfl, upd_same, T.cl, T.n4, (by show 3 < 1000; decide), ?_⟩
    refine ⟨_, rfl, _, rfl, a, C, dx, _, rfl, upd_same, T.cl, T.n5, (by show 4 < 1000; decide), ?_⟩
    exact k d1 d2 _ upd_same (((((w1.trans' g2.w).trans' GrowW.upd).trans' GrowW.upd).trans' GrowW.upd).trans' GrowW.upd)
end
end J1
set_option Elab.async false
set_option linter.all false
set_option maxRecDepth 100000
set_option maxHeartbeats 4000000
namespace J1
open PySem PySem.Spec PyProof.Rows L2 GxR GA
def numD : Da := .tup [.str "num", .int 1]
def callD (n : Str) : Da := .tup [.str "call", .str n, .tup [numD]]
def giveD (n : Str) : Da := .tup [.str "give", callD n]
def funD (n : Str) : Da := .tup [.str n, .tup [], .str "whole", giveD n]
def prgD (n : Str) : Da := .tup [.tup [], .tup [funD n]]
theorem in1 (c : Da) : innerP (.tup [.str "give", c]) true = some (0, [c], []) := by rfl
theorem in3 : innerP numD false = some (0, [], []) := by rfl
theorem in2 {n : Str} (h : isLow (.str n) = true) : innerP (callD n) false = some (0, [numD], []) := by
  have q : termL "call" [.str "call", .str n, .tup [numD]] = some [numD] := by
    have f1 : k1 "call" [.str "call", .str n, .tup [numD]] = false := rfl
    have f2 : k2 "call" [.str "call", .str n, .tup [numD]] = false := rfl
    have f3 : k3 "call" [.str "call", .str n, .tup [numD]] = false := rfl
    have f4 : k4 "call" [.str "call", .str n, .tup [numD]] = false := rfl
    have f5 : k5 "call" [.str "call", .str n, .tup [numD]] = false := rfl
    unfold termL
    rw [f1, f2, f3, f4, f5]
    have e : k6 "call" [.str "call", .str n, .tup [numD]] = isLow (.str n) := by
      show (true && (true && (isLow (.str n) && true))) = _
      rw [Bool.true_and, Bool.true_and, Bool.and_true]
    rw [e, h]
    rfl
  show (termL "call" [.str "call", .str n, .tup [numD]]).map (fun l => (0, l, [])) = _
  rw [q]
  rfl
theorem whole_prg {n : Str} (h : isLow (.str n) = true) : wholeB (giveD n) = true := by
  have i1 := in1 (callD n)
  have i2 := in2 h
  have i3 := in3
  unfold wholeB giveD
  unfold runW
  show (match innerP (.tup [.str "give", callD n]) true with | none => false | some (nm, ts, bs) => if 100 < 0 + (1 + nm) ∨ 30 < 1 then false else runW 101 ([].reverse ++ next 1 ts bs) (0 + (1 + nm))) = true
  rw [i1]
  show runW 101 [(callD n, false, 2)] 1 = true
  unfold runW
  show (match innerP (callD n) false with | none => false | some (nm, ts, bs) => if 100 < 1 + (1 + nm) ∨ 30 < 2 then false else runW 100 ([].reverse ++ next 2 ts bs) (1 + (1 + nm))) = true
  rw [i2]
  show runW 100 [(numD, false, 3)] 2 = true
  decide +kernel
theorem prg_ok {n : Str} (h : isLow (.str n) = true) : isProg (prgD n) = true := by
  have e : isProg (prgD n) = (isLow (.str n) && wholeB (giveD n)) := by
    show (areKinds (.tup []) && (isTu 0 12 (.tup [funD n]) && partsAll isFunc (.tup [funD n]))) = _
    have e1 : areKinds (.tup []) = true := by decide +kernel
    have e2 : isTu 0 12 (.tup [funD n]) = true := rfl
    have e3 : partsAll isFunc (.tup [funD n]) = isFunc (funD n) := by
      show [funD n].all isFunc = _
      simp
    have e4 : isFunc (funD n) = (isLow (.str n) && (isTu 0 6 (.tup []) && (isKin (.str "whole") && (partsAll isParam (.tup []) && wholeB (giveD n))))) := rfl
    have e5 : isTu 0 6 (.tup []) = true := rfl
    have e6 : isKin (.str "whole") = true := by decide +kernel
    have e7 : partsAll isParam (.tup []) = true := rfl
    rw [e1, e2, e3, e4, e5, e6, e7]
    rfl
  rw [e, h, whole_prg h]
  rfl
end J1
set_option Elab.async false
set_option linter.all false
set_option maxRecDepth 100000
set_option maxHeartbeats 4000000
namespace J1
open PySem PySem.Spec PyProof.Rows L2 GxR GA
theorem wipe_put {σ : L2.St} {vs : List Nat} {i : Nat} {x : Option V} (h : i ∈ vs) : wipe (σ.set i x) vs = wipe σ vs := by
  refine List.ext_getElem? fun j => ?_
  by_cases q : j ∈ vs
  · rw [DC2.wipe_in q, DC2.wipe_in q, List.length_set]
  · rw [wipe_out q, wipe_out q, List.getElem?_set_ne]
    intro z
    rw [z] at h
    exact q h
theorem wipe_again {σ : L2.St} {vs : List Nat} : wipe (wipe σ vs) vs = wipe σ vs := DC2.wipe_wipe fun _ h => h
/-- the program of one function that calls itself with an argument too many, held at q0 -/
structure PrgA (H : Hp) (n : Str) (q0 pk pf q1 q2 q3 q4 q5 q6 : Addr) : Prop where
  a0 : H q0 = some (.tup [.ref pk, .ref pf])
  ak : H pk = some (.tup [])
  af : H pf = some (.tup [.ref q1])
  a1 : H q1 = some (.tup [.str n, .ref q2, .str "whole", .ref q3])
  a2 : H q2 = some (.tup [])
  a3 : H q3 = some (.tup [.str "give", .ref q4])
  a4 : H q4 = some (.tup [.str "call", .str n, .ref q5])
  a5 : H q5 = some (.tup [.ref q6])
  a6 : H q6 = some (.tup [.str "num", .int 1])
theorem PrgA.grow {H H' : Hp} {n : Str} {q0 pk pf q1 q2 q3 q4 q5 q6 : Addr} (h : PrgA H n q0 pk pf q1 q2 q3 q4 q5 q6) (g : Grow H H') : PrgA H' n q0 pk pf q1 q2 q3 q4 q5 q6 :=
  ⟨g.tup' h.a0, g.tup' h.ak, g.tup' h.af, g.tup' h.a1, g.tup' h.a2, g.tup' h.a3, g.tup' h.a4, g.tup' h.a5, g.tup' h.a6⟩
theorem sok_k {y : Str} (h : (decide (y.length ≤ 10000) && y.cps.toList.all fun c => decide (c < 1114112)) = true) : SOk y := by
  rw [Bool.and_eq_true, List.all_eq_true] at h
  exact ⟨of_decide_eq_true h.1, fun c hc => of_decide_eq_true (h.2 c hc)⟩
theorem PrgA.enc {H : Hp} {n : Str} {q0 pk pf q1 q2 q3 q4 q5 q6 : Addr} (h : PrgA H n q0 pk pf q1 q2 q3 q4 q5 q6) (hn : SOk n) : Enc H (prgD n) (.ref q0) := by
  have e6 : Enc H numD (.ref q6) := .tup h.a6 (.cons (.str _ (sok_k (by decide +kernel))) (.cons (.int 1) .nil))
  have e4 : Enc H (callD n) (.ref q4) := .tup h.a4 (.cons (.str _ (sok_k (by decide +kernel))) (.cons (.str _ hn) (.cons (.tup h.a5 (.cons e6 .nil)) .nil)))
  have e3 : Enc H (giveD n) (.ref q3) := .tup h.a3 (.cons (.str _ (sok_k (by decide +kernel))) (.cons e4 .nil))
  have e1 : Enc H (funD n) (.ref q1) := .tup h.a1 (.cons (.str _ hn) (.cons (.tup h.a2 .nil) (.cons (.str _ (sok_k (by decide +kernel))) (.cons e3 .nil))))
  exact .tup h.a0 (.cons (.tup h.ak .nil) (.cons (.tup h.af (.cons e1 .nil)) .nil))
theorem sok2_of {n : Str} (h1 : isNamS n = true) (h2 : SOk n) : SOk2 n := by
  refine ⟨?_, fun c hc => Nat.lt_trans (h2.ok c hc) (by decide)⟩
  unfold isNamS at h1
  rw [Bool.and_eq_true, Bool.and_eq_true] at h1
  have := of_decide_eq_true h1.2.1
  omega
abbrev sChk : Stmt := top 102
theorem cChk : FnScope ["program", "kinds", "functions", "word", "name", "_", "heads", "params", "result", "kind", "body", "checker", "param"] ["program"] (defScope sChk) := ⟨rfl, rfl, rfl, by decide +kernel, rfl, by decide +kernel, by decide +kernel⟩
def spChk (T : Hp → Prop) (D : Addr) : Sp := fun vs H _ E => ∃ (n : Str) (q0 pk pf q1 q2 q3 q4 q5 q6 : Addr), vs = [.ref q0] ∧ PrgA H n q0 pk pf q1 q2 q3 q4 q5 q6 ∧ isLow (.str n) = true ∧ isNamS n = true ∧ SOk n ∧ T H ∧ CntE D "count" n H E
section
variable {P : Program} {w : World} {K : PySem.W.Frag} {mg : Str → Option Value} {base : Heap}
theorem ok_chk {f fP fF fH fI fB D C : Addr} {fd fdP fdF fdH fdI fdB : FuncData} {T : Hp → Prop} {tW : Tok} (F : Fun K "checked" "checked" sChk f fd) (N : Gn K mg) (hW : mg "WHOLE" = some (.str "whole" tW)) (st : Stays T) (TB : TxB K mg C)
    (GP : FnOk P w K mg base CX0 11 fP fdP ["thing"] (spG T isProg)) (DP : Df K mg "is_program" ["thing"] fP fdP)
    (GF : FnOk P w K mg base CX0 1 fF fdF ["kinds"] spKf) (DF : Df K mg "kinds_fault" ["kinds"] fF fdF)
    (GH : FnOk P w K mg base CX0 2 fH fdH ["kinds", "functions"] spChh) (DH : Df K mg "_check_heads" ["kinds", "functions"] fH fdH)
    (GI : FnOk P w K mg base CX0 2 fI fdI ["self", "kinds", "heads", "name", "result"] (spBin C)) (MI : Mk K C fI) (DI : Binds K fdI ["self", "kinds", "heads", "name", "result"] [])
    (GB : FnOk P w K mg base (L2.CX P w) 7 fB fdB ["self", "body", "reach"] (spBod D C)) (MB : Meth K C "body" fB) (DB : Binds K fdB ["self", "body", "reach"] []) :
    FnOk P w K mg base (L2.CX P w) 12 f fd ["program"] (spChk T D) := by
  refine F.okX (k := 11) cChk (fun vs H Q E h => ?_) (fun cdv A outer s H vs Q E hr h => ?_)
  · obtain ⟨_, _, _, _, _, _, _, _, _, _, rfl, _⟩ := h
    rfl
  · obtain ⟨n, q0, pk, pf, q1, q2, q3, q4, q5, q6, rfl, A, hl, hn, sn, hT, kE⟩ := h
    have T := TB
    refine ⟨_, (pss_cons (ps_if (pt_not (pt_val (pe_call (GP.mono (by decide)) hr (by rfl) DP.g DP.k DP.b .nil pass0 (pa_cons (pv 0) pa_nil)))) (pss_one ps_no) pss_nil) (pss_cons (ps_asg (pv 0) (pg_tup (by rfl) (pgs_cons (pg_name (i := 1) cChk.nd rfl (Or.inl rfl)) (pgs_cons (pg_name (i := 2) cChk.nd rfl (Or.inl rfl)) pgs_nil)))) (pss_cons (ps_set (i := 3) cChk.nd rfl (Or.inl rfl) (pe_call (GF.mono (by decide)) hr (by rfl) DF.g DF.k DF.b .nil pass0 (pa_cons (pv 1) pa_nil))) (pss_cons (ps_if (pt_cmpR op_notN (pv 3) pe_non (nomark _)) (pss_one ps_no) pss_nil) (pss_cons (ps_expr (pe_call (GH.mono (by decide)) hr (by rfl) DH.g DH.k DH.b .nil pass0 (pa_cons (pe_op op_cat (pe_lst (pa_cons (pe_glob (v := .str "whole") (by rfl) hW ⟨_, rfl⟩) pa_nil)) (pe_lc (own := [("name", 4), ("_", 5)]) (g := gTup K 2 (gCons (gName 4) (gCons (gName 5) gNil))) (tt := tYes) (by rfl) cChk.nd (pi_tup (pv 1)) (blkOk_by (own := [("name", 4), ("_", 5)]) (N := ["program", "kinds", "functions", "word", "name", "_", "heads", "params", "result", "kind", "body", "checker", "param"]) (sc := defScope sChk) (by decide +kernel)) (fun _ _ _ _ _ => (pg_tup (by rfl) (pgs_cons (pg_name (i := 4) cChk.nd rfl (Or.inl rfl)) (pgs_cons (pg_name (i := 5) cChk.nd rfl (Or.inl rfl)) pgs_nil)))) (fun _ _ _ _ _ => pts_nil) (fun _ _ _ _ _ => (pv 4)))) (pa_cons (pv 2) pa_nil)))) (pss_cons (ps_setDc (i := 6) (own := [("name", 4), ("_", 5), ("params", 7), ("result", 8)]) (g := gTup K 4 (gCons (gName 4) (gCons (gName 7) (gCons (gName 8) (gCons (gName 5) gNil))))) (tt := tYes) (by rfl) cChk.nd rfl rfl (swd_true rfl rfl rfl (by decide +kernel)) (pi_tup (pv 2)) (blkOk_by (own := [("name", 4), ("_", 5), ("params", 7), ("result", 8)]) (N := ["program", "kinds", "functions", "word", "name", "_", "heads", "params", "result", "kind", "body", "checker", "param"]) (sc := defScope sChk) (by decide +kernel)) (fun _ _ _ _ _ => (pg_tup (by rfl) (pgs_cons (pg_name (i := 4) cChk.nd rfl (Or.inl rfl)) (pgs_cons (pg_name (i := 7) cChk.nd rfl (Or.inl rfl)) (pgs_cons (pg_name (i := 8) cChk.nd rfl (Or.inl rfl)) (pgs_cons (pg_name (i := 5) cChk.nd rfl (Or.inl rfl)) pgs_nil)))))) (fun _ _ _ _ _ => pts_nil) (fun _ _ _ _ _ => (pv 4)) (fun _ _ _ _ _ => (pe_tup (pa_cons (by exact (pe_lc (own := [("_", 5), ("kind", 9)]) (wi := iTup K (tVar 7)) (g := gTup K 2 (gCons (gName 5) (gCons (gName 9) gNil))) (tt := tYes) (by rfl) cChk.nd (pi_tup (pv 7)) (blkOk_by (own := [("_", 5), ("kind", 9)]) (N := ["program", "kinds", "functions", "word", "name", "_", "heads", "params", "result", "kind", "body", "checker", "param"]) (sc := { kind := .function, names := [(".0", .local), ("name", .local), ("params", .local), ("result", .local), ("_", .local)], isGenerator := false, isCoroutine := false }) (by decide +kernel)) (fun _ _ _ _ _ => (pg_tup (by rfl) (pgs_cons (pg_name (i := 5) cChk.nd rfl (Or.inl rfl)) (pgs_cons (pg_name (i := 9) cChk.nd rfl (Or.inl rfl)) pgs_nil)))) (fun _ _ _ _ _ => pts_nil) (fun _ _ _ _ _ => (pv 9)))) (pa_cons (pv 8) pa_nil))))) (pss_one (ps_for (passes_of rfl) rfl (pi_tup (pv 2)) (pg_tup (by rfl) (pgs_cons (pg_name (i := 4) cChk.nd rfl (Or.inl rfl)) (pgs_cons (pg_name (i := 7) cChk.nd rfl (Or.inl rfl)) (pgs_cons (pg_name (i := 8) cChk.nd rfl (Or.inl rfl)) (pgs_cons (pg_name (i := 10) cChk.nd rfl (Or.inl rfl)) pgs_nil))))) (pss_cons (ps_set (i := 11) cChk.nd rfl (Or.inl rfl) (pe_make MI GI (hr.mono (by decide)) rfl T.mgC DI .nil pass0 (pa_cons (pv 1) (pa_cons (pv 6) (pa_cons (pv 4) (pa_cons (pv 8) pa_nil)))))) (pss_one (ps_expr (pe_methE (pv 11) T.cl MB (GB.mono (by decide)) hr DB (takes_of rfl rfl rfl rfl) (pa_cons (pv 10) (pa_cons (pe_dc (own := [("kind", 9), ("param", 12)]) (g := gTup K 2 (gCons (gName 12) (gCons (gName 9) gNil))) (tt := tYes) (by rfl) cChk.nd (pi_tup (pv 7)) (blkOk_by (own := [("kind", 9), ("param", 12)]) (N := ["program", "kinds", "functions", "word", "name", "_", "heads", "params", "result", "kind", "body", "checker", "param"]) (sc := defScope sChk) (by decide +kernel)) (fun _ _ _ _ _ => (pg_tup (by rfl) (pgs_cons (pg_name (i := 12) cChk.nd rfl (Or.inl rfl)) (pgs_cons (pg_name (i := 9) cChk.nd rfl (Or.inl rfl)) pgs_nil)))) (fun _ _ _ _ _ => pts_nil) (fun _ _ _ _ _ => (pv 12)) (fun _ _ _ _ _ => (pv 9))) pa_nil)))))))))))))), ?_⟩
    refine ⟨_, rfl, _, prgD n, rfl, A.enc sn, hT, fun H1 g1 => ⟨_, rfl, ?_⟩⟩
    rw [prg_ok hl]
    have A1 := A.grow g1
    refine iteF ⟨_, rfl, q0, _, rfl, SqT.of A1.a0, rfl, _, _, rfl, _, _, rfl, rfl, ?_⟩
    refine ⟨_, rfl, _, rfl, .tup A1.ak .nil, fun H2 g2 => ?_⟩
    have A2 := A1.grow g2
    refine ⟨_, rfl, rfl, _, rfl, ite2 (fun e => absurd e (by decide +kernel)) (fun _ => ?_)⟩
    refine ⟨(by show 1 ≤ sizeLine; decide), fun l hl => ⟨_, rfl, pk, rfl, ⟨_, SqT.of ((Grow.new hl).tup' A2.ak)⟩, fun D1 hD1 => ?_⟩⟩
    refine lc_tup (K := K) (xs := []) (fun i Hc => Hc D1 = some (.lst []) ∧ Hc l = some (.lst [.str "whole"]) ∧ Grow H2 Hc) ⟨upd_same, (Grow.new hD1).lst upd_same, (Grow.new hl).trans (Grow.new hD1)⟩ (fun i Hc _ hp => SqT.of (hp.2.2.tup' A2.ak)) (fun i z Hc hz _ => by cases hz) (fun H3 hp => ?_)
    obtain ⟨h1, h2, g3⟩ := hp
    refine ⟨l, D1, _, _, rfl, rfl, h2, h1, (by show 1 + 0 ≤ sizeLine; decide), fun p hp => ?_⟩
    have gp := Grow.new (o := .lst ([.str "whole"] ++ [])) hp
    have A3 := A2.grow (g3.trans gp)
    refine ⟨_, rfl, p, pf, q1, q2, n, _, rfl, upd_same, A3.af, A3.a1, A3.a2, fun H4 g4 => ?_⟩
    have A4 := A3.grow g4
    refine ⟨_, rfl, pf, rfl, ⟨_, SqT.of A4.af⟩, fun D2 hD2 => ?_⟩
    refine dc_tup (K := K) (xs := [.ref q1]) (fun i Hc => Grow H4 Hc ∧ (i = 0 → Hc D2 = some (.dK [])) ∧ (1 ≤ i → HdsT Hc n D2)) ⟨Grow.new hD2, fun _ => upd_same, fun z => absurd z (by decide)⟩ (fun i Hc _ hp => SqT.of (hp.1.tup' A4.af)) (fun i z Hc hz hp => ?_) (fun H5 hp => ?_)
    · cases i with
      | succ j =>
        rw [List.getElem?_cons_succ] at hz
        cases hz
      | zero =>
        cases hz
        obtain ⟨gc, h0, _⟩ := hp
        have hd2 := h0 rfl
        have A5 := A4.grow gc
        refine ⟨q1, _, rfl, SqT.of A5.a1, rfl, _, _, rfl, _, _, rfl, _, _, rfl, _, _, rfl, rfl, ?_⟩
        refine ⟨(by rw [wipe_put (by decide), wipe_put (by decide), wipe_put (by decide), wipe_put (by decide), wipe_again]), ?_⟩
        refine ⟨_, rfl, _, rfl, q2, rfl, ⟨_, SqT.of A5.a2⟩, fun D3 hD3 => ?_⟩
        refine lc_tup (K := K) (xs := []) (fun i Hx => Hx D3 = some (.lst []) ∧ Grow Hc Hx ∧ Hx D2 = some (.dK [])) ⟨upd_same, Grow.new hD3, (Grow.new hD3).dk hd2⟩ (fun i Hx _ hp => SqT.of (hp.2.1.tup' A5.a2)) (fun i z Hx hz _ => by cases hz) (fun Hx hp => ?_)
        obtain ⟨x1, x2, x3⟩ := hp
        refine ⟨_, rfl, (by show 2 ≤ sizeLine; decide), fun pr hpr => ⟨[], Sum.inr n, rfl, (Grow.new hpr).dk x3, (by show 0 < sizeLine; decide), grow_but ((gc.trans x2).trans (Grow.new hpr)) hD2, fun z => (nomatch z), fun _ => ?_⟩⟩
        have m1 : pr ≠ D2 := fun z => by rw [z, x3] at hpr; cases hpr
        have m2 : D3 ≠ D2 := fun z => by rw [z, hd2] at hD3; cases hD3
        exact ⟨pr, D3, upd_same, (upd_ne m1).trans upd_same, (upd_ne m2).trans ((Grow.new hpr).lst x1)⟩
    obtain ⟨g5, _, hds⟩ := hp
    have hds := hds (Nat.le_refl 1)
    have A5 := A4.grow g5
    refine ⟨_, rfl, pf, rfl, ⟨_, SqT.of A5.af⟩, ?_⟩
    refine for_tup (K := K) (xs := [.ref q1]) (fun i σ' Hc => i = 0 ∧ Hc = H5 ∧ σ' = [some (.ref q0), some (.ref pk), some (.ref pf), some .non, none, none, some (.ref D2), none, none, none, none, none, none])
      ⟨rfl, rfl, rfl⟩ (fun i σ' Hc hi hp => ?_) (fun i z σ' Hc hz hp => ?_) (fun σ' Hc hp => absurd hp.1 (by show ¬ 1 = 0; decide))
    · rw [hp.2.1]
      exact SqT.of A5.af
    · obtain ⟨rfl, rfl, rfl⟩ := hp
      cases hz
      refine ⟨q1, _, rfl, SqT.of A5.a1, rfl, _, _, rfl, _, _, rfl, _, _, rfl, _, _, rfl, rfl, ?_⟩
      refine ⟨_, rfl, _, rfl, _, rfl, _, rfl, fun x dx nx ndx ne => ?_⟩
      have kx : ∀ {b : Addr} {o : HO}, Hc b = some o → b ≠ x ∧ b ≠ dx := fun {b o} h => ⟨fun z => (by rw [z, nx] at h; cases h), fun z => (by rw [z, ndx] at h; cases h)⟩
      refine ⟨x, dx, D2, .ref pk, n, rfl, upd_same, .tup ((upd_ne (kx A5.ak).1).trans ((upd_ne (kx A5.ak).2).trans A5.ak)) .nil, fun d1 d2 H6 hx6 w6 => ⟨rfl, ?_⟩⟩
      have g6 : Grow Hc H6 := fun b o h => w6 b o (kx h).1 ((upd_ne (kx h).1).trans ((upd_ne (kx h).2).trans h))
      have A6 := A5.grow g6
      refine ⟨_, rfl, x, dx, bcF d1 d2 D2 n, rfl, hx6, rfl, _, rfl, _, rfl, q2, rfl, ⟨_, SqT.of A6.a2⟩, fun D4 hD4 => ?_⟩
      refine dc_tup (K := K) (xs := []) (fun i Hx => Grow H6 Hx) (Grow.new hD4) (fun i Hx _ hp => SqT.of (hp.tup' A6.a2)) (fun i z Hx hz _ => by cases hz) (fun H7 g7 => ?_)
      have A7 := A6.grow g7
      exact ⟨x, dx, D2, q3, q4, bcF d1 d2 D2 n, n, .ref D4, rfl, ⟨g7.ins hx6, rfl, rfl, rfl, ⟨rfl, rfl, rfl, rfl, rfl⟩, sok2_of hn sn⟩, A7.a3, ⟨q5, _, A7.a4, A7.a5⟩, (hds.grow g6).grow g7, kE.grow (((((g1.trans g2).trans (g3.trans gp)).trans g4).trans g5).trans (g6.trans g7))⟩
end
end J1
set_option Elab.async false
set_option linter.all false
set_option maxRecDepth 100000
set_option maxHeartbeats 4000000
namespace J1
open PySem PySem.Spec PyProof.Rows L2 GxR GA
abbrev lCau : Stmt := top 117
theorem cCau : FnScope ["_law_door", "_law_thing", "_law_caught_here", "_law_e"] ["_law_door", "_law_thing"] (defScope lCau) := ⟨rfl, rfl, rfl, by decide +kernel, rfl, by decide +kernel, by decide +kernel⟩
/-- what is told of the class that is caught -/
structure CauK (K : PySem.W.Frag) (mg : Str → Option Value) (CS D0 D1 : Addr) : Prop where
  mS : mg "StepError" = some (.ref CS)
  x0 : PySem.W.exmOne K (.ref D0) (.ref CS) = some true
  x1 : PySem.W.exmOne K (.ref D1) (.ref CS) = some true
def spCau (T : Hp → Prop) (D0 D1 : Addr) : Sp := fun vs H Q _ => ∃ (x : V) (i : Int), vs = [.int i, x] ∧
  ((i = 0 ∧ ∃ d : Da, Enc H d x ∧ bS d = false ∧ ∀ a dd H', IsEx H' a D0 (some dd) → IsXd H' dd [("place", .int 0)] → Grow H H' → Q (.ref a) H') ∨
   (i = 1 ∧ ∃ (n : Str) (q0 pk pf q1 q2 q3 q4 q5 q6 : Addr), x = .ref q0 ∧ PrgA H n q0 pk pf q1 q2 q3 q4 q5 q6 ∧ isLow (.str n) = true ∧ isNamS n = true ∧ SOk n ∧ T H ∧ ∀ a dd t H', IsEx H' a D1 (some dd) → IsXd H' dd [("what", .ref t)] → H' t = some (.tup [.str "count", .str n]) → Grow H H' → Q (.ref a) H'))
section
variable {P : Program} {w : World} {K : PySem.W.Frag} {mg : Str → Option Value} {base : Heap}
theorem ok_cau {f fR fC D0 D1 CS : Addr} {fd fdR fdC : FuncData} {T : Hp → Prop} (F : Fun K "_law_caught" "_law_caught" lCau f fd) (S : CauK K mg CS D0 D1)
    (GR : FnOk P w K mg base (L2.CX P w) 3 fR fdR ["text"] (spRp D0)) (DR : Df K mg "read_program" ["text"] fR fdR)
    (GC : FnOk P w K mg base (L2.CX P w) 12 fC fdC ["program"] (spChk T D1)) (DC : Df K mg "checked" ["program"] fC fdC) :
    FnOk P w K mg base CX0 13 f fd ["_law_door", "_law_thing"] (spCau T D0 D1) := by
  refine F.ok (k := 12) cCau (fun vs H Q E h => ?_) (fun cdv A outer s H vs Q E hr h => ?_)
  · obtain ⟨_, _, rfl, _⟩ := h
    rfl
  · obtain ⟨x, i, rfl, hx⟩ := h
    refine ⟨_, (pss_cons (ps_set (i := 2) cCau.nd rfl (Or.inl rfl) pe_non) (C8.pss_cut (ps_try_keep (c := .ref CS) (i := 3)
      (tb := fun W => tIfS (tTest (tOp rEq (tVar 0) (tC (.int 0)))) (tDrop (tCallS (spRp D0) (WE W) (tCons (tVar 1) tNil))) (tDrop (tCallS (spChk T D1) (WE W) (tCons (tVar 1) tNil))))
      (ts := fun a cls d => tAsg (tVar 3) (gName 2)) (Wout := fun _ _ _ _ => False) rfl rfl rfl cCau.nd rfl rfl ⟨rfl, by decide, .inl S.mS⟩ takes0
      (fun W pn xe tk _ => pss_one (ps_if (pt_cmpR op_eq (pv 0) pe_int (nomark _)) (pss_one (ps_expr (by exact (pe_callS (GR.mono (by decide)) hr rfl DR.g DR.k DR.b (fun σ => passAt tk σ) (by exact (pa_cons (pv 1) pa_nil)))))) (pss_one (ps_expr (by exact (pe_callS GC hr rfl DC.g DC.k DC.b (fun σ => passAt tk σ) (by exact (pa_cons (pv 1) pa_nil))))))))
      (fun a oe cls d pn hz hf => pss_one (ps_set (i := 2) cCau.nd rfl (Or.inl rfl) (pv 3))))
      (pss_one (ps_ret (pv 2))))), ?_⟩
    have keep : ∀ {a dd : Addr} {H' : Hp} {fs : List (Str × V)} {D : Addr}, H' a = none → H' dd = some (.xd fs) → IsEx (L2.upd H' a (ExK (.ref D) (some dd) a)) a D (some dd) ∧ IsXd (L2.upd H' a (ExK (.ref D) (some dd) a)) dd fs ∧ Grow H' (L2.upd H' a (ExK (.ref D) (some dd) a)) := fun {a dd H' fs D} na hdd =>
      ⟨isEx_exK upd_same, .inl ((upd_ne (fun z => by rw [z, na] at hdd; cases hdd)).trans hdd), Grow.new na⟩
    rcases hx with ⟨rfl, d, en, hd, kq⟩ | ⟨rfl, n, q0, pk, pf, q1, q2, q3, q4, q5, q6, rfl, A', hl, hn, sn, hT, kq⟩
    · refine ⟨fun σ' H' => ∃ a dd, σ' = [some (.int 0), some x, some (.ref a), none] ∧ IsEx H' a D0 (some dd) ∧ IsXd H' dd [("place", .int 0)] ∧ Grow H H', ?_, ?_⟩
      · refine ⟨_, rfl, rfl, _, rfl, ite2 (fun _ => ?_) (fun e => absurd (by decide +kernel) e)⟩
        refine ⟨_, rfl, d, x, rfl, en, hd, fun dd H' hdd g => ⟨true, S.x0, fun _ a na => ⟨_, rfl, fun na' => ?_⟩, fun z => Bool.noConfusion z⟩⟩
        obtain ⟨k1, k2, k3⟩ := keep (D := D0) na' hdd
        exact ⟨a, dd, rfl, k1, k2, g.trans k3⟩
      · rintro σ' H' ⟨a, dd, rfl, k1, k2, g⟩
        exact ⟨_, rfl, kq a dd H' k1 k2 g⟩
    · refine ⟨fun σ' H' => ∃ a dd t, σ' = [some (.int 1), some (.ref q0), some (.ref a), none] ∧ IsEx H' a D1 (some dd) ∧ IsXd H' dd [("what", .ref t)] ∧ H' t = some (.tup [.str "count", .str n]) ∧ Grow H H', ?_, ?_⟩
      · refine ⟨_, rfl, rfl, _, rfl, ite2 (fun e => absurd e (by decide +kernel)) (fun _ => ?_)⟩
        refine ⟨_, rfl, n, q0, pk, pf, q1, q2, q3, q4, q5, q6, rfl, A', hl, hn, sn, hT, fun dd t H' hdd ht g => ⟨true, S.x1, fun _ a na => ⟨_, rfl, fun na' => ?_⟩, fun z => Bool.noConfusion z⟩⟩
        obtain ⟨k1, k2, k3⟩ := keep (D := D1) na' hdd
        exact ⟨a, dd, t, rfl, k1, k2, k3.tup' ht, g.trans k3⟩
      · rintro σ' H' ⟨a, dd, t, rfl, k1, k2, k4, g⟩
        exact ⟨_, rfl, kq a dd t H' k1 k2 k4 g⟩
end
end J1
set_option Elab.async false
set_option linter.all false
set_option maxRecDepth 100000
set_option maxHeartbeats 4000000
namespace L2
open PySem PySem.Spec PyProof.Rows
def noBl : V → Bool
  | .non => true
  | .int _ => true
  | .str _ => true
  | .ref _ => true
  | _ => false
/-- x is True, x no bool -/
def rIsNB : R2 := fun x y H Q => ∃ b : Bool, y = .bl b ∧ noBl x = true ∧ Q (.bl false) H
theorem op_isNB {X : Cx} : OpR X (compareOp .Is) rIsNB := by
  intro pins s σ H x y v u Q I rx ry h
  obtain ⟨b, rfl, hx, q⟩ := h
  cases (show u = Value.bool b from ry)
  cases x with
  | non =>
    cases (show v = Value.none from rx)
    exact wpAny_is_other rfl (fun z => nomatch z) ⟨.bl false, H, I, rfl, q⟩
  | int i =>
    obtain ⟨t, rfl⟩ := (show ∃ t, v = Value.int i t from rx)
    exact wpAny_is_other rfl (fun z => nomatch z) ⟨.bl false, H, I, rfl, q⟩
  | str i =>
    obtain ⟨t, rfl⟩ := (show ∃ t, v = Value.str i t from rx)
    exact wpAny_is_other rfl (fun z => nomatch z) ⟨.bl false, H, I, rfl, q⟩
  | ref a =>
    cases (show v = Value.ref a from rx)
    exact wpAny_is_other rfl (fun z => nomatch z) ⟨.bl false, H, I, rfl, q⟩
  | _ => cases hx
end L2
namespace J1
open PySem PySem.Spec PyProof.Rows L2 GxR GA
abbrev lWl : Stmt := top 107
theorem cWl : FnScope ["_law_script"] ["_law_script"] (defScope lWl) := ⟨rfl, rfl, rfl, by decide +kernel, rfl, by decide +kernel, by decide +kernel⟩
abbrev lSm : Stmt := top 112
theorem cSm : FnScope ["_law_found", "_law_due", "_law_k"] ["_law_found", "_law_due"] (defScope lSm) := ⟨rfl, rfl, rfl, by decide +kernel, rfl, by decide +kernel, by decide +kernel⟩
abbrev lPlc : Stmt := top 115
theorem cPlc : FnScope ["_law_well_here"] ["_law_well_here"] (defScope lPlc) := ⟨rfl, rfl, rfl, by decide +kernel, rfl, by decide +kernel, by decide +kernel⟩
def spWell (K : PySem.W.Frag) : Sp := fun vs H Q _ => ∃ (a : Addr) (ns : List Int), vs = [.ref a] ∧ SqL K H a (ns.map V.int) ∧ ∀ p l H', Wl H' p l ns 0 → Grow H H' → Q (.ref p) H'
/-- things of None, texts, integers and tuples, less deep than j -/
inductive Dq : Nat → Da → Prop
  | non {j : Nat} : Dq (j + 1) .non
  | int {j : Nat} (i : Int) : Dq (j + 1) (.int i)
  | str {j : Nat} (s : Str) : Dq (j + 1) (.str s)
  | tup {j : Nat} {l : List Da} (hl : l.length ≤ 1000) (h : ∀ d ∈ l, Dq j d) : Dq (j + 1) (.tup l)
def spSm (j : Nat) : Sp := fun vs H Q _ => ∃ (x y : V) (d : Da), vs = [x, y] ∧ Enc H d x ∧ Enc H d y ∧ Dq j d ∧ ∀ H', Grow H H' → Q (.bl true) H'
def spPlc : Sp := fun vs H Q _ => ∃ (p l : Addr) (ns : List Int) (n : Nat), vs = [.ref p] ∧ Wl H p l ns n ∧ n + 3 ≤ 1000000000000000000000000000000000000000000000000000000000000 ∧ ∀ (i : Int) H', 0 ≤ i → i < 1000000000000 → Wl H' p l ns (n + 3) → GrowW p H H' → Q (.int i) H'
section
variable {P : Program} {w : World} {K : PySem.W.Frag} {mg : Str → Option Value} {base : Heap}
theorem ok_wl {f : Addr} {fd : FuncData} (F : Fun K "_law_well" "_law_well" lWl f fd) (hLi : mg "list" = none) : FnOk P w K mg base CX0 1 f fd ["_law_script"] (spWell K) := by
  refine F.ok (k := 0) cWl (fun vs H Q E h => ?_) (fun cdv A outer s H vs Q E hr h => ?_)
  · obtain ⟨a, ns, rfl, _⟩ := h
    rfl
  · obtain ⟨a, ns, rfl, hS, k⟩ := h
    refine ⟨_, (pss_one (ps_ret (pe_lst (pa_cons pe_int (pa_cons pe_int (pa_cons (pe_callTy call_list_of (by rfl) hLi (by decide +kernel) (pa_cons (pv 0) pa_nil)) pa_nil)))))), ?_⟩
    refine ⟨_, rfl, a, _, rfl, .inl hS, fun l hl => ⟨(by show 3 ≤ sizeLine; decide), fun p hp => ?_⟩⟩
    have npl : l ≠ p := ne_of_none upd_same hp
    exact k p l _ ⟨⟨0, 0, upd_same, by decide, by decide, by decide⟩, by rw [upd_ne npl]; exact upd_same⟩ ((Grow.new hl).trans (Grow.new hp))
theorem ok_plc {f fD : Addr} {fd fdD : FuncData} (F : Fun K "_law_place" "_law_place" lPlc f fd) (GD : FnOk P w K mg base CX0 1 fD fdD ["_law_well_here", "_law_many"] spDr) (DD : Df K mg "_law_draw" ["_law_well_here", "_law_many"] fD fdD) :
    FnOk P w K mg base CX0 2 f fd ["_law_well_here"] spPlc := by
  refine F.ok (k := 1) cPlc (fun vs H Q E h => ?_) (fun cdv A outer s H vs Q E hr h => ?_)
  · obtain ⟨_, _, _, _, rfl, _⟩ := h
    rfl
  · obtain ⟨p, l, ns, n, rfl, W, hn, k⟩ := h
    refine ⟨_, (pss_one (ps_ret (pe_ix ix_list (pe_lst (pa_cons pe_int (pa_cons pe_int (pa_cons (pe_call GD hr (by rfl) DD.g DD.k DD.b .nil pass0 (pa_cons (pv 0) (pa_cons pe_int pa_nil))) (pa_cons (pe_call GD hr (by rfl) DD.g DD.k DD.b .nil pass0 (pa_cons (pv 0) (pa_cons (pe_op op_pow pe_int pe_int) pa_nil))) pa_nil))))) (pe_call GD hr (by rfl) DD.g DD.k DD.b .nil pass0 (pa_cons (pv 0) (pa_cons pe_int pa_nil))) (fun _ _ => rfl)))), ?_⟩
    refine ⟨_, rfl, p, l, ns, n, 60000, rfl, by decide, cdw (by decide) (by decide), W, by omega, fun r1 H1 a1 b1 W1 g1 => ?_⟩
    have e12 : (10 : Int) ^ (Int.toNat 12) = 1000000000000 := by decide
    refine ⟨_, rfl, _, _, rfl, rfl, ⟨by decide, by decide, by decide⟩, p, l, ns, n + 1, _, rfl, by decide, cdw (by decide) (by decide), W1, by omega, fun r2 H2 a2 b2 W2 g2 => ⟨(by show 4 ≤ sizeLine; decide), fun D hD => ?_⟩⟩
    rw [e12] at b2
    obtain ⟨n1, n2⟩ := W2.np hD
    have gD := Grow.new (o := .lst [V.int 0, V.int 1, V.int r1, V.int r2]) hD
    refine ⟨_, rfl, p, l, ns, n + 2, 4, rfl, by decide, cdw (by decide) (by decide), W2.grow gD, by omega, fun r3 H3 a3 b3 W3 g3 => ?_⟩
    have hD3 := g3.lst n1 upd_same
    have gg := ((g1.trans' g2).trans' gD.w).trans' g3
    have h4 : r3 = 0 ∨ r3 = 1 ∨ r3 = 2 ∨ r3 = 3 := by omega
    rcases h4 with rfl | rfl | rfl | rfl
    · exact ⟨D, _, 0, _, rfl, rfl, SqL.of hD3, at_of (j := 0) rfl rfl, k 0 H3 (by decide) (by decide) W3 gg⟩
    · exact ⟨D, _, 1, _, rfl, rfl, SqL.of hD3, at_of (j := 1) rfl rfl, k 1 H3 (by decide) (by decide) W3 gg⟩
    · exact ⟨D, _, 2, _, rfl, rfl, SqL.of hD3, at_of (j := 2) rfl rfl, k r1 H3 a1 (by omega) W3 gg⟩
    · exact ⟨D, _, 3, _, rfl, rfl, SqL.of hD3, at_of (j := 3) rfl rfl, k r2 H3 a2 b2 W3 gg⟩
theorem ok_sm {j : Nat} {f fS : Addr} {fd fdS : FuncData} (F : Fun K "_law_same" "_law_same" lSm f fd) (N : Gn K mg) (M : Gd3 mg) (GS : FnOk P w K mg base CX0 (j + 1) fS fdS ["_law_found", "_law_due"] (spSm j)) (DS : Df K mg "_law_same" ["_law_found", "_law_due"] fS fdS) :
    FnOk P w K mg base CX0 (j + 2) f fd ["_law_found", "_law_due"] (spSm (j + 1)) := by
  refine F.ok (k := j + 1) cSm (fun vs H Q E h => ?_) (fun cdv A outer s H vs Q E hr h => ?_)
  · obtain ⟨x, y, d, rfl, _⟩ := h
    rfl
  · obtain ⟨x, y, d, rfl, ex, ey, dq, k⟩ := h
    refine ⟨_, (pss_cons (ps_if (pt_cmpR op_isN (pv 1) pe_non (nomark _)) (pss_one (ps_ret (pe_cmpR op_isN (pv 0) pe_non (nomark _)))) pss_nil) (pss_cons (ps_if (pt_cmpR op_isNB (pv 1) pe_bl (nomark _)) pss_no pss_nil) (pss_cons (ps_if (pt_cmpR op_isNB (pv 1) pe_bl (nomark _)) pss_no pss_nil) (pss_cons (ps_if (pt_val (pe_callB call_isi (by rfl) N.nI boot_isinstance (pa_cons (pv 1) (pa_cons (pe_bltn (v := .ty "int") rfl N.ni (by decide +kernel) rfl) pa_nil)))) (pss_one (ps_ret (pe_and (pe_callB call_isi (by rfl) N.nI boot_isinstance (pa_cons (pv 0) (pa_cons (pe_bltn (v := .ty "int") rfl N.ni (by decide +kernel) rfl) pa_nil))) (pe_and (pe_not (pe_callB call_isi (by rfl) N.nI boot_isinstance (pa_cons (pv 0) (pa_cons (pe_bltn (v := .ty "bool") rfl N.nb (by decide +kernel) rfl) pa_nil)))) (pe_one (pe_cmpR op_eq (pv 0) (pv 1) (nomark _))))))) pss_nil) (pss_cons (ps_if (pt_val (pe_callB call_isi (by rfl) N.nI boot_isinstance (pa_cons (pv 1) (pa_cons (pe_bltn (v := .ty "str") rfl N.ns (by decide +kernel) rfl) pa_nil)))) (pss_one (ps_ret (pe_and (pe_callB call_isi (by rfl) N.nI boot_isinstance (pa_cons (pv 0) (pa_cons (pe_bltn (v := .ty "str") rfl N.ns (by decide +kernel) rfl) pa_nil))) (pe_one (pe_cmpR op_eq (pv 0) (pv 1) (nomark _)))))) pss_nil) (pss_cons (ps_if (PW.pt (pw_or (pt_not (pt_val (pe_callB call_isi (by rfl) N.nI boot_isinstance (pa_cons (pv 0) (pa_cons (pe_bltn (v := .ty "tuple") rfl N.nt (by decide +kernel) rfl) pa_nil))))) (pw_or1 (pt_cmpR op_ne (pe_callB call_len_seq (by rfl) M.len PySem.boot_len (pa_cons (pv 0) pa_nil)) (pe_callB call_len_seq (by rfl) M.len PySem.boot_len (pa_cons (pv 1) pa_nil)) (nomark _))))) (pss_one (ps_ret pe_bl)) pss_nil) (pss_cons (ps_for PassesOwn.never rfl (pi_range1 (by rfl) M.range (pa_cons (pe_callB call_len_seq (by rfl) M.len PySem.boot_len (pa_cons (pv 1) pa_nil)) pa_nil)) (pg_name (i := 2) cSm.nd rfl (Or.inl rfl)) (pss_one (ps_if (pt_not (pt_val (pe_call GS hr (by rfl) DS.g DS.k DS.b .nil pass0 (pa_cons (pe_ix ix_tup (pv 0) (pv 2) (fun _ _ => rfl)) (pa_cons (pe_ix ix_tup (pv 1) (pv 2) (fun _ _ => rfl)) pa_nil))))) (pss_one (ps_ret pe_bl)) pss_nil))) (pss_one (ps_ret pe_bl))))))))), ?_⟩
    obtain ⟨kI, kB, kS, kT⟩ := kitD d
    have tx := ex.ty (K := K)
    have ty := ey.ty (K := K)
    have k0 := k H (Grow.refl H)
    cases dq with
    | non =>
      cases ex
      cases ey
      exact ⟨_, rfl, rfl, _, rfl, iteT ⟨_, rfl, rfl, k0⟩⟩
    | int i =>
      cases ex
      cases ey
      refine ⟨_, rfl, rfl, _, rfl, ifF (fun z => (nomatch z)) ⟨_, rfl, true, rfl, rfl, _, rfl, iteF ⟨_, rfl, false, rfl, rfl, _, rfl, iteF ?_⟩⟩⟩
      refine ⟨_, rfl, _, _, _, _, _, rfl, .ty "int", ty, kit_ty kI, _, rfl, iteT ?_⟩
      refine ⟨_, rfl, _, _, _, _, _, rfl, .ty "int", tx, kit_ty kI, _, rfl, iteT ?_⟩
      refine ⟨_, rfl, _, _, _, _, _, rfl, .ty "bool", tx, kit_ty kB, _, rfl, _, rfl, iteT ?_⟩
      refine ⟨_, rfl, _, rfl, rfl, ?_⟩
      rw [decide_eq_true rfl]
      exact k0
    | str s =>
      cases ex
      cases ey
      refine ⟨_, rfl, rfl, _, rfl, ifF (fun z => (nomatch z)) ⟨_, rfl, true, rfl, rfl, _, rfl, iteF ⟨_, rfl, false, rfl, rfl, _, rfl, iteF ?_⟩⟩⟩
      refine ⟨_, rfl, _, _, _, _, _, rfl, .ty "int", ty, kit_ty kI, _, rfl, iteF ?_⟩
      refine ⟨_, rfl, _, _, _, _, _, rfl, .ty "str", ty, kit_ty kS, _, rfl, iteT ?_⟩
      refine ⟨_, rfl, _, _, _, _, _, rfl, .ty "str", tx, kit_ty kS, _, rfl, iteT ?_⟩
      refine ⟨_, rfl, _, rfl, rfl, ?_⟩
      rw [decide_eq_true rfl]
      exact k0
    | @tup _ l hl hd =>
      cases ex with
      | @tup a xs _ ha es =>
      cases ey with
      | @tup b ys _ hb fs =>
      have hlx := es.length
      have hly := fs.length
      refine ⟨_, rfl, rfl, _, rfl, ifF (fun z => (nomatch z)) ⟨_, rfl, true, rfl, rfl, _, rfl, iteF ⟨_, rfl, false, rfl, rfl, _, rfl, iteF ?_⟩⟩⟩
      refine ⟨_, rfl, _, _, _, _, _, rfl, .ty "int", ty, kit_ty kI, _, rfl, iteF ?_⟩
      refine ⟨_, rfl, _, _, _, _, _, rfl, .ty "str", ty, kit_ty kS, _, rfl, iteF ?_⟩
      refine ⟨_, rfl, _, _, _, _, _, rfl, .ty "tuple", tx, kit_ty kT, _, rfl, iteF ⟨_, rfl, a, xs, rfl, .inr (SqT.of ha), _, rfl, b, ys, rfl, .inr (SqT.of hb), rfl, _, rfl, ?_⟩⟩
      have ez : (!decide (V.int ((xs.length : Nat) : Int) = V.int ((ys.length : Nat) : Int))) = false := by
        rw [decide_eq_true (by rw [← hlx, hly])]
        rfl
      rw [ez]
      refine iteF ⟨_, rfl, b, ys, rfl, .inr (SqT.of hb), _, rfl, Int.le_trans (by decide) (by omega : (0 : Int) ≤ ((ys.length : Nat) : Int)), Int.lt_of_lt_of_le (by omega : ((ys.length : Nat) : Int) < 1001) (by decide), ?_⟩
      refine for_range (n := (((ys.length : Nat) : Int)).toNat) (fun i σ' Hc => ∃ v, σ' = [some (.ref a), some (.ref b), v] ∧ Grow H Hc) ⟨_, rfl, Grow.refl H⟩ (fun i σ' Hc hi hp => ?_) (fun σ' Hc hp => ?_)
      · obtain ⟨v, rfl, g⟩ := hp
        have hil : i < l.length := by omega
        obtain ⟨x1, hx1, ex1⟩ := es.got (List.getElem?_eq_getElem hil)
        obtain ⟨y1, hy1, ey1⟩ := fs.got (List.getElem?_eq_getElem hil)
        refine ⟨_, rfl, _, rfl, a, _, _, _, rfl, rfl, SqT.of (g.tup' ha), at_g (j := i) (by omega) hx1, _, rfl, _, rfl, b, _, _, _, rfl, rfl, SqT.of (g.tup' hb), at_g (j := i) (by omega) hy1, x1, y1, l[i], rfl, ex1.grow g, ey1.grow g, hd _ (List.getElem_mem hil), fun H2 g2 => ?_⟩
        exact ⟨_, rfl, iteF ⟨_, rfl, g.trans g2⟩⟩
      · obtain ⟨v, rfl, g⟩ := hp
        exact k _ g
theorem none_sm {f : Addr} {fd : FuncData} {k : Nat} : FnOk P w K mg base CX0 k f fd ["_law_found", "_law_due"] (spSm 0) := by
  have no : ∀ vs H Q E, ¬ spSm 0 vs H Q E := fun vs H Q E h => by
    obtain ⟨x, y, d, _, _, _, dq, _⟩ := h
    cases dq
  exact ⟨fun vs H Q E h => absurd h (no vs H Q E), fun A outer s H args us vs Q E _ _ _ _ h => absurd h (no vs H Q E)⟩
theorem all_sm {f : Addr} {fd : FuncData} (F : Fun K "_law_same" "_law_same" lSm f fd) (N : Gn K mg) (M : Gd3 mg) (DS : Df K mg "_law_same" ["_law_found", "_law_due"] f fd) : ∀ i : Nat, FnOk P w K mg base CX0 (1 + i) f fd ["_law_found", "_law_due"] (spSm i)
  | 0 => none_sm
  | i + 1 => by
    have h := all_sm F N M DS i
    rw [Nat.add_comm] at h
    have h2 := ok_sm (j := i) F N M h DS
    rw [show 1 + (i + 1) = i + 2 from by omega]
    exact h2
end
end J1
set_option Elab.async false
set_option linter.all false
set_option maxRecDepth 100000
set_option maxHeartbeats 4000000
namespace J1
open PySem PySem.Spec PyProof.Rows L2 GxR GA
abbrev lPar : Stmt := top 116
theorem cPar : FnScope ["_law_well_here", "_law_word_here", "_law_what", "_law_parts_here"] ["_law_well_here"] (defScope lPar) := ⟨rfl, rfl, rfl, by decide +kernel, rfl, by decide +kernel, by decide +kernel⟩
def wdsL : List Str := ["double", "kind", "fit", "name", "count", "makers"]
theorem wds_ok : ∀ y ∈ wdsL, (decide (y.length ≤ 100) && y.cps.toList.all fun c => decide (c < 16 ^ 8)) = true ∧ (decide (y.length ≤ 10000) && y.cps.toList.all fun c => decide (c < 1114112)) = true := by decide +kernel
/-- what _law_parts lays down -/
structure ParT (H : Hp) (R t : Addr) (wd : Str) (z : Option Str) (i0 i2 i3 : Int) (nm : Str) (i5 i6 : Int) : Prop where
  list : H R = some (.lst [.int i0, .ref t, .int i2, .int i3, .str nm, .int i5, .int i6])
  what : H t = some (.tup [.str wd, orNon z])
structure ParB (wd : Str) (z : Option Str) (i0 i2 i3 : Int) (nm : Str) (i5 i6 : Int) : Prop where
  w1 : SOk wd
  w2 : SOk2 wd
  z1 : ∀ s, z = some s → SOk s ∧ SOk2 s
  n1 : SOk nm
  n2 : SOk2 nm
  b0 : i0.natAbs < 10 ^ 13
  b2 : i2.natAbs < 10 ^ 13
  b3 : i3.natAbs < 10 ^ 13
  b5 : i5.natAbs < 10 ^ 13
  b6 : i6.natAbs < 10 ^ 13
def spPar : Sp := fun vs H Q _ => ∃ (p l : Addr) (ns : List Int) (n : Nat), vs = [.ref p] ∧ Wl H p l ns n ∧ n + 100 ≤ 1000000000000000000000000000000000000000000000000000000000000 ∧
  ∀ R t wd z i0 i2 i3 nm i5 i6 H', ParT H' R t wd z i0 i2 i3 nm i5 i6 → ParB wd z i0 i2 i3 nm i5 i6 → Wl H' p l ns (n + 100) → GrowW p H H' → Q (.ref R) H'
theorem GrowW.newG {p q : Addr} {H0 H : Hp} {o : HO} (g : GrowW p H0 H) (hq : H q = none) : GrowW p H0 (L2.upd H q o) := g.trans' (Grow.new hq).w
theorem nab {i : Int} (h0 : 0 ≤ i) (h1 : i < 1000000000000) : i.natAbs < 10 ^ 13 := Nat.lt_trans (by omega : i.natAbs < 1000000000000) (by decide)
section
variable {P : Program} {w : World} {K : PySem.W.Frag} {mg : Str → Option Value} {base : Heap}
theorem ok_par {f fD fW fP : Addr} {fd fdD fdW fdP : FuncData} (F : Fun K "_law_parts" "_law_parts" lPar f fd) (GD : FnOk P w K mg base CX0 1 fD fdD ["_law_well_here", "_law_many"] spDr) (DD : Df K mg "_law_draw" ["_law_well_here", "_law_many"] fD fdD)
    (GW : FnOk P w K mg base CX0 2 fW fdW ["_law_well_here", "_law_capital", "_law_used"] spWord) (DW : Df K mg "_law_word" ["_law_well_here", "_law_capital", "_law_used"] fW fdW)
    (GP : FnOk P w K mg base CX0 2 fP fdP ["_law_well_here"] spPlc) (DP : Df K mg "_law_place" ["_law_well_here"] fP fdP) :
    FnOk P w K mg base CX0 3 f fd ["_law_well_here"] spPar := by
  refine F.ok (k := 2) cPar (fun vs H Q E h => ?_) (fun cdv A outer s H vs Q E hr h => ?_)
  · obtain ⟨_, _, _, _, rfl, _⟩ := h
    rfl
  · obtain ⟨p, l, ns, n, rfl, W, hn, k⟩ := h
    refine ⟨_, (pss_cons (ps_set (i := 1) cPar.nd rfl (Or.inl rfl) (pe_ix ix_list (pe_lst (pa_cons pe_str (pa_cons pe_str (pa_cons pe_str (pa_cons pe_str (pa_cons pe_str (pa_cons pe_str pa_nil))))))) (pe_call (GD.mono (by decide)) hr (by rfl) DD.g DD.k DD.b .nil pass0 (pa_cons (pv 0) (pa_cons pe_int pa_nil))) (fun _ _ => rfl))) (pss_cons (ps_set (i := 2) cPar.nd rfl (Or.inl rfl) (pe_tup (pa_cons (pv 1) (pa_cons (pe_ix ix_list (pe_lst (pa_cons pe_non (pa_cons (pe_call GW hr (by rfl) DW.g DW.k DW.b .nil pass0 (pa_cons (pv 0) (pa_cons pe_bl (pa_cons (pe_lst pa_nil) pa_nil)))) pa_nil))) (pe_call (GD.mono (by decide)) hr (by rfl) DD.g DD.k DD.b .nil pass0 (pa_cons (pv 0) (pa_cons pe_int pa_nil))) (fun _ _ => rfl)) pa_nil)))) (pss_cons (ps_set (i := 3) cPar.nd rfl (Or.inl rfl) (pe_lst (pa_cons (pe_call (GP.mono (by decide)) hr (by rfl) DP.g DP.k DP.b .nil pass0 (pa_cons (pv 0) pa_nil)) (pa_cons (pv 2) (pa_cons (pe_call (GP.mono (by decide)) hr (by rfl) DP.g DP.k DP.b .nil pass0 (pa_cons (pv 0) pa_nil)) (pa_cons (pe_call (GP.mono (by decide)) hr (by rfl) DP.g DP.k DP.b .nil pass0 (pa_cons (pv 0) pa_nil)) (pa_cons (pe_call GW hr (by rfl) DW.g DW.k DW.b .nil pass0 (pa_cons (pv 0) (pa_cons pe_bl (pa_cons (pe_lst pa_nil) pa_nil)))) pa_nil))))))) (pss_one (ps_ret (pe_op op_cat (pv 3) (pe_lst (pa_cons (pe_call (GP.mono (by decide)) hr (by rfl) DP.g DP.k DP.b .nil pass0 (pa_cons (pv 0) pa_nil)) (pa_cons (pe_call (GP.mono (by decide)) hr (by rfl) DP.g DP.k DP.b .nil pass0 (pa_cons (pv 0) pa_nil)) pa_nil))))))))), ?_⟩
    -- the word
    refine ⟨(by show 6 ≤ sizeLine; decide), fun D hD => ?_⟩
    have g0 : GrowW p H _ := (Grow.new (o := .lst (wdsL.map V.str)) hD).w
    refine ⟨_, rfl, p, l, ns, n, 6, rfl, by decide, cdw (by decide) (by decide), W.grow (Grow.new hD), by omega, fun r H1 ra rb W1 g1 => ?_⟩
    have hD1 : H1 D = some (.lst (wdsL.map V.str)) := g1.lst (W.np hD).1 upd_same
    have hr6 : r.toNat < wdsL.length := by show r.toNat < 6; omega
    have hwd := wds_ok _ (List.getElem_mem hr6)
    refine ⟨D, _, r, V.str wdsL[r.toNat], rfl, rfl, SqL.of hD1, at_g (j := r.toNat) (by omega) (by rw [List.getElem?_map, List.getElem?_eq_getElem hr6]; rfl), ?_⟩
    generalize wdsL[r.toNat] = wd at hwd ⊢
    have G1 := g0.trans' g1
    -- a name or None
    refine ⟨_, rfl, _, rfl, (by show 0 ≤ sizeLine; decide), fun u hu => ?_⟩
    refine ⟨p, l, u, ns, n + 1, false, rfl, W1.grow (Grow.new hu), (W1.np hu).1, (W1.np hu).2, upd_same, by omega, fun nm1 H2 s1 n1 l1 W2 v2 => ?_⟩
    have G2 : GrowW p H H2 := G1.trans' ((Grow.new hu).w.afterV hu v2)
    refine ⟨(by show 2 ≤ sizeLine; decide), fun D2 hD2 => ?_⟩
    refine ⟨_, rfl, p, l, ns, n + 15, 2, rfl, by decide, cdw (by decide) (by decide), W2.grow (Grow.new hD2), by omega, fun r2 H3 a2 b2 W3 g3 => ?_⟩
    have hD23 : H3 D2 = some (.lst [.non, .str nm1]) := g3.lst (W2.np hD2).1 upd_same
    have G3 := (G2.newG hD2).trans' g3
    obtain ⟨z, hz, hzo⟩ : ∃ z : Option Str, atI [V.non, V.str nm1] r2 = some (orNon z) ∧ ∀ s, z = some s → s = nm1 := by
      have h2 : r2 = 0 ∨ r2 = 1 := by omega
      rcases h2 with rfl | rfl
      · exact ⟨none, at_of (j := 0) rfl rfl, fun s e => by cases e⟩
      · exact ⟨some nm1, at_of (j := 1) rfl rfl, fun s e => by cases e; rfl⟩
    refine ⟨D2, _, r2, orNon z, rfl, rfl, SqL.of hD23, hz, (by show 2 ≤ sizeLine; decide), fun t ht => ?_⟩
    have W4 := W3.grow (Grow.new (o := .tup [.str wd, orNon z]) ht)
    have ht4 : L2.upd H3 t (.tup [.str wd, orNon z]) t = some (.tup [.str wd, orNon z]) := upd_same
    have G4 := G3.newG (o := .tup [.str wd, orNon z]) ht
    have tp : ∀ {H' : Hp}, H' t = some (.tup [.str wd, orNon z]) → ∀ {H'' : Hp}, GrowW p H' H'' → Wl H' p l ns 0 ∨ True → H'' t = some (.tup [.str wd, orNon z]) := fun {H'} h {H''} g _ => by
      rcases g t _ (W3.np ht).1 h with q | ⟨⟨_, q⟩, _⟩
      · exact q
      · cases q
    generalize L2.upd H3 t (.tup [.str wd, orNon z]) = H4 at W4 ht4 G4 ⊢
    -- the list
    refine ⟨_, rfl, p, l, ns, n + 16, rfl, W4, by omega, fun i0 H5 c0 d0 W5 g5 => ?_⟩
    refine ⟨_, rfl, _, rfl, p, l, ns, n + 19, rfl, W5, by omega, fun i2 H6 c2 d2 W6 g6 => ?_⟩
    refine ⟨_, rfl, p, l, ns, n + 22, rfl, W6, by omega, fun i3 H7 c3 d3 W7 g7 => ?_⟩
    refine ⟨_, rfl, (by show 0 ≤ sizeLine; decide), fun u2 hu2 => ?_⟩
    refine ⟨p, l, u2, ns, n + 25, false, rfl, W7.grow (Grow.new hu2), (W7.np hu2).1, (W7.np hu2).2, upd_same, by omega, fun nm H8 s8 n8 l8 W8 v8 => ?_⟩
    have g8 : GrowW p H7 H8 := (Grow.new hu2).w.afterV hu2 v8
    refine ⟨(by show 5 ≤ sizeLine; decide), fun L hL => ?_⟩
    have G9 := ((((G4.trans' g5).trans' g6).trans' g7).trans' g8).newG (o := .lst [.int i0, .ref t, .int i2, .int i3, .str nm]) hL
    have ht9 := tp ht4 ((((g5.trans' g6).trans' g7).trans' g8).newG (o := .lst [.int i0, .ref t, .int i2, .int i3, .str nm]) hL) (.inr trivial)
    have hnp := (W8.np hL).1
    have W9 := W8.grow (Grow.new (o := .lst [.int i0, .ref t, .int i2, .int i3, .str nm]) hL)
    have hL9 : L2.upd H8 L (.lst [.int i0, .ref t, .int i2, .int i3, .str nm]) L = some (.lst [.int i0, .ref t, .int i2, .int i3, .str nm]) := upd_same
    generalize L2.upd H8 L (.lst [.int i0, .ref t, .int i2, .int i3, .str nm]) = H9 at G9 ht9 W9 hL9 ⊢
    refine ⟨_, rfl, _, rfl, p, l, ns, n + 39, rfl, W9, by omega, fun i5 H10 c5 d5 W10 g10 => ?_⟩
    refine ⟨_, rfl, p, l, ns, n + 42, rfl, W10, by omega, fun i6 H11 c6 d6 W11 g11 => ⟨(by show 2 ≤ sizeLine; decide), fun L2' hL2 => ?_⟩⟩
    have gA := (g10.trans' g11).newG (o := .lst [.int i5, .int i6]) hL2
    have hLA := gA.lst hnp hL9
    refine ⟨L, L2', _, _, rfl, rfl, hLA, upd_same, (by show 5 + 2 ≤ sizeLine; decide), fun R hR => ?_⟩
    have gB := gA.newG (o := .lst ([.int i0, .ref t, .int i2, .int i3, .str nm] ++ [.int i5, .int i6])) hR
    refine k R t wd z i0 i2 i3 nm i5 i6 _ ⟨upd_same, tp ht9 gB (.inr trivial)⟩ ⟨sok_k hwd.2, sok_w hwd.1, fun s e => ?_, s8, sok2_of n8 s8, nab c0 d0, nab c2 d2, nab c3 d3, nab c5 d5, nab c6 d6⟩ (((W11.grow (Grow.new hL2)).grow (Grow.new hR)).more (by omega)) (G9.trans' gB)
    rw [hzo s e]
    exact ⟨s1, sok2_of n1 s1⟩
end
end J1
set_option Elab.async false
set_option linter.all false
set_option maxRecDepth 100000
set_option maxHeartbeats 4000000
namespace J1
open PySem PySem.Spec PyProof.Rows L2 GxR GA
abbrev lFlg : Stmt := top 113
theorem cFlg : FnScope ["_law_e"] ["_law_e"] (defScope lFlg) := ⟨rfl, rfl, rfl, by decide +kernel, rfl, by decide +kernel, by decide +kernel⟩
abbrev lPln : Stmt := top 114
theorem cPln : FnScope ["_law_word_here"] ["_law_word_here"] (defScope lPln) := ⟨rfl, rfl, rfl, by decide +kernel, rfl, by decide +kernel, by decide +kernel⟩
def nmsS : List String := ["BadProgram", "BadCore", "BadName", "BadRow", "BadKind", "BadArgs", "BadLimit", "BadPrices", "BadLog", "BadImage", "Unfit", "BadEffort", "BadMeasures", "BadNumber", "BadBook", "BadNever", "BadGoal", "BadHints", "BadShowings", "BadIndex", "BadNeeds", "BadRatio", "ZeroBottom", "BadSystem", "BadLine", "BadTemplate", "BadPoint", "BadWeights", "BadLevels", "NotNew", "TooGreat", "BadText", "NotChecked", "NotLet", "BadListing", "Refused"]
abbrev veL : List Value := [.type "ValueError", .type "Exception", .type "BaseException", .type "object"]
def nmA (i : Nat) : Str := Str.ofString (nmsS.getD i "")
/-- what is told of the 36 classes -/
structure ClsK (K : PySem.W.Frag) (mg : Str → Option Value) (bm : List Value) (SE : Addr) (Cs : List Addr) : Prop where
  len : Cs.length = 36
  e : ∀ D ∈ Cs, ExcC K D
  kSE : ∀ D ∈ Cs, PySem.W.kitOne K (.ref D) (.ref SE) = some true
  kVE : ∀ D ∈ Cs, PySem.W.kitOne K (.ref D) (.type "ValueError") = some true
  kC : ∀ D ∈ Cs, ∀ C ∈ Cs, PySem.W.kitOne K (.ref D) (.ref C) = some (decide (D = C))
  kp : ∀ C ∈ Cs, PySem.W.keepIn K (.ref C) = true
  m : ∀ i (h : i < 36), mg (nmA i) = some (.ref (Cs[i]'(len.symm ▸ h)))
  pl : ∀ C ∈ Cs.take 31, PySem.W.excIn K C bm "ValueError.__new__" = true
def tFl (K : PySem.W.Frag) : List Addr → TA
  | [] => tNil
  | C :: r => tCons (tCB (rIsV K) (tCons (tVar 0) (tCons (tC (.ref C)) tNil))) (tFl K r)
theorem fl_ok {K : PySem.W.Frag} {D a : Addr} {d : Option Addr} {σ : L2.St} {H : Hp} (hσ : σ[0]? = some (some (.ref a))) (he : ExcC K D) (hx : IsEx H a D d) (hd : ∀ dx, d = some dx → ∃ fs, IsXd H dx fs) :
    ∀ (Cs : List Addr) (Q : List V → Hp → Prop), (∀ C ∈ Cs, PySem.W.kitOne K (.ref D) (.ref C) = some (decide (D = C))) → Q (Cs.map fun C => .bl (decide (D = C))) H → tFl K Cs σ H Q
  | [], Q, _, h => h
  | C :: r, Q, hk, h => ⟨_, hσ, a, D, d, .ref C, .ref C, _, rfl, fun u e => e, he, hk C List.mem_cons_self, hx, hd, fl_ok hσ he hx hd r _ (fun C' hC => hk C' (List.mem_cons_of_mem _ hC)) h⟩
def tPl : List Addr → TA
  | [] => tNil
  | C :: r => tCons (fun σ H Q => (tVar 0) σ H fun _ H1 => ∀ a, H1 a = none → Q (.ref a) (upd H1 a (ExO (.ref C) a))) (tPl r)
theorem pl_ok {σ : L2.St} {x : V} (hσ : σ[0]? = some (some x)) : ∀ (Cs : List Addr) (H : Hp) (Q : List V → Hp → Prop), (∀ (as : List Addr) (H' : Hp), as.length = Cs.length → (∀ (k : Nat) (a C : Addr), as[k]? = some a → Cs[k]? = some C → H' a = some (ExO (.ref C) a)) → Grow H H' → Q (as.map V.ref) H') → tPl Cs σ H Q
  | [], H, Q, h => h [] H rfl (fun k a C e => by cases e) (Grow.refl H)
  | C :: r, H, Q, h => ⟨_, hσ, fun a na => pl_ok hσ r _ _ fun as H' hl hk g => h (a :: as) H' (by rw [List.length_cons, List.length_cons, hl]) (fun k b C' e1 e2 => by
      cases k with
      | zero =>
        cases e1
        cases e2
        rcases g a _ upd_same with q | ⟨⟨_, q⟩, _⟩
        · exact q
        · cases q
      | succ k =>
        rw [List.getElem?_cons_succ] at e1 e2
        exact hk k b C' e1 e2) ((Grow.new na).trans g)⟩
def spFlg (K : PySem.W.Frag) (Cs : List Addr) : Sp := fun vs H Q _ => ∃ (a D : Addr) (d : Option Addr), vs = [.ref a] ∧ D ∈ Cs ∧ IsEx H a D d ∧ (∀ dx, d = some dx → ∃ fs, IsXd H dx fs) ∧ ∀ R H', H' R = some (.lst (Cs.map fun C => .bl (decide (D = C)))) → Grow H H' → Q (.ref R) H'
def spPln (Cs : List Addr) : Sp := fun vs H Q _ => ∃ (x : V), vs = [x] ∧ ∀ (R : Addr) (as : List Addr) (H' : Hp), H' R = some (.lst (as.map V.ref)) → as.length = 31 → (∀ (k : Nat) (a C : Addr), as[k]? = some a → Cs[k]? = some C → IsEx H' a C none) → Grow H H' → Q (.ref R) H'
section
variable {P : Program} {w : World} {K : PySem.W.Frag} {mg : Str → Option Value} {base : Heap}
theorem ok_flg {f : Addr} {fd : FuncData} {bm : List Value} {SE : Addr} {Cs : List Addr} (F : Fun K "_law_flags" "_law_flags" lFlg f fd) (hI : mg "isinstance" = none) (S : ClsK K mg bm SE Cs) : FnOk P w K mg base CX0 1 f fd ["_law_e"] (spFlg K Cs) := by
  refine F.ok (k := 0) cFlg (fun vs H Q E h => ?_) (fun cdv A outer s H vs Q E hr h => ?_)
  · obtain ⟨_, _, _, rfl, _⟩ := h
    rfl
  · obtain ⟨a, D, d, rfl, hD, hx, hd, k⟩ := h
    obtain ⟨c, hc⟩ : ∃ c : Nat → Addr, ∀ i (h : i < 36), Cs[i]'(S.len.symm ▸ h) = c i := ⟨fun i => Cs.getD i 0, fun i h => by
      show _ = Cs.getD i 0
      rw [List.getD_eq_getElem?_getD, List.getElem?_eq_getElem (S.len.symm ▸ h)]
      rfl⟩
    have m : ∀ i (h : i < 36), mg (nmA i) = some (.ref (c i)) := fun i h => by rw [S.m i h, hc i h]
    have eC : Cs = (List.range 36).map c := by
      refine List.ext_getElem (by rw [List.length_map, List.length_range, S.len]) fun i h1 h2 => ?_
      rw [List.getElem_map, List.getElem_range]
      exact hc i (S.len ▸ h1)
    refine ⟨_, pss_one (ps_ret (pe_lst (show PA _ _ (tFl K ((List.range 36).map c)) from (pa_cons (pe_callB (r := rIsV K) call_isV (by rfl) hI boot_isinstance (pa_cons (pv 0) (pa_cons (pe_glob (v := .ref (c 0)) (by rfl) (m 0 (by decide)) rfl) pa_nil))) (pa_cons (pe_callB (r := rIsV K) call_isV (by rfl) hI boot_isinstance (pa_cons (pv 0) (pa_cons (pe_glob (v := .ref (c 1)) (by rfl) (m 1 (by decide)) rfl) pa_nil))) (pa_cons (pe_callB (r := rIsV K) call_isV (by rfl) hI boot_isinstance (pa_cons (pv 0) (pa_cons (pe_glob (v := .ref (c 2)) (by rfl) (m 2 (by decide)) rfl) pa_nil))) (pa_cons (pe_callB (r := rIsV K) call_isV (by rfl) hI boot_isinstance (pa_cons (pv 0) (pa_cons (pe_glob (v := .ref (c 3)) (by rfl) (m 3 (by decide)) rfl) pa_nil))) (pa_cons (pe_callB (r := rIsV K) call_isV (by rfl) hI boot_isinstance (pa_cons (pv 0) (pa_cons (pe_glob (v := .ref (c 4)) (by rfl) (m 4 (by decide)) rfl) pa_nil))) (pa_cons (pe_callB (r := rIsV K) call_isV (by rfl) hI boot_isinstance (pa_cons (pv 0) (pa_cons (pe_glob (v := .ref (c 5)) (by rfl) (m 5 (by decide)) rfl) pa_nil))) (pa_cons (pe_callB (r := rIsV K) call_isV (by rfl) hI boot_isinstance (pa_cons (pv 0) (pa_cons (pe_glob (v := .ref (c 6)) (by rfl) (m 6 (by decide)) rfl) pa_nil))) (pa_cons (pe_callB (r := rIsV K) call_isV (by rfl) hI boot_isinstance (pa_cons (pv 0) (pa_cons (pe_glob (v := .ref (c 7)) (by rfl) (m 7 (by decide)) rfl) pa_nil))) (pa_cons (pe_callB (r := rIsV K) call_isV (by rfl) hI boot_isinstance (pa_cons (pv 0) (pa_cons (pe_glob (v := .ref (c 8)) (by rfl) (m 8 (by decide)) rfl) pa_nil))) (pa_cons (pe_callB (r := rIsV K) call_isV (by rfl) hI boot_isinstance (pa_cons (pv 0) (pa_cons (pe_glob (v := .ref (c 9)) (by rfl) (m 9 (by decide)) rfl) pa_nil))) (pa_cons (pe_callB (r := rIsV K) call_isV (by rfl) hI boot_isinstance (pa_cons (pv 0) (pa_cons (pe_glob (v := .ref (c 10)) (by rfl) (m 10 (by decide)) rfl) pa_nil))) (pa_cons (pe_callB (r := rIsV K) call_isV (by rfl) hI boot_isinstance (pa_cons (pv 0) (pa_cons (pe_glob (v := .ref (c 11)) (by rfl) (m 11 (by decide)) rfl) pa_nil))) (pa_cons (pe_callB (r := rIsV K) call_isV (by rfl) hI boot_isinstance (pa_cons (pv 0) (pa_cons (pe_glob (v := .ref (c 12)) (by rfl) (m 12 (by decide)) rfl) pa_nil))) (pa_cons (pe_callB (r := rIsV K) call_isV (by rfl) hI boot_isinstance (pa_cons (pv 0) (pa_cons (pe_glob (v := .ref (c 13)) (by rfl) (m 13 (by decide)) rfl) pa_nil))) (pa_cons (pe_callB (r := rIsV K) call_isV (by rfl) hI boot_isinstance (pa_cons (pv 0) (pa_cons (pe_glob (v := .ref (c 14)) (by rfl) (m 14 (by decide)) rfl) pa_nil))) (pa_cons (pe_callB (r := rIsV K) call_isV (by rfl) hI boot_isinstance (pa_cons (pv 0) (pa_cons (pe_glob (v := .ref (c 15)) (by rfl) (m 15 (by decide)) rfl) pa_nil))) (pa_cons (pe_callB (r := rIsV K) call_isV (by rfl) hI boot_isinstance (pa_cons (pv 0) (pa_cons (pe_glob (v := .ref (c 16)) (by rfl) (m 16 (by decide)) rfl) pa_nil))) (pa_cons (pe_callB (r := rIsV K) call_isV (by rfl) hI boot_isinstance (pa_cons (pv 0) (pa_cons (pe_glob (v := .ref (c 17)) (by rfl) (m 17 (by decide)) rfl) pa_nil))) (pa_cons (pe_callB (r := rIsV K) call_isV (by rfl) hI boot_isinstance (pa_cons (pv 0) (pa_cons (pe_glob (v := .ref (c 18)) (by rfl) (m 18 (by decide)) rfl) pa_nil))) (pa_cons (pe_callB (r := rIsV K) call_isV (by rfl) hI boot_isinstance (pa_cons (pv 0) (pa_cons (pe_glob (v := .ref (c 19)) (by rfl) (m 19 (by decide)) rfl) pa_nil))) (pa_cons (pe_callB (r := rIsV K) call_isV (by rfl) hI boot_isinstance (pa_cons (pv 0) (pa_cons (pe_glob (v := .ref (c 20)) (by rfl) (m 20 (by decide)) rfl) pa_nil))) (pa_cons (pe_callB (r := rIsV K) call_isV (by rfl) hI boot_isinstance (pa_cons (pv 0) (pa_cons (pe_glob (v := .ref (c 21)) (by rfl) (m 21 (by decide)) rfl) pa_nil))) (pa_cons (pe_callB (r := rIsV K) call_isV (by rfl) hI boot_isinstance (pa_cons (pv 0) (pa_cons (pe_glob (v := .ref (c 22)) (by rfl) (m 22 (by decide)) rfl) pa_nil))) (pa_cons (pe_callB (r := rIsV K) call_isV (by rfl) hI boot_isinstance (pa_cons (pv 0) (pa_cons (pe_glob (v := .ref (c 23)) (by rfl) (m 23 (by decide)) rfl) pa_nil))) (pa_cons (pe_callB (r := rIsV K) call_isV (by rfl) hI boot_isinstance (pa_cons (pv 0) (pa_cons (pe_glob (v := .ref (c 24)) (by rfl) (m 24 (by decide)) rfl) pa_nil))) (pa_cons (pe_callB (r := rIsV K) call_isV (by rfl) hI boot_isinstance (pa_cons (pv 0) (pa_cons (pe_glob (v := .ref (c 25)) (by rfl) (m 25 (by decide)) rfl) pa_nil))) (pa_cons (pe_callB (r := rIsV K) call_isV (by rfl) hI boot_isinstance (pa_cons (pv 0) (pa_cons (pe_glob (v := .ref (c 26)) (by rfl) (m 26 (by decide)) rfl) pa_nil))) (pa_cons (pe_callB (r := rIsV K) call_isV (by rfl) hI boot_isinstance (pa_cons (pv 0) (pa_cons (pe_glob (v := .ref (c 27)) (by rfl) (m 27 (by decide)) rfl) pa_nil))) (pa_cons (pe_callB (r := rIsV K) call_isV (by rfl) hI boot_isinstance (pa_cons (pv 0) (pa_cons (pe_glob (v := .ref (c 28)) (by rfl) (m 28 (by decide)) rfl) pa_nil))) (pa_cons (pe_callB (r := rIsV K) call_isV (by rfl) hI boot_isinstance (pa_cons (pv 0) (pa_cons (pe_glob (v := .ref (c 29)) (by rfl) (m 29 (by decide)) rfl) pa_nil))) (pa_cons (pe_callB (r := rIsV K) call_isV (by rfl) hI boot_isinstance (pa_cons (pv 0) (pa_cons (pe_glob (v := .ref (c 30)) (by rfl) (m 30 (by decide)) rfl) pa_nil))) (pa_cons (pe_callB (r := rIsV K) call_isV (by rfl) hI boot_isinstance (pa_cons (pv 0) (pa_cons (pe_glob (v := .ref (c 31)) (by rfl) (m 31 (by decide)) rfl) pa_nil))) (pa_cons (pe_callB (r := rIsV K) call_isV (by rfl) hI boot_isinstance (pa_cons (pv 0) (pa_cons (pe_glob (v := .ref (c 32)) (by rfl) (m 32 (by decide)) rfl) pa_nil))) (pa_cons (pe_callB (r := rIsV K) call_isV (by rfl) hI boot_isinstance (pa_cons (pv 0) (pa_cons (pe_glob (v := .ref (c 33)) (by rfl) (m 33 (by decide)) rfl) pa_nil))) (pa_cons (pe_callB (r := rIsV K) call_isV (by rfl) hI boot_isinstance (pa_cons (pv 0) (pa_cons (pe_glob (v := .ref (c 34)) (by rfl) (m 34 (by decide)) rfl) pa_nil))) (pa_cons (pe_callB (r := rIsV K) call_isV (by rfl) hI boot_isinstance (pa_cons (pv 0) (pa_cons (pe_glob (v := .ref (c 35)) (by rfl) (m 35 (by decide)) rfl) pa_nil))) pa_nil))))))))))))))))))))))))))))))))))))))), ?_⟩
    refine fl_ok rfl (S.e D hD) hx hd _ _ (fun C hC => S.kC D hD C (by rw [eC]; exact hC)) ⟨(by rw [List.length_map, ← eC, S.len, sizeLine_eq]; decide), fun R hR => ?_⟩
    exact k R _ (by rw [eC]; exact upd_same) (Grow.new hR)
theorem ok_pln {f : Addr} {fd : FuncData} {SE : Addr} {Cs : List Addr} (F : Fun K "_law_plain" "_law_plain" lPln f fd) (S : ClsK K mg veL SE Cs) : FnOk P w K mg base CX0 1 f fd ["_law_word_here"] (spPln Cs) := by
  refine F.ok (k := 0) cPln (fun vs H Q E h => ?_) (fun cdv A outer s H vs Q E hr h => ?_)
  · obtain ⟨_, rfl, _⟩ := h
    rfl
  · obtain ⟨x, rfl, k⟩ := h
    obtain ⟨c, hc⟩ : ∃ c : Nat → Addr, ∀ i (h : i < 36), Cs[i]'(S.len.symm ▸ h) = c i := ⟨fun i => Cs.getD i 0, fun i h => by
      show _ = Cs.getD i 0
      rw [List.getD_eq_getElem?_getD, List.getElem?_eq_getElem (S.len.symm ▸ h)]
      rfl⟩
    have m : ∀ i (h : i < 36), mg (nmA i) = some (.ref (c i)) := fun i h => by rw [S.m i h, hc i h]
    have kp : ∀ i (h : i < 36), PySem.W.keepIn K (.ref (c i)) = true := fun i h => by rw [← hc i h]; exact S.kp _ (List.getElem_mem _)
    have pl : ∀ i (h : i < 31), PySem.W.excIn K (c i) veL "ValueError.__new__" = true := fun i h => by
      rw [← hc i (by omega)]
      refine S.pl _ (List.mem_iff_getElem.mpr ⟨i, by rw [List.length_take, S.len]; omega, ?_⟩)
      rw [List.getElem_take]
    refine ⟨_, pss_one (ps_ret (pe_lst (show PA _ _ (tPl ((List.range 31).map c)) from (pa_cons (pe_exc1 PySem.F.excBase_ValueError (pl 0 (by decide)) (m 0 (by decide)) (kp 0 (by decide)) rfl (pv 0)) (pa_cons (pe_exc1 PySem.F.excBase_ValueError (pl 1 (by decide)) (m 1 (by decide)) (kp 1 (by decide)) rfl (pv 0)) (pa_cons (pe_exc1 PySem.F.excBase_ValueError (pl 2 (by decide)) (m 2 (by decide)) (kp 2 (by decide)) rfl (pv 0)) (pa_cons (pe_exc1 PySem.F.excBase_ValueError (pl 3 (by decide)) (m 3 (by decide)) (kp 3 (by decide)) rfl (pv 0)) (pa_cons (pe_exc1 PySem.F.excBase_ValueError (pl 4 (by decide)) (m 4 (by decide)) (kp 4 (by decide)) rfl (pv 0)) (pa_cons (pe_exc1 PySem.F.excBase_ValueError (pl 5 (by decide)) (m 5 (by decide)) (kp 5 (by decide)) rfl (pv 0)) (pa_cons (pe_exc1 PySem.F.excBase_ValueError (pl 6 (by decide)) (m 6 (by decide)) (kp 6 (by decide)) rfl (pv 0)) (pa_cons (pe_exc1 PySem.F.excBase_ValueError (pl 7 (by decide)) (m 7 (by decide)) (kp 7 (by decide)) rfl (pv 0)) (pa_cons (pe_exc1 PySem.F.excBase_ValueError (pl 8 (by decide)) (m 8 (by decide)) (kp 8 (by decide)) rfl (pv 0)) (pa_cons (pe_exc1 PySem.F.excBase_ValueError (pl 9 (by decide)) (m 9 (by decide)) (kp 9 (by decide)) rfl (pv 0)) (pa_cons (pe_exc1 PySem.F.excBase_ValueError (pl 10 (by decide)) (m 10 (by decide)) (kp 10 (by decide)) rfl (pv 0)) (pa_cons (pe_exc1 PySem.F.excBase_ValueError (pl 11 (by decide)) (m 11 (by decide)) (kp 11 (by decide)) rfl (pv 0)) (pa_cons (pe_exc1 PySem.F.excBase_ValueError (pl 12 (by decide)) (m 12 (by decide)) (kp 12 (by decide)) rfl (pv 0)) (pa_cons (pe_exc1 PySem.F.excBase_ValueError (pl 13 (by decide)) (m 13 (by decide)) (kp 13 (by decide)) rfl (pv 0)) (pa_cons (pe_exc1 PySem.F.excBase_ValueError (pl 14 (by decide)) (m 14 (by decide)) (kp 14 (by decide)) rfl (pv 0)) (pa_cons (pe_exc1 PySem.F.excBase_ValueError (pl 15 (by decide)) (m 15 (by decide)) (kp 15 (by decide)) rfl (pv 0)) (pa_cons (pe_exc1 PySem.F.excBase_ValueError (pl 16 (by decide)) (m 16 (by decide)) (kp 16 (by decide)) rfl (pv 0)) (pa_cons (pe_exc1 PySem.F.excBase_ValueError (pl 17 (by decide)) (m 17 (by decide)) (kp 17 (by decide)) rfl (pv 0)) (pa_cons (pe_exc1 PySem.F.excBase_ValueError (pl 18 (by decide)) (m 18 (by decide)) (kp 18 (by decide)) rfl (pv 0)) (pa_cons (pe_exc1 PySem.F.excBase_ValueError (pl 19 (by decide)) (m 19 (by decide)) (kp 19 (by decide)) rfl (pv 0)) (pa_cons (pe_exc1 PySem.F.excBase_ValueError (pl 20 (by decide)) (m 20 (by decide)) (kp 20 (by decide)) rfl (pv 0)) (pa_cons (pe_exc1 PySem.F.excBase_ValueError (pl 21 (by decide)) (m 21 (by decide)) (kp 21 (by decide)) rfl (pv 0)) (pa_cons (pe_exc1 PySem.F.excBase_ValueError (pl 22 (by decide)) (m 22 (by decide)) (kp 22 (by decide)) rfl (pv 0)) (pa_cons (pe_exc1 PySem.F.excBase_ValueError (pl 23 (by decide)) (m 23 (by decide)) (kp 23 (by decide)) rfl (pv 0)) (pa_cons (pe_exc1 PySem.F.excBase_ValueError (pl 24 (by decide)) (m 24 (by decide)) (kp 24 (by decide)) rfl (pv 0)) (pa_cons (pe_exc1 PySem.F.excBase_ValueError (pl 25 (by decide)) (m 25 (by decide)) (kp 25 (by decide)) rfl (pv 0)) (pa_cons (pe_exc1 PySem.F.excBase_ValueError (pl 26 (by decide)) (m 26 (by decide)) (kp 26 (by decide)) rfl (pv 0)) (pa_cons (pe_exc1 PySem.F.excBase_ValueError (pl 27 (by decide)) (m 27 (by decide)) (kp 27 (by decide)) rfl (pv 0)) (pa_cons (pe_exc1 PySem.F.excBase_ValueError (pl 28 (by decide)) (m 28 (by decide)) (kp 28 (by decide)) rfl (pv 0)) (pa_cons (pe_exc1 PySem.F.excBase_ValueError (pl 29 (by decide)) (m 29 (by decide)) (kp 29 (by decide)) rfl (pv 0)) (pa_cons (pe_exc1 PySem.F.excBase_ValueError (pl 30 (by decide)) (m 30 (by decide)) (kp 30 (by decide)) rfl (pv 0)) pa_nil)))))))))))))))))))))))))))))))))), ?_⟩
    refine pl_ok (x := x) rfl _ _ _ fun as H' hl hk g => ⟨(by rw [List.length_map, hl, List.length_map, List.length_range, sizeLine_eq]; decide), fun R hR => ?_⟩
    refine k R as _ upd_same (by rw [hl, List.length_map, List.length_range]) (fun j b C e1 e2 => ?_) (g.trans (Grow.new hR))
    have hj : j < 31 := by
      have := (List.getElem?_eq_some_iff.mp e1).1
      rw [hl, List.length_map, List.length_range] at this
      exact this
    have eC : C = c j := by
      rw [List.getElem?_eq_getElem (S.len.symm ▸ (by omega : j < 36))] at e2
      rw [← hc j (by omega)]
      exact (Option.some.inj e2).symm
    have hb := hk j b (c j) e1 (by rw [List.getElem?_map, List.getElem?_range hj]; rfl)
    rw [eC]
    refine isEx_exO ((upd_ne fun z => ?_).trans hb)
    rw [z, hR] at hb
    cases hb
end
end J1
set_option Elab.async false
set_option linter.all false
set_option maxRecDepth 100000
set_option maxHeartbeats 8000000
namespace J1
open PySem PySem.Spec PyProof.Rows L2 GxR GA
abbrev lLaw : Stmt := top 118
theorem cLaw : FnScope ["_law_script", "_law_well_here", "_law_made", "_law_turn", "_law_parts_here", "_law_fields", "_law_found", "_law_errors", "_law_k", "_law_at", "_law_thing", "_law_name", "_law_program", "_law_one", "_law_two"] ["_law_script"] (defScope lLaw) := ⟨rfl, rfl, rfl, by decide +kernel, rfl, by decide +kernel, by decide +kernel⟩
def spLaw (K : PySem.W.Frag) (T : Hp → Prop) : Sp := fun vs H Q _ => ∃ (a : Addr) (ns : List Int), vs = [.ref a] ∧ SqL K H a (ns.map V.int) ∧ T H ∧ ∀ H', Q (.bl true) H'
def StaysW (T : Hp → Prop) : Prop := ∀ (p : Addr) (ys : List V) (H H' : Hp), H p = some (.lst ys) → GrowW p H H' → T H → T H'
def gRef : List V → List V → List V := fun us zs => match us, zs with | [a], [x, y, z] => [a, y, z, x] | _, _ => []
theorem ini_mk {D a : Addr} {m : Nat} {C : List V → Hp → Prop} {F : List V → List (Str × V)} {us : List V} {H : Hp} {G : Hp → Prop} (na : H a = none) (hm : us.length = m) (hc : C us (L2.upd H a (exo a D none)))
    (hQ : ∀ dx H', H dx = none → dx ≠ a → H' a = some (exo a D (some dx)) → H' dx = some (exd dx (F us)) → Grow H H' → G H') : spIni D m C F (.ref a :: us) (L2.upd H a (exo a D none)) (fun v H2 => v = .non ∧ G H2) (fun _ _ _ => False) := by
  refine ⟨a, us, rfl, hm, hc, upd_same, fun dx H' nd ne h1 h2 h3 => ⟨rfl, hQ dx H' (by rw [upd_ne ne] at nd; exact nd) ne h1 h2 fun b o h => .inl ?_⟩⟩
  have hba : b ≠ a := fun z => by rw [z, na] at h; cases h
  have hbd : b ≠ dx := fun z => by rw [upd_ne ne] at nd; rw [z, nd] at h; cases h
  rw [h3 b hba hbd, upd_ne hba]
  exact h
theorem IsEx.w {p : Addr} {ys : List V} {H H' : Hp} {a D : Addr} {d : Option Addr} (h : IsEx H a D d) (hp : H p = some (.lst ys)) (g : GrowW p H H') : IsEx H' a D d := by
  obtain ⟨φ, e, k⟩ := h
  refine ⟨φ, ?_, k⟩
  rcases g a _ (fun z => by rw [z, hp] at e; cases e) e with q | ⟨⟨_, q⟩, _⟩
  · exact q
  · cases q
theorem IsEx.g {H H' : Hp} {a D : Addr} {d : Option Addr} (h : IsEx H a D d) (g : Grow H H') : IsEx H' a D d := by
  obtain ⟨φ, e, k⟩ := h
  refine ⟨φ, ?_, k⟩
  rcases g a _ e with q | ⟨⟨_, q⟩, _⟩
  · exact q
  · cases q
theorem IsXd.g {H H' : Hp} {a : Addr} {fs : List (Str × V)} (h : IsXd H a fs) (g : Grow H H') : IsXd H' a fs := by
  rcases h with e | e
  · rcases g a _ e with q | ⟨⟨_, q⟩, _⟩
    · exact .inl q
    · cases q
  · rcases g a _ e with q | ⟨⟨_, q⟩, _⟩
    · exact .inr q
    · cases q
/-- an exception with fields of its own, held at a -/
def Fld (H : Hp) (a D : Addr) (fs : List (Str × V)) : Prop := ∃ dx, IsEx H a D (some dx) ∧ IsXd H dx fs
theorem Fld.g {H H' : Hp} {a D : Addr} {fs : List (Str × V)} (h : Fld H a D fs) (g : Grow H H') : Fld H' a D fs := by
  obtain ⟨dx, h1, h2⟩ := h
  exact ⟨dx, IsEx.g h1 g, IsXd.g h2 g⟩
theorem Fld.mk' {H' : Hp} {a D dx : Addr} {fs : List (Str × V)} (h1 : H' a = some (exo a D (some dx))) (h2 : H' dx = some (exd dx fs)) : Fld H' a D fs := ⟨dx, isEx_exo h1, .inr h2⟩
theorem grow_none {H H' : Hp} (g : Grow H H') {a : Addr} (h : H' a = Option.none) : H a = Option.none := by
  cases e : H a with
  | none => rfl
  | some o =>
    rcases g a o e with q | ⟨_, ps, q, _⟩
    · rw [h] at q; cases q
    · rw [h] at q; cases q
theorem Fld.put {H : Hp} {a D L : Addr} {fs : List (Str × V)} {ys : List V} {o : HO} (h : Fld H a D fs) (hL : H L = some (.lst ys)) : Fld (L2.upd H L o) a D fs := by
  obtain ⟨dx, ⟨φ, e, k⟩, hx⟩ := h
  have n1 : a ≠ L := fun z => by rw [z, hL] at e; cases e
  refine ⟨dx, ⟨φ, (upd_ne n1).trans e, k⟩, ?_⟩
  rcases hx with e | e
  · exact .inl ((upd_ne (fun z => by rw [z, hL] at e; cases e)).trans e)
  · exact .inr ((upd_ne (fun z => by rw [z, hL] at e; cases e)).trans e)
def zD : Option Str → Da
  | Option.none => .non
  | some s => .str s
def parD (t : Da) (i0 i2 i3 : Int) (nm : Str) (i5 i6 : Int) : Da := .tup [.int i0, t, .int i2, .int i3, .str nm, .int i5, .int i6]
def whaD (wd : Str) (z : Option Str) : Da := .tup [.str wd, zD z]
theorem enc_wha {H : Hp} {t : Addr} {wd : Str} {z : Option Str} (h : H t = some (.tup [.str wd, orNon z])) (h1 : SOk wd) (h2 : ∀ s, z = some s → SOk s) : Enc H (whaD wd z) (.ref t) := by
  refine .tup h (.cons (.str _ h1) (.cons ?_ .nil))
  cases z with
  | none => exact .non
  | some s => exact .str s (h2 s rfl)
theorem dq_wha {j : Nat} {wd : Str} {z : Option Str} : Dq (j + 2) (whaD wd z) := by
  refine .tup (by show 2 ≤ 1000; decide) fun d hd => ?_
  rcases List.mem_cons.mp hd with rfl | hd
  · exact .str _
  rcases List.mem_cons.mp hd with rfl | hd
  · cases z with
    | none => exact .non
    | some s => exact .str s
  · cases hd
theorem dq_par {wd : Str} {z : Option Str} {i0 i2 i3 : Int} {nm : Str} {i5 i6 : Int} : Dq 5 (parD (whaD wd z) i0 i2 i3 nm i5 i6) := by
  refine .tup (by show 7 ≤ 1000; decide) fun d hd => ?_
  rcases List.mem_cons.mp hd with rfl | hd
  · exact .int _
  rcases List.mem_cons.mp hd with rfl | hd
  · exact dq_wha
  rcases List.mem_cons.mp hd with rfl | hd
  · exact .int _
  rcases List.mem_cons.mp hd with rfl | hd
  · exact .int _
  rcases List.mem_cons.mp hd with rfl | hd
  · exact .str _
  rcases List.mem_cons.mp hd with rfl | hd
  · exact .int _
  rcases List.mem_cons.mp hd with rfl | hd
  · exact .int _
  · cases hd
/-- the 36 exceptions of one turn -/
def ErrT (H : Hp) (xs : List V) (Cs : List Addr) : Prop := ∀ k, k < 36 → ∃ (e D : Addr) (d : Option Addr), xs[k]? = some (.ref e) ∧ Cs[k]? = some D ∧ IsEx H e D d ∧ ∀ dx, d = some dx → ∃ fs, IsXd H dx fs
theorem ErrT.g {H H' : Hp} {xs : List V} {Cs : List Addr} (h : ErrT H xs Cs) (g : Grow H H') : ErrT H' xs Cs := fun k hk => by
  obtain ⟨e, D, d, h1, h2, h3, h4⟩ := h k hk
  refine ⟨e, D, d, h1, h2, IsEx.g h3 g, fun dx e => ?_⟩
  obtain ⟨fs, q⟩ := h4 dx e
  exact ⟨fs, IsXd.g q g⟩
theorem errT_of {H : Hp} {as Cs : List Addr} {a0 a1 a2 a3 a4 D0 D1 D2 D3 D4 x0 x1 x2 x3 x4 : Addr} {l0 l1 l2 l3 l4 : List (Str × V)} (hl : as.length = 31) (hC : Cs.length = 36) (has : ∀ (j : Nat) (b C : Addr), as[j]? = some b → Cs[j]? = some C → IsEx H b C none)
    (c0 : Cs[31]? = some D0) (c1 : Cs[32]? = some D1) (c2 : Cs[33]? = some D2) (c3 : Cs[34]? = some D3) (c4 : Cs[35]? = some D4)
    (u0 : IsEx H a0 D0 (some x0)) (u1 : IsEx H a1 D1 (some x1)) (u2 : IsEx H a2 D2 (some x2)) (u3 : IsEx H a3 D3 (some x3)) (u4 : IsEx H a4 D4 (some x4))
    (w0 : IsXd H x0 l0) (w1 : IsXd H x1 l1) (w2 : IsXd H x2 l2) (w3 : IsXd H x3 l3) (w4 : IsXd H x4 l4) : ErrT H (as.map V.ref ++ [.ref a0, .ref a1, .ref a2, .ref a3, .ref a4]) Cs := fun k hk => by
  have hm : (as.map V.ref).length = 31 := by rw [List.length_map, hl]
  by_cases h : k < 31
  · have h1 : as[k]? = some (as[k]'(by omega)) := List.getElem?_eq_getElem (by omega)
    have h2 : Cs[k]? = some (Cs[k]'(by omega)) := List.getElem?_eq_getElem (by omega)
    refine ⟨_, _, none, ?_, h2, has k _ _ h1 h2, fun dx e => by cases e⟩
    rw [List.getElem?_append_left (by omega), List.getElem?_map, h1]
    rfl
  · have one : ∀ {b D x : Addr} {l : List (Str × V)} (j : Nat), k = 31 + j → [V.ref a0, .ref a1, .ref a2, .ref a3, .ref a4][j]? = some (.ref b) → Cs[31 + j]? = some D → IsEx H b D (some x) → IsXd H x l → ∃ (e D : Addr) (d : Option Addr), (as.map V.ref ++ [.ref a0, .ref a1, .ref a2, .ref a3, .ref a4])[k]? = some (.ref e) ∧ Cs[k]? = some D ∧ IsEx H e D d ∧ ∀ dx, d = some dx → ∃ fs, IsXd H dx fs := fun {b D x l} j ek hb hD hx hd => by
      refine ⟨b, D, some x, ?_, by rw [ek]; exact hD, hx, fun dx e => by cases e; exact ⟨l, hd⟩⟩
      rw [List.getElem?_append_right (by omega), hm, ek, Nat.add_sub_cancel_left]
      exact hb
    have h5 : k = 31 ∨ k = 32 ∨ k = 33 ∨ k = 34 ∨ k = 35 := by omega
    rcases h5 with h | h | h | h | h
    · exact one 0 h rfl c0 u0 w0
    · exact one 1 h rfl c1 u1 w1
    · exact one 2 h rfl c2 u2 w2
    · exact one 3 h rfl c3 u3 w3
    · exact one 4 h rfl c4 u4 w4
theorem dp_bls {K : PySem.W.Frag} {H : Hp} : ∀ bs : List Bool, DpAll K H (bs.map V.bl) (bs.map PyData.bool)
  | [] => .nil
  | b :: r => .cons (.bl b) (dp_bls r)
theorem eqv_bls : ∀ bs : List Bool, PyData.eqvAll (bs.map PyData.bool) (bs.map PyData.bool) = true
  | [] => rfl
  | b :: r => by
    show (PyData.eqv (.bool b) (.bool b) && PyData.eqvAll (r.map PyData.bool) (r.map PyData.bool)) = true
    rw [eqv_bls r]
    cases b <;> rfl
theorem flags_eq {Cs : List Addr} {D : Addr} {j : Nat} (nd : Cs.Nodup) (hl : Cs.length = 36) (hD : Cs[j]? = some D) : Cs.map (fun C => V.bl (decide (D = C))) = ((List.range 36).map fun q => decide (q = j)).map V.bl := by
  refine List.ext_getElem (by rw [List.length_map, List.length_map, List.length_map, List.length_range, hl]) fun q h1 h2 => ?_
  rw [List.length_map] at h1
  rw [List.getElem_map, List.getElem_map, List.getElem_map, List.getElem_range]
  refine congrArg V.bl (decide_eq_decide.mpr ⟨fun e => ?_, fun e => ?_⟩)
  · exact nd_ix nd (by rw [List.getElem?_eq_getElem h1, ← e]) hD
  · subst e
    rw [List.getElem?_eq_getElem h1] at hD
    exact (Option.some.inj hD).symm
theorem dq_end {nm : Str} : Dq 5 (.tup [.int 0, .tup [.str "count", .str nm]]) := by
  refine .tup (by show 2 ≤ 1000; decide) fun d hd => ?_
  rcases List.mem_cons.mp hd with rfl | hd
  · exact .int _
  rcases List.mem_cons.mp hd with rfl | hd
  · exact dq_wha (z := some nm)
  · cases hd
/-- the five of one turn, at L -/
structure Five (H : Hp) (L : Addr) (D0 D1 D2 D3 D4 : Addr) (t : Addr) (i0 i2 i3 : Int) (nm : Str) (i5 i6 : Int) : Prop where
  ex : ∃ a0 a1 a2 a3 a4, H L = some (.lst [.ref a0, .ref a1, .ref a2, .ref a3, .ref a4]) ∧ Fld H a0 D0 [("place", .int i0)] ∧ Fld H a1 D1 [("what", .ref t)] ∧ Fld H a2 D2 [("index", .int i2)] ∧ Fld H a3 D3 [("line", .int i3)] ∧
    Fld H a4 D4 [("address", .int i6), ("row", .int i5), ("name", .str nm)]
theorem Wl.lst {H : Hp} {p l : Addr} {ns : List Int} {n : Nat} (W : Wl H p l ns n) : ∃ ys, H p = some (.lst ys) := by
  obtain ⟨⟨c, a, h, _⟩, _⟩ := W
  exact ⟨_, h⟩
theorem hu64 {k : Nat} {A : Around} (hr : Room k A) : A.units + 64 < cLine := by
  have := hr.units
  omega
section
variable {P : Program} {w : World} {K : PySem.W.Frag} {mg : Str → Option Value} {base : Heap}
theorem ok_law {f fWl fD fW fPl fPa fSm fFl fCa SE f0 f1 f2 f3 f4 D0 D1 D2 D3 D4 : Addr} {fd fdWl fdD fdW fdPl fdPa fdSm fdFl fdCa fd0 fd1 fd2 fd3 fd4 : FuncData} {T : Hp → Prop} {Cs : List Addr}
    {gk0 gk1 gk2 gk3 gk4 : List Value → List Value → List Value} (F : Fun K "law" "law" lLaw f fd) (M : Gd3 mg) (hI : mg "isinstance" = none) (hTu : mg "tuple" = none) (hVE : mg "ValueError" = none) (mSE : mg "StepError" = some (.ref SE)) (kSE : PySem.W.keepIn K (.ref SE) = true)
    (st : Stays T) (sw : StaysW T) (S : ClsK K mg veL SE Cs) (nd : Cs.Nodup) (c0 : Cs[31]? = some D0) (c1 : Cs[32]? = some D1) (c2 : Cs[33]? = some D2) (c3 : Cs[34]? = some D3) (c4 : Cs[35]? = some D4)
    (B0 : RaiK P w K mg base "BadText" D0 f0 fd0 ["self", "place"] 1 cInt (fOne "place")) (B1 : RaiK P w K mg base "NotChecked" D1 f1 fd1 ["self", "what"] 1 cWha (fOne "what")) (B2 : RaiK P w K mg base "NotLet" D2 f2 fd2 ["self", "index"] 1 cInt (fOne "index"))
    (B3 : RaiK P w K mg base "BadListing" D3 f3 fd3 ["self", "line"] 1 cInt (fOne "line")) (B4 : RaiK P w K mg base "Refused" D4 f4 fd4 ["self", "name", "row", "address"] 3 cRef fRef)
    (K0 : KBn K fd0 ["self", "place"] 1 ["place"] gk0 (· ++ ·)) (K1 : KBn K fd1 ["self", "what"] 1 ["what"] gk1 (· ++ ·)) (K2 : KBn K fd2 ["self", "index"] 1 ["index"] gk2 (· ++ ·)) (K3 : KBn K fd3 ["self", "line"] 1 ["line"] gk3 (· ++ ·))
    (K4 : KBn K fd4 ["self", "name", "row", "address"] 1 ["address", "name", "row"] gk4 gRef)
    (N0 : PySem.W.findIn K (.ref D0) "place" = some none) (N1 : PySem.W.findIn K (.ref D1) "what" = some none) (N2 : PySem.W.findIn K (.ref D2) "index" = some none) (N3 : PySem.W.findIn K (.ref D3) "line" = some none) (N4 : PySem.W.findIn K (.ref D4) "name" = some none) (N5 : PySem.W.findIn K (.ref D4) "row" = some none) (N6 : PySem.W.findIn K (.ref D4) "address" = some none)
    (X0 : XfC K D0) (X1 : XfC K D1) (X2 : XfC K D2) (X3 : XfC K D3) (X4 : XfC K D4)
    (GWl : FnOk P w K mg base CX0 1 fWl fdWl ["_law_script"] (spWell K)) (DWl : Df K mg "_law_well" ["_law_script"] fWl fdWl)
    (GD : FnOk P w K mg base CX0 1 fD fdD ["_law_well_here", "_law_many"] spDr) (DD : Df K mg "_law_draw" ["_law_well_here", "_law_many"] fD fdD)
    (GW : FnOk P w K mg base CX0 2 fW fdW ["_law_well_here", "_law_capital", "_law_used"] spWord) (DW : Df K mg "_law_word" ["_law_well_here", "_law_capital", "_law_used"] fW fdW)
    (GPl : FnOk P w K mg base CX0 1 fPl fdPl ["_law_word_here"] (spPln Cs)) (DPl : Df K mg "_law_plain" ["_law_word_here"] fPl fdPl)
    (GPa : FnOk P w K mg base CX0 3 fPa fdPa ["_law_well_here"] spPar) (DPa : Df K mg "_law_parts" ["_law_well_here"] fPa fdPa)
    (GSm : FnOk P w K mg base CX0 6 fSm fdSm ["_law_found", "_law_due"] (spSm 5)) (DSm : Df K mg "_law_same" ["_law_found", "_law_due"] fSm fdSm)
    (GFl : FnOk P w K mg base CX0 1 fFl fdFl ["_law_e"] (spFlg K Cs)) (DFl : Df K mg "_law_flags" ["_law_e"] fFl fdFl)
    (GCa : FnOk P w K mg base CX0 13 fCa fdCa ["_law_door", "_law_thing"] (spCau T D0 D1)) (DCa : Df K mg "_law_caught" ["_law_door", "_law_thing"] fCa fdCa) :
    FnOk P w K mg base CX0 14 f fd ["_law_script"] (spLaw K T) := by
  refine F.ok (k := 13) cLaw (fun vs H Q E h => ?_) (fun cdv A outer s H vs Q E hr h => ?_)
  · obtain ⟨_, _, rfl, _⟩ := h
    rfl
  · obtain ⟨a, ns, rfl, hA, hT, k⟩ := h
    have hu := hu64 hr
    refine ⟨_, (pss_cons (ps_set (i := 1) cLaw.nd rfl (Or.inl rfl) (pe_call (GWl.mono (by decide)) hr (by rfl) DWl.g DWl.k DWl.b .nil pass0 (pa_cons (pv 0) pa_nil))) (pss_cons (ps_set (i := 2) cLaw.nd rfl (Or.inl rfl) (pe_call (GPl.mono (by decide)) hr (by rfl) DPl.g DPl.k DPl.b .nil pass0 (pa_cons (pe_call (GW.mono (by decide)) hr (by rfl) DW.g DW.k DW.b .nil pass0 (pa_cons (pv 1) (pa_cons (pe_cmpR op_eq (pe_call (GD.mono (by decide)) hr (by rfl) DD.g DD.k DD.b .nil pass0 (pa_cons (pv 1) (pa_cons pe_int pa_nil))) pe_int (nomark _)) (pa_cons (pe_lst pa_nil) pa_nil)))) pa_nil))) (pss_cons (ps_for PassesOwn.never rfl (pi_range1 (by rfl) M.range (pa_cons pe_int pa_nil)) (pg_name (i := 3) cLaw.nd rfl (Or.inl rfl)) (pss_cons (ps_set (i := 4) cLaw.nd rfl (Or.inl rfl) (pe_call (GPa.mono (by decide)) hr (by rfl) DPa.g DPa.k DPa.b .nil pass0 (pa_cons (pv 1) pa_nil))) (pss_cons (ps_set (i := 5) cLaw.nd rfl (Or.inl rfl) (pe_lst (pa_cons (pe_oexV B0.T B0.iC B0.tI B0.F1 (hr.mono (by decide)) B0.b pass0 rfl B0.g (pa_cons (pe_ix ix_list (pv 4) pe_int (fun _ _ => rfl)) pa_nil)) (pa_cons (pe_oexV B1.T B1.iC B1.tI B1.F1 (hr.mono (by decide)) B1.b pass0 rfl B1.g (pa_cons (pe_ix ix_list (pv 4) pe_int (fun _ _ => rfl)) pa_nil)) (pa_cons (pe_oexV B2.T B2.iC B2.tI B2.F1 (hr.mono (by decide)) B2.b pass0 rfl B2.g (pa_cons (pe_ix ix_list (pv 4) pe_int (fun _ _ => rfl)) pa_nil)) (pa_cons (pe_oexV B3.T B3.iC B3.tI B3.F1 (hr.mono (by decide)) B3.b pass0 rfl B3.g (pa_cons (pe_ix ix_list (pv 4) pe_int (fun _ _ => rfl)) pa_nil)) pa_nil)))))) (pss_cons (ps_expr (pe_bm PySem.F.plainAttrs_list PySem.F.slot_list_append PySem.F.type_list_append mt_append (pv 5) (pa_cons (pe_oexV B4.T B4.iC B4.tI B4.F1 (hr.mono (by decide)) B4.b pass0 rfl B4.g (pa_cons (pe_ix ix_list (pv 4) pe_int (fun _ _ => rfl)) (pa_cons (pe_ix ix_list (pv 4) pe_int (fun _ _ => rfl)) (pa_cons (pe_ix ix_list (pv 4) pe_int (fun _ _ => rfl)) pa_nil)))) pa_nil))) (C8.pss_cut (ps_if (pt_cmpR op_eq (pv 3) pe_int (nomark _)) (pss_cons (ps_set (i := 5) cLaw.nd rfl (Or.inl rfl) (pe_lst (pa_cons (pe_oexVK B0.T B0.iC B0.tI B0.F1 (hr.mono (by decide)) K0 pass0 rfl B0.g (pk_cons (pe_ix ix_list (pv 4) pe_int (fun _ _ => rfl)) pk_nil)) (pa_cons (pe_oexVK B1.T B1.iC B1.tI B1.F1 (hr.mono (by decide)) K1 pass0 rfl B1.g (pk_cons (pe_ix ix_list (pv 4) pe_int (fun _ _ => rfl)) pk_nil)) (pa_cons (pe_oexVK B2.T B2.iC B2.tI B2.F1 (hr.mono (by decide)) K2 pass0 rfl B2.g (pk_cons (pe_ix ix_list (pv 4) pe_int (fun _ _ => rfl)) pk_nil)) (pa_cons (pe_oexVK B3.T B3.iC B3.tI B3.F1 (hr.mono (by decide)) K3 pass0 rfl B3.g (pk_cons (pe_ix ix_list (pv 4) pe_int (fun _ _ => rfl)) pk_nil)) pa_nil)))))) (pss_one (ps_expr (pe_bm PySem.F.plainAttrs_list PySem.F.slot_list_append PySem.F.type_list_append mt_append (pv 5) (pa_cons (pe_oexVK B4.T B4.iC B4.tI B4.F1 (hr.mono (by decide)) K4 pass0 rfl B4.g (pk_cons (pe_ix ix_list (pv 4) pe_int (fun _ _ => rfl)) (pk_cons (pe_ix ix_list (pv 4) pe_int (fun _ _ => rfl)) (pk_cons (pe_ix ix_list (pv 4) pe_int (fun _ _ => rfl)) pk_nil)))) pa_nil))))) pss_nil) (pss_cons (ps_set (i := 6) cLaw.nd rfl (Or.inl rfl) (pe_lst (pa_cons (pe_xv (pe_ix ix_list (pv 5) pe_int (fun _ _ => rfl))) (pa_cons (pe_xv (pe_ix ix_list (pv 5) pe_int (fun _ _ => rfl))) (pa_cons (pe_xv (pe_ix ix_list (pv 5) pe_int (fun _ _ => rfl))) (pa_cons (pe_xv (pe_ix ix_list (pv 5) pe_int (fun _ _ => rfl))) pa_nil)))))) (pss_cons (ps_set (i := 6) cLaw.nd rfl (Or.inl rfl) (pe_op op_cat (pv 6) (pe_lst (pa_cons (pe_xv (pe_ix ix_list (pv 5) pe_int (fun _ _ => rfl))) (pa_cons (pe_xv (pe_ix ix_list (pv 5) pe_int (fun _ _ => rfl))) (pa_cons (pe_xv (pe_ix ix_list (pv 5) pe_int (fun _ _ => rfl))) pa_nil)))))) (pss_cons (ps_if (pt_not (pt_val (pe_call (GSm.mono (by decide)) hr (by rfl) DSm.g DSm.k DSm.b .nil pass0 (pa_cons (pe_callTy call_tuple_of (by rfl) hTu (by decide +kernel) (pa_cons (pv 6) pa_nil)) (pa_cons (pe_callTy call_tuple_of (by rfl) hTu (by decide +kernel) (pa_cons (pv 4) pa_nil)) pa_nil))))) (pss_one (ps_ret pe_bl)) pss_nil) (pss_cons (ps_set (i := 7) cLaw.nd rfl (Or.inl rfl) (pe_op op_cat (pv 2) (pv 5))) (pss_one (ps_for PassesOwn.never rfl (pi_range1 (by rfl) M.range (pa_cons pe_int pa_nil)) (pg_name (i := 8) cLaw.nd rfl (Or.inr rfl)) (pss_cons (ps_if (PW.pt (pw_or (pt_not (pt_val (pe_callB call_isV (by rfl) hI boot_isinstance (pa_cons (pe_ix ix_list (pv 7) (pv 8) (fun _ _ => rfl)) (pa_cons (pe_glob (v := .ref SE) (by rfl) mSE rfl) pa_nil))))) (pw_or1 (pt_not (pt_val (pe_callB call_isV (by rfl) hI boot_isinstance (pa_cons (pe_ix ix_list (pv 7) (pv 8) (fun _ _ => rfl)) (pa_cons (pe_bltn (v := .ty "ValueError") rfl hVE (by decide +kernel) rfl) pa_nil)))))))) (pss_one (ps_ret pe_bl)) pss_nil) (pss_one (ps_if (pt_cmpR (op_neD hu) (pe_call (GFl.mono (by decide)) hr (by rfl) DFl.g DFl.k DFl.b .nil pass0 (pa_cons (pe_ix ix_list (pv 7) (pv 8) (fun _ _ => rfl)) pa_nil)) (pe_lc (own := [("_law_at", 9)]) (g := gName 9) (tt := tYes) (by rfl) cLaw.nd (pi_range1 (by rfl) M.range (pa_cons pe_int pa_nil)) (blkOk_by (own := [("_law_at", 9)]) (N := ["_law_script", "_law_well_here", "_law_made", "_law_turn", "_law_parts_here", "_law_fields", "_law_found", "_law_errors", "_law_k", "_law_at", "_law_thing", "_law_name", "_law_program", "_law_one", "_law_two"]) (sc := defScope lLaw) (by decide +kernel)) (fun _ _ _ _ _ => (pg_name (i := 9) cLaw.nd rfl (Or.inl rfl))) (fun _ _ _ _ _ => pts_nil) (fun _ _ _ _ _ => (pe_cmpR op_eq (pv 9) (pv 8) (nomark _)))) (nomark _)) (pss_one (ps_ret pe_bl)) pss_nil)))))))))))))) (pss_cons (ps_set (i := 10) cLaw.nd rfl (Or.inl rfl) (pe_ix ix_list (pe_lst (pa_cons pe_non (pa_cons (pe_call (GD.mono (by decide)) hr (by rfl) DD.g DD.k DD.b .nil pass0 (pa_cons (pv 1) (pa_cons pe_int pa_nil))) (pa_cons pe_bl (pa_cons (pe_tup pa_nil) (pa_cons (pe_lst (pa_cons pe_str pa_nil)) pa_nil)))))) (pe_call (GD.mono (by decide)) hr (by rfl) DD.g DD.k DD.b .nil pass0 (pa_cons (pv 1) (pa_cons pe_int pa_nil))) (fun _ _ => rfl))) (pss_cons (ps_set (i := 11) cLaw.nd rfl (Or.inl rfl) (pe_call (GW.mono (by decide)) hr (by rfl) DW.g DW.k DW.b .nil pass0 (pa_cons (pv 1) (pa_cons pe_bl (pa_cons (pe_lst pa_nil) pa_nil))))) (pss_cons (ps_set (i := 12) cLaw.nd rfl (Or.inl rfl) (pe_tup (pa_cons (pe_tup pa_nil) (pa_cons (pe_tup (pa_cons (pe_tup (pa_cons (pv 11) (pa_cons (pe_tup pa_nil) (pa_cons pe_str (pa_cons (pe_tup (pa_cons pe_str (pa_cons (pe_tup (pa_cons pe_str (pa_cons (pv 11) (pa_cons (pe_tup (pa_cons (pe_tup (pa_cons pe_str (pa_cons pe_int pa_nil))) pa_nil)) pa_nil)))) pa_nil))) pa_nil))))) pa_nil)) pa_nil)))) (pss_cons (ps_par (i := 13) (j := 14) (by rfl) cLaw.nd rfl rfl (by decide) rfl rfl (pa_cons (pe_call GCa hr (by rfl) DCa.g DCa.k DCa.b .nil pass0 (pa_cons pe_int (pa_cons (pv 10) pa_nil))) (pa_cons (pe_call GCa hr (by rfl) DCa.g DCa.k DCa.b .nil pass0 (pa_cons pe_int (pa_cons (pv 12) pa_nil))) pa_nil)) (by rfl)) (pss_cons (ps_if (PW.pt (pw_or (pt_not (pt_val (pe_callB call_isV (by rfl) hI boot_isinstance (pa_cons (pv 13) (pa_cons (pe_glob (v := .ref D0) (by rfl) B0.g rfl) pa_nil))))) (pw_or1 (pt_not (pt_val (pe_callB call_isV (by rfl) hI boot_isinstance (pa_cons (pv 14) (pa_cons (pe_glob (v := .ref D1) (by rfl) B1.g rfl) pa_nil)))))))) (pss_one (ps_ret pe_bl)) pss_nil) (pss_one (ps_ret (pe_call (GSm.mono (by decide)) hr (by rfl) DSm.g DSm.k DSm.b .nil pass0 (pa_cons (pe_tup (pa_cons (pe_xv (pv 13)) (pa_cons (pe_xv (pv 14)) pa_nil))) (pa_cons (pe_tup (pa_cons pe_int (pa_cons (pe_tup (pa_cons pe_str (pa_cons (pv 11) pa_nil))) pa_nil))) pa_nil))))))))))))), ?_⟩
    refine ⟨_, rfl, a, ns, rfl, hA, fun p l H1 W1 g1 => ?_⟩
    have hT1 := st _ _ g1 hT
    obtain ⟨ys, hp1⟩ := W1.lst
    refine ⟨_, rfl, _, rfl, p, l, ns, 0, 2, rfl, by decide, cdw (by decide) (by decide), W1, by decide, fun r H2 ra rb W2 g2 => ⟨rfl, ?_⟩⟩
    refine ⟨(by show 0 ≤ sizeLine; decide), fun u hu' => ?_⟩
    refine ⟨p, l, u, ns, 1, _, rfl, W2.grow (Grow.new hu'), (W2.np hu').1, (W2.np hu').2, upd_same, by decide, fun nm0 H3 s3 n3 l3 W3 v3 => ?_⟩
    have G3 : GrowW p H1 H3 := g2.trans' ((Grow.new hu').w.afterV hu' v3)
    refine ⟨_, rfl, fun R as H4 hR hl has g4 => ?_⟩
    have G4 := G3.trans' g4.w
    have W4 := W3.grow g4
    have hRp : R ≠ p := fun z => by
      obtain ⟨⟨c, a', h, _⟩, _⟩ := W4
      rw [z] at hR
      rw [hR] at h
      have := congrArg List.length (HO.lst.inj (Option.some.inj h))
      rw [List.length_map, hl] at this
      exact absurd this (by show ¬ 31 = 3; decide)
    refine ⟨_, rfl, by decide, by decide, ?_⟩
    refine for_range (n := 2) (fun i σ' Hc => (∃ v3 v4 v5 v6 v7 v8 v9, σ' = [some (.ref a), some (.ref p), some (.ref R), v3, v4, v5, v6, v7, v8, v9, none, none, none, none, none]) ∧ Wl Hc p l ns (15 + 100 * i) ∧ GrowW p H1 Hc ∧ Hc R = some (.lst (as.map V.ref)) ∧ (∀ (j : Nat) (b C : Addr), as[j]? = some b → Cs[j]? = some C → IsEx Hc b C none))
      ⟨⟨_, _, _, _, _, _, _, rfl⟩, W4, G4, hR, has⟩ (fun i σ' Hc hi hp => ?_) (fun σ' Hc hp => ?_)
    · obtain ⟨⟨v3, v4, v5, v6, v7, v8, v9, rfl⟩, W, G, hRc, hasc⟩ := hp
      refine ⟨_, rfl, p, l, ns, _, rfl, W, ?_, fun Rp t wd z i0 i2 i3 nm i5 i6 H5 PT PB W5 g5 => ?_⟩
      · exact Nat.le_trans (by omega : 15 + 100 * i + 100 ≤ 1000) (by decide)
      obtain ⟨yc, hpc⟩ := W.lst
      have hR5 : H5 R = some (.lst (as.map V.ref)) := g5.lst hRp hRc
      have has5 : ∀ (j : Nat) (b C : Addr), as[j]? = some b → Cs[j]? = some C → IsEx H5 b C none := fun j b C e1 e2 => IsEx.w (hasc j b C e1 e2) hpc g5
      have G5 := G.trans' g5
      have hl5 := PT.list
      have ht5 := PT.what
      refine ⟨_, rfl, Rp, _, 0, _, rfl, rfl, SqL.of hl5, at_of (j := 0) rfl rfl, (by show 1 ≤ 1000; decide), fun a0 n0 => ini_mk (D := D0) (m := 1) (C := cInt) (F := fOne "place") (us := [.int i0]) n0 rfl (⟨i0, rfl, PB.b0⟩) (fun x0 H6 _ _ e0 y0 g6 => ?_)⟩
      have ht6 := g6.tup' ht5
      refine ⟨_, rfl, Rp, _, 1, _, rfl, rfl, SqL.of (g6.lst hl5), at_of (j := 1) rfl rfl, (by show 1 ≤ 1000; decide), fun a1 n1 => ini_mk (D := D1) (m := 1) (C := cWha) (F := fOne "what") (us := [.ref t]) n1 rfl (⟨t, wd, z, rfl, (upd_ne (fun z => by rw [z, n1] at ht6; cases ht6)).trans ht6, PB.w2, fun s e => (PB.z1 s e).2⟩) (fun x1 H7 _ _ e1 y1 g7 => ?_)⟩
      have g67 := g6.trans g7
      refine ⟨_, rfl, Rp, _, 2, _, rfl, rfl, SqL.of (g67.lst hl5), at_of (j := 2) rfl rfl, (by show 1 ≤ 1000; decide), fun a2 n2 => ini_mk (D := D2) (m := 1) (C := cInt) (F := fOne "index") (us := [.int i2]) n2 rfl (⟨i2, rfl, PB.b2⟩) (fun x2 H8 _ _ e2 y2 g8 => ?_)⟩
      have g68 := g67.trans g8
      refine ⟨_, rfl, Rp, _, 3, _, rfl, rfl, SqL.of (g68.lst hl5), at_of (j := 3) rfl rfl, (by show 1 ≤ 1000; decide), fun a3 n3 => ini_mk (D := D3) (m := 1) (C := cInt) (F := fOne "line") (us := [.int i3]) n3 rfl (⟨i3, rfl, PB.b3⟩) (fun x3 H9 _ _ e3 y3 g9 => ⟨(by show 4 ≤ sizeLine; decide), fun L hL => ?_⟩)⟩
      have gL := Grow.new (o := .lst [.ref a0, .ref a1, .ref a2, .ref a3]) hL
      have g69 := (g68.trans g9).trans gL
      have f0 : Fld (L2.upd H9 L (.lst [.ref a0, .ref a1, .ref a2, .ref a3])) a0 D0 [("place", .int i0)] := (Fld.mk' e0 y0).g (((g7.trans g8).trans g9).trans gL)
      have f1 : Fld (L2.upd H9 L (.lst [.ref a0, .ref a1, .ref a2, .ref a3])) a1 D1 [("what", .ref t)] := (Fld.mk' e1 y1).g ((g8.trans g9).trans gL)
      have f2 : Fld (L2.upd H9 L (.lst [.ref a0, .ref a1, .ref a2, .ref a3])) a2 D2 [("index", .int i2)] := (Fld.mk' e2 y2).g (g9.trans gL)
      have f3 : Fld (L2.upd H9 L (.lst [.ref a0, .ref a1, .ref a2, .ref a3])) a3 D3 [("line", .int i3)] := (Fld.mk' e3 y3).g gL
      have hLL : L2.upd H9 L (.lst [.ref a0, .ref a1, .ref a2, .ref a3]) L = some (.lst [.ref a0, .ref a1, .ref a2, .ref a3]) := upd_same
      generalize L2.upd H9 L (.lst [.ref a0, .ref a1, .ref a2, .ref a3]) = HL at g69 f0 f1 f2 f3 hLL ⊢
      refine ⟨_, rfl, .inl ⟨rfl, _, SqL.of hLL⟩, _, rfl, Rp, _, 4, _, rfl, rfl, SqL.of (g69.lst hl5), at_of (j := 4) rfl rfl, _, rfl, Rp, _, 5, _, rfl, rfl, SqL.of (g69.lst hl5), at_of (j := 5) rfl rfl, _, rfl, Rp, _, 6, _, rfl, rfl, SqL.of (g69.lst hl5), at_of (j := 6) rfl rfl, (by show 3 ≤ 1000; decide), fun a4 n4 => ini_mk (D := D4) (m := 3) (C := cRef) (F := fRef) (us := [.str nm, .int i5, .int i6]) n4 rfl (⟨nm, i5, i6, rfl, PB.n2.1, PB.b5, PB.b6⟩) (fun x4 HM _ _ e4 y4 gM => ⟨L, _, _, rfl, rfl, gM.lst hLL, (by rw [sizeLine_eq]; exact (by decide : (4 : Nat) < 16777216)), ?_⟩)⟩
      have hLM := gM.lst hLL
      have q4 : Fld HM a4 D4 [("address", .int i6), ("row", .int i5), ("name", .str nm)] := Fld.mk' e4 y4
      have gA : Grow H5 (L2.upd HM L (.lst ([.ref a0, .ref a1, .ref a2, .ref a3] ++ [.ref a4]))) := grow_but (g69.trans gM) (grow_none (g68.trans g9) hL)
      have F5 : Five (L2.upd HM L (.lst ([.ref a0, .ref a1, .ref a2, .ref a3] ++ [.ref a4]))) L D0 D1 D2 D3 D4 t i0 i2 i3 nm i5 i6 := ⟨a0, a1, a2, a3, a4, upd_same, (f0.g gM).put hLM, (f1.g gM).put hLM, (f2.g gM).put hLM, (f3.g gM).put hLM, q4.put hLM⟩
      generalize L2.upd HM L (.lst ([.ref a0, .ref a1, .ref a2, .ref a3] ++ [.ref a4])) = HA at gA F5 ⊢
      refine ⟨fun σ' H' => ∃ L, σ' = [some (.ref a), some (.ref p), some (.ref R), some (.int (0 + (i : Nat))), some (.ref Rp), some (.ref L), v6, v7, v8, v9, none, none, none, none, none] ∧ Five H' L D0 D1 D2 D3 D4 t i0 i2 i3 nm i5 i6 ∧ Grow H5 H', ?_, ?_⟩
      · refine ⟨_, rfl, rfl, _, rfl, ite2 (fun _ => ?_) (fun _ => ⟨L, rfl, F5, gA⟩)⟩
        clear f0 f1 f2 f3 F5 hLM hLL q4
        refine ⟨_, rfl, Rp, _, 0, _, rfl, rfl, SqL.of (gA.lst hl5), at_of (j := 0) rfl rfl, rfl, fun a0 n0 => ini_mk (D := D0) (m := 1) (C := cInt) (F := fOne "place") (us := [.int i0]) n0 rfl (⟨i0, rfl, PB.b0⟩) (fun x0 H6 _ _ e0 y0 g6' => ?_)⟩
        have g6 := gA.trans g6'
        have ht6 := g6.tup' ht5
        refine ⟨_, rfl, Rp, _, 1, _, rfl, rfl, SqL.of (g6.lst hl5), at_of (j := 1) rfl rfl, rfl, fun a1 n1 => ini_mk (D := D1) (m := 1) (C := cWha) (F := fOne "what") (us := [.ref t]) n1 rfl (⟨t, wd, z, rfl, (upd_ne (fun z => by rw [z, n1] at ht6; cases ht6)).trans ht6, PB.w2, fun s e => (PB.z1 s e).2⟩) (fun x1 H7 _ _ e1 y1 g7 => ?_)⟩
        have g67 := g6.trans g7
        refine ⟨_, rfl, Rp, _, 2, _, rfl, rfl, SqL.of (g67.lst hl5), at_of (j := 2) rfl rfl, rfl, fun a2 n2 => ini_mk (D := D2) (m := 1) (C := cInt) (F := fOne "index") (us := [.int i2]) n2 rfl (⟨i2, rfl, PB.b2⟩) (fun x2 H8 _ _ e2 y2 g8 => ?_)⟩
        have g68 := g67.trans g8
        refine ⟨_, rfl, Rp, _, 3, _, rfl, rfl, SqL.of (g68.lst hl5), at_of (j := 3) rfl rfl, rfl, fun a3 n3 => ini_mk (D := D3) (m := 1) (C := cInt) (F := fOne "line") (us := [.int i3]) n3 rfl (⟨i3, rfl, PB.b3⟩) (fun x3 H9 _ _ e3 y3 g9 => ⟨(by show 4 ≤ sizeLine; decide), fun L hL => ?_⟩)⟩
        have gL := Grow.new (o := .lst [.ref a0, .ref a1, .ref a2, .ref a3]) hL
        have g69 := (g68.trans g9).trans gL
        have f0 : Fld (L2.upd H9 L (.lst [.ref a0, .ref a1, .ref a2, .ref a3])) a0 D0 [("place", .int i0)] := (Fld.mk' e0 y0).g (((g7.trans g8).trans g9).trans gL)
        have f1 : Fld (L2.upd H9 L (.lst [.ref a0, .ref a1, .ref a2, .ref a3])) a1 D1 [("what", .ref t)] := (Fld.mk' e1 y1).g ((g8.trans g9).trans gL)
        have f2 : Fld (L2.upd H9 L (.lst [.ref a0, .ref a1, .ref a2, .ref a3])) a2 D2 [("index", .int i2)] := (Fld.mk' e2 y2).g (g9.trans gL)
        have f3 : Fld (L2.upd H9 L (.lst [.ref a0, .ref a1, .ref a2, .ref a3])) a3 D3 [("line", .int i3)] := (Fld.mk' e3 y3).g gL
        have hLL : L2.upd H9 L (.lst [.ref a0, .ref a1, .ref a2, .ref a3]) L = some (.lst [.ref a0, .ref a1, .ref a2, .ref a3]) := upd_same
        generalize L2.upd H9 L (.lst [.ref a0, .ref a1, .ref a2, .ref a3]) = HL at g69 f0 f1 f2 f3 hLL ⊢
        refine ⟨_, rfl, .inl ⟨rfl, _, SqL.of hLL⟩, _, rfl, Rp, _, 6, _, rfl, rfl, SqL.of (g69.lst hl5), at_of (j := 6) rfl rfl, _, rfl, Rp, _, 4, _, rfl, rfl, SqL.of (g69.lst hl5), at_of (j := 4) rfl rfl, _, rfl, Rp, _, 5, _, rfl, rfl, SqL.of (g69.lst hl5), at_of (j := 5) rfl rfl, rfl, fun a4 n4 => ini_mk (D := D4) (m := 3) (C := cRef) (F := fRef) (us := [.str nm, .int i5, .int i6]) n4 rfl (⟨nm, i5, i6, rfl, PB.n2.1, PB.b5, PB.b6⟩) (fun x4 HN _ _ e4 y4 gN => ⟨L, _, _, rfl, rfl, gN.lst hLL, (by rw [sizeLine_eq]; exact (by decide : (4 : Nat) < 16777216)), ?_⟩)⟩
        have hLN := gN.lst hLL
        have q4 : Fld HN a4 D4 [("address", .int i6), ("row", .int i5), ("name", .str nm)] := Fld.mk' e4 y4
        exact ⟨L, rfl, ⟨a0, a1, a2, a3, a4, upd_same, (f0.g gN).put hLN, (f1.g gN).put hLN, (f2.g gN).put hLN, (f3.g gN).put hLN, q4.put hLN⟩, grow_but (g69.trans gN) (grow_none (g68.trans g9) hL)⟩
      clear f0 f1 f2 f3 F5 hLM hLL q4 gA g69 gM
      rintro σ' HB ⟨L, rfl, ⟨a0, a1, a2, a3, a4, hL, f0, f1, f2, f3, f4'⟩, gB⟩
      obtain ⟨⟨x0, u0, w0⟩, ⟨x1, u1, w1⟩, ⟨x2, u2, w2⟩, ⟨x3, u3, w3⟩, ⟨x4, u4, w4⟩⟩ := (⟨f0, f1, f2, f3, f4'⟩ : _ ∧ _ ∧ _ ∧ _ ∧ _)
      refine ⟨_, rfl, L, _, 0, _, rfl, rfl, SqL.of hL, at_of (j := 0) rfl rfl, a0, D0, x0, _, _, rfl, X0, N0, u0, w0, rfl, _, rfl, L, _, 1, _, rfl, rfl, SqL.of hL, at_of (j := 1) rfl rfl, a1, D1, x1, _, _, rfl, X1, N1, u1, w1, rfl, _, rfl, L, _, 2, _, rfl, rfl, SqL.of hL, at_of (j := 2) rfl rfl, a2, D2, x2, _, _, rfl, X2, N2, u2, w2, rfl, _, rfl, L, _, 3, _, rfl, rfl, SqL.of hL, at_of (j := 3) rfl rfl, a3, D3, x3, _, _, rfl, X3, N3, u3, w3, rfl, (by show 4 ≤ sizeLine; decide), fun F1 hF1 => ?_⟩
      have gF1 := Grow.new (o := .lst [.int i0, .ref t, .int i2, .int i3]) hF1
      have hF1' : L2.upd HB F1 (.lst [.int i0, .ref t, .int i2, .int i3]) F1 = some (.lst [.int i0, .ref t, .int i2, .int i3]) := upd_same
      generalize L2.upd HB F1 (.lst [.int i0, .ref t, .int i2, .int i3]) = HC at gF1 hF1' ⊢
      refine ⟨_, rfl, _, rfl, L, _, 4, _, rfl, rfl, SqL.of (gF1.lst hL), at_of (j := 4) rfl rfl, a4, D4, x4, _, _, rfl, X4, N4, IsEx.g u4 gF1, IsXd.g w4 gF1, rfl, _, rfl, L, _, 4, _, rfl, rfl, SqL.of (gF1.lst hL), at_of (j := 4) rfl rfl, a4, D4, x4, _, _, rfl, X4, N5, IsEx.g u4 gF1, IsXd.g w4 gF1, rfl, _, rfl, L, _, 4, _, rfl, rfl, SqL.of (gF1.lst hL), at_of (j := 4) rfl rfl, a4, D4, x4, _, _, rfl, X4, N6, IsEx.g u4 gF1, IsXd.g w4 gF1, rfl, (by show 3 ≤ sizeLine; decide), fun F2 hF2 => ?_⟩
      have gF2 := Grow.new (o := .lst [.str nm, .int i5, .int i6]) hF2
      refine ⟨F1, F2, _, _, rfl, rfl, gF2.lst hF1', upd_same, (by show 4 + 3 ≤ sizeLine; decide), fun F3 hF3 => ?_⟩
      have gF3 := Grow.new (o := .lst ([.int i0, .ref t, .int i2, .int i3] ++ [.str nm, .int i5, .int i6])) hF3
      have hF33 : L2.upd (L2.upd HC F2 (.lst [.str nm, .int i5, .int i6])) F3 (.lst ([.int i0, .ref t, .int i2, .int i3] ++ [.str nm, .int i5, .int i6])) F3 = some (.lst ([.int i0, .ref t, .int i2, .int i3] ++ [.str nm, .int i5, .int i6])) := upd_same
      have gC := (gF1.trans gF2).trans gF3
      generalize L2.upd (L2.upd HC F2 (.lst [.str nm, .int i5, .int i6])) F3 (.lst ([.int i0, .ref t, .int i2, .int i3] ++ [.str nm, .int i5, .int i6])) = HD at gC hF33 ⊢
      refine ⟨_, rfl, F3, _, rfl, .inl ⟨SqL.of hF33, fun T1 hT1 => ?_⟩⟩
      have gT1 := Grow.new (o := .tup ([.int i0, .ref t, .int i2, .int i3] ++ [.str nm, .int i5, .int i6])) hT1
      refine ⟨_, rfl, Rp, _, rfl, .inl ⟨SqL.of (((gB.trans gC).trans gT1).lst hl5), fun T2 hT2 => ?_⟩⟩
      have gT2 := Grow.new (o := .tup [.int i0, .ref t, .int i2, .int i3, .str nm, .int i5, .int i6]) hT2
      have g5e := ((gB.trans gC).trans gT1).trans gT2
      have et := enc_wha (g5e.tup' ht5) PB.w1 fun s e => (PB.z1 s e).1
      have el : Encs _ [.int i0, whaD wd z, .int i2, .int i3, .str nm, .int i5, .int i6] [.int i0, .ref t, .int i2, .int i3, .str nm, .int i5, .int i6] := .cons (.int _) (.cons et (.cons (.int _) (.cons (.int _) (.cons (.str _ PB.n1) (.cons (.int _) (.cons (.int _) .nil))))))
      refine ⟨.ref T1, .ref T2, parD (whaD wd z) i0 i2 i3 nm i5 i6, rfl, .tup (gT2.tup' upd_same) el, .tup upd_same el, dq_par, fun HE gE => ⟨_, rfl, iteF ?_⟩⟩
      have gBE := (((gC.trans gT1).trans gT2).trans gE)
      have hLE := gBE.lst hL
      have hRE : HE R = some (.lst (as.map V.ref)) := (gB.trans gBE).lst hR5
      have ER : ErrT HE (as.map V.ref ++ [.ref a0, .ref a1, .ref a2, .ref a3, .ref a4]) Cs := errT_of hl S.len (fun j b C e1 e2 => IsEx.g (has5 j b C e1 e2) (gB.trans gBE)) c0 c1 c2 c3 c4 (IsEx.g u0 gBE) (IsEx.g u1 gBE) (IsEx.g u2 gBE) (IsEx.g u3 gBE) (IsEx.g u4 gBE) (IsXd.g w0 gBE) (IsXd.g w1 gBE) (IsXd.g w2 gBE) (IsXd.g w3 gBE) (IsXd.g w4 gBE)
      refine ⟨_, rfl, _, rfl, R, L, _, _, rfl, rfl, hRE, hLE, (by rw [List.length_map, hl]; show 31 + 5 ≤ sizeLine; decide), fun Er hEr => ?_⟩
      have gEr := Grow.new (o := .lst (as.map V.ref ++ [.ref a0, .ref a1, .ref a2, .ref a3, .ref a4])) hEr
      have hErr : L2.upd HE Er (.lst (as.map V.ref ++ [.ref a0, .ref a1, .ref a2, .ref a3, .ref a4])) Er = some (.lst (as.map V.ref ++ [.ref a0, .ref a1, .ref a2, .ref a3, .ref a4])) := upd_same
      have ER2 := ER.g gEr
      have gX := (gB.trans gBE).trans gEr
      generalize L2.upd HE Er (.lst (as.map V.ref ++ [.ref a0, .ref a1, .ref a2, .ref a3, .ref a4])) = HX at gX ER2 hErr ⊢
      generalize as.map V.ref ++ [.ref a0, .ref a1, .ref a2, .ref a3, .ref a4] = xs at ER2 hErr ⊢
      refine ⟨_, rfl, by decide, by decide, ?_⟩
      refine for_range (n := 36) (fun j σ' Hy => (∃ v8 v9, σ' = [some (.ref a), some (.ref p), some (.ref R), some (.int (0 + (i : Nat))), some (.ref Rp), some (.ref L), some (.ref F3), some (.ref Er), v8, v9, none, none, none, none, none]) ∧ Grow HX Hy) ⟨⟨_, _, rfl⟩, Grow.refl HX⟩ (fun j σ' Hy hj hy => ?_) (fun σ' Hy hy => ?_)
      · obtain ⟨⟨v8, v9, rfl⟩, gy⟩ := hy
        have hj36 : j < 36 := hj
        obtain ⟨e, D, d, he, hD, hx, hd⟩ := (ER2.g gy) j hj36
        have hDm : D ∈ Cs := List.mem_of_getElem? hD
        have hEy := gy.lst hErr
        refine ⟨_, rfl, _, rfl, Er, _, _, _, rfl, rfl, SqL.of hEy, at_g (j := j) (by omega) he, e, D, d, .ref SE, .ref SE, true, rfl, fun u h => h, S.e D hDm, S.kSE D hDm, hx, hd, _, rfl, iteF ⟨_, rfl, _, rfl, Er, _, _, _, rfl, rfl, SqL.of hEy, at_g (j := j) (by omega) he, e, D, d, .ty "ValueError", .type "ValueError", true, rfl, fun u h => h, S.e D hDm, S.kVE D hDm, hx, hd, _, rfl, iteF ?_⟩⟩
        refine ⟨_, rfl, _, rfl, Er, _, _, _, rfl, rfl, SqL.of hEy, at_g (j := j) (by omega) he, e, D, d, rfl, hDm, hx, hd, fun FR HF hFR gF => ⟨_, rfl, by decide, by decide, fun Ll hLl => ?_⟩⟩
        refine lc_range (n := 36) (fun m Hc => Hc Ll = some (.lst (((List.range m).map fun q => decide (q = j)).map V.bl)) ∧ Grow HF Hc) ⟨upd_same, Grow.new hLl⟩ (fun m Hc hm hp => ?_) (fun Hz hp => ?_)
        · obtain ⟨hacc, g⟩ := hp
          refine ⟨wipe_set, ?_⟩
          refine ⟨_, rfl, _, rfl, rfl, _, hacc, ?_, ?_, grow_but g hLl⟩
          · rw [List.length_map, List.length_map, List.length_range, sizeLine_eq]
            omega
          · rw [List.range_succ, List.map_append, List.map_append]
            have e : decide (V.int (0 + (m : Nat)) = V.int (0 + (j : Nat))) = decide (m = j) := decide_eq_decide.mpr ⟨fun z => by have := V.int.inj z; omega, fun z => by rw [z]⟩
            rw [e]
            exact upd_same
        · obtain ⟨hz, gz⟩ := hp
          rw [flags_eq nd S.len hD] at hFR
          refine ⟨.list _, .list _, .lst (SqL.of (gz.lst hFR)) (dp_bls _), .lst (SqL.of hz) (dp_bls _), rfl, rfl, _, rfl, ?_⟩
          have ee : PyData.eqv (.list (((List.range 36).map fun q => decide (q = j)).map PyData.bool)) (.list (((List.range 36).map fun q => decide (q = j)).map PyData.bool)) = true := eqv_bls _
          rw [ee]
          exact iteF ⟨⟨_, _, rfl⟩, (gy.trans gF).trans gz⟩
      · obtain ⟨⟨v8, v9, rfl⟩, gy⟩ := hy
        have gg := gX.trans gy
        refine ⟨⟨_, _, _, _, _, _, _, rfl⟩, ?_, G5.trans' gg.w, gg.lst hR5, fun j b C e1 e2 => IsEx.g (has5 j b C e1 e2) gg⟩
        have := W5.grow gg
        rw [show 15 + 100 * (i + 1) = 15 + 100 * i + 100 from by omega]
        exact this
    · obtain ⟨⟨v3, v4, v5, v6, v7, v8, v9, rfl⟩, W, G, -, -⟩ := hp
      have W : Wl Hc p l ns 215 := W
      refine ⟨_, rfl, p, l, ns, _, 99, rfl, by decide, cdw (by decide) (by decide), W, by decide, fun r1 H2 a1 b1 W2 g2 => ⟨(by show 0 ≤ sizeLine; decide), fun q0 hq0 => ⟨(by show 1 ≤ sizeLine; decide), fun q1 hq1 => ⟨(by show 5 ≤ sizeLine; decide), fun q2 hq2 => ?_⟩⟩⟩⟩
      have k0 := Grow.new (o := .tup []) hq0
      have k1 := Grow.new (o := .lst [.str "def"]) hq1
      have k2 := Grow.new (o := .lst [.non, .int r1, .bl true, .ref q0, .ref q1]) hq2
      have W3 := ((W2.grow k0).grow k1).grow k2
      have hq2' : L2.upd (L2.upd (L2.upd H2 q0 (.tup [])) q1 (.lst [.str "def"])) q2 (.lst [.non, .int r1, .bl true, .ref q0, .ref q1]) q2 = some (.lst [.non, .int r1, .bl true, .ref q0, .ref q1]) := upd_same
      have hq1' := k2.lst (upd_same (H := L2.upd H2 q0 (.tup [])) (a := q1) (o := .lst [.str "def"]))
      have hq0' := (k1.trans k2).tup' (upd_same (H := H2) (a := q0) (o := .tup []))
      have G3 := ((((G.trans' g2).trans' k0.w).trans' k1.w).trans' k2.w)
      have nq : q2 ≠ p := (((W2.grow k0).grow k1).np hq2).1
      have nq1 : q1 ≠ p := ((W2.grow k0).np hq1).1
      generalize L2.upd (L2.upd (L2.upd H2 q0 (.tup [])) q1 (.lst [.str "def"])) q2 (.lst [.non, .int r1, .bl true, .ref q0, .ref q1]) = H3 at W3 hq2' hq1' hq0' G3 ⊢
      refine ⟨_, rfl, p, l, ns, _, 5, rfl, by decide, cdw (by decide) (by decide), W3, by decide, fun r2 H4 a2 b2 W4 g4 => ?_⟩
      have hq0'' : H4 q0 = some (.tup []) := by
        rcases g4 q0 _ (fun z => by obtain ⟨⟨c, a', h, _⟩, _⟩ := W3; rw [z, h] at hq0'; cases hq0') hq0' with q | ⟨⟨_, q⟩, _⟩
        · exact q
        · cases q
      obtain ⟨v, d, hv, ed, hb⟩ : ∃ (v : V) (d : Da), atI [.non, .int r1, .bl true, .ref q0, .ref q1] r2 = some v ∧ (∀ H', GrowW p H4 H' → Enc H' d v) ∧ bS d = false := by
        have nq0 : q0 ≠ p := fun z => by obtain ⟨⟨c, a', h, _⟩, _⟩ := W4; rw [z, h] at hq0''; cases hq0''
        have h5 : r2 = 0 ∨ r2 = 1 ∨ r2 = 2 ∨ r2 = 3 ∨ r2 = 4 := by omega
        rcases h5 with rfl | rfl | rfl | rfl | rfl
        · exact ⟨.non, .non, at_of (j := 0) rfl rfl, fun _ _ => .non, rfl⟩
        · exact ⟨_, .int r1, at_of (j := 1) rfl rfl, fun _ _ => .int r1, rfl⟩
        · exact ⟨_, .bl true, at_of (j := 2) rfl rfl, fun _ _ => .bl true, rfl⟩
        · refine ⟨_, .tup [], at_of (j := 3) rfl rfl, fun H' g => .tup ?_ .nil, rfl⟩
          rcases g q0 _ nq0 hq0'' with q | ⟨⟨_, q⟩, _⟩
          · exact q
          · cases q
        · exact ⟨_, .lst [.str "def"], at_of (j := 4) rfl rfl, fun H' g => .lst (g.lst nq1 (g4.lst nq1 hq1')) (.cons (.str _ (sok_k (by decide +kernel))) .nil) trivial, rfl⟩
      refine ⟨q2, _, r2, v, rfl, rfl, SqL.of (g4.lst nq hq2'), hv, ?_⟩
      have G4 := G3.trans' g4
      refine ⟨_, rfl, (by show 0 ≤ sizeLine; decide), fun u hu' => ?_⟩
      refine ⟨p, l, u, ns, _, false, rfl, W4.grow (Grow.new hu'), (W4.np hu').1, (W4.np hu').2, upd_same, by decide, fun nm H5 s5 n5 l5 W5 v5 => ?_⟩
      have g5 : GrowW p H4 H5 := (Grow.new hu').w.afterV hu' v5
      have G5 := G4.trans' g5
      have hT5 := sw p ys H1 H5 hp1 G5 hT1
      refine ⟨(by show 0 ≤ sizeLine; decide), fun pk hk => ⟨_, rfl, (by show 0 ≤ sizeLine; decide), fun r2' hr2 => ⟨_, rfl, (by show 2 ≤ sizeLine; decide), fun r6 h6 => ⟨(by show 1 ≤ sizeLine; decide), fun r5 h5 => ⟨(by show 3 ≤ sizeLine; decide), fun r4 h4 => ⟨(by show 2 ≤ sizeLine; decide), fun r3 h3 => ⟨(by show 4 ≤ sizeLine; decide), fun r1' h1 => ⟨(by show 1 ≤ sizeLine; decide), fun pf hf => ⟨(by show 2 ≤ sizeLine; decide), fun r0 h0 => ?_⟩⟩⟩⟩⟩⟩⟩⟩⟩
      have e1 := Grow.new (o := .tup []) hk
      have e2 := Grow.new (o := .tup []) hr2
      have e3 := Grow.new (o := .tup [.str "num", .int 1]) h6
      have e4 := Grow.new (o := .tup [.ref r6]) h5
      have e5 := Grow.new (o := .tup [.str "call", .str nm, .ref r5]) h4
      have e6 := Grow.new (o := .tup [.str "give", .ref r4]) h3
      have e7 := Grow.new (o := .tup [.str nm, .ref r2', .str "whole", .ref r3]) h1
      have e8 := Grow.new (o := .tup [.ref r1']) hf
      have e9 := Grow.new (o := .tup [.ref pk, .ref pf]) h0
      have c8 := e8.trans e9
      have c7 := e7.trans c8
      have c6 := e6.trans c7
      have c5 := e5.trans c6
      have c4' := e4.trans c5
      have c3' := e3.trans c4'
      have c2' := e2.trans c3'
      have gP := e1.trans c2'
      have PA := PrgA.mk (n := nm) upd_same (c2'.tup' (upd_same (a := pk) (o := .tup []))) (e9.tup' (upd_same (a := pf) (o := .tup [.ref r1']))) (c8.tup' (upd_same (a := r1') (o := .tup [.str nm, .ref r2', .str "whole", .ref r3]))) (c3'.tup' (upd_same (a := r2') (o := .tup []))) (c7.tup' (upd_same (a := r3) (o := .tup [.str "give", .ref r4]))) (c6.tup' (upd_same (a := r4) (o := .tup [.str "call", .str nm, .ref r5]))) (c5.tup' (upd_same (a := r5) (o := .tup [.ref r6]))) (c4'.tup' (upd_same (a := r6) (o := .tup [.str "num", .int 1])))
      generalize L2.upd _ r0 (.tup [.ref pk, .ref pf]) = H6 at PA gP ⊢
      refine ⟨_, rfl, v, 0, rfl, .inl ⟨rfl, d, ed H6 (g5.trans' gP.w), hb, fun b1 d1 H7 u1 w1 g7 => ?_⟩⟩
      refine ⟨_, rfl, .ref r0, 1, rfl, .inr ⟨rfl, nm, r0, pk, pf, r1', r2', r3, r4, r5, r6, rfl, PA.grow g7, l5 rfl, n5, s5, st _ _ (gP.trans g7) hT5, fun b2 d2 t2 H8 u2 w2 ht2 g8 => ?_⟩⟩
      have m0 : D0 ∈ Cs := List.mem_of_getElem? c0
      have m1 : D1 ∈ Cs := List.mem_of_getElem? c1
      have kk0 : PySem.W.kitOne K (.ref D0) (.ref D0) = some true := by rw [S.kC D0 m0 D0 m0, decide_eq_true rfl]
      have kk1 : PySem.W.kitOne K (.ref D1) (.ref D1) = some true := by rw [S.kC D1 m1 D1 m1, decide_eq_true rfl]
      have u1' := IsEx.g u1 g8
      have w1' := IsXd.g w1 g8
      refine ⟨_, _, rfl, ?_⟩
      refine ⟨_, rfl, b1, D0, some d1, .ref D0, .ref D0, true, rfl, fun u h => h, S.e D0 m0, kk0, u1', (fun dx e => by cases e; exact ⟨_, w1'⟩), _, rfl, iteF ⟨_, rfl, b2, D1, some d2, .ref D1, .ref D1, true, rfl, fun u h => h, S.e D1 m1, kk1, u2, (fun dx e => by cases e; exact ⟨_, w2⟩), _, rfl, iteF ?_⟩⟩
      refine ⟨_, rfl, b1, D0, d1, _, _, rfl, X0, N0, u1', w1', rfl, _, rfl, b2, D1, d2, _, _, rfl, X1, N1, u2, w2, rfl, (by show 2 ≤ sizeLine; decide), fun T1 hT1' => ⟨_, rfl, (by show 2 ≤ sizeLine; decide), fun t3 ht3 => ⟨(by show 2 ≤ sizeLine; decide), fun T2 hT2' => ?_⟩⟩⟩
      have j1 := Grow.new (o := .tup [.int 0, .ref t2]) hT1'
      have j2 := Grow.new (o := .tup [.str "count", .str nm]) ht3
      have j3 := Grow.new (o := .tup [.int 0, .ref t3]) hT2'
      have sc : SOk ("count" : Str) := sok_k (by decide +kernel)
      refine ⟨.ref T1, .ref T2, .tup [.int 0, .tup [.str "count", .str nm]], rfl, .tup ((j2.trans j3).tup' upd_same) (.cons (.int 0) (.cons (.tup (((j1.trans j2).trans j3).tup' ht2) (.cons (.str _ sc) (.cons (.str _ s5) .nil))) .nil)), .tup upd_same (.cons (.int 0) (.cons (.tup (j3.tup' upd_same) (.cons (.str _ sc) (.cons (.str _ s5) .nil))) .nil)), dq_end, fun H' g => k _⟩
end
end J1
set_option Elab.async false
set_option linter.all false
set_option maxRecDepth 100000
set_option maxHeartbeats 4000000
namespace J1
open PySem PySem.Spec PyProof.Rows L2 GxR GA
/-! what the written part says of the 36 classes, in one truth -/
def excB (K : PySem.W.Frag) (D : Addr) : Bool :=
  decide (PySem.W.findIn K (.ref D) "__getattribute__" = some (some (.builtin "BaseException.__getattribute__"))) && (decide (PySem.W.findIn K (.ref D) "__getattr__" = some none) && (decide (PySem.W.subIn K (.ref D) (.type "BaseException") = some true) && (PySem.W.hasDictIn K D &&
    (decide (PySem.W.findIn K (.ref D) "__class__" = some (some (.builtin "object.__class__"))) && (decide (PySem.W.specialIn K (.builtin "object.__class__") "__get__" = some (some (.builtin "getset_descriptor.__get__"))) && (decide (PySem.W.takesIn K (.builtin "object.__class__") = some true) && decide (PySem.W.mroIn K D (.type "object") = some true)))))))
theorem excB_ok {K : PySem.W.Frag} {D : Addr} (h : excB K D = true) : ExcC K D := by
  obtain ⟨h1, h⟩ := Bool.and_eq_true_iff.mp h
  obtain ⟨h2, h⟩ := Bool.and_eq_true_iff.mp h
  obtain ⟨h3, h⟩ := Bool.and_eq_true_iff.mp h
  obtain ⟨h4, h⟩ := Bool.and_eq_true_iff.mp h
  obtain ⟨h5, h⟩ := Bool.and_eq_true_iff.mp h
  obtain ⟨h6, h⟩ := Bool.and_eq_true_iff.mp h
  obtain ⟨h7, h8⟩ := Bool.and_eq_true_iff.mp h
  exact ⟨of_decide_eq_true h1, of_decide_eq_true h2, of_decide_eq_true h3, h4, of_decide_eq_true h5, of_decide_eq_true h6, of_decide_eq_true h7, of_decide_eq_true h8⟩
def oneB (K : PySem.W.Frag) (SE : Addr) (Cs : List Addr) (D : Addr) : Bool :=
  excB K D && (decide (PySem.W.kitOne K (.ref D) (.ref SE) = some true) && (decide (PySem.W.kitOne K (.ref D) (.type "ValueError") = some true) && (PySem.W.keepIn K (.ref D) && Cs.all fun C => decide (PySem.W.kitOne K (.ref D) (.ref C) = some (decide (D = C))))))
def clsB (K : PySem.W.Frag) (SE : Addr) (Cs : List Addr) : Bool := Cs.all (oneB K SE Cs)
def plB (K : PySem.W.Frag) (Cs : List Addr) : Bool := Cs.all fun C => PySem.W.excIn K C veL "ValueError.__new__"
theorem clsK_of {K : PySem.W.Frag} {mg : Str → Option Value} {SE : Addr} {Cs : List Addr} (hl : Cs.length = 36) (h : clsB K SE Cs = true) (hp : plB K (Cs.take 31) = true) (hm : ∀ i (h : i < 36), mg (nmA i) = some (.ref (Cs[i]'(hl.symm ▸ h)))) : ClsK K mg veL SE Cs := by
  have one : ∀ D ∈ Cs, ExcC K D ∧ PySem.W.kitOne K (.ref D) (.ref SE) = some true ∧ PySem.W.kitOne K (.ref D) (.type "ValueError") = some true ∧ PySem.W.keepIn K (.ref D) = true ∧ ∀ C ∈ Cs, PySem.W.kitOne K (.ref D) (.ref C) = some (decide (D = C)) := fun D hD => by
    have q : oneB K SE Cs D = true := List.all_eq_true.mp h D hD
    obtain ⟨h1, q⟩ := Bool.and_eq_true_iff.mp q
    obtain ⟨h2, q⟩ := Bool.and_eq_true_iff.mp q
    obtain ⟨h3, q⟩ := Bool.and_eq_true_iff.mp q
    obtain ⟨h4, h5⟩ := Bool.and_eq_true_iff.mp q
    exact ⟨excB_ok h1, of_decide_eq_true h2, of_decide_eq_true h3, h4, fun C hC => of_decide_eq_true (List.all_eq_true.mp h5 C hC)⟩
  exact ⟨hl, fun D hD => (one D hD).1, fun D hD => (one D hD).2.1, fun D hD => (one D hD).2.2.1, fun D hD => (one D hD).2.2.2.2, fun D hD => (one D hD).2.2.2.1, hm, fun C hC => List.all_eq_true.mp hp C hC⟩
end J1
set_option Elab.async false
set_option linter.all false
set_option maxRecDepth 100000
set_option maxHeartbeats 8000000
namespace J1
open PySem PySem.Spec PyProof.Rows L2 GxR GA
theorem tabsW {w P : Addr} {H H' : Hp} (hw : ∃ ys, H w = some (.lst ys)) (g : GrowW w H H') (t : TabG H P) : TabG H' P := by
  obtain ⟨ps, h, z⟩ := t
  obtain ⟨ys, hy⟩ := hw
  have n : P ≠ w := fun e => by rw [e, hy] at h; cases h
  rcases g P _ n h with q | ⟨_, q⟩
  · exact ⟨ps, q, z⟩
  · exact q
theorem tb_of {base : Heap} {mg : Str → Option Value} {c P : Addr} (t : LamX.TabB base mg c P) : TabB base mg c P := ⟨t.code, t.bm, t.gP⟩
theorem trip0 : TriplesOk (#[] : Array Value).toList := by trivial
theorem gRef_ok : ∀ {us zs : List V} {ws xs : List Value}, Vals us ws → Vals zs xs → Vals (gRef us zs) ((fun us zs => match us, zs with | [a], [x, y, z] => [a, y, z, x] | _, _ => []) ws xs)
  | _, _, _, _, .cons h .nil, .cons a (.cons b (.cons c .nil)) => .cons h (.cons b (.cons c (.cons a .nil)))
  | _, _, _, _, .nil, _ => .nil
  | _, _, _, _, .cons _ (.cons _ _), _ => .nil
  | _, _, _, _, .cons _ .nil, .nil => .nil
  | _, _, _, _, .cons _ .nil, .cons _ .nil => .nil
  | _, _, _, _, .cons _ .nil, .cons _ (.cons _ .nil) => .nil
  | _, _, _, _, .cons _ .nil, .cons _ (.cons _ (.cons _ (.cons _ _))) => .nil
theorem vals_rev : ∀ {zs : List V} {ws : List Value}, Vals zs ws → Vals zs.reverse ws.reverse
  | _, _, .nil => .nil
  | _, _, .cons h t => by
    rw [List.reverse_cons, List.reverse_cons]
    exact (vals_rev t).append (.cons h .nil)
theorem all_mk {l : PySem.W.OpenLaw} {w : World} {K : PySem.W.Frag} {h : Heap} {mg : Str → Option Value} {fa CWW CWo CSE : Addr} {P0 P1 P2 P3 P4 P5 P6 : Addr} (X : K.In h) (G : h.Ns mainGlobals mg) (hfa : mg "law" = some (.ref fa))
    {f0 : Addr} {od0 an0 : Option Addr} {sl0 : Array (Option Value)} {oc0 kV0 dc0 pm0 cd0 ct0 : Value}
    (a0 : PySem.W.nsIn K mainGlobals "is_integer" = some (some (.ref f0)))
    (l0 : K.lookup f0 = some ⟨oc0, od0, .func (PySem.W.fnOf "is_integer" "is_integer" (defArgs sInt) (defBody sInt) (defScope sInt) .none kV0 dc0 pm0 an0 cd0 ct0), sl0⟩) (c0 : PySem.W.codeIn K cd0 "is_integer" = true) (k0 : PySem.W.keepIn K (.ref f0) = true)
    {f1 : Addr} {od1 an1 : Option Addr} {sl1 : Array (Option Value)} {oc1 kV1 dc1 pm1 cd1 ct1 : Value}
    (a1 : PySem.W.nsIn K mainGlobals "is_between" = some (some (.ref f1)))
    (l1 : K.lookup f1 = some ⟨oc1, od1, .func (PySem.W.fnOf "is_between" "is_between" (defArgs sBet) (defBody sBet) (defScope sBet) .none kV1 dc1 pm1 an1 cd1 ct1), sl1⟩) (c1 : PySem.W.codeIn K cd1 "is_between" = true) (k1 : PySem.W.keepIn K (.ref f1) = true)
    {f2 : Addr} {od2 an2 : Option Addr} {sl2 : Array (Option Value)} {oc2 kV2 dc2 pm2 cd2 ct2 : Value}
    (a2 : PySem.W.nsIn K mainGlobals "is_number" = some (some (.ref f2)))
    (l2 : K.lookup f2 = some ⟨oc2, od2, .func (PySem.W.fnOf "is_number" "is_number" (defArgs sNum) (defBody sNum) (defScope sNum) .none kV2 dc2 pm2 an2 cd2 ct2), sl2⟩) (c2 : PySem.W.codeIn K cd2 "is_number" = true) (k2 : PySem.W.keepIn K (.ref f2) = true)
    {f3 : Addr} {od3 an3 : Option Addr} {sl3 : Array (Option Value)} {oc3 kV3 dc3 pm3 cd3 ct3 : Value}
    (a3 : PySem.W.nsIn K mainGlobals "is_factor" = some (some (.ref f3)))
    (l3 : K.lookup f3 = some ⟨oc3, od3, .func (PySem.W.fnOf "is_factor" "is_factor" (defArgs sFac) (defBody sFac) (defScope sFac) .none kV3 dc3 pm3 an3 cd3 ct3), sl3⟩) (c3 : PySem.W.codeIn K cd3 "is_factor" = true) (k3 : PySem.W.keepIn K (.ref f3) = true)
    {f4 : Addr} {od4 an4 : Option Addr} {sl4 : Array (Option Value)} {oc4 kV4 dc4 pm4 cd4 ct4 : Value}
    (a4 : PySem.W.nsIn K mainGlobals "is_tuple" = some (some (.ref f4)))
    (l4 : K.lookup f4 = some ⟨oc4, od4, .func (PySem.W.fnOf "is_tuple" "is_tuple" (defArgs sTup) (defBody sTup) (defScope sTup) .none kV4 dc4 pm4 an4 cd4 ct4), sl4⟩) (c4 : PySem.W.codeIn K cd4 "is_tuple" = true) (k4 : PySem.W.keepIn K (.ref f4) = true)
    {f5 : Addr} {od5 an5 : Option Addr} {sl5 : Array (Option Value)} {oc5 kV5 dc5 pm5 cd5 ct5 : Value}
    (a5 : PySem.W.nsIn K mainGlobals "is_name" = some (some (.ref f5)))
    (l5 : K.lookup f5 = some ⟨oc5, od5, .func (PySem.W.fnOf "is_name" "is_name" (defArgs sNam) (defBody sNam) (defScope sNam) .none kV5 dc5 pm5 an5 cd5 ct5), sl5⟩) (c5 : PySem.W.codeIn K cd5 "is_name" = true) (k5 : PySem.W.keepIn K (.ref f5) = true)
    {f6 : Addr} {od6 an6 : Option Addr} {sl6 : Array (Option Value)} {oc6 kV6 dc6 pm6 cd6 ct6 : Value}
    (a6 : PySem.W.nsIn K mainGlobals "is_low" = some (some (.ref f6)))
    (l6 : K.lookup f6 = some ⟨oc6, od6, .func (PySem.W.fnOf "is_low" "is_low" (defArgs sLow) (defBody sLow) (defScope sLow) .none kV6 dc6 pm6 an6 cd6 ct6), sl6⟩) (c6 : PySem.W.codeIn K cd6 "is_low" = true) (k6 : PySem.W.keepIn K (.ref f6) = true)
    {f7 : Addr} {od7 an7 : Option Addr} {sl7 : Array (Option Value)} {oc7 kV7 dc7 pm7 cd7 ct7 : Value}
    (a7 : PySem.W.nsIn K mainGlobals "is_high" = some (some (.ref f7)))
    (l7 : K.lookup f7 = some ⟨oc7, od7, .func (PySem.W.fnOf "is_high" "is_high" (defArgs sHig) (defBody sHig) (defScope sHig) .none kV7 dc7 pm7 an7 cd7 ct7), sl7⟩) (c7 : PySem.W.codeIn K cd7 "is_high" = true) (k7 : PySem.W.keepIn K (.ref f7) = true)
    {f8 : Addr} {od8 an8 : Option Addr} {sl8 : Array (Option Value)} {oc8 kV8 dc8 pm8 cd8 ct8 : Value}
    (a8 : PySem.W.nsIn K mainGlobals "is_kind" = some (some (.ref f8)))
    (l8 : K.lookup f8 = some ⟨oc8, od8, .func (PySem.W.fnOf "is_kind" "is_kind" (defArgs sKin) (defBody sKin) (defScope sKin) .none kV8 dc8 pm8 an8 cd8 ct8), sl8⟩) (c8 : PySem.W.codeIn K cd8 "is_kind" = true) (k8 : PySem.W.keepIn K (.ref f8) = true)
    {f9 : Addr} {od9 an9 : Option Addr} {sl9 : Array (Option Value)} {oc9 kV9 dc9 pm9 cd9 ct9 : Value}
    (a9 : PySem.W.nsIn K mainGlobals "first_word" = some (some (.ref f9)))
    (l9 : K.lookup f9 = some ⟨oc9, od9, .func (PySem.W.fnOf "first_word" "first_word" (defArgs sFir) (defBody sFir) (defScope sFir) .none kV9 dc9 pm9 an9 cd9 ct9), sl9⟩) (c9 : PySem.W.codeIn K cd9 "first_word" = true) (k9 : PySem.W.keepIn K (.ref f9) = true)
    {f10 cr10 : Addr} {od10 an10 : Option Addr} {sl10 : Array (Option Value)} {oc10 kV10 dc10 pm10 ct10 : Value}
    (a10 : PySem.W.nsIn K mainGlobals "are_kinds" = some (some (.ref f10)))
    (l10 : K.lookup f10 = some ⟨oc10, od10, .func (PySem.W.fnOf "are_kinds" "are_kinds" (defArgs sKinds) (defBody sKinds) (defScope sKinds) .none kV10 dc10 pm10 an10 (.ref cr10) ct10), sl10⟩) (c10 : PySem.W.codeIn K (.ref cr10) "are_kinds" = true) (k10 : PySem.W.keepIn K (.ref f10) = true)
    {f11 cr11 : Addr} {od11 an11 : Option Addr} {sl11 : Array (Option Value)} {oc11 kV11 dc11 pm11 ct11 : Value}
    (a11 : PySem.W.nsIn K mainGlobals "_is_entry" = some (some (.ref f11)))
    (l11 : K.lookup f11 = some ⟨oc11, od11, .func (PySem.W.fnOf "_is_entry" "_is_entry" (defArgs sEntry) (defBody sEntry) (defScope sEntry) .none kV11 dc11 pm11 an11 (.ref cr11) ct11), sl11⟩) (c11 : PySem.W.codeIn K (.ref cr11) "_is_entry" = true) (k11 : PySem.W.keepIn K (.ref f11) = true)
    {f12 cr12 : Addr} {od12 an12 : Option Addr} {sl12 : Array (Option Value)} {oc12 kV12 dc12 pm12 ct12 : Value}
    (a12 : PySem.W.nsIn K mainGlobals "_is_maker" = some (some (.ref f12)))
    (l12 : K.lookup f12 = some ⟨oc12, od12, .func (PySem.W.fnOf "_is_maker" "_is_maker" (defArgs sMaker) (defBody sMaker) (defScope sMaker) .none kV12 dc12 pm12 an12 (.ref cr12) ct12), sl12⟩) (c12 : PySem.W.codeIn K (.ref cr12) "_is_maker" = true) (k12 : PySem.W.keepIn K (.ref f12) = true)
    {f13 : Addr} {od13 an13 : Option Addr} {sl13 : Array (Option Value)} {oc13 kV13 dc13 pm13 cd13 ct13 : Value}
    (a13 : PySem.W.nsIn K mainGlobals "kinds_fault" = some (some (.ref f13)))
    (l13 : K.lookup f13 = some ⟨oc13, od13, .func (PySem.W.fnOf "kinds_fault" "kinds_fault" (defArgs sKf) (defBody sKf) (defScope sKf) .none kV13 dc13 pm13 an13 cd13 ct13), sl13⟩) (c13 : PySem.W.codeIn K cd13 "kinds_fault" = true) (k13 : PySem.W.keepIn K (.ref f13) = true)
    {f14 : Addr} {od14 an14 : Option Addr} {sl14 : Array (Option Value)} {oc14 kV14 dc14 pm14 cd14 ct14 : Value}
    (a14 : PySem.W.nsIn K mainGlobals "makers_by_kind" = some (some (.ref f14)))
    (l14 : K.lookup f14 = some ⟨oc14, od14, .func (PySem.W.fnOf "makers_by_kind" "makers_by_kind" (defArgs sMk) (defBody sMk) (defScope sMk) .none kV14 dc14 pm14 an14 cd14 ct14), sl14⟩) (c14 : PySem.W.codeIn K cd14 "makers_by_kind" = true) (k14 : PySem.W.keepIn K (.ref f14) = true)
    {f15 : Addr} {od15 an15 : Option Addr} {sl15 : Array (Option Value)} {oc15 kV15 dc15 pm15 cd15 ct15 : Value}
    (a15 : PySem.W.nsIn K mainGlobals "makers_by_name" = some (some (.ref f15)))
    (l15 : K.lookup f15 = some ⟨oc15, od15, .func (PySem.W.fnOf "makers_by_name" "makers_by_name" (defArgs sMn) (defBody sMn) (defScope sMn) .none kV15 dc15 pm15 an15 cd15 ct15), sl15⟩) (c15 : PySem.W.codeIn K cd15 "makers_by_name" = true) (k15 : PySem.W.keepIn K (.ref f15) = true)
    {f16 cr16 : Addr} {od16 an16 : Option Addr} {sl16 : Array (Option Value)} {oc16 kV16 dc16 pm16 ct16 : Value}
    (a16 : PySem.W.nsIn K mainGlobals "is_program" = some (some (.ref f16)))
    (l16 : K.lookup f16 = some ⟨oc16, od16, .func (PySem.W.fnOf "is_program" "is_program" (defArgs sProg) (defBody sProg) (defScope sProg) .none kV16 dc16 pm16 an16 (.ref cr16) ct16), sl16⟩) (c16 : PySem.W.codeIn K (.ref cr16) "is_program" = true) (k16 : PySem.W.keepIn K (.ref f16) = true)
    {f17 : Addr} {od17 an17 : Option Addr} {sl17 : Array (Option Value)} {oc17 kV17 dc17 pm17 cd17 ct17 : Value}
    (a17 : PySem.W.nsIn K mainGlobals "read_program" = some (some (.ref f17)))
    (l17 : K.lookup f17 = some ⟨oc17, od17, .func (PySem.W.fnOf "read_program" "read_program" (defArgs sRp) (defBody sRp) (defScope sRp) .none kV17 dc17 pm17 an17 cd17 ct17), sl17⟩) (c17 : PySem.W.codeIn K cd17 "read_program" = true) (k17 : PySem.W.keepIn K (.ref f17) = true)
    {f18 cr18 : Addr} {od18 an18 : Option Addr} {sl18 : Array (Option Value)} {oc18 kV18 dc18 pm18 ct18 : Value}
    (a18 : PySem.W.nsIn K mainGlobals "_is_function" = some (some (.ref f18)))
    (l18 : K.lookup f18 = some ⟨oc18, od18, .func (PySem.W.fnOf "_is_function" "_is_function" (defArgs sFunc) (defBody sFunc) (defScope sFunc) .none kV18 dc18 pm18 an18 (.ref cr18) ct18), sl18⟩) (c18 : PySem.W.codeIn K (.ref cr18) "_is_function" = true) (k18 : PySem.W.keepIn K (.ref f18) = true)
    {f19 : Addr} {od19 an19 : Option Addr} {sl19 : Array (Option Value)} {oc19 kV19 dc19 pm19 cd19 ct19 : Value}
    (a19 : PySem.W.nsIn K mainGlobals "_is_param" = some (some (.ref f19)))
    (l19 : K.lookup f19 = some ⟨oc19, od19, .func (PySem.W.fnOf "_is_param" "_is_param" (defArgs sParam) (defBody sParam) (defScope sParam) .none kV19 dc19 pm19 an19 cd19 ct19), sl19⟩) (c19 : PySem.W.codeIn K cd19 "_is_param" = true) (k19 : PySem.W.keepIn K (.ref f19) = true)
    {f20 : Addr} {od20 an20 : Option Addr} {sl20 : Array (Option Value)} {oc20 kV20 dc20 pm20 cd20 ct20 : Value}
    (a20 : PySem.W.nsIn K mainGlobals "_is_whole_body" = some (some (.ref f20)))
    (l20 : K.lookup f20 = some ⟨oc20, od20, .func (PySem.W.fnOf "_is_whole_body" "_is_whole_body" (defArgs sWhole) (defBody sWhole) (defScope sWhole) .none kV20 dc20 pm20 an20 cd20 ct20), sl20⟩) (c20 : PySem.W.codeIn K cd20 "_is_whole_body" = true) (k20 : PySem.W.keepIn K (.ref f20) = true)
    {f21 cr21 : Addr} {od21 an21 : Option Addr} {sl21 : Array (Option Value)} {oc21 kV21 dc21 pm21 ct21 : Value}
    (a21 : PySem.W.nsIn K mainGlobals "_body_parts" = some (some (.ref f21)))
    (l21 : K.lookup f21 = some ⟨oc21, od21, .func (PySem.W.fnOf "_body_parts" "_body_parts" (defArgs sBody) (defBody sBody) (defScope sBody) .none kV21 dc21 pm21 an21 (.ref cr21) ct21), sl21⟩) (c21 : PySem.W.codeIn K (.ref cr21) "_body_parts" = true) (k21 : PySem.W.keepIn K (.ref f21) = true)
    {f22 cr22 : Addr} {od22 an22 : Option Addr} {sl22 : Array (Option Value)} {oc22 kV22 dc22 pm22 ct22 : Value}
    (a22 : PySem.W.nsIn K mainGlobals "_is_branch" = some (some (.ref f22)))
    (l22 : K.lookup f22 = some ⟨oc22, od22, .func (PySem.W.fnOf "_is_branch" "_is_branch" (defArgs sBranch) (defBody sBranch) (defScope sBranch) .none kV22 dc22 pm22 an22 (.ref cr22) ct22), sl22⟩) (c22 : PySem.W.codeIn K (.ref cr22) "_is_branch" = true) (k22 : PySem.W.keepIn K (.ref f22) = true)
    {f23 : Addr} {od23 an23 : Option Addr} {sl23 : Array (Option Value)} {oc23 kV23 dc23 pm23 cd23 ct23 : Value}
    (a23 : PySem.W.nsIn K mainGlobals "_term_parts" = some (some (.ref f23)))
    (l23 : K.lookup f23 = some ⟨oc23, od23, .func (PySem.W.fnOf "_term_parts" "_term_parts" (defArgs sTerm) (defBody sTerm) (defScope sTerm) .none kV23 dc23 pm23 an23 cd23 ct23), sl23⟩) (c23 : PySem.W.codeIn K cd23 "_term_parts" = true) (k23 : PySem.W.keepIn K (.ref f23) = true)
    {f24 : Addr} {od24 an24 : Option Addr} {sl24 : Array (Option Value)} {oc24 kV24 dc24 pm24 cd24 ct24 : Value}
    (a24 : PySem.W.nsIn K mainGlobals "_is_sign" = some (some (.ref f24)))
    (l24 : K.lookup f24 = some ⟨oc24, od24, .func (PySem.W.fnOf "_is_sign" "_is_sign" (defArgs sSign) (defBody sSign) (defScope sSign) .none kV24 dc24 pm24 an24 cd24 ct24), sl24⟩) (c24 : PySem.W.codeIn K cd24 "_is_sign" = true) (k24 : PySem.W.keepIn K (.ref f24) = true)
    {f25 : Addr} {od25 an25 : Option Addr} {sl25 : Array (Option Value)} {oc25 kV25 dc25 pm25 cd25 ct25 : Value}
    (a25 : PySem.W.nsIn K mainGlobals "checked" = some (some (.ref f25)))
    (l25 : K.lookup f25 = some ⟨oc25, od25, .func (PySem.W.fnOf "checked" "checked" (defArgs sChk) (defBody sChk) (defScope sChk) .none kV25 dc25 pm25 an25 cd25 ct25), sl25⟩) (c25 : PySem.W.codeIn K cd25 "checked" = true) (k25 : PySem.W.keepIn K (.ref f25) = true)
    {f26 : Addr} {od26 an26 : Option Addr} {sl26 : Array (Option Value)} {oc26 kV26 dc26 pm26 cd26 ct26 : Value}
    (a26 : PySem.W.nsIn K mainGlobals "_check_heads" = some (some (.ref f26)))
    (l26 : K.lookup f26 = some ⟨oc26, od26, .func (PySem.W.fnOf "_check_heads" "_check_heads" (defArgs sChh) (defBody sChh) (defScope sChh) .none kV26 dc26 pm26 an26 cd26 ct26), sl26⟩) (c26 : PySem.W.codeIn K cd26 "_check_heads" = true) (k26 : PySem.W.keepIn K (.ref f26) = true)
    {f27 : Addr} {od27 an27 : Option Addr} {sl27 : Array (Option Value)} {oc27 kV27 dc27 pm27 cd27 ct27 : Value}
    (a27 : PySem.W.nsIn K mainGlobals "_head_fault" = some (some (.ref f27)))
    (l27 : K.lookup f27 = some ⟨oc27, od27, .func (PySem.W.fnOf "_head_fault" "_head_fault" (defArgs sHdf) (defBody sHdf) (defScope sHdf) .none kV27 dc27 pm27 an27 cd27 ct27), sl27⟩) (c27 : PySem.W.codeIn K cd27 "_head_fault" = true) (k27 : PySem.W.keepIn K (.ref f27) = true)
    {f28 : Addr} {od28 an28 : Option Addr} {sl28 : Array (Option Value)} {oc28 kV28 dc28 pm28 cd28 ct28 : Value}
    (a28 : PySem.W.findIn K (.ref CWo) "__init__" = some (some (.ref f28))) (i28 : PySem.W.isFn K (.ref f28) = true)
    (l28 : K.lookup f28 = some ⟨oc28, od28, .func (PySem.W.fnOf "__init__" "BodyChecker.__init__" (defArgs sBin) (defBody sBin) (defScope sBin) .none kV28 dc28 pm28 an28 cd28 ct28), sl28⟩) (c28 : PySem.W.codeIn K cd28 "BodyChecker.__init__" = true) (k28 : PySem.W.keepIn K (.ref f28) = true)
    {f29 : Addr} {od29 an29 : Option Addr} {sl29 : Array (Option Value)} {oc29 kV29 dc29 pm29 cd29 ct29 : Value}
    (a29 : PySem.W.findIn K (.ref CWo) "demand" = some (some (.ref f29))) (i29 : PySem.W.isFn K (.ref f29) = true)
    (l29 : K.lookup f29 = some ⟨oc29, od29, .func (PySem.W.fnOf "demand" "BodyChecker.demand" (defArgs sDem) (defBody sDem) (defScope sDem) .none kV29 dc29 pm29 an29 cd29 ct29), sl29⟩) (c29 : PySem.W.codeIn K cd29 "BodyChecker.demand" = true) (k29 : PySem.W.keepIn K (.ref f29) = true)
    {f30 : Addr} {od30 an30 : Option Addr} {sl30 : Array (Option Value)} {oc30 kV30 dc30 pm30 cd30 ct30 : Value}
    (a30 : PySem.W.findIn K (.ref CWo) "body" = some (some (.ref f30))) (i30 : PySem.W.isFn K (.ref f30) = true)
    (l30 : K.lookup f30 = some ⟨oc30, od30, .func (PySem.W.fnOf "body" "BodyChecker.body" (defArgs sBod) (defBody sBod) (defScope sBod) .none kV30 dc30 pm30 an30 cd30 ct30), sl30⟩) (c30 : PySem.W.codeIn K cd30 "BodyChecker.body" = true) (k30 : PySem.W.keepIn K (.ref f30) = true)
    {f31 : Addr} {od31 an31 : Option Addr} {sl31 : Array (Option Value)} {oc31 kV31 dc31 pm31 cd31 ct31 : Value}
    (a31 : PySem.W.findIn K (.ref CWo) "fits" = some (some (.ref f31))) (i31 : PySem.W.isFn K (.ref f31) = true)
    (l31 : K.lookup f31 = some ⟨oc31, od31, .func (PySem.W.fnOf "fits" "BodyChecker.fits" (defArgs sFts) (defBody sFts) (defScope sFts) .none kV31 dc31 pm31 an31 cd31 ct31), sl31⟩) (c31 : PySem.W.codeIn K cd31 "BodyChecker.fits" = true) (k31 : PySem.W.keepIn K (.ref f31) = true)
    {f32 : Addr} {od32 an32 : Option Addr} {sl32 : Array (Option Value)} {oc32 kV32 dc32 pm32 cd32 ct32 : Value}
    (a32 : PySem.W.findIn K (.ref CWo) "kind_of" = some (some (.ref f32))) (i32 : PySem.W.isFn K (.ref f32) = true)
    (l32 : K.lookup f32 = some ⟨oc32, od32, .func (PySem.W.fnOf "kind_of" "BodyChecker.kind_of" (defArgs sKof) (defBody sKof) (defScope sKof) .none kV32 dc32 pm32 an32 cd32 ct32), sl32⟩) (c32 : PySem.W.codeIn K cd32 "BodyChecker.kind_of" = true) (k32 : PySem.W.keepIn K (.ref f32) = true)
    {f33 : Addr} {od33 an33 : Option Addr} {sl33 : Array (Option Value)} {oc33 kV33 dc33 pm33 cd33 ct33 : Value}
    (a33 : PySem.W.findIn K (.ref CWo) "fit_all" = some (some (.ref f33))) (i33 : PySem.W.isFn K (.ref f33) = true)
    (l33 : K.lookup f33 = some ⟨oc33, od33, .func (PySem.W.fnOf "fit_all" "BodyChecker.fit_all" (defArgs sFal) (defBody sFal) (defScope sFal) .none kV33 dc33 pm33 an33 cd33 ct33), sl33⟩) (c33 : PySem.W.codeIn K cd33 "BodyChecker.fit_all" = true) (k33 : PySem.W.keepIn K (.ref f33) = true)
    {f34 : Addr} {od34 an34 : Option Addr} {sl34 : Array (Option Value)} {oc34 kV34 dc34 pm34 cd34 ct34 : Value}
    (a34 : PySem.W.nsIn K mainGlobals "_law_well" = some (some (.ref f34)))
    (l34 : K.lookup f34 = some ⟨oc34, od34, .func (PySem.W.fnOf "_law_well" "_law_well" (defArgs lWl) (defBody lWl) (defScope lWl) .none kV34 dc34 pm34 an34 cd34 ct34), sl34⟩) (c34 : PySem.W.codeIn K cd34 "_law_well" = true) (k34 : PySem.W.keepIn K (.ref f34) = true)
    {f35 : Addr} {od35 an35 : Option Addr} {sl35 : Array (Option Value)} {oc35 kV35 dc35 pm35 cd35 ct35 : Value}
    (a35 : PySem.W.nsIn K mainGlobals "_law_draw" = some (some (.ref f35)))
    (l35 : K.lookup f35 = some ⟨oc35, od35, .func (PySem.W.fnOf "_law_draw" "_law_draw" (defArgs lDraw) (defBody lDraw) (defScope lDraw) .none kV35 dc35 pm35 an35 cd35 ct35), sl35⟩) (c35 : PySem.W.codeIn K cd35 "_law_draw" = true) (k35 : PySem.W.keepIn K (.ref f35) = true)
    {f36 : Addr} {od36 an36 : Option Addr} {sl36 : Array (Option Value)} {oc36 kV36 dc36 pm36 cd36 ct36 : Value}
    (a36 : PySem.W.nsIn K mainGlobals "_law_word" = some (some (.ref f36)))
    (l36 : K.lookup f36 = some ⟨oc36, od36, .func (PySem.W.fnOf "_law_word" "_law_word" (defArgs lWord) (defBody lWord) (defScope lWord) .none kV36 dc36 pm36 an36 cd36 ct36), sl36⟩) (c36 : PySem.W.codeIn K cd36 "_law_word" = true) (k36 : PySem.W.keepIn K (.ref f36) = true)
    {f37 : Addr} {od37 an37 : Option Addr} {sl37 : Array (Option Value)} {oc37 kV37 dc37 pm37 cd37 ct37 : Value}
    (a37 : PySem.W.nsIn K mainGlobals "_law_same" = some (some (.ref f37)))
    (l37 : K.lookup f37 = some ⟨oc37, od37, .func (PySem.W.fnOf "_law_same" "_law_same" (defArgs lSm) (defBody lSm) (defScope lSm) .none kV37 dc37 pm37 an37 cd37 ct37), sl37⟩) (c37 : PySem.W.codeIn K cd37 "_law_same" = true) (k37 : PySem.W.keepIn K (.ref f37) = true)
    {f38 : Addr} {od38 an38 : Option Addr} {sl38 : Array (Option Value)} {oc38 kV38 dc38 pm38 cd38 ct38 : Value}
    (a38 : PySem.W.nsIn K mainGlobals "_law_flags" = some (some (.ref f38)))
    (l38 : K.lookup f38 = some ⟨oc38, od38, .func (PySem.W.fnOf "_law_flags" "_law_flags" (defArgs lFlg) (defBody lFlg) (defScope lFlg) .none kV38 dc38 pm38 an38 cd38 ct38), sl38⟩) (c38 : PySem.W.codeIn K cd38 "_law_flags" = true) (k38 : PySem.W.keepIn K (.ref f38) = true)
    {f39 : Addr} {od39 an39 : Option Addr} {sl39 : Array (Option Value)} {oc39 kV39 dc39 pm39 cd39 ct39 : Value}
    (a39 : PySem.W.nsIn K mainGlobals "_law_plain" = some (some (.ref f39)))
    (l39 : K.lookup f39 = some ⟨oc39, od39, .func (PySem.W.fnOf "_law_plain" "_law_plain" (defArgs lPln) (defBody lPln) (defScope lPln) .none kV39 dc39 pm39 an39 cd39 ct39), sl39⟩) (c39 : PySem.W.codeIn K cd39 "_law_plain" = true) (k39 : PySem.W.keepIn K (.ref f39) = true)
    {f40 : Addr} {od40 an40 : Option Addr} {sl40 : Array (Option Value)} {oc40 kV40 dc40 pm40 cd40 ct40 : Value}
    (a40 : PySem.W.nsIn K mainGlobals "_law_place" = some (some (.ref f40)))
    (l40 : K.lookup f40 = some ⟨oc40, od40, .func (PySem.W.fnOf "_law_place" "_law_place" (defArgs lPlc) (defBody lPlc) (defScope lPlc) .none kV40 dc40 pm40 an40 cd40 ct40), sl40⟩) (c40 : PySem.W.codeIn K cd40 "_law_place" = true) (k40 : PySem.W.keepIn K (.ref f40) = true)
    {f41 : Addr} {od41 an41 : Option Addr} {sl41 : Array (Option Value)} {oc41 kV41 dc41 pm41 cd41 ct41 : Value}
    (a41 : PySem.W.nsIn K mainGlobals "_law_parts" = some (some (.ref f41)))
    (l41 : K.lookup f41 = some ⟨oc41, od41, .func (PySem.W.fnOf "_law_parts" "_law_parts" (defArgs lPar) (defBody lPar) (defScope lPar) .none kV41 dc41 pm41 an41 cd41 ct41), sl41⟩) (c41 : PySem.W.codeIn K cd41 "_law_parts" = true) (k41 : PySem.W.keepIn K (.ref f41) = true)
    {f42 : Addr} {od42 an42 : Option Addr} {sl42 : Array (Option Value)} {oc42 kV42 dc42 pm42 cd42 ct42 : Value}
    (a42 : PySem.W.nsIn K mainGlobals "_law_caught" = some (some (.ref f42)))
    (l42 : K.lookup f42 = some ⟨oc42, od42, .func (PySem.W.fnOf "_law_caught" "_law_caught" (defArgs lCau) (defBody lCau) (defScope lCau) .none kV42 dc42 pm42 an42 cd42 ct42), sl42⟩) (c42 : PySem.W.codeIn K cd42 "_law_caught" = true) (k42 : PySem.W.keepIn K (.ref f42) = true)
    {f43 : Addr} {od43 an43 : Option Addr} {sl43 : Array (Option Value)} {oc43 kV43 dc43 pm43 cd43 ct43 : Value}
    (a43 : PySem.W.nsIn K mainGlobals "law" = some (some (.ref f43)))
    (l43 : K.lookup f43 = some ⟨oc43, od43, .func (PySem.W.fnOf "law" "law" (defArgs lLaw) (defBody lLaw) (defScope lLaw) .none kV43 dc43 pm43 an43 cd43 ct43), sl43⟩) (c43 : PySem.W.codeIn K cd43 "law" = true) (k43 : PySem.W.keepIn K (.ref f43) = true)
    (zisinstance : PySem.W.nsIn K mainGlobals "isinstance" = some none)
    (zint : PySem.W.nsIn K mainGlobals "int" = some none)
    (zbool : PySem.W.nsIn K mainGlobals "bool" = some none)
    (ztuple : PySem.W.nsIn K mainGlobals "tuple" = some none)
    (zstr : PySem.W.nsIn K mainGlobals "str" = some none)
    (zlen : PySem.W.nsIn K mainGlobals "len" = some none)
    (zall : PySem.W.nsIn K mainGlobals "all" = some none)
    (zzip : PySem.W.nsIn K mainGlobals "zip" = some none)
    (zrange : PySem.W.nsIn K mainGlobals "range" = some none)
    (zlist : PySem.W.nsIn K mainGlobals "list" = some none)
    (zabs : PySem.W.nsIn K mainGlobals "abs" = some none)
    (zmax : PySem.W.nsIn K mainGlobals "max" = some none)
    (zsum : PySem.W.nsIn K mainGlobals "sum" = some none)
    (zenumerate : PySem.W.nsIn K mainGlobals "enumerate" = some none)
    (zsuper : PySem.W.nsIn K mainGlobals "super" = some none)
    (zValueError : PySem.W.nsIn K mainGlobals "ValueError" = some none)
    {tMOST_SIGNS : _} (mMOST_SIGNS : PySem.W.nsIn K mainGlobals "MOST_SIGNS" = some (some (.int 10 tMOST_SIGNS)))
    {tMOST_NUMBER : _} (mMOST_NUMBER : PySem.W.nsIn K mainGlobals "MOST_NUMBER" = some (some (.int 1000000000000 tMOST_NUMBER)))
    {tMOST_KINDS : _} (mMOST_KINDS : PySem.W.nsIn K mainGlobals "MOST_KINDS" = some (some (.int 8 tMOST_KINDS)))
    {tMOST_MAKERS : _} (mMOST_MAKERS : PySem.W.nsIn K mainGlobals "MOST_MAKERS" = some (some (.int 8 tMOST_MAKERS)))
    {tMOST_FIELDS : _} (mMOST_FIELDS : PySem.W.nsIn K mainGlobals "MOST_FIELDS" = some (some (.int 5 tMOST_FIELDS)))
    {tMOST_FUNCTIONS : _} (mMOST_FUNCTIONS : PySem.W.nsIn K mainGlobals "MOST_FUNCTIONS" = some (some (.int 12 tMOST_FUNCTIONS)))
    {tMOST_FACTOR : _} (mMOST_FACTOR : PySem.W.nsIn K mainGlobals "MOST_FACTOR" = some (some (.int 1000000 tMOST_FACTOR)))
    {tMOST_PARAMS : _} (mMOST_PARAMS : PySem.W.nsIn K mainGlobals "MOST_PARAMS" = some (some (.int 6 tMOST_PARAMS)))
    {tMOST_PARTS : _} (mMOST_PARTS : PySem.W.nsIn K mainGlobals "MOST_PARTS" = some (some (.int 100 tMOST_PARTS)))
    {tMOST_CHAIN : _} (mMOST_CHAIN : PySem.W.nsIn K mainGlobals "MOST_CHAIN" = some (some (.int 30 tMOST_CHAIN)))
    {tWHOLE : _} (mWHOLE : PySem.W.nsIn K mainGlobals "WHOLE" = some (some (.str "whole" tWHOLE)))
    (mWORDS : PySem.W.nsIn K mainGlobals "WORDS" = some (some (.ref CWW)))
    {dW : Option Addr} {nW : Nat} {slW : Array (Option Value)} {u0 : _} {u1 : _} {u2 : _} {u3 : _} {u4 : _} {u5 : _} {u6 : _} {u7 : _} (lW : K.lookup CWW = some ⟨.type "tuple", dW, .seq #[.str "def" u0, .str "else" u1, .str "give" u2, .str "if" u3, .str "kind" u4, .str "let" u5, .str "match" u6, .str "whole" u7] nW, slW⟩)
    (aCCWo : PySem.W.nsIn K mainGlobals "BodyChecker" = some (some (.ref CWo))) (pgCWo : PySem.W.plainGet K CWo Str.empty = true) (hdCWo : PySem.W.hasDictIn K CWo = true) (poCWo : PySem.W.plainOver K CWo = true) (saCWo : PySem.W.findIn K (.ref CWo) "__setattr__" = some (some (.builtin "object.__setattr__"))) (mkCWo : PySem.W.makesIn K CWo = true) (kcCWo : PySem.W.keepIn K (.ref CWo) = true)
    (nkindsCWo : PySem.W.findIn K (.ref CWo) "kinds" = some none)
    (nmakersCWo : PySem.W.findIn K (.ref CWo) "makers" = some none)
    (nheadsCWo : PySem.W.findIn K (.ref CWo) "heads" = some none)
    (nnameCWo : PySem.W.findIn K (.ref CWo) "name" = some none)
    (nresultCWo : PySem.W.findIn K (.ref CWo) "result" = some none)
    {X0 X1 X2 X3 X4 X5 X6 X7 X8 X9 X10 X11 X12 X13 X14 X15 X16 X17 X18 X19 X20 X21 X22 X23 X24 X25 X26 X27 X28 X29 X30 X31 X32 X33 X34 X35 : Addr}
    (aX0 : PySem.W.nsIn K mainGlobals "BadProgram" = some (some (.ref X0)))
    (aX1 : PySem.W.nsIn K mainGlobals "BadCore" = some (some (.ref X1)))
    (aX2 : PySem.W.nsIn K mainGlobals "BadName" = some (some (.ref X2)))
    (aX3 : PySem.W.nsIn K mainGlobals "BadRow" = some (some (.ref X3)))
    (aX4 : PySem.W.nsIn K mainGlobals "BadKind" = some (some (.ref X4)))
    (aX5 : PySem.W.nsIn K mainGlobals "BadArgs" = some (some (.ref X5)))
    (aX6 : PySem.W.nsIn K mainGlobals "BadLimit" = some (some (.ref X6)))
    (aX7 : PySem.W.nsIn K mainGlobals "BadPrices" = some (some (.ref X7)))
    (aX8 : PySem.W.nsIn K mainGlobals "BadLog" = some (some (.ref X8)))
    (aX9 : PySem.W.nsIn K mainGlobals "BadImage" = some (some (.ref X9)))
    (aX10 : PySem.W.nsIn K mainGlobals "Unfit" = some (some (.ref X10)))
    (aX11 : PySem.W.nsIn K mainGlobals "BadEffort" = some (some (.ref X11)))
    (aX12 : PySem.W.nsIn K mainGlobals "BadMeasures" = some (some (.ref X12)))
    (aX13 : PySem.W.nsIn K mainGlobals "BadNumber" = some (some (.ref X13)))
    (aX14 : PySem.W.nsIn K mainGlobals "BadBook" = some (some (.ref X14)))
    (aX15 : PySem.W.nsIn K mainGlobals "BadNever" = some (some (.ref X15)))
    (aX16 : PySem.W.nsIn K mainGlobals "BadGoal" = some (some (.ref X16)))
    (aX17 : PySem.W.nsIn K mainGlobals "BadHints" = some (some (.ref X17)))
    (aX18 : PySem.W.nsIn K mainGlobals "BadShowings" = some (some (.ref X18)))
    (aX19 : PySem.W.nsIn K mainGlobals "BadIndex" = some (some (.ref X19)))
    (aX20 : PySem.W.nsIn K mainGlobals "BadNeeds" = some (some (.ref X20)))
    (aX21 : PySem.W.nsIn K mainGlobals "BadRatio" = some (some (.ref X21)))
    (aX22 : PySem.W.nsIn K mainGlobals "ZeroBottom" = some (some (.ref X22)))
    (aX23 : PySem.W.nsIn K mainGlobals "BadSystem" = some (some (.ref X23)))
    (aX24 : PySem.W.nsIn K mainGlobals "BadLine" = some (some (.ref X24)))
    (aX25 : PySem.W.nsIn K mainGlobals "BadTemplate" = some (some (.ref X25)))
    (aX26 : PySem.W.nsIn K mainGlobals "BadPoint" = some (some (.ref X26)))
    (aX27 : PySem.W.nsIn K mainGlobals "BadWeights" = some (some (.ref X27)))
    (aX28 : PySem.W.nsIn K mainGlobals "BadLevels" = some (some (.ref X28)))
    (aX29 : PySem.W.nsIn K mainGlobals "NotNew" = some (some (.ref X29)))
    (aX30 : PySem.W.nsIn K mainGlobals "TooGreat" = some (some (.ref X30)))
    (aX31 : PySem.W.nsIn K mainGlobals "BadText" = some (some (.ref X31)))
    (aX32 : PySem.W.nsIn K mainGlobals "NotChecked" = some (some (.ref X32)))
    (aX33 : PySem.W.nsIn K mainGlobals "NotLet" = some (some (.ref X33)))
    (aX34 : PySem.W.nsIn K mainGlobals "BadListing" = some (some (.ref X34)))
    (aX35 : PySem.W.nsIn K mainGlobals "Refused" = some (some (.ref X35)))
    (eSE : PySem.W.nsIn K mainGlobals "StepError" = some (some (.ref CSE))) (kSE : PySem.W.keepIn K (.ref CSE) = true) (hcls : clsB K CSE [X0, X1, X2, X3, X4, X5, X6, X7, X8, X9, X10, X11, X12, X13, X14, X15, X16, X17, X18, X19, X20, X21, X22, X23, X24, X25, X26, X27, X28, X29, X30, X31, X32, X33, X34, X35] = true) (hpl : plB K (([X0, X1, X2, X3, X4, X5, X6, X7, X8, X9, X10, X11, X12, X13, X14, X15, X16, X17, X18, X19, X20, X21, X22, X23, X24, X25, X26, X27, X28, X29, X30, X31, X32, X33, X34, X35] : List Addr).take 31) = true) (hnd : ([X0, X1, X2, X3, X4, X5, X6, X7, X8, X9, X10, X11, X12, X13, X14, X15, X16, X17, X18, X19, X20, X21, X22, X23, X24, X25, X26, X27, X28, X29, X30, X31, X32, X33, X34, X35] : List Addr).Nodup)
    (s8 : PySem.W.nsIn K cStatics "thirdparty.any" = some none) (i11 : (l.prog.main.scope.names.lookup ("super" : Str)).isSome = false)
    {nm31 qq31 : Str} {NL31 : Addr} {bs31 bm31 : List Value} {sn31 : List Str} {su31 : List Value} {ab31 : Bool} {co31 : Option Bool} {dd31 : Option Addr} {y031 y131 y231 y331 y531 : Option Value} (lX31 : K.lookup X31 = some (excClassObj nm31 qq31 X31 NL31 bs31 bm31 true sn31 su31 ab31 co31 dd31 y031 y131 y231 y331 y531 "ValueError.__new__")) (rX31 : PySem.HandSPX.refsVE bm31 = true)
    (sa31 : PySem.W.findIn K (.ref X31) "__setattr__" = some (some (.builtin "object.__setattr__"))) (ty31 : PySem.W.typeIn K (.ref X31) = some (.type "type")) (ms31 : PySem.W.mroIn K X31 (.ref X31) = some true) (ve31 : PySem.W.subIn K (.ref X31) (.type "ValueError") = some true) (kX31 : PySem.W.keepIn K (.ref X31) = true) (xb31 : PySem.W.subIn K (.ref X31) (.type "BaseException") = some true)
    (no31_0 : PySem.W.findIn K (.ref X31) "place" = some none)
    {fI31 cc31 cda31 : Addr} {kVI31 dcI31 pmI31 ctI31 ocI31 ccl31 cli31 : Value} {anI31 odI31 cdd31 cld31 : Option Addr} {osl31 ccs31 csl31 : Array (Option Value)} {vs31 : Array Value} {file31 : Str} {tf31 : Tok} {cdD31 : ClassData}
    (i131 : PySem.W.findIn K (.ref X31) "__init__" = some (some (.ref fI31))) (i231 : PySem.W.typeIn K (.ref fI31) = some (.type "function")) (i331 : K.lookup fI31 = some ⟨ocI31, odI31, .func (PySem.W.fnX "__init__" "BadText.__init__" (defArgs sIBadText) (defBody sIBadText) (defScope sIBadText) [("__class__", cc31)] .none kVI31 dcI31 pmI31 anI31 (.ref cda31) ctI31), osl31⟩) (i431 : PySem.W.codeIn K (.ref cda31) "BadText.__init__" = true)
    (i531 : K.lookup cda31 = some ⟨ccl31, cdd31, .fields vs31, ccs31⟩) (i631 : vs31[2]? = some (.str file31 tf31)) (i731 : ((l.prog.main.file : Str) == file31) = true) (i831 : K.lookup cc31 = some ⟨cli31, cld31, .cell (some (.ref X31)), csl31⟩) (i931 : PySem.W.clsIn K X31 = some cdD31) (i1031 : PySem.W.alongIn K "__init__" ((cdD31.mro.dropWhile (· != .ref X31)).drop 1) = some (some (.builtin "ValueError.__init__")))
    {nm32 qq32 : Str} {NL32 : Addr} {bs32 bm32 : List Value} {sn32 : List Str} {su32 : List Value} {ab32 : Bool} {co32 : Option Bool} {dd32 : Option Addr} {y032 y132 y232 y332 y532 : Option Value} (lX32 : K.lookup X32 = some (excClassObj nm32 qq32 X32 NL32 bs32 bm32 true sn32 su32 ab32 co32 dd32 y032 y132 y232 y332 y532 "ValueError.__new__")) (rX32 : PySem.HandSPX.refsVE bm32 = true)
    (sa32 : PySem.W.findIn K (.ref X32) "__setattr__" = some (some (.builtin "object.__setattr__"))) (ty32 : PySem.W.typeIn K (.ref X32) = some (.type "type")) (ms32 : PySem.W.mroIn K X32 (.ref X32) = some true) (ve32 : PySem.W.subIn K (.ref X32) (.type "ValueError") = some true) (kX32 : PySem.W.keepIn K (.ref X32) = true) (xb32 : PySem.W.subIn K (.ref X32) (.type "BaseException") = some true)
    (no32_0 : PySem.W.findIn K (.ref X32) "what" = some none)
    {fI32 cc32 cda32 : Addr} {kVI32 dcI32 pmI32 ctI32 ocI32 ccl32 cli32 : Value} {anI32 odI32 cdd32 cld32 : Option Addr} {osl32 ccs32 csl32 : Array (Option Value)} {vs32 : Array Value} {file32 : Str} {tf32 : Tok} {cdD32 : ClassData}
    (i132 : PySem.W.findIn K (.ref X32) "__init__" = some (some (.ref fI32))) (i232 : PySem.W.typeIn K (.ref fI32) = some (.type "function")) (i332 : K.lookup fI32 = some ⟨ocI32, odI32, .func (PySem.W.fnX "__init__" "NotChecked.__init__" (defArgs sINotChecked) (defBody sINotChecked) (defScope sINotChecked) [("__class__", cc32)] .none kVI32 dcI32 pmI32 anI32 (.ref cda32) ctI32), osl32⟩) (i432 : PySem.W.codeIn K (.ref cda32) "NotChecked.__init__" = true)
    (i532 : K.lookup cda32 = some ⟨ccl32, cdd32, .fields vs32, ccs32⟩) (i632 : vs32[2]? = some (.str file32 tf32)) (i732 : ((l.prog.main.file : Str) == file32) = true) (i832 : K.lookup cc32 = some ⟨cli32, cld32, .cell (some (.ref X32)), csl32⟩) (i932 : PySem.W.clsIn K X32 = some cdD32) (i1032 : PySem.W.alongIn K "__init__" ((cdD32.mro.dropWhile (· != .ref X32)).drop 1) = some (some (.builtin "ValueError.__init__")))
    {nm33 qq33 : Str} {NL33 : Addr} {bs33 bm33 : List Value} {sn33 : List Str} {su33 : List Value} {ab33 : Bool} {co33 : Option Bool} {dd33 : Option Addr} {y033 y133 y233 y333 y533 : Option Value} (lX33 : K.lookup X33 = some (excClassObj nm33 qq33 X33 NL33 bs33 bm33 true sn33 su33 ab33 co33 dd33 y033 y133 y233 y333 y533 "ValueError.__new__")) (rX33 : PySem.HandSPX.refsVE bm33 = true)
    (sa33 : PySem.W.findIn K (.ref X33) "__setattr__" = some (some (.builtin "object.__setattr__"))) (ty33 : PySem.W.typeIn K (.ref X33) = some (.type "type")) (ms33 : PySem.W.mroIn K X33 (.ref X33) = some true) (ve33 : PySem.W.subIn K (.ref X33) (.type "ValueError") = some true) (kX33 : PySem.W.keepIn K (.ref X33) = true) (xb33 : PySem.W.subIn K (.ref X33) (.type "BaseException") = some true)
    (no33_0 : PySem.W.findIn K (.ref X33) "index" = some none)
    {fI33 cc33 cda33 : Addr} {kVI33 dcI33 pmI33 ctI33 ocI33 ccl33 cli33 : Value} {anI33 odI33 cdd33 cld33 : Option Addr} {osl33 ccs33 csl33 : Array (Option Value)} {vs33 : Array Value} {file33 : Str} {tf33 : Tok} {cdD33 : ClassData}
    (i133 : PySem.W.findIn K (.ref X33) "__init__" = some (some (.ref fI33))) (i233 : PySem.W.typeIn K (.ref fI33) = some (.type "function")) (i333 : K.lookup fI33 = some ⟨ocI33, odI33, .func (PySem.W.fnX "__init__" "NotLet.__init__" (defArgs sINotLet) (defBody sINotLet) (defScope sINotLet) [("__class__", cc33)] .none kVI33 dcI33 pmI33 anI33 (.ref cda33) ctI33), osl33⟩) (i433 : PySem.W.codeIn K (.ref cda33) "NotLet.__init__" = true)
    (i533 : K.lookup cda33 = some ⟨ccl33, cdd33, .fields vs33, ccs33⟩) (i633 : vs33[2]? = some (.str file33 tf33)) (i733 : ((l.prog.main.file : Str) == file33) = true) (i833 : K.lookup cc33 = some ⟨cli33, cld33, .cell (some (.ref X33)), csl33⟩) (i933 : PySem.W.clsIn K X33 = some cdD33) (i1033 : PySem.W.alongIn K "__init__" ((cdD33.mro.dropWhile (· != .ref X33)).drop 1) = some (some (.builtin "ValueError.__init__")))
    {nm34 qq34 : Str} {NL34 : Addr} {bs34 bm34 : List Value} {sn34 : List Str} {su34 : List Value} {ab34 : Bool} {co34 : Option Bool} {dd34 : Option Addr} {y034 y134 y234 y334 y534 : Option Value} (lX34 : K.lookup X34 = some (excClassObj nm34 qq34 X34 NL34 bs34 bm34 true sn34 su34 ab34 co34 dd34 y034 y134 y234 y334 y534 "ValueError.__new__")) (rX34 : PySem.HandSPX.refsVE bm34 = true)
    (sa34 : PySem.W.findIn K (.ref X34) "__setattr__" = some (some (.builtin "object.__setattr__"))) (ty34 : PySem.W.typeIn K (.ref X34) = some (.type "type")) (ms34 : PySem.W.mroIn K X34 (.ref X34) = some true) (ve34 : PySem.W.subIn K (.ref X34) (.type "ValueError") = some true) (kX34 : PySem.W.keepIn K (.ref X34) = true) (xb34 : PySem.W.subIn K (.ref X34) (.type "BaseException") = some true)
    (no34_0 : PySem.W.findIn K (.ref X34) "line" = some none)
    {fI34 cc34 cda34 : Addr} {kVI34 dcI34 pmI34 ctI34 ocI34 ccl34 cli34 : Value} {anI34 odI34 cdd34 cld34 : Option Addr} {osl34 ccs34 csl34 : Array (Option Value)} {vs34 : Array Value} {file34 : Str} {tf34 : Tok} {cdD34 : ClassData}
    (i134 : PySem.W.findIn K (.ref X34) "__init__" = some (some (.ref fI34))) (i234 : PySem.W.typeIn K (.ref fI34) = some (.type "function")) (i334 : K.lookup fI34 = some ⟨ocI34, odI34, .func (PySem.W.fnX "__init__" "BadListing.__init__" (defArgs sIBadListing) (defBody sIBadListing) (defScope sIBadListing) [("__class__", cc34)] .none kVI34 dcI34 pmI34 anI34 (.ref cda34) ctI34), osl34⟩) (i434 : PySem.W.codeIn K (.ref cda34) "BadListing.__init__" = true)
    (i534 : K.lookup cda34 = some ⟨ccl34, cdd34, .fields vs34, ccs34⟩) (i634 : vs34[2]? = some (.str file34 tf34)) (i734 : ((l.prog.main.file : Str) == file34) = true) (i834 : K.lookup cc34 = some ⟨cli34, cld34, .cell (some (.ref X34)), csl34⟩) (i934 : PySem.W.clsIn K X34 = some cdD34) (i1034 : PySem.W.alongIn K "__init__" ((cdD34.mro.dropWhile (· != .ref X34)).drop 1) = some (some (.builtin "ValueError.__init__")))
    {nm35 qq35 : Str} {NL35 : Addr} {bs35 bm35 : List Value} {sn35 : List Str} {su35 : List Value} {ab35 : Bool} {co35 : Option Bool} {dd35 : Option Addr} {y035 y135 y235 y335 y535 : Option Value} (lX35 : K.lookup X35 = some (excClassObj nm35 qq35 X35 NL35 bs35 bm35 true sn35 su35 ab35 co35 dd35 y035 y135 y235 y335 y535 "ValueError.__new__")) (rX35 : PySem.HandSPX.refsVE bm35 = true)
    (sa35 : PySem.W.findIn K (.ref X35) "__setattr__" = some (some (.builtin "object.__setattr__"))) (ty35 : PySem.W.typeIn K (.ref X35) = some (.type "type")) (ms35 : PySem.W.mroIn K X35 (.ref X35) = some true) (ve35 : PySem.W.subIn K (.ref X35) (.type "ValueError") = some true) (kX35 : PySem.W.keepIn K (.ref X35) = true) (xb35 : PySem.W.subIn K (.ref X35) (.type "BaseException") = some true)
    (no35_0 : PySem.W.findIn K (.ref X35) "name" = some none)
    (no35_1 : PySem.W.findIn K (.ref X35) "row" = some none)
    (no35_2 : PySem.W.findIn K (.ref X35) "address" = some none)
    {fI35 cc35 cda35 : Addr} {kVI35 dcI35 pmI35 ctI35 ocI35 ccl35 cli35 : Value} {anI35 odI35 cdd35 cld35 : Option Addr} {osl35 ccs35 csl35 : Array (Option Value)} {vs35 : Array Value} {file35 : Str} {tf35 : Tok} {cdD35 : ClassData}
    (i135 : PySem.W.findIn K (.ref X35) "__init__" = some (some (.ref fI35))) (i235 : PySem.W.typeIn K (.ref fI35) = some (.type "function")) (i335 : K.lookup fI35 = some ⟨ocI35, odI35, .func (PySem.W.fnX "__init__" "Refused.__init__" (defArgs sIRefused) (defBody sIRefused) (defScope sIRefused) [("__class__", cc35)] .none kVI35 dcI35 pmI35 anI35 (.ref cda35) ctI35), osl35⟩) (i435 : PySem.W.codeIn K (.ref cda35) "Refused.__init__" = true)
    (i535 : K.lookup cda35 = some ⟨ccl35, cdd35, .fields vs35, ccs35⟩) (i635 : vs35[2]? = some (.str file35 tf35)) (i735 : ((l.prog.main.file : Str) == file35) = true) (i835 : K.lookup cc35 = some ⟨cli35, cld35, .cell (some (.ref X35)), csl35⟩) (i935 : PySem.W.clsIn K X35 = some cdD35) (i1035 : PySem.W.alongIn K "__init__" ((cdD35.mro.dropWhile (· != .ref X35)).drop 1) = some (some (.builtin "ValueError.__init__")))
    (sc31 : PySem.W.subIn K (.ref X31) (.ref CSE) = some true) (hdS31 : PySem.W.hasDictIn K CSE = true) (tyS31 : PySem.W.typeIn K (.ref CSE) = some (.type "type")) (xbS31 : PySem.W.subIn K (.ref CSE) (.type "BaseException") = some true)
    (sc32 : PySem.W.subIn K (.ref X32) (.ref CSE) = some true) (hdS32 : PySem.W.hasDictIn K CSE = true) (tyS32 : PySem.W.typeIn K (.ref CSE) = some (.type "type")) (xbS32 : PySem.W.subIn K (.ref CSE) (.type "BaseException") = some true)
    (n12g : K.lookup P0 = none) (h12g : PySem.W.codeHdIn K cr12 P0 = true)
    (n11g : K.lookup P1 = none) (h11g : PySem.W.codeHdIn K cr11 P1 = true)
    (n10g : K.lookup P2 = none) (h10g : PySem.W.codeHdIn K cr10 P2 = true)
    (n16g : K.lookup P3 = none) (h16g : PySem.W.codeHdIn K cr16 P3 = true)
    (n18g : K.lookup P4 = none) (h18g : PySem.W.codeHdIn K cr18 P4 = true)
    (n21g : K.lookup P5 = none) (h21g : PySem.W.codeHdIn K cr21 P5 = true)
    (n22g : K.lookup P6 = none) (h22g : PySem.W.codeHdIn K cr22 P6 = true)
    (hT8 : ∀ P ∈ [P0, P1, P2, P3, P4, P5, P6], h.get? P = some (PySem.W.tabObj #[])) :
    LamX.LawAtS l w K CX0 14 63 "_law_script" mg fa h := by
  have e := hfa.symm.trans (PySem.W.mg_of X G a43)
  cases e
  have F0 := fun_mk (st := sInt) l0 c0 k0
  have B0 := F0.binds (ps := ["thing"]) fun _ _ _ _ _ _ us hl => match us, hl with | [_], _ => rfl
  have D0 : Df K mg "is_integer" ["thing"] f0 _ := ⟨PySem.W.mg_of X G a0, k0, B0⟩
  have F1 := fun_mk (st := sBet) l1 c1 k1
  have B1 := F1.binds (ps := ["thing", "least", "most"]) fun _ _ _ _ _ _ us hl => match us, hl with | [_, _, _], _ => rfl
  have D1 : Df K mg "is_between" ["thing", "least", "most"] f1 _ := ⟨PySem.W.mg_of X G a1, k1, B1⟩
  have F2 := fun_mk (st := sNum) l2 c2 k2
  have B2 := F2.binds (ps := ["thing"]) fun _ _ _ _ _ _ us hl => match us, hl with | [_], _ => rfl
  have D2 : Df K mg "is_number" ["thing"] f2 _ := ⟨PySem.W.mg_of X G a2, k2, B2⟩
  have F3 := fun_mk (st := sFac) l3 c3 k3
  have B3 := F3.binds (ps := ["thing"]) fun _ _ _ _ _ _ us hl => match us, hl with | [_], _ => rfl
  have D3 : Df K mg "is_factor" ["thing"] f3 _ := ⟨PySem.W.mg_of X G a3, k3, B3⟩
  have F4 := fun_mk (st := sTup) l4 c4 k4
  have B4 := F4.binds (ps := ["thing", "least", "most"]) fun _ _ _ _ _ _ us hl => match us, hl with | [_, _, _], _ => rfl
  have D4 : Df K mg "is_tuple" ["thing", "least", "most"] f4 _ := ⟨PySem.W.mg_of X G a4, k4, B4⟩
  have F5 := fun_mk (st := sNam) l5 c5 k5
  have B5 := F5.binds (ps := ["thing"]) fun _ _ _ _ _ _ us hl => match us, hl with | [_], _ => rfl
  have D5 : Df K mg "is_name" ["thing"] f5 _ := ⟨PySem.W.mg_of X G a5, k5, B5⟩
  have F6 := fun_mk (st := sLow) l6 c6 k6
  have B6 := F6.binds (ps := ["thing"]) fun _ _ _ _ _ _ us hl => match us, hl with | [_], _ => rfl
  have D6 : Df K mg "is_low" ["thing"] f6 _ := ⟨PySem.W.mg_of X G a6, k6, B6⟩
  have F7 := fun_mk (st := sHig) l7 c7 k7
  have B7 := F7.binds (ps := ["thing"]) fun _ _ _ _ _ _ us hl => match us, hl with | [_], _ => rfl
  have D7 : Df K mg "is_high" ["thing"] f7 _ := ⟨PySem.W.mg_of X G a7, k7, B7⟩
  have F8 := fun_mk (st := sKin) l8 c8 k8
  have B8 := F8.binds (ps := ["thing"]) fun _ _ _ _ _ _ us hl => match us, hl with | [_], _ => rfl
  have D8 : Df K mg "is_kind" ["thing"] f8 _ := ⟨PySem.W.mg_of X G a8, k8, B8⟩
  have F9 := fun_mk (st := sFir) l9 c9 k9
  have B9 := F9.binds (ps := ["thing"]) fun _ _ _ _ _ _ us hl => match us, hl with | [_], _ => rfl
  have D9 : Df K mg "first_word" ["thing"] f9 _ := ⟨PySem.W.mg_of X G a9, k9, B9⟩
  have F10 := fun_mk (st := sKinds) l10 c10 k10
  have FC10 : FunC K "are_kinds" "are_kinds" sKinds f10 _ cr10 := ⟨⟨_, _, _, _, _, _, _, _, rfl, l10, c10⟩, k10⟩
  have B10 := F10.binds (ps := ["thing"]) fun _ _ _ _ _ _ us hl => match us, hl with | [_], _ => rfl
  have D10 : Df K mg "are_kinds" ["thing"] f10 _ := ⟨PySem.W.mg_of X G a10, k10, B10⟩
  have F11 := fun_mk (st := sEntry) l11 c11 k11
  have FC11 : FunC K "_is_entry" "_is_entry" sEntry f11 _ cr11 := ⟨⟨_, _, _, _, _, _, _, _, rfl, l11, c11⟩, k11⟩
  have B11 := F11.binds (ps := ["entry"]) fun _ _ _ _ _ _ us hl => match us, hl with | [_], _ => rfl
  have D11 : Df K mg "_is_entry" ["entry"] f11 _ := ⟨PySem.W.mg_of X G a11, k11, B11⟩
  have F12 := fun_mk (st := sMaker) l12 c12 k12
  have FC12 : FunC K "_is_maker" "_is_maker" sMaker f12 _ cr12 := ⟨⟨_, _, _, _, _, _, _, _, rfl, l12, c12⟩, k12⟩
  have B12 := F12.binds (ps := ["maker"]) fun _ _ _ _ _ _ us hl => match us, hl with | [_], _ => rfl
  have D12 : Df K mg "_is_maker" ["maker"] f12 _ := ⟨PySem.W.mg_of X G a12, k12, B12⟩
  have F13 := fun_mk (st := sKf) l13 c13 k13
  have B13 := F13.binds (ps := ["kinds"]) fun _ _ _ _ _ _ us hl => match us, hl with | [_], _ => rfl
  have D13 : Df K mg "kinds_fault" ["kinds"] f13 _ := ⟨PySem.W.mg_of X G a13, k13, B13⟩
  have F14 := fun_mk (st := sMk) l14 c14 k14
  have B14 := F14.binds (ps := ["kinds"]) fun _ _ _ _ _ _ us hl => match us, hl with | [_], _ => rfl
  have D14 : Df K mg "makers_by_kind" ["kinds"] f14 _ := ⟨PySem.W.mg_of X G a14, k14, B14⟩
  have F15 := fun_mk (st := sMn) l15 c15 k15
  have B15 := F15.binds (ps := ["kinds"]) fun _ _ _ _ _ _ us hl => match us, hl with | [_], _ => rfl
  have D15 : Df K mg "makers_by_name" ["kinds"] f15 _ := ⟨PySem.W.mg_of X G a15, k15, B15⟩
  have F16 := fun_mk (st := sProg) l16 c16 k16
  have FC16 : FunC K "is_program" "is_program" sProg f16 _ cr16 := ⟨⟨_, _, _, _, _, _, _, _, rfl, l16, c16⟩, k16⟩
  have B16 := F16.binds (ps := ["thing"]) fun _ _ _ _ _ _ us hl => match us, hl with | [_], _ => rfl
  have D16 : Df K mg "is_program" ["thing"] f16 _ := ⟨PySem.W.mg_of X G a16, k16, B16⟩
  have F17 := fun_mk (st := sRp) l17 c17 k17
  have B17 := F17.binds (ps := ["text"]) fun _ _ _ _ _ _ us hl => match us, hl with | [_], _ => rfl
  have D17 : Df K mg "read_program" ["text"] f17 _ := ⟨PySem.W.mg_of X G a17, k17, B17⟩
  have F18 := fun_mk (st := sFunc) l18 c18 k18
  have FC18 : FunC K "_is_function" "_is_function" sFunc f18 _ cr18 := ⟨⟨_, _, _, _, _, _, _, _, rfl, l18, c18⟩, k18⟩
  have B18 := F18.binds (ps := ["thing"]) fun _ _ _ _ _ _ us hl => match us, hl with | [_], _ => rfl
  have D18 : Df K mg "_is_function" ["thing"] f18 _ := ⟨PySem.W.mg_of X G a18, k18, B18⟩
  have F19 := fun_mk (st := sParam) l19 c19 k19
  have B19 := F19.binds (ps := ["thing"]) fun _ _ _ _ _ _ us hl => match us, hl with | [_], _ => rfl
  have D19 : Df K mg "_is_param" ["thing"] f19 _ := ⟨PySem.W.mg_of X G a19, k19, B19⟩
  have F20 := fun_mk (st := sWhole) l20 c20 k20
  have B20 := F20.binds (ps := ["thing"]) fun _ _ _ _ _ _ us hl => match us, hl with | [_], _ => rfl
  have D20 : Df K mg "_is_whole_body" ["thing"] f20 _ := ⟨PySem.W.mg_of X G a20, k20, B20⟩
  have F21 := fun_mk (st := sBody) l21 c21 k21
  have FC21 : FunC K "_body_parts" "_body_parts" sBody f21 _ cr21 := ⟨⟨_, _, _, _, _, _, _, _, rfl, l21, c21⟩, k21⟩
  have B21 := F21.binds (ps := ["body"]) fun _ _ _ _ _ _ us hl => match us, hl with | [_], _ => rfl
  have D21 : Df K mg "_body_parts" ["body"] f21 _ := ⟨PySem.W.mg_of X G a21, k21, B21⟩
  have F22 := fun_mk (st := sBranch) l22 c22 k22
  have FC22 : FunC K "_is_branch" "_is_branch" sBranch f22 _ cr22 := ⟨⟨_, _, _, _, _, _, _, _, rfl, l22, c22⟩, k22⟩
  have B22 := F22.binds (ps := ["thing"]) fun _ _ _ _ _ _ us hl => match us, hl with | [_], _ => rfl
  have D22 : Df K mg "_is_branch" ["thing"] f22 _ := ⟨PySem.W.mg_of X G a22, k22, B22⟩
  have F23 := fun_mk (st := sTerm) l23 c23 k23
  have B23 := F23.binds (ps := ["term"]) fun _ _ _ _ _ _ us hl => match us, hl with | [_], _ => rfl
  have D23 : Df K mg "_term_parts" ["term"] f23 _ := ⟨PySem.W.mg_of X G a23, k23, B23⟩
  have F24 := fun_mk (st := sSign) l24 c24 k24
  have B24 := F24.binds (ps := ["thing"]) fun _ _ _ _ _ _ us hl => match us, hl with | [_], _ => rfl
  have D24 : Df K mg "_is_sign" ["thing"] f24 _ := ⟨PySem.W.mg_of X G a24, k24, B24⟩
  have F25 := fun_mk (st := sChk) l25 c25 k25
  have B25 := F25.binds (ps := ["program"]) fun _ _ _ _ _ _ us hl => match us, hl with | [_], _ => rfl
  have D25 : Df K mg "checked" ["program"] f25 _ := ⟨PySem.W.mg_of X G a25, k25, B25⟩
  have F26 := fun_mk (st := sChh) l26 c26 k26
  have B26 := F26.binds (ps := ["kinds", "functions"]) fun _ _ _ _ _ _ us hl => match us, hl with | [_, _], _ => rfl
  have D26 : Df K mg "_check_heads" ["kinds", "functions"] f26 _ := ⟨PySem.W.mg_of X G a26, k26, B26⟩
  have F27 := fun_mk (st := sHdf) l27 c27 k27
  have B27 := F27.binds (ps := ["kinds", "params", "result"]) fun _ _ _ _ _ _ us hl => match us, hl with | [_, _, _], _ => rfl
  have D27 : Df K mg "_head_fault" ["kinds", "params", "result"] f27 _ := ⟨PySem.W.mg_of X G a27, k27, B27⟩
  have F28 := fun_mk (st := sBin) l28 c28 k28
  have B28 := F28.binds (ps := ["self", "kinds", "heads", "name", "result"]) fun _ _ _ _ _ _ us hl => match us, hl with | [_, _, _, _, _], _ => rfl
  have M28 : Mk K CWo f28 := ⟨mkCWo, a28, i28, kcCWo⟩
  have F29 := fun_mk (st := sDem) l29 c29 k29
  have B29 := F29.binds (ps := ["self", "right", "word"]) fun _ _ _ _ _ _ us hl => match us, hl with | [_, _, _], _ => rfl
  have M29 : Meth K CWo "demand" f29 := ⟨a29, i29, k29⟩
  have F30 := fun_mk (st := sBod) l30 c30 k30
  have B30 := F30.binds (ps := ["self", "body", "reach"]) fun _ _ _ _ _ _ us hl => match us, hl with | [_, _, _], _ => rfl
  have M30 : Meth K CWo "body" f30 := ⟨a30, i30, k30⟩
  have F31 := fun_mk (st := sFts) l31 c31 k31
  have B31 := F31.binds (ps := ["self", "term", "kind", "reach"]) fun _ _ _ _ _ _ us hl => match us, hl with | [_, _, _, _], _ => rfl
  have M31 : Meth K CWo "fits" f31 := ⟨a31, i31, k31⟩
  have F32 := fun_mk (st := sKof) l32 c32 k32
  have B32 := F32.binds (ps := ["self", "term", "reach"]) fun _ _ _ _ _ _ us hl => match us, hl with | [_, _, _], _ => rfl
  have M32 : Meth K CWo "kind_of" f32 := ⟨a32, i32, k32⟩
  have F33 := fun_mk (st := sFal) l33 c33 k33
  have B33 := F33.binds (ps := ["self", "terms", "kinds", "reach"]) fun _ _ _ _ _ _ us hl => match us, hl with | [_, _, _, _], _ => rfl
  have M33 : Meth K CWo "fit_all" f33 := ⟨a33, i33, k33⟩
  have F34 := fun_mk (st := lWl) l34 c34 k34
  have B34 := F34.binds (ps := ["_law_script"]) fun _ _ _ _ _ _ us hl => match us, hl with | [_], _ => rfl
  have D34 : Df K mg "_law_well" ["_law_script"] f34 _ := ⟨PySem.W.mg_of X G a34, k34, B34⟩
  have F35 := fun_mk (st := lDraw) l35 c35 k35
  have B35 := F35.binds (ps := ["_law_well_here", "_law_many"]) fun _ _ _ _ _ _ us hl => match us, hl with | [_, _], _ => rfl
  have D35 : Df K mg "_law_draw" ["_law_well_here", "_law_many"] f35 _ := ⟨PySem.W.mg_of X G a35, k35, B35⟩
  have F36 := fun_mk (st := lWord) l36 c36 k36
  have B36 := F36.binds (ps := ["_law_well_here", "_law_capital", "_law_used"]) fun _ _ _ _ _ _ us hl => match us, hl with | [_, _, _], _ => rfl
  have D36 : Df K mg "_law_word" ["_law_well_here", "_law_capital", "_law_used"] f36 _ := ⟨PySem.W.mg_of X G a36, k36, B36⟩
  have F37 := fun_mk (st := lSm) l37 c37 k37
  have B37 := F37.binds (ps := ["_law_found", "_law_due"]) fun _ _ _ _ _ _ us hl => match us, hl with | [_, _], _ => rfl
  have D37 : Df K mg "_law_same" ["_law_found", "_law_due"] f37 _ := ⟨PySem.W.mg_of X G a37, k37, B37⟩
  have F38 := fun_mk (st := lFlg) l38 c38 k38
  have B38 := F38.binds (ps := ["_law_e"]) fun _ _ _ _ _ _ us hl => match us, hl with | [_], _ => rfl
  have D38 : Df K mg "_law_flags" ["_law_e"] f38 _ := ⟨PySem.W.mg_of X G a38, k38, B38⟩
  have F39 := fun_mk (st := lPln) l39 c39 k39
  have B39 := F39.binds (ps := ["_law_word_here"]) fun _ _ _ _ _ _ us hl => match us, hl with | [_], _ => rfl
  have D39 : Df K mg "_law_plain" ["_law_word_here"] f39 _ := ⟨PySem.W.mg_of X G a39, k39, B39⟩
  have F40 := fun_mk (st := lPlc) l40 c40 k40
  have B40 := F40.binds (ps := ["_law_well_here"]) fun _ _ _ _ _ _ us hl => match us, hl with | [_], _ => rfl
  have D40 : Df K mg "_law_place" ["_law_well_here"] f40 _ := ⟨PySem.W.mg_of X G a40, k40, B40⟩
  have F41 := fun_mk (st := lPar) l41 c41 k41
  have B41 := F41.binds (ps := ["_law_well_here"]) fun _ _ _ _ _ _ us hl => match us, hl with | [_], _ => rfl
  have D41 : Df K mg "_law_parts" ["_law_well_here"] f41 _ := ⟨PySem.W.mg_of X G a41, k41, B41⟩
  have F42 := fun_mk (st := lCau) l42 c42 k42
  have B42 := F42.binds (ps := ["_law_door", "_law_thing"]) fun _ _ _ _ _ _ us hl => match us, hl with | [_, _], _ => rfl
  have D42 : Df K mg "_law_caught" ["_law_door", "_law_thing"] f42 _ := ⟨PySem.W.mg_of X G a42, k42, B42⟩
  have F43 := fun_mk (st := lLaw) l43 c43 k43
  have g_isinstance := PySem.W.mg_none_of X G zisinstance
  have g_int := PySem.W.mg_none_of X G zint
  have g_bool := PySem.W.mg_none_of X G zbool
  have g_tuple := PySem.W.mg_none_of X G ztuple
  have g_str := PySem.W.mg_none_of X G zstr
  have g_len := PySem.W.mg_none_of X G zlen
  have g_all := PySem.W.mg_none_of X G zall
  have g_zip := PySem.W.mg_none_of X G zzip
  have g_range := PySem.W.mg_none_of X G zrange
  have g_list := PySem.W.mg_none_of X G zlist
  have g_abs := PySem.W.mg_none_of X G zabs
  have g_max := PySem.W.mg_none_of X G zmax
  have g_sum := PySem.W.mg_none_of X G zsum
  have g_enumerate := PySem.W.mg_none_of X G zenumerate
  have g_super := PySem.W.mg_none_of X G zsuper
  have g_ValueError := PySem.W.mg_none_of X G zValueError
  have vMOST_SIGNS : ∃ t, mg "MOST_SIGNS" = some (.int 10 t) := ⟨_, PySem.W.mg_of X G mMOST_SIGNS⟩
  have vMOST_NUMBER : ∃ t, mg "MOST_NUMBER" = some (.int 1000000000000 t) := ⟨_, PySem.W.mg_of X G mMOST_NUMBER⟩
  have vMOST_KINDS : ∃ t, mg "MOST_KINDS" = some (.int 8 t) := ⟨_, PySem.W.mg_of X G mMOST_KINDS⟩
  have vMOST_MAKERS : ∃ t, mg "MOST_MAKERS" = some (.int 8 t) := ⟨_, PySem.W.mg_of X G mMOST_MAKERS⟩
  have vMOST_FIELDS : ∃ t, mg "MOST_FIELDS" = some (.int 5 t) := ⟨_, PySem.W.mg_of X G mMOST_FIELDS⟩
  have vMOST_FUNCTIONS : ∃ t, mg "MOST_FUNCTIONS" = some (.int 12 t) := ⟨_, PySem.W.mg_of X G mMOST_FUNCTIONS⟩
  have vMOST_FACTOR : ∃ t, mg "MOST_FACTOR" = some (.int 1000000 t) := ⟨_, PySem.W.mg_of X G mMOST_FACTOR⟩
  have vMOST_PARAMS : ∃ t, mg "MOST_PARAMS" = some (.int 6 t) := ⟨_, PySem.W.mg_of X G mMOST_PARAMS⟩
  have vMOST_PARTS : ∃ t, mg "MOST_PARTS" = some (.int 100 t) := ⟨_, PySem.W.mg_of X G mMOST_PARTS⟩
  have vMOST_CHAIN : ∃ t, mg "MOST_CHAIN" = some (.int 30 t) := ⟨_, PySem.W.mg_of X G mMOST_CHAIN⟩
  have hWs : ∀ H : Hp, SqT K H CWW (wordsL.map V.str) := fun H => .inr ⟨_, _, _, lW, rfl, rfl, (by show 8 ≤ sizeLine; decide), (.cons ⟨_, rfl⟩ (.cons ⟨_, rfl⟩ (.cons ⟨_, rfl⟩ (.cons ⟨_, rfl⟩ (.cons ⟨_, rfl⟩ (.cons ⟨_, rfl⟩ (.cons ⟨_, rfl⟩ (.cons ⟨_, rfl⟩ .nil))))))))⟩
  have N : Gn K mg := ⟨g_isinstance, g_int, g_bool, g_tuple, g_str, g_len, g_all, vMOST_SIGNS, vMOST_NUMBER, vMOST_FACTOR, ⟨_, PySem.W.mg_of X G mWHOLE⟩, ⟨CWW, PySem.W.mg_of X G mWORDS, hWs⟩⟩
  have M : Gd mg := ⟨g_len, g_abs, g_int⟩
  have M3 : Gd3 mg := ⟨g_len, g_int, g_str, g_range⟩
  have Gk0 : Gk mg := ⟨vMOST_KINDS, vMOST_MAKERS, vMOST_FIELDS⟩
  have TB : TxB K mg CWo := ⟨⟨pgCWo, hdCWo, poCWo, saCWo⟩, nkindsCWo, nmakersCWo, nheadsCWo, nnameCWo, nresultCWo, PySem.W.mg_of X G aCCWo⟩
  have SC : ClsK K mg veL CSE [X0, X1, X2, X3, X4, X5, X6, X7, X8, X9, X10, X11, X12, X13, X14, X15, X16, X17, X18, X19, X20, X21, X22, X23, X24, X25, X26, X27, X28, X29, X30, X31, X32, X33, X34, X35] := clsK_of rfl hcls hpl fun i h => match i, h with | 0, _ => PySem.W.mg_of X G aX0 | 1, _ => PySem.W.mg_of X G aX1 | 2, _ => PySem.W.mg_of X G aX2 | 3, _ => PySem.W.mg_of X G aX3 | 4, _ => PySem.W.mg_of X G aX4 | 5, _ => PySem.W.mg_of X G aX5 | 6, _ => PySem.W.mg_of X G aX6 | 7, _ => PySem.W.mg_of X G aX7 | 8, _ => PySem.W.mg_of X G aX8 | 9, _ => PySem.W.mg_of X G aX9 | 10, _ => PySem.W.mg_of X G aX10 | 11, _ => PySem.W.mg_of X G aX11 | 12, _ => PySem.W.mg_of X G aX12 | 13, _ => PySem.W.mg_of X G aX13 | 14, _ => PySem.W.mg_of X G aX14 | 15, _ => PySem.W.mg_of X G aX15 | 16, _ => PySem.W.mg_of X G aX16 | 17, _ => PySem.W.mg_of X G aX17 | 18, _ => PySem.W.mg_of X G aX18 | 19, _ => PySem.W.mg_of X G aX19 | 20, _ => PySem.W.mg_of X G aX20 | 21, _ => PySem.W.mg_of X G aX21 | 22, _ => PySem.W.mg_of X G aX22 | 23, _ => PySem.W.mg_of X G aX23 | 24, _ => PySem.W.mg_of X G aX24 | 25, _ => PySem.W.mg_of X G aX25 | 26, _ => PySem.W.mg_of X G aX26 | 27, _ => PySem.W.mg_of X G aX27 | 28, _ => PySem.W.mg_of X G aX28 | 29, _ => PySem.W.mg_of X G aX29 | 30, _ => PySem.W.mg_of X G aX30 | 31, _ => PySem.W.mg_of X G aX31 | 32, _ => PySem.W.mg_of X G aX32 | 33, _ => PySem.W.mg_of X G aX33 | 34, _ => PySem.W.mg_of X G aX34 | 35, _ => PySem.W.mg_of X G aX35 | n + 36, h => absurd h (by omega)
  have O31 : OexC K X31 := ⟨⟨nm31, qq31, NL31, bs31, bm31, sn31, su31, ab31, co31, dd31, y031, y131, y231, y331, y531, lX31, rX31⟩, sa31, xb31, ty31, kX31⟩
  have I31 : IniK l.prog K mg sIBadText "BadText.__init__" ["place"] X31 fI31 (PySem.W.fnX "__init__" "BadText.__init__" (defArgs sIBadText) (defBody sIBadText) (defScope sIBadText) [("__class__", cc31)] .none kVI31 dcI31 pmI31 anI31 (.ref cda31) ctI31) := ⟨⟨cc31, cda31, .none, kVI31, dcI31, pmI31, ctI31, ocI31, ccl31, cli31, anI31, odI31, cdd31, cld31, osl31, ccs31, csl31, vs31, file31, tf31, cdD31, _, rfl, i331, i431, i531, i631, i731, i831, i931, rfl, i1031⟩, O31, ms31, s8, ve31, g_super, i11, by decide +kernel, List.forall_mem_cons.mpr ⟨no31_0, fun _ z => nomatch z⟩⟩
  have E31 := SC.e X31 (by simp)
  have O32 : OexC K X32 := ⟨⟨nm32, qq32, NL32, bs32, bm32, sn32, su32, ab32, co32, dd32, y032, y132, y232, y332, y532, lX32, rX32⟩, sa32, xb32, ty32, kX32⟩
  have I32 : IniK l.prog K mg sINotChecked "NotChecked.__init__" ["what"] X32 fI32 (PySem.W.fnX "__init__" "NotChecked.__init__" (defArgs sINotChecked) (defBody sINotChecked) (defScope sINotChecked) [("__class__", cc32)] .none kVI32 dcI32 pmI32 anI32 (.ref cda32) ctI32) := ⟨⟨cc32, cda32, .none, kVI32, dcI32, pmI32, ctI32, ocI32, ccl32, cli32, anI32, odI32, cdd32, cld32, osl32, ccs32, csl32, vs32, file32, tf32, cdD32, _, rfl, i332, i432, i532, i632, i732, i832, i932, rfl, i1032⟩, O32, ms32, s8, ve32, g_super, i11, by decide +kernel, List.forall_mem_cons.mpr ⟨no32_0, fun _ z => nomatch z⟩⟩
  have E32 := SC.e X32 (by simp)
  have O33 : OexC K X33 := ⟨⟨nm33, qq33, NL33, bs33, bm33, sn33, su33, ab33, co33, dd33, y033, y133, y233, y333, y533, lX33, rX33⟩, sa33, xb33, ty33, kX33⟩
  have I33 : IniK l.prog K mg sINotLet "NotLet.__init__" ["index"] X33 fI33 (PySem.W.fnX "__init__" "NotLet.__init__" (defArgs sINotLet) (defBody sINotLet) (defScope sINotLet) [("__class__", cc33)] .none kVI33 dcI33 pmI33 anI33 (.ref cda33) ctI33) := ⟨⟨cc33, cda33, .none, kVI33, dcI33, pmI33, ctI33, ocI33, ccl33, cli33, anI33, odI33, cdd33, cld33, osl33, ccs33, csl33, vs33, file33, tf33, cdD33, _, rfl, i333, i433, i533, i633, i733, i833, i933, rfl, i1033⟩, O33, ms33, s8, ve33, g_super, i11, by decide +kernel, List.forall_mem_cons.mpr ⟨no33_0, fun _ z => nomatch z⟩⟩
  have E33 := SC.e X33 (by simp)
  have O34 : OexC K X34 := ⟨⟨nm34, qq34, NL34, bs34, bm34, sn34, su34, ab34, co34, dd34, y034, y134, y234, y334, y534, lX34, rX34⟩, sa34, xb34, ty34, kX34⟩
  have I34 : IniK l.prog K mg sIBadListing "BadListing.__init__" ["line"] X34 fI34 (PySem.W.fnX "__init__" "BadListing.__init__" (defArgs sIBadListing) (defBody sIBadListing) (defScope sIBadListing) [("__class__", cc34)] .none kVI34 dcI34 pmI34 anI34 (.ref cda34) ctI34) := ⟨⟨cc34, cda34, .none, kVI34, dcI34, pmI34, ctI34, ocI34, ccl34, cli34, anI34, odI34, cdd34, cld34, osl34, ccs34, csl34, vs34, file34, tf34, cdD34, _, rfl, i334, i434, i534, i634, i734, i834, i934, rfl, i1034⟩, O34, ms34, s8, ve34, g_super, i11, by decide +kernel, List.forall_mem_cons.mpr ⟨no34_0, fun _ z => nomatch z⟩⟩
  have E34 := SC.e X34 (by simp)
  have O35 : OexC K X35 := ⟨⟨nm35, qq35, NL35, bs35, bm35, sn35, su35, ab35, co35, dd35, y035, y135, y235, y335, y535, lX35, rX35⟩, sa35, xb35, ty35, kX35⟩
  have I35 : IniK l.prog K mg sIRefused "Refused.__init__" ["name", "row", "address"] X35 fI35 (PySem.W.fnX "__init__" "Refused.__init__" (defArgs sIRefused) (defBody sIRefused) (defScope sIRefused) [("__class__", cc35)] .none kVI35 dcI35 pmI35 anI35 (.ref cda35) ctI35) := ⟨⟨cc35, cda35, .none, kVI35, dcI35, pmI35, ctI35, ocI35, ccl35, cli35, anI35, odI35, cdd35, cld35, osl35, ccs35, csl35, vs35, file35, tf35, cdD35, _, rfl, i335, i435, i535, i635, i735, i835, i935, rfl, i1035⟩, O35, ms35, s8, ve35, g_super, i11, by decide +kernel, List.forall_mem_cons.mpr ⟨no35_0, List.forall_mem_cons.mpr ⟨no35_1, List.forall_mem_cons.mpr ⟨no35_2, fun _ z => nomatch z⟩⟩⟩⟩
  have E35 := SC.e X35 (by simp)
  have SCau : CauK K mg CSE X31 X32 := ⟨PySem.W.mg_of X G eSE, PySem.W.exm_ref xbS31 hdS31 tyS31 sc31, PySem.W.exm_ref xbS32 hdS32 tyS32 sc32⟩
  let T : Hp → Prop := fun H => ∀ P ∈ [P0, P1, P2, P3, P4, P5, P6], TabG H P
  have st : Stays T := fun H H' g t P hP => g.tabs (t P hP)
  have sw : StaysW T := fun p ys H H' hp g t P hP => tabsW ⟨ys, hp⟩ g (t P hP)
  have t12 : ∀ H, T H → TabG H P0 := fun H t => t P0 (List.mem_cons_self)
  have t11 : ∀ H, T H → TabG H P1 := fun H t => t P1 (List.mem_cons_of_mem _ (List.mem_cons_self))
  have t10 : ∀ H, T H → TabG H P2 := fun H t => t P2 (List.mem_cons_of_mem _ (List.mem_cons_of_mem _ (List.mem_cons_self)))
  have t16 : ∀ H, T H → TabG H P3 := fun H t => t P3 (List.mem_cons_of_mem _ (List.mem_cons_of_mem _ (List.mem_cons_of_mem _ (List.mem_cons_self))))
  have t18 : ∀ H, T H → TabG H P4 := fun H t => t P4 (List.mem_cons_of_mem _ (List.mem_cons_of_mem _ (List.mem_cons_of_mem _ (List.mem_cons_of_mem _ (List.mem_cons_self)))))
  have t21 : ∀ H, T H → TabG H P5 := fun H t => t P5 (List.mem_cons_of_mem _ (List.mem_cons_of_mem _ (List.mem_cons_of_mem _ (List.mem_cons_of_mem _ (List.mem_cons_of_mem _ (List.mem_cons_self))))))
  have t22 : ∀ H, T H → TabG H P6 := fun H t => t P6 (List.mem_cons_of_mem _ (List.mem_cons_of_mem _ (List.mem_cons_of_mem _ (List.mem_cons_of_mem _ (List.mem_cons_of_mem _ (List.mem_cons_of_mem _ (List.mem_cons_self)))))))
  have mem : ∀ {R : Addr → Addr → Prop}, R cr12 P0 → R cr11 P1 → R cr10 P2 → R cr16 P3 → R cr18 P4 → R cr21 P5 → R cr22 P6 → ∀ p ∈ ([(cr12, P0), (cr11, P1), (cr10, P2), (cr16, P3), (cr18, P4), (cr21, P5), (cr22, P6)] : List (Addr × Addr)), R p.1 p.2 := fun r0 r1 r2 r3 r4 r5 r6 => List.forall_mem_cons.mpr ⟨r0, List.forall_mem_cons.mpr ⟨r1, List.forall_mem_cons.mpr ⟨r2, List.forall_mem_cons.mpr ⟨r3, List.forall_mem_cons.mpr ⟨r4, List.forall_mem_cons.mpr ⟨r5, List.forall_mem_cons.mpr ⟨r6, fun _ z => nomatch z⟩⟩⟩⟩⟩⟩⟩
  refine ⟨PySem.W.fnOf "law" "law" (defArgs lLaw) (defBody lLaw) (defScope lLaw) .none kV43 dc43 pm43 an43 cd43 ct43, [(cr12, P0), (cr11, P1), (cr10, P2), (cr16, P3), (cr18, P4), (cr21, P5), (cr22, P6)], spLaw K T, ?_, ?_, ?_, fun s v => .of_eq rfl, ?_, fun base _ _ hBs => ?_⟩
  · exact mem (R := fun _ P => h.get? P = some { cls := .none, data := .fields #[] }) (hT8 P0 (List.mem_cons_self)) (hT8 P1 (List.mem_cons_of_mem _ (List.mem_cons_self))) (hT8 P2 (List.mem_cons_of_mem _ (List.mem_cons_of_mem _ (List.mem_cons_self)))) (hT8 P3 (List.mem_cons_of_mem _ (List.mem_cons_of_mem _ (List.mem_cons_of_mem _ (List.mem_cons_self))))) (hT8 P4 (List.mem_cons_of_mem _ (List.mem_cons_of_mem _ (List.mem_cons_of_mem _ (List.mem_cons_of_mem _ (List.mem_cons_self)))))) (hT8 P5 (List.mem_cons_of_mem _ (List.mem_cons_of_mem _ (List.mem_cons_of_mem _ (List.mem_cons_of_mem _ (List.mem_cons_of_mem _ (List.mem_cons_self))))))) (hT8 P6 (List.mem_cons_of_mem _ (List.mem_cons_of_mem _ (List.mem_cons_of_mem _ (List.mem_cons_of_mem _ (List.mem_cons_of_mem _ (List.mem_cons_of_mem _ (List.mem_cons_self))))))))
  · exact mem (R := fun _ P => K.lookup P = none) n12g n11g n10g n16g n18g n21g n22g
  · exact mem (R := fun c P => PySem.W.CodeHd h c P) (PySem.W.codeHd_of_K X h12g) (PySem.W.codeHd_of_K X h11g) (PySem.W.codeHd_of_K X h10g) (PySem.W.codeHd_of_K X h16g) (PySem.W.codeHd_of_K X h18g) (PySem.W.codeHd_of_K X h21g) (PySem.W.codeHd_of_K X h22g)
  · intro H a ns _ _ hH hS
    have hH' : ∀ P ∈ [P0, P1, P2, P3, P4, P5, P6], H P = some (.tbl #[]) := List.forall_mem_cons.mpr ⟨hH (cr12, P0) (List.mem_cons_self), List.forall_mem_cons.mpr ⟨hH (cr11, P1) (List.mem_cons_of_mem _ (List.mem_cons_self)), List.forall_mem_cons.mpr ⟨hH (cr10, P2) (List.mem_cons_of_mem _ (List.mem_cons_of_mem _ (List.mem_cons_self))), List.forall_mem_cons.mpr ⟨hH (cr16, P3) (List.mem_cons_of_mem _ (List.mem_cons_of_mem _ (List.mem_cons_of_mem _ (List.mem_cons_self)))), List.forall_mem_cons.mpr ⟨hH (cr18, P4) (List.mem_cons_of_mem _ (List.mem_cons_of_mem _ (List.mem_cons_of_mem _ (List.mem_cons_of_mem _ (List.mem_cons_self))))), List.forall_mem_cons.mpr ⟨hH (cr21, P5) (List.mem_cons_of_mem _ (List.mem_cons_of_mem _ (List.mem_cons_of_mem _ (List.mem_cons_of_mem _ (List.mem_cons_of_mem _ (List.mem_cons_self)))))), List.forall_mem_cons.mpr ⟨hH (cr22, P6) (List.mem_cons_of_mem _ (List.mem_cons_of_mem _ (List.mem_cons_of_mem _ (List.mem_cons_of_mem _ (List.mem_cons_of_mem _ (List.mem_cons_of_mem _ (List.mem_cons_self))))))), fun _ z => nomatch z⟩⟩⟩⟩⟩⟩⟩
    exact ⟨a, ns, rfl, hS, fun P hP => ⟨#[], hH' P hP, trip0⟩, fun _ => rfl⟩
  have TB12 := tb_of (hBs (cr12, P0) (List.mem_cons_self))
  have TB11 := tb_of (hBs (cr11, P1) (List.mem_cons_of_mem _ (List.mem_cons_self)))
  have TB10 := tb_of (hBs (cr10, P2) (List.mem_cons_of_mem _ (List.mem_cons_of_mem _ (List.mem_cons_self))))
  have TB16 := tb_of (hBs (cr16, P3) (List.mem_cons_of_mem _ (List.mem_cons_of_mem _ (List.mem_cons_of_mem _ (List.mem_cons_self)))))
  have TB18 := tb_of (hBs (cr18, P4) (List.mem_cons_of_mem _ (List.mem_cons_of_mem _ (List.mem_cons_of_mem _ (List.mem_cons_of_mem _ (List.mem_cons_self))))))
  have TB21 := tb_of (hBs (cr21, P5) (List.mem_cons_of_mem _ (List.mem_cons_of_mem _ (List.mem_cons_of_mem _ (List.mem_cons_of_mem _ (List.mem_cons_of_mem _ (List.mem_cons_self)))))))
  have TB22 := tb_of (hBs (cr22, P6) (List.mem_cons_of_mem _ (List.mem_cons_of_mem _ (List.mem_cons_of_mem _ (List.mem_cons_of_mem _ (List.mem_cons_of_mem _ (List.mem_cons_of_mem _ (List.mem_cons_self))))))))
  have R31 : RaiK l.prog w K mg base "BadText" X31 fI31 _ ["self", "place"] 1 cInt (fOne "place") := ⟨O31, i131, i231, ini_BadText I31, .all fun us hl => match us, hl with | [_, _], _ => rfl, PySem.W.mg_of X G aX31⟩
  have KB31 : KBn K (PySem.W.fnX "__init__" "BadText.__init__" (defArgs sIBadText) (defBody sIBadText) (defScope sIBadText) [("__class__", cc31)] .none kVI31 dcI31 pmI31 anI31 (.ref cda31) ctI31) ["self", "place"] 1 ["place"] (· ++ ·) (· ++ ·) := ⟨fun s us ws _ h1 h2 => match us, ws, h1, h2 with | [_], [_], _, _ => .of_eq rfl, fun r1 r2 => r1.append r2⟩
  have R32 : RaiK l.prog w K mg base "NotChecked" X32 fI32 _ ["self", "what"] 1 cWha (fOne "what") := ⟨O32, i132, i232, ini_NotChecked I32, .all fun us hl => match us, hl with | [_, _], _ => rfl, PySem.W.mg_of X G aX32⟩
  have KB32 : KBn K (PySem.W.fnX "__init__" "NotChecked.__init__" (defArgs sINotChecked) (defBody sINotChecked) (defScope sINotChecked) [("__class__", cc32)] .none kVI32 dcI32 pmI32 anI32 (.ref cda32) ctI32) ["self", "what"] 1 ["what"] (· ++ ·) (· ++ ·) := ⟨fun s us ws _ h1 h2 => match us, ws, h1, h2 with | [_], [_], _, _ => .of_eq rfl, fun r1 r2 => r1.append r2⟩
  have R33 : RaiK l.prog w K mg base "NotLet" X33 fI33 _ ["self", "index"] 1 cInt (fOne "index") := ⟨O33, i133, i233, ini_NotLet I33, .all fun us hl => match us, hl with | [_, _], _ => rfl, PySem.W.mg_of X G aX33⟩
  have KB33 : KBn K (PySem.W.fnX "__init__" "NotLet.__init__" (defArgs sINotLet) (defBody sINotLet) (defScope sINotLet) [("__class__", cc33)] .none kVI33 dcI33 pmI33 anI33 (.ref cda33) ctI33) ["self", "index"] 1 ["index"] (· ++ ·) (· ++ ·) := ⟨fun s us ws _ h1 h2 => match us, ws, h1, h2 with | [_], [_], _, _ => .of_eq rfl, fun r1 r2 => r1.append r2⟩
  have R34 : RaiK l.prog w K mg base "BadListing" X34 fI34 _ ["self", "line"] 1 cInt (fOne "line") := ⟨O34, i134, i234, ini_BadListing I34, .all fun us hl => match us, hl with | [_, _], _ => rfl, PySem.W.mg_of X G aX34⟩
  have KB34 : KBn K (PySem.W.fnX "__init__" "BadListing.__init__" (defArgs sIBadListing) (defBody sIBadListing) (defScope sIBadListing) [("__class__", cc34)] .none kVI34 dcI34 pmI34 anI34 (.ref cda34) ctI34) ["self", "line"] 1 ["line"] (· ++ ·) (· ++ ·) := ⟨fun s us ws _ h1 h2 => match us, ws, h1, h2 with | [_], [_], _, _ => .of_eq rfl, fun r1 r2 => r1.append r2⟩
  have R35 : RaiK l.prog w K mg base "Refused" X35 fI35 _ ["self", "name", "row", "address"] 3 cRef (fRef) := ⟨O35, i135, i235, ini_Refused I35, .all fun us hl => match us, hl with | [_, _, _, _], _ => rfl, PySem.W.mg_of X G aX35⟩
  have G0_0 := ok_int (P := l.prog) (w := w) (base := base) (mg := mg) (K := K) F0 N
  have G1_1 := ok_bet (P := l.prog) (w := w) (base := base) (mg := mg) (K := K) F1 G0_0 D0
  have G2_2 := ok_num (P := l.prog) (w := w) (base := base) (mg := mg) (K := K) F2 N G1_1 D1
  have G3_3 := ok_fac (P := l.prog) (w := w) (base := base) (mg := mg) (K := K) F3 N G1_1 D1
  have G4_4 := ok_tup (P := l.prog) (w := w) (base := base) (mg := mg) (K := K) F4 N
  have G5_5 := ok_nam (P := l.prog) (w := w) (base := base) (mg := mg) (K := K) F5 N
  have G6_6 := ok_low (P := l.prog) (w := w) (base := base) (mg := mg) (K := K) F6 G5_5 D5
  have G7_7 := ok_hig (P := l.prog) (w := w) (base := base) (mg := mg) (K := K) F7 G5_5 D5
  have G8_8 := ok_kin (P := l.prog) (w := w) (base := base) (mg := mg) (K := K) F8 N G7_7 D7
  have G9_9 := ok_fir (P := l.prog) (w := w) (base := base) (mg := mg) (K := K) F9 N
  have G12_10 := ok_maker (P := l.prog) (w := w) (base := base) (mg := mg) (K := K) FC12 N Gk0 TB12 G4_4 D4 G7_7 D7 G8_8 D8
  have G11_11 := ok_entry (P := l.prog) (w := w) (base := base) (mg := mg) (K := K) (T := T) FC11 N Gk0 TB11 st t11 t12 G4_4 D4 G7_7 D7 G12_10 D12
  have G10_12 := ok_kinds (P := l.prog) (w := w) (base := base) (mg := mg) (K := K) (T := T) FC10 N Gk0 TB10 st t10 (fun _ z => z) G4_4 D4 G11_11 D11
  have G19_13 := ok_param (P := l.prog) (w := w) (base := base) (mg := mg) (K := K) F19 G4_4 D4 G6_6 D6 G8_8 D8
  have G24_14 := ok_sign (P := l.prog) (w := w) (base := base) (mg := mg) (K := K) F24 N
  have G22_15 := ok_branch (P := l.prog) (w := w) (base := base) (mg := mg) (K := K) FC22 N Gk0 TB22 G4_4 D4 G7_7 D7 G6_6 D6
  have G23_16 := ok_term (P := l.prog) (w := w) (base := base) (mg := mg) (K := K) F23 N Gk0 vMOST_PARAMS G9_9 D9 G2_2 D2 G6_6 D6 G24_14 D24 G3_3 D3 G7_7 D7 G4_4 D4
  have G21_17 := ok_body (P := l.prog) (w := w) (base := base) (mg := mg) (K := K) (T := T) FC21 N Gk0 g_sum TB21 st t21 t22 G9_9 D9 G6_6 D6 G4_4 D4 G22_15 D22
  have G20_18 := ok_whole (P := l.prog) (w := w) (base := base) (mg := mg) (K := K) (T := T) F20 vMOST_PARTS vMOST_CHAIN st G21_17 D21 G23_16 D23
  have G18_19 := ok_func (P := l.prog) (w := w) (base := base) (mg := mg) (K := K) (T := T) FC18 N vMOST_PARAMS TB18 st t18 (fun _ z => z) G4_4 D4 G6_6 D6 G8_8 D8 G19_13 D19 G20_18 D20
  have G16_20 := ok_prog (P := l.prog) (w := w) (base := base) (mg := mg) (K := K) (T := T) FC16 N vMOST_FUNCTIONS TB16 st t16 (fun _ z => z) (fun _ z => z) G4_4 D4 G10_12 D10 G18_19 D18
  have G35_21 := ok_draw (P := l.prog) (w := w) (base := base) (mg := mg) (K := K) F35 M
  have G36_22 := ok_word (P := l.prog) (w := w) (base := base) (mg := mg) (K := K) F36 M3 G35_21 D35
  have G17_23 := ok_rp (P := l.prog) (w := w) (base := base) (mg := mg) (K := K) F17 N R31
  have G29_24 := ok_dem (P := l.prog) (w := w) (base := base) (mg := mg) (K := K) F29 TB R32
  have G33_25 := ok_fal (P := l.prog) (w := w) (base := base) (mg := mg) (K := K) F33 N TB G29_24 M29 B29
  have G32_26 := ok_kof (P := l.prog) (w := w) (base := base) (mg := mg) (K := K) F32 TB G29_24 M29 B29 G33_25 M33 B33
  have G31_27 := ok_fts (P := l.prog) (w := w) (base := base) (mg := mg) (K := K) F31 TB G32_26 M32 B32
  have G30_28 := ok_bod (P := l.prog) (w := w) (base := base) (mg := mg) (K := K) F30 TB G31_27 M31 B31
  have G14_29 := ok_mk (P := l.prog) (w := w) (base := base) (mg := mg) (K := K) F14
  have G15_30 := ok_mn (P := l.prog) (w := w) (base := base) (mg := mg) (K := K) F15
  have G13_31 := ok_kf (P := l.prog) (w := w) (base := base) (mg := mg) (K := K) F13 (PySem.W.mg_of X G mWHOLE) g_enumerate
  have G27_32 := ok_hdf (P := l.prog) (w := w) (base := base) (mg := mg) (K := K) F27
  have G26_33 := ok_chh (P := l.prog) (w := w) (base := base) (mg := mg) (K := K) F26 G27_32 D27
  have G28_34 := ok_bin (P := l.prog) (w := w) (base := base) (mg := mg) (K := K) F28 TB G14_29 D14 G15_30 D15
  have G25_35 := ok_chk (P := l.prog) (w := w) (base := base) (mg := mg) (K := K) (T := T) F25 N (PySem.W.mg_of X G mWHOLE) st TB G16_20 D16 G13_31 D13 G26_33 D26 G28_34 M28 B28 G30_28 M30 B30
  have G42_36 := ok_cau (P := l.prog) (w := w) (base := base) (mg := mg) (K := K) (T := T) F42 SCau G17_23 D17 G25_35 D25
  have G34_37 := ok_wl (P := l.prog) (w := w) (base := base) (mg := mg) (K := K) F34 g_list
  have G40_38 := ok_plc (P := l.prog) (w := w) (base := base) (mg := mg) (K := K) F40 G35_21 D35
  have G37_39 := all_sm (P := l.prog) (w := w) (base := base) (mg := mg) (K := K) F37 N M3 D37 5
  have G41_40 := ok_par (P := l.prog) (w := w) (base := base) (mg := mg) (K := K) F41 G35_21 D35 G36_22 D36 G40_38 D40
  have G38_41 := ok_flg (P := l.prog) (w := w) (base := base) (mg := mg) (K := K) F38 g_isinstance SC
  have G39_42 := ok_pln (P := l.prog) (w := w) (base := base) (mg := mg) (K := K) F39 SC
  exact ok_law (P := l.prog) (w := w) (base := base) (mg := mg) (K := K) (T := T) F43 M3 g_isinstance g_tuple g_ValueError (PySem.W.mg_of X G eSE) kSE st sw SC hnd rfl rfl rfl rfl rfl R31 R32 R33 R34 R35 KB31 KB32 KB33 KB34 ⟨fun s us ws _ h1 h2 => match us, ws, h1, h2 with | [_], [_, _, _], _, _ => .of_eq rfl, fun r1 r2 => gRef_ok r1 r2⟩ no31_0 no32_0 no33_0 no34_0 no35_0 no35_1 no35_2 ⟨E31.hg, E31.hk, E31.hs, E31.hd⟩ ⟨E32.hg, E32.hk, E32.hs, E32.hd⟩ ⟨E33.hg, E33.hk, E33.hs, E33.hd⟩ ⟨E34.hg, E34.hk, E34.hs, E34.hd⟩ ⟨E35.hg, E35.hk, E35.hs, E35.hd⟩ G34_37 D34 G35_21 D35 G36_22 D36 G39_42 D39 G41_40 D41 G37_39 D37 G38_41 D38 G42_36 D42
theorem walk {l : PySem.W.OpenLaw} {q : Program} {loose : List Str} {XP : (Str → Option Value) → Heap → Prop} {YP : World → Heap → Prop} {d : DefRec} {K : Params → PySem.W.Frag} (hn : l.most = some 63) (hdf : d.params.defaults = [])
    (hY : ∀ (w : World) (h : Heap), YP w h → (K w.params).In h)
    (F : ∀ (w : World) (mg : Str → Option Value) (fa : Addr) (h : Heap), YP w h → (K w.params).In h → h.Ns mainGlobals mg → mg d.name = some (.ref fa) → LamX.LawAtS l w (K w.params) CX0 14 63 "_law_script" mg fa h) :
    PySem.W.WalkO q loose XP YP l.row.toRowW d [] (fun f vs => PySem.call f vs) :=
  LamX.walk_ofTs (n := 63) (k := 14) (x := "_law_script") (CX := fun _ => CX0) hn (by decide) hdf ⟨rfl, by decide, by decide⟩ hY F fun _ _ _ _ _ z => z
end J1
set_option Elab.async false
set_option linter.all false
open PySem PySem.W PyProof.Rows
set_option maxRecDepth 100000 in
set_option maxHeartbeats 0 in
theorem PySem.Challenge.cw_juststeps_k00_error_classes_holds : PySem.Challenge.rw_juststeps_k00_error_classes.Holds := by
  w_on; o_law
  refine H0.head0 (by first | assumption | decide +kernel) ?_ ?_
  · w_witness2
  k_fill
  refine J1.walk (l := PySem.Challenge.rw_juststeps_k00_error_classes) rfl H0.d00_dfl (fun w h Y => PySem.W.km_in_of Y) ?F
  case F =>
    intro w mg fa h Y KX G hmg0
    have hmg : mg ("law" : PySem.Str) = some (.ref fa) := by
      rw [← H0.d00_name]
      exact hmg0
    have hT8 := PySem.W.km_tabs_of Y
    refine' J1.all_mk KX G hmg ?a0 ?l0 ?c0 ?k0 ?a1 ?l1 ?c1 ?k1 ?a2 ?l2 ?c2 ?k2 ?a3 ?l3 ?c3 ?k3 ?a4 ?l4 ?c4 ?k4 ?a5 ?l5 ?c5 ?k5 ?a6 ?l6 ?c6 ?k6 ?a7 ?l7 ?c7 ?k7 ?a8 ?l8 ?c8 ?k8 ?a9 ?l9 ?c9 ?k9 ?a10 ?l10 ?c10 ?k10 ?a11 ?l11 ?c11 ?k11 ?a12 ?l12 ?c12 ?k12 ?a13 ?l13 ?c13 ?k13 ?a14 ?l14 ?c14 ?k14 ?a15 ?l15 ?c15 ?k15 ?a16 ?l16 ?c16 ?k16 ?a17 ?l17 ?c17 ?k17 ?a18 ?l18 ?c18 ?k18 ?a19 ?l19 ?c19 ?k19 ?a20 ?l20 ?c20 ?k20 ?a21 ?l21 ?c21 ?k21 ?a22 ?l22 ?c22 ?k22 ?a23 ?l23 ?c23 ?k23 ?a24 ?l24 ?c24 ?k24 ?a25 ?l25 ?c25 ?k25 ?a26 ?l26 ?c26 ?k26 ?a27 ?l27 ?c27 ?k27 ?a28 ?i28 ?l28 ?c28 ?k28 ?a29 ?i29 ?l29 ?c29 ?k29 ?a30 ?i30 ?l30 ?c30 ?k30 ?a31 ?i31 ?l31 ?c31 ?k31 ?a32 ?i32 ?l32 ?c32 ?k32 ?a33 ?i33 ?l33 ?c33 ?k33 ?a34 ?l34 ?c34 ?k34 ?a35 ?l35 ?c35 ?k35 ?a36 ?l36 ?c36 ?k36 ?a37 ?l37 ?c37 ?k37 ?a38 ?l38 ?c38 ?k38 ?a39 ?l39 ?c39 ?k39 ?a40 ?l40 ?c40 ?k40 ?a41 ?l41 ?c41 ?k41 ?a42 ?l42 ?c42 ?k42 ?a43 ?l43 ?c43 ?k43 ?zisinstance ?zint ?zbool ?ztuple ?zstr ?zlen ?zall ?zzip ?zrange ?zlist ?zabs ?zmax ?zsum ?zenumerate ?zsuper ?zValueError ?mMOST_SIGNS ?mMOST_NUMBER ?mMOST_KINDS ?mMOST_MAKERS ?mMOST_FIELDS ?mMOST_FUNCTIONS ?mMOST_FACTOR ?mMOST_PARAMS ?mMOST_PARTS ?mMOST_CHAIN ?mWHOLE ?mWORDS ?lW ?aCCWo ?pgCWo ?hdCWo ?poCWo ?saCWo ?mkCWo ?kcCWo ?nkindsCWo ?nmakersCWo ?nheadsCWo ?nnameCWo ?nresultCWo ?aX0 ?aX1 ?aX2 ?aX3 ?aX4 ?aX5 ?aX6 ?aX7 ?aX8 ?aX9 ?aX10 ?aX11 ?aX12 ?aX13 ?aX14 ?aX15 ?aX16 ?aX17 ?aX18 ?aX19 ?aX20 ?aX21 ?aX22 ?aX23 ?aX24 ?aX25 ?aX26 ?aX27 ?aX28 ?aX29 ?aX30 ?aX31 ?aX32 ?aX33 ?aX34 ?aX35 ?eSE ?kSE ?hcls ?hpl ?hnd ?s8 ?i11 ?lX31 ?rX31 ?sa31 ?ty31 ?ms31 ?ve31 ?kX31 ?xb31 ?no31_0 ?i131 ?i231 ?i331 ?i431 ?i531 ?i631 ?i731 ?i831 ?i931 ?i1031 ?lX32 ?rX32 ?sa32 ?ty32 ?ms32 ?ve32 ?kX32 ?xb32 ?no32_0 ?i132 ?i232 ?i332 ?i432 ?i532 ?i632 ?i732 ?i832 ?i932 ?i1032 ?lX33 ?rX33 ?sa33 ?ty33 ?ms33 ?ve33 ?kX33 ?xb33 ?no33_0 ?i133 ?i233 ?i333 ?i433 ?i533 ?i633 ?i733 ?i833 ?i933 ?i1033 ?lX34 ?rX34 ?sa34 ?ty34 ?ms34 ?ve34 ?kX34 ?xb34 ?no34_0 ?i134 ?i234 ?i334 ?i434 ?i534 ?i634 ?i734 ?i834 ?i934 ?i1034 ?lX35 ?rX35 ?sa35 ?ty35 ?ms35 ?ve35 ?kX35 ?xb35 ?no35_0 ?no35_1 ?no35_2 ?i135 ?i235 ?i335 ?i435 ?i535 ?i635 ?i735 ?i835 ?i935 ?i1035 ?sc31 ?hdS31 ?tyS31 ?xbS31 ?sc32 ?hdS32 ?tyS32 ?xbS32 ?n12g ?h12g ?n11g ?h11g ?n10g ?h10g ?n16g ?h16g ?n18g ?h18g ?n21g ?h21g ?n22g ?h22g hT8
    (case aCCWo => k_is)
    (case a0 => k_is)
    (case l0 => k_is)
    (case c0 => k_is)
    (case k0 => k_is)
    (case a1 => k_is)
    (case l1 => k_is)
    (case c1 => k_is)
    (case k1 => k_is)
    (case a2 => k_is)
    (case l2 => k_is)
    (case c2 => k_is)
    (case k2 => k_is)
    (case a3 => k_is)
    (case l3 => k_is)
    (case c3 => k_is)
    (case k3 => k_is)
    (case a4 => k_is)
    (case l4 => k_is)
    (case c4 => k_is)
    (case k4 => k_is)
    (case a5 => k_is)
    (case l5 => k_is)
    (case c5 => k_is)
    (case k5 => k_is)
    (case a6 => k_is)
    (case l6 => k_is)
    (case c6 => k_is)
    (case k6 => k_is)
    (case a7 => k_is)
    (case l7 => k_is)
    (case c7 => k_is)
    (case k7 => k_is)
    (case a8 => k_is)
    (case l8 => k_is)
    (case c8 => k_is)
    (case k8 => k_is)
    (case a9 => k_is)
    (case l9 => k_is)
    (case c9 => k_is)
    (case k9 => k_is)
    (case a10 => k_is)
    (case l10 => k_is)
    (case c10 => k_is)
    (case k10 => k_is)
    (case a11 => k_is)
    (case l11 => k_is)
    (case c11 => k_is)
    (case k11 => k_is)
    (case a12 => k_is)
    (case l12 => k_is)
    (case c12 => k_is)
    (case k12 => k_is)
    (case a13 => k_is)
    (case l13 => k_is)
    (case c13 => k_is)
    (case k13 => k_is)
    (case a14 => k_is)
    (case l14 => k_is)
    (case c14 => k_is)
    (case k14 => k_is)
    (case a15 => k_is)
    (case l15 => k_is)
    (case c15 => k_is)
    (case k15 => k_is)
    (case a16 => k_is)
    (case l16 => k_is)
    (case c16 => k_is)
    (case k16 => k_is)
    (case a17 => k_is)
    (case l17 => k_is)
    (case c17 => k_is)
    (case k17 => k_is)
    (case a18 => k_is)
    (case l18 => k_is)
    (case c18 => k_is)
    (case k18 => k_is)
    (case a19 => k_is)
    (case l19 => k_is)
    (case c19 => k_is)
    (case k19 => k_is)
    (case a20 => k_is)
    (case l20 => k_is)
    (case c20 => k_is)
    (case k20 => k_is)
    (case a21 => k_is)
    (case l21 => k_is)
    (case c21 => k_is)
    (case k21 => k_is)
    (case a22 => k_is)
    (case l22 => k_is)
    (case c22 => k_is)
    (case k22 => k_is)
    (case a23 => k_is)
    (case l23 => k_is)
    (case c23 => k_is)
    (case k23 => k_is)
    (case a24 => k_is)
    (case l24 => k_is)
    (case c24 => k_is)
    (case k24 => k_is)
    (case a25 => k_is)
    (case l25 => k_is)
    (case c25 => k_is)
    (case k25 => k_is)
    (case a26 => k_is)
    (case l26 => k_is)
    (case c26 => k_is)
    (case k26 => k_is)
    (case a27 => k_is)
    (case l27 => k_is)
    (case c27 => k_is)
    (case k27 => k_is)
    (case a28 => k_is)
    (case i28 => k_is)
    (case l28 => k_is)
    (case c28 => k_is)
    (case k28 => k_is)
    (case a29 => k_is)
    (case i29 => k_is)
    (case l29 => k_is)
    (case c29 => k_is)
    (case k29 => k_is)
    (case a30 => k_is)
    (case i30 => k_is)
    (case l30 => k_is)
    (case c30 => k_is)
    (case k30 => k_is)
    (case a31 => k_is)
    (case i31 => k_is)
    (case l31 => k_is)
    (case c31 => k_is)
    (case k31 => k_is)
    (case a32 => k_is)
    (case i32 => k_is)
    (case l32 => k_is)
    (case c32 => k_is)
    (case k32 => k_is)
    (case a33 => k_is)
    (case i33 => k_is)
    (case l33 => k_is)
    (case c33 => k_is)
    (case k33 => k_is)
    (case a34 => k_is)
    (case l34 => k_is)
    (case c34 => k_is)
    (case k34 => k_is)
    (case a35 => k_is)
    (case l35 => k_is)
    (case c35 => k_is)
    (case k35 => k_is)
    (case a36 => k_is)
    (case l36 => k_is)
    (case c36 => k_is)
    (case k36 => k_is)
    (case a37 => k_is)
    (case l37 => k_is)
    (case c37 => k_is)
    (case k37 => k_is)
    (case a38 => k_is)
    (case l38 => k_is)
    (case c38 => k_is)
    (case k38 => k_is)
    (case a39 => k_is)
    (case l39 => k_is)
    (case c39 => k_is)
    (case k39 => k_is)
    (case a40 => k_is)
    (case l40 => k_is)
    (case c40 => k_is)
    (case k40 => k_is)
    (case a41 => k_is)
    (case l41 => k_is)
    (case c41 => k_is)
    (case k41 => k_is)
    (case a42 => k_is)
    (case l42 => k_is)
    (case c42 => k_is)
    (case k42 => k_is)
    (case a43 => k_is)
    (case l43 => k_is)
    (case c43 => k_is)
    (case k43 => k_is)
    (case zisinstance => k_is)
    (case zint => k_is)
    (case zbool => k_is)
    (case ztuple => k_is)
    (case zstr => k_is)
    (case zlen => k_is)
    (case zall => k_is)
    (case zzip => k_is)
    (case zrange => k_is)
    (case zlist => k_is)
    (case zabs => k_is)
    (case zmax => k_is)
    (case zsum => k_is)
    (case zenumerate => k_is)
    (case zsuper => k_is)
    (case zValueError => k_is)
    (case mMOST_SIGNS => k_is)
    (case mMOST_NUMBER => k_is)
    (case mMOST_KINDS => k_is)
    (case mMOST_MAKERS => k_is)
    (case mMOST_FIELDS => k_is)
    (case mMOST_FUNCTIONS => k_is)
    (case mMOST_FACTOR => k_is)
    (case mMOST_PARAMS => k_is)
    (case mMOST_PARTS => k_is)
    (case mMOST_CHAIN => k_is)
    (case mWHOLE => k_is)
    (case mWORDS => k_is)
    (case lW => k_is)
    (case pgCWo => k_is)
    (case hdCWo => k_is)
    (case poCWo => k_is)
    (case saCWo => k_is)
    (case mkCWo => k_is)
    (case kcCWo => k_is)
    (case nkindsCWo => k_is)
    (case nmakersCWo => k_is)
    (case nheadsCWo => k_is)
    (case nnameCWo => k_is)
    (case nresultCWo => k_is)
    (case aX0 => k_is)
    (case aX1 => k_is)
    (case aX2 => k_is)
    (case aX3 => k_is)
    (case aX4 => k_is)
    (case aX5 => k_is)
    (case aX6 => k_is)
    (case aX7 => k_is)
    (case aX8 => k_is)
    (case aX9 => k_is)
    (case aX10 => k_is)
    (case aX11 => k_is)
    (case aX12 => k_is)
    (case aX13 => k_is)
    (case aX14 => k_is)
    (case aX15 => k_is)
    (case aX16 => k_is)
    (case aX17 => k_is)
    (case aX18 => k_is)
    (case aX19 => k_is)
    (case aX20 => k_is)
    (case aX21 => k_is)
    (case aX22 => k_is)
    (case aX23 => k_is)
    (case aX24 => k_is)
    (case aX25 => k_is)
    (case aX26 => k_is)
    (case aX27 => k_is)
    (case aX28 => k_is)
    (case aX29 => k_is)
    (case aX30 => k_is)
    (case aX31 => k_is)
    (case aX32 => k_is)
    (case aX33 => k_is)
    (case aX34 => k_is)
    (case aX35 => k_is)
    (case eSE => k_is)
    (case kSE => k_is)
    (case hcls => kernel_rfl)
    (case hpl => kernel_rfl)
    (case hnd => decide +kernel)
    (case s8 => k_is)
    (case i11 => kernel_rfl)
    (case lX31 => k_is)
    (case rX31 => rfl)
    (case sa31 => k_is)
    (case ty31 => k_is)
    (case ms31 => k_is)
    (case ve31 => k_is)
    (case kX31 => k_is)
    (case xb31 => k_is)
    (case no31_0 => k_is)
    (case i131 => k_is)
    (case i231 => k_is)
    (case i331 => k_is)
    (case i431 => k_is)
    (case i531 => k_is)
    (case i631 => rfl)
    (case i731 => kernel_rfl)
    (case i831 => k_is)
    (case i931 => k_is)
    (case i1031 => kernel_rfl)
    (case lX32 => k_is)
    (case rX32 => rfl)
    (case sa32 => k_is)
    (case ty32 => k_is)
    (case ms32 => k_is)
    (case ve32 => k_is)
    (case kX32 => k_is)
    (case xb32 => k_is)
    (case no32_0 => k_is)
    (case i132 => k_is)
    (case i232 => k_is)
    (case i332 => k_is)
    (case i432 => k_is)
    (case i532 => k_is)
    (case i632 => rfl)
    (case i732 => kernel_rfl)
    (case i832 => k_is)
    (case i932 => k_is)
    (case i1032 => kernel_rfl)
    (case lX33 => k_is)
    (case rX33 => rfl)
    (case sa33 => k_is)
    (case ty33 => k_is)
    (case ms33 => k_is)
    (case ve33 => k_is)
    (case kX33 => k_is)
    (case xb33 => k_is)
    (case no33_0 => k_is)
    (case i133 => k_is)
    (case i233 => k_is)
    (case i333 => k_is)
    (case i433 => k_is)
    (case i533 => k_is)
    (case i633 => rfl)
    (case i733 => kernel_rfl)
    (case i833 => k_is)
    (case i933 => k_is)
    (case i1033 => kernel_rfl)
    (case lX34 => k_is)
    (case rX34 => rfl)
    (case sa34 => k_is)
    (case ty34 => k_is)
    (case ms34 => k_is)
    (case ve34 => k_is)
    (case kX34 => k_is)
    (case xb34 => k_is)
    (case no34_0 => k_is)
    (case i134 => k_is)
    (case i234 => k_is)
    (case i334 => k_is)
    (case i434 => k_is)
    (case i534 => k_is)
    (case i634 => rfl)
    (case i734 => kernel_rfl)
    (case i834 => k_is)
    (case i934 => k_is)
    (case i1034 => kernel_rfl)
    (case lX35 => k_is)
    (case rX35 => rfl)
    (case sa35 => k_is)
    (case ty35 => k_is)
    (case ms35 => k_is)
    (case ve35 => k_is)
    (case kX35 => k_is)
    (case xb35 => k_is)
    (case no35_0 => k_is)
    (case no35_1 => k_is)
    (case no35_2 => k_is)
    (case i135 => k_is)
    (case i235 => k_is)
    (case i335 => k_is)
    (case i435 => k_is)
    (case i535 => k_is)
    (case i635 => rfl)
    (case i735 => kernel_rfl)
    (case i835 => k_is)
    (case i935 => k_is)
    (case i1035 => kernel_rfl)
    (case sc31 => k_is)
    (case hdS31 => k_is)
    (case tyS31 => k_is)
    (case xbS31 => k_is)
    (case sc32 => k_is)
    (case hdS32 => k_is)
    (case tyS32 => k_is)
    (case xbS32 => k_is)
    (case n12g => kernel_rfl)
    (case h12g => kernel_rfl)
    (case n11g => kernel_rfl)
    (case h11g => kernel_rfl)
    (case n10g => kernel_rfl)
    (case h10g => kernel_rfl)
    (case n16g => kernel_rfl)
    (case h16g => kernel_rfl)
    (case n18g => kernel_rfl)
    (case h18g => kernel_rfl)
    (case n21g => kernel_rfl)
    (case h21g => kernel_rfl)
    (case n22g => kernel_rfl)
    (case h22g => kernel_rfl)
