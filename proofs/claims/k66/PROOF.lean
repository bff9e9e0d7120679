import PyProof.Rows.All
import Wide.All
import OpenK.AllK
import Wide.FinOn
import HandS.ForSpec
import HandS.Wide
import HandS.Gcd
import HandS.Conv
import HandS.IsInst
import HandS.ExcIs
import HandS.Codes
import HandS.Defaults
import HandS.TryMany
import PySem.Challenge.RW_juststeps_k66_ratios
set_option Elab.async false
set_option linter.all false
set_option maxRecDepth 100000
set_option maxHeartbeats 4000000
namespace Rt
open PySem PySem.Spec PyProof.Rows L2
/-! ### the text by places -/
def top (i : Nat) : Stmt := PySem.Challenge.pw_juststeps_k66_ratios.main.body.getD i (.Pass ⟨0, 0, 0, 0⟩)
abbrev sDraw : Stmt := top 20
/-! ### the well: a cell, how many cells were taken, the cells, how many draws opened one -/
structure Well (H : Hp) (p l : Addr) (ns : List Int) (n : Nat) : Prop where
  ex : ∃ c a k : Int, H p = some (.lst [.int c, .int a, .ref l, .int k]) ∧ 0 ≤ c ∧ 0 ≤ a ∧ a ≤ n ∧ 0 ≤ k ∧ k ≤ n
  cells : H l = some (.lst (ns.map V.int))
/-- all that stood stands, but at p -/
def Kp (p : Addr) (H H' : Hp) : Prop := ∀ b o, H b = some o → b ≠ p → H' b = some o
theorem Kp.refl (p : Addr) (H : Hp) : Kp p H H := fun _ _ e _ => e
theorem Kp.trans {p : Addr} {H H1 H2 : Hp} (a : Kp p H H1) (b : Kp p H1 H2) : Kp p H H2 := fun x o e n => b x o (a x o e n) n
theorem Kp.upd {p : Addr} {H H1 : Hp} {o : HO} (a : Kp p H H1) : Kp p H (upd H1 p o) := fun x u e n => by
  rw [upd_ne n]
  exact a x u e n
theorem Kp.new {p q : Addr} {H H1 : Hp} {o : HO} (a : Kp p H H1) (h : H1 q = none) : Kp p H (L2.upd H1 q o) := fun x u e n => by
  rw [upd_ne (ne_of_none (a x u e n) h)]
  exact a x u e n
/-- xs[j], for xs[j] op= e -/
def rGetL (K : PySem.W.Frag) : V → V → Hp → VK → Prop := fun x y H Q => ∃ (p : Addr) (xs : List V) (j : Nat) (v : V), x = .ref p ∧ y = .int (j : Int) ∧ SqL K H p xs ∧ xs[j]? = some v ∧ Q v H
theorem pget_list {X : Cx} : PGet X (rGetL X.K) := by
  intro pins s σ H o i ov iv Q I ro ri h
  obtain ⟨p, xs, j, z, rfl, rfl, hq, hz, q⟩ := h
  cases ro
  obtain ⟨t, rfl⟩ := ri
  obtain ⟨its, r, pl, hl⟩ := I.list hq
  obtain ⟨y, ey, ry⟩ := r.get hz
  have hj : j < xs.length := (List.getElem?_eq_some_iff.mp hz).1
  have hn := line63
  exact wpAny_getItem_list pl.isList (Int.natCast_nonneg j) (by omega) (by simpa using ey) ⟨z, H, I, ry, q⟩
/-- what a draw promises -/
def spDraw : Sp := fun vs H Q _ => ∃ (p l : Addr) (ns : List Int) (n : Nat) (m : Int), vs = [.ref p, .int m] ∧ 0 < m ∧ CDivW 0 m ∧ Well H p l ns n ∧ n ≤ 1000000 ∧
  ∀ (r : Int) (H' : Hp), 0 ≤ r → r < m → Well H' p l ns (n + 1) → Kp p H H' → Q (.int r) H'
structure Bi (mg : Str → Option Value) : Prop where
  len : mg "len" = none
  abs : mg "abs" = none
  int : mg "int" = none
theorem scDraw : FnScope ["_law_well_here", "_law_many", "_law_cells", "_law_cell", "_law_got"] ["_law_well_here", "_law_many"] (defScope sDraw) := ⟨rfl, rfl, rfl, by decide +kernel, rfl, by decide +kernel, by decide +kernel⟩
section
variable {P : Program} {w : World} {K : PySem.W.Frag} {mg : Str → Option Value} {base : Heap}
set_option maxHeartbeats 4000000 in
theorem ok_draw {f : Addr} {fd : FuncData} (F : Fun K "_law_draw" "_law_draw" sDraw f fd) (B : Bi mg) : FnOk P w K mg base CX0 1 f fd ["_law_well_here", "_law_many"] spDraw := by
  refine F.ok scDraw (fun vs H Q E h => ?_) (fun cdv A outer s H vs Q E hr h => ?_)
  · obtain ⟨p, l, ns, n, m, rfl, _⟩ := h
    rfl
  · obtain ⟨p, l, ns, n, m, rfl, hm, hm9, ⟨⟨c, a, k, hp, hc, ha, han, hk, hkn⟩, hl⟩, hn, kq⟩ := h
    have npl : p ≠ l := fun e => by
      rw [e, hl] at hp
      have := HO.lst.inj (Option.some.inj hp)
      match ns, this with
      | [], q => cases q
      | [_], q => cases q
      | [_, _], q => cases q
      | _ :: _ :: _ :: _, q => simp at q
    refine ⟨_, pss_cons (ps_set (i := 2) scDraw.nd rfl (Or.inl rfl) (pe_ix ix_list (pv 0) pe_int (fun _ _ => rfl)))
      (C8.pss_cut (ps_if (pt_cmpR op_eq (pe_ix ix_list (pv 0) pe_int (fun _ _ => rfl)) pe_int (nomark _))
        (pss_cons (ps_set (i := 3) scDraw.nd rfl (Or.inl rfl) pe_int)
        (C8.pss_cut (ps_if (pt_cmpR op_lt (pe_ix ix_list (pv 0) pe_int (fun _ _ => rfl)) (pe_callB call_len_seq (by rfl) B.len PySem.boot_len (pa_cons (pv 2) pa_nil)) (nomark _))
            (pss_one (ps_set (i := 3) scDraw.nd rfl (Or.inl rfl) (pe_callB call_abs (by rfl) B.abs (by decide +kernel) (pa_cons (pe_ix ix_list (pv 2) (pe_ix ix_list (pv 0) pe_int (fun _ _ => rfl)) (fun _ _ => rfl)) pa_nil)))) pss_nil)
        (C8.pss_cut (ps_if (pt_cmpR op_lt (pv 3) (pe_op op_pow pe_int pe_int) (nomark _))
            (pss_cons (ps_set (i := 3) scDraw.nd rfl (Or.inl rfl)
                (pe_op op_add (pe_op op_add (pe_op op_add (pe_op op_mul (pv 3) pe_int) (pe_op op_mul (pe_ix ix_list (pv 0) pe_int (fun _ _ => rfl)) pe_int)) pe_int) (pe_op op_mul (pe_ix ix_list (pv 0) pe_int (fun _ _ => rfl)) pe_int)))
            (pss_one (ps_set (i := 3) scDraw.nd rfl (Or.inl rfl) (pe_op op_add (pe_op op_mul (pe_op op_fdiv (pe_op op_mulW (pv 3) (pv 3)) pe_int) pe_int) (pv 3))))) pss_nil)
        (pss_cons (ps_asg (pv 3) (pg_sub (pv 0) pe_int set_list))
        (pss_cons (ps_augS (pv 0) pe_int pget_list pe_int ip_add set_list)
        (pss_one (ps_augS (pv 0) pe_int pget_list pe_int ip_add set_list))))))) pss_nil)
      (pss_cons (ps_set (i := 4) scDraw.nd rfl (Or.inl rfl) (pe_op op_mod (pe_callTy call_int1 (by rfl) B.int (by decide +kernel) (pa_cons (pe_ix ix_list (pv 0) pe_int (fun _ _ => rfl)) pa_nil)) (pv 1)))
      (pss_cons (ps_asg (pe_op op_fdivW (pe_ix ix_list (pv 0) pe_int (fun _ _ => rfl)) (pv 1)) (pg_sub (pv 0) pe_int set_list))
      (pss_one (ps_ret (pv 4)))))), ?_⟩
    -- the well stands, perhaps with a new cell
    refine ⟨_, rfl, p, _, _, _, rfl, rfl, SqL.of hp, at_of (j := 2) rfl rfl, ?_⟩
    refine ⟨fun σ' H' => ∃ (c' a' k' : Int) (v3 : Option V), σ' = [some (.ref p), some (.int m), some (.ref l), v3, none] ∧ H' p = some (.lst [.int c', .int a', .ref l, .int k']) ∧ 0 ≤ c' ∧ 0 ≤ a' ∧ a' ≤ n + 1 ∧ 0 ≤ k' ∧ k' ≤ n + 1 ∧ Kp p H H', ?_, ?_⟩
    · refine ⟨_, rfl, p, _, _, _, rfl, rfl, SqL.of hp, at_of (j := 0) rfl rfl, rfl, _, rfl, ?_⟩
      refine ite2 (fun _ => ?_) (fun _ => ?_)
      · -- cell = 7
        refine ⟨fun σ' H' => ∃ c1 : Int, 0 ≤ c1 ∧ σ' = [some (.ref p), some (.int m), some (.ref l), some (.int c1), none] ∧ H' = H, ?_, ?_⟩
        · refine ⟨_, rfl, p, _, _, _, rfl, rfl, SqL.of hp, at_of (j := 1) rfl rfl, _, rfl, l, _, rfl, .inl (SqL.of hl), _, _, rfl, rfl, _, rfl, ?_⟩
          refine ite2 (fun hlt => ?_) (fun _ => ?_)
          · have hlt := of_decide_eq_true hlt
            rw [List.length_map] at hlt
            have hj : a.toNat < ns.length := by omega
            refine ⟨_, rfl, _, rfl, p, _, _, _, rfl, rfl, SqL.of hp, at_of (j := 1) rfl rfl, l, _, _, _, rfl, rfl, SqL.of hl, at_of (j := a.toNat) (v := V.int ns[a.toNat]) (by omega) (by rw [List.getElem?_map, List.getElem?_eq_getElem hj]; rfl), _, rfl, ?_⟩
            refine ⟨if ns[a.toNat] < 0 then -ns[a.toNat] else ns[a.toNat], ?_, rfl, rfl⟩
            split <;> omega
          · exact ⟨7, by decide, rfl, rfl⟩
        · intro σ' H1 hh
          obtain ⟨c1, hc1, e1, e2⟩ := hh
          subst e1
          subst e2
          refine ⟨fun σ' H' => ∃ c2 : Int, 0 ≤ c2 ∧ σ' = [some (.ref p), some (.int m), some (.ref l), some (.int c2), none] ∧ H' = H1, ?_, ?_⟩
          · refine ⟨_, rfl, _, _, rfl, rfl, ⟨by decide, by decide, by decide⟩, _, _, rfl, rfl, _, rfl, ?_⟩
            refine ite2 (fun hlt => ?_) (fun _ => ?_)
            · have hlt := of_decide_eq_true hlt
              have e18 : (10 : Int) ^ (Int.toNat 18) = 1000000000000000000 := by decide
              rw [e18] at hlt
              have hw : (c1 * 1000003 + a * 7919 + 12347 + k * 613).natAbs < 2 ^ 100 := by omega
              refine ⟨_, rfl, _, _, rfl, rfl, .inr ⟨by decide, by decide⟩, _, rfl, p, _, _, _, rfl, rfl, SqL.of hp, at_of (j := 1) rfl rfl, _, _, rfl, rfl, .inr ⟨by decide, by decide⟩, _, _, rfl, rfl, _, _, rfl, rfl, _, rfl, p, _, _, _, rfl, rfl, SqL.of hp, at_of (j := 3) rfl rfl, _, _, rfl, rfl, .inr ⟨by decide, by decide⟩, _, _, rfl, rfl, ?_⟩
              refine ⟨_, rfl, _, rfl, _, _, rfl, rfl, wide_mul hw hw (by decide) (by decide) (by decide), _, _, rfl, rfl, ⟨by decide, by decide⟩, _, _, rfl, rfl, .inr ⟨by decide, by decide⟩, _, rfl, _, _, rfl, rfl, ?_⟩
              refine ⟨_, ?_, rfl, rfl⟩
              have h0 : 0 ≤ c1 * 1000003 + a * 7919 + 12347 + k * 613 := by omega
              have h1 := Int.ediv_nonneg (Int.mul_nonneg h0 h0) (by decide : (0 : Int) ≤ 97)
              have h2 := Int.mul_nonneg h1 (by decide : (0 : Int) ≤ 48271)
              exact Int.add_nonneg h2 h0
            · exact ⟨c1, hc1, rfl, rfl⟩
          · intro σ2 H2 hh
            obtain ⟨c2, hc2, e1, e2⟩ := hh
            subst e1
            subst e2
            refine ⟨_, rfl, _, rfl, p, _, _, 0, rfl, rfl, hp, rfl, ?_⟩
            refine ⟨_, rfl, p, _, 1, _, rfl, rfl, SqL.of upd_same, rfl, _, _, rfl, rfl, p, _, _, 1, rfl, rfl, upd_same, rfl, ?_⟩
            refine ⟨_, rfl, p, _, 3, _, rfl, rfl, SqL.of upd_same, rfl, _, _, rfl, rfl, p, _, _, 3, rfl, rfl, upd_same, rfl, ?_⟩
            exact ⟨c2, a + 1, k + 1, _, rfl, upd_same, hc2, by omega, by omega, by omega, by omega, (((Kp.refl p _).upd).upd).upd⟩
      · exact ⟨c, a, k, none, rfl, hp, hc, ha, by omega, hk, by omega, Kp.refl p H⟩
    · rintro σ' H' ⟨c', a', k', v3, rfl, hp', hc', ha', han', hk', hkn', kp⟩
      refine ⟨_, rfl, p, _, _, _, rfl, rfl, SqL.of hp', at_of (j := 0) rfl rfl, .inl ⟨_, rfl, _, rfl, _, _, rfl, rfl, hm, ?_⟩⟩
      refine ⟨_, rfl, p, _, _, _, rfl, rfl, SqL.of hp', at_of (j := 0) rfl rfl, _, rfl, _, _, rfl, rfl, hm9, _, rfl, p, _, _, 0, rfl, rfl, hp', rfl, ?_⟩
      refine ⟨_, rfl, kq _ _ (Int.emod_nonneg _ (by omega)) (Int.emod_lt_of_pos _ hm) ⟨⟨c' / m, a', k', upd_same, Int.ediv_nonneg hc' (by omega), ha', by omega, hk', by omega⟩, ?_⟩ kp.upd⟩
      rw [upd_ne npl.symm]
      exact kp _ _ hl npl.symm
end
end Rt
set_option Elab.async false
set_option linter.all false
set_option maxRecDepth 100000
set_option maxHeartbeats 4000000
namespace Rt
open PySem PySem.Spec PyProof.Rows L2
/-! ### f(k = v, ..): keywords alone -/
def tKws (n : Nat) (sp : Sp) (gV : List V → List V → List V) (W : XK) (tk : TA) : TE := fun σ H Q => tk σ H fun zs H1 => zs.length = n ∧ sp (gV [] zs) H1 Q W
theorem pe_kws {X : Cx} {CX : CXT} {j : Nat} {fa : Addr} {fdt : FuncData} {prs kns : List Str} {sp : Sp} {W : XK} {nm : Str} {p0 p1 : Pos} {kv : List Keyword} {tk : TA} {g : List Value → List Value → List Value} {gV : List V → List V → List V}
    (G : FnOk X.prog X.w X.K X.mg X.base CX j fa fdt prs sp) (room : Room j X.A) (gl : Gl X nm) (at_ : X.mg nm = some (.ref fa)) (kp : PySem.W.keepIn X.K (.ref fa) = true) (bnd : KBn X.K fdt prs 0 kns g gV) (out : Passes CX X W) (pk : PK X kv tk)
    (h1 : (backToKw p1 (keywordEach kv X.env)).all (·.1.isSome) = true := by rfl) (h2 : (backToKw p1 (keywordEach kv X.env)).filterMap (·.1) = kns := by rfl)
    (h3 : (nm == ("__debug__" : Str)) = false := by decide) (h4 : ((backTo p1 (starEach [] X.env)).any (·.1) || (backToKw p1 (keywordEach kv X.env)).any (·.1.isNone)) = false := by rfl) :
    PE X (.Call (.Name nm p0) [] kv p1) (tKws kns.length sp gV W tk) := by
  constructor
  intro pins s σ H Q I h
  apply wpAny_Call_Name_kw
  refine ld_glob I gl at_ (PySem.W.callWith_KW0 (h₀ := X.base) I.ok.mod.kin kp h1 ?_ h4) h3
  refine thn (pk.run p1 pins s σ H _ I h) fun ws s2 got => ?_
  obtain ⟨zs, H2, I2, rz, len, want⟩ := got
  refine ⟨I2.kIn, ?_⟩
  rw [h2]
  exact run_fnN (us := []) (vs := []) G room bnd out I2 .nil rz rfl len want
/-! ### several clauses, each with its name -/
def wAll (K : PySem.W.Frag) (Wo : WX) (D : Ends) : List (Value × Nat × (Addr → Value → Option Addr → TS)) → WX
  | [] => Wo
  | (c, i, ts) :: more => wAs K c i ts (wAll K Wo D more) D
inductive Clauses (X : Cx) : List ExceptHandler → List (Value × Nat × (Addr → Value → Option Addr → TS)) → Prop
  | none : Clauses X [] []
  | more {nm n : Str} {c : Value} {i : Nat} {ts : Addr → Value → Option Addr → TS} {st : Stmt} {sts : List Stmt} {p0 p1 : Pos} {hs : List ExceptHandler} {l : List (Value × Nat × (Addr → Value → Option Addr → TS))}
      (names : Names X nm c) (slot : X.N[i]? = some n) (loc : X.env.kindOf n = some .local)
      (suite : ∀ (a : Addr) (ob : Obj) (ec : Value) (d : Option Addr) (pn : List (Addr × Obj)), Zc ec d ob → (∃ fv, ob.data = .fields fv) → PSs (X.suite a ((a, ob) :: pn)) (st :: sts) (ts a ec d))
      (rest : Clauses X hs l) : Clauses X (.ExceptHandler (some (.Name nm p0)) (some n) (st :: sts) p1 :: hs) ((c, i, ts) :: l)
theorem ps_tryAll {X : Cx} {body : List Stmt} {hd : ExceptHandler} {hs : List ExceptHandler} {l : List (Value × Nat × (Addr → Value → Option Addr → TS))} {p1 : Pos} {tb : WX → TS} {Wo : WX}
    (stk : X.stack = X.env :: X.outer) (frm : X.env.frame = some X.env.locals) (nd : X.N.Nodup) (tk : Takes X Wo)
    (bod : ∀ (W : WX) (pn : List (Addr × Obj)) (xe : Value → Shared → Prop), Takes (X.tr pn xe) W → PassesOwn (model X.prog X.w) X.A X.env xe → PSs (X.tr pn xe) body (tb W))
    (cls : Clauses X (hd :: hs) l) : PS X (.Try body (hd :: hs) [] [] p1) (fun D σ H => tb (wAll X.K Wo D l) D σ H) := by
  constructor
  intro pins s σ H D I h
  have fine := I.ok
  have frs' : X.A.frames = some (X.env :: X.outer) := by
    rw [fine.frames, stk]
  apply wpAny_Try_except
  let after : Value → Shared → Prop := fun e t => wpAny (model X.prog X.w) X.A (noteFrame e X.env) (fun _ t2 => wpAny (model X.prog X.w) X.A (setFlight e none)
      (fun _ t3 => wpAny (model X.prog X.w) X.A (handleBy e X.env (hd :: hs)) (SP X pins D) X.xe t3) X.xe t2) X.xe t
  refine wpAny_mono ((bod (wAll X.K Wo D l) (X.pn ++ pins) after ?land PassesOwn.looking).run [] s σ H D (I.toTry _) h) ?went (fun e t q => q)
  case went =>
    intro f t q
    cases f with
    | next =>
      obtain ⟨σ', H', J, r⟩ := q
      exact wpAny_execs_nil ⟨σ', H', J.ofTry fine, r⟩
    | brk =>
      obtain ⟨σ', H', J, r⟩ := q
      exact ⟨σ', H', J.ofTry fine, r⟩
    | cont =>
      obtain ⟨σ', H', J, r⟩ := q
      exact ⟨σ', H', J.ofTry fine, r⟩
    | ret u =>
      obtain ⟨v, σ', H', J, rv, r⟩ := q
      exact ⟨v, σ', H', J.ofTry fine, rv, r⟩
  case land =>
    intro u t got
    obtain ⟨a, B, t0, pins', σ1, H1, ec, d, rfl, J0, nb, up, sky, na, os, ag, wish⟩ := got
    have J : Inv X pins σ1 H1 t0 := J0.ofTry fine
    have skyX : Sky B (X.env :: X.outer) a (Zc ec d) X.env.locals t.heap := by
      rw [← stk]
      exact sky
    show wpAny (model X.prog X.w) X.A (noteFrame (.ref a) X.env) _ _ _
    refine Sky.land Zc.steady frs' frm skyX ?_
    intro hA flA upA
    have JA : Inv X pins σ1 H1 { t with heap := hA } := J.landed nb flA.1 (up.trans upA) os ag
    obtain ⟨oA, vA, geA, zA, dA⟩ := flA.there
    have out : a ∉ L2.frs (X.env :: X.outer) := by
      intro hm
      obtain ⟨_, o', e', hnf⟩ := flA.2.2.1.mem hm
      rw [geA] at e'
      cases e'
      exact hnf _ dA
    have nL : a ≠ X.env.locals := by
      intro z
      exact out (List.mem_filterMap.mpr ⟨X.env, List.mem_cons_self, by rw [frm, z]⟩)
    have nF : a ∉ X.fs := by
      intro hm
      obtain ⟨e, he, q⟩ := List.mem_filterMap.mp hm
      exact out (List.mem_filterMap.mpr ⟨e, List.mem_cons_of_mem _ he, q⟩)
    have SA := JA.suite geA dA na nL nF
    have turn : ∀ {hs' : List ExceptHandler} {l' : List (Value × Nat × (Addr → Value → Option Addr → TS))}, Clauses X hs' l' → wAll X.K Wo D l' ec d σ1 H1 →
        wpAny (model X.prog X.w) X.A (handleBy (.ref a) X.env hs') (SP X pins D) X.xe { t with heap := hA } := by
      intro hs' l' ok
      induction ok with
      | none =>
        intro wish
        apply wpAny_handleBy_nil
        obtain ⟨k1, k2, k3, oe, fv, T, oT, ts', he, hz, hdd, hT, hr⟩ := id flA
        unfold PySem.passOn
        refine wpAny_bind (wpAny_field he hdd hT ?_)
        rw [if_neg (show ¬ ((Value.ref T == Value.none) = true) by simp)]
        have fin : wpAny (model X.prog X.w) X.A (setFlight (.ref a) X.env.frame) (fun _ t4 => wpAny (model X.prog X.w) X.A (throw (.ref a) : Sem Flow) (SP X pins D) X.xe t4) X.xe { t with heap := hA } := by
          rw [frm]
          refine HandSPX.setFlight_upZ flA (fun hB flB upB => wpAny_throw (tk _ _ ?_))
          exact ⟨a, B, t0, pins, σ1, H1, ec, d, rfl, J, nb, (up.trans upA).trans upB, .inr (.inr (by rw [stk]; exact flB)), na, os, ag, wish⟩
        first
          | exact wpAny_bind (wpAny_pure (wpAny_bind fin))
          | exact wpAny_bind fin
      | @more nm n c i ts st sts p0 p1 hs2 l2 names slot loc suite rest ih =>
        intro wish
        obtain ⟨b, hb, yes, no⟩ := wish
        refine wpAny_handleBy_cons (codeAny_handlers_test ?_) (by intro q; cases q)
        have LT : PySem.W.Looks (model X.prog X.w) hA (typeOf (.ref a)) ec := by
          intro A' Q' E' s' k q
          exact wpAny_typeOf_ref (k _ _ geA) (by rw [zA.1]; exact q)
        have LM := PySem.W.exm_one (M := model X.prog X.w) (JA.kIn) LT hb
        have test : ∀ {Q' : Value → Shared → Prop} {E' : Value → Shared → Prop}, Q' c { t with heap := hA } → wpAny (model X.prog X.w) (X.A.mark (some (.ref a))) (eval (.Name nm p0) X.env) Q' E' { t with heap := hA } := by
          intro Q' E' q
          obtain ⟨gl, ndb, own | ⟨no', bt, nn⟩⟩ := names
          · exact ld_glob (X := X.suite a ((a, oA) :: (X.pn ++ pins))) SA gl own q ndb
          · exact ld_blt (X := X.suite a ((a, oA) :: (X.pn ++ pins))) SA gl no' bt q nn ndb
        refine test (LM.here ?_)
        cases b with
        | false =>
          show wpAny _ X.A (handleBy (.ref a) X.env hs2) _ _ _
          exact ih (no rfl)
        | true =>
          apply codeAny_handlers_suite_as
          refine HandSPX.lands_againZ flA ?_
          intro hC flC upC
          have JC : Inv X pins σ1 H1 { t with heap := hC } := J.landed nb flC.1 ((up.trans upA).trans upC) os ag
          obtain ⟨oC, vC, geC, zC, dC⟩ := flC.there
          have SC := JC.suite geC dC na nL nF
          refine store_ok (X := X.suite a ((a, oC) :: (X.pn ++ pins))) (v := .ref a) SC nd slot (.inl loc) rfl (fun t5 S5 => ?_) (.inr loc)
          refine wpAny_mono ((suite a oC ec d (X.pn ++ pins) zC ⟨_, dC⟩).run [] t5 _ H1 _ S5 (yes rfl a na)) ?_ (fun _ _ z => z.elim)
          intro f t6 q
          have gone : ∀ {σ6 : L2.St} {H6 : Hp} {Q' : Shared → Prop}, Inv (X.suite a ((a, oC) :: (X.pn ++ pins))) [] σ6 H6 t6 → (∀ t7, Inv X pins (σ6.set i none) H6 t7 → Q' t7) →
              wpAny (model X.prog X.w) X.A (do bindName X.env n .none; unbindBehindTheSuite X.env n p1) (fun _ t7 => Q' t7) X.xe t6 := by
            intro σ6 H6 Q' S6 hq
            exact gone_ok (S6.unsuite fine) nd slot loc hq
          cases f with
          | next =>
            obtain ⟨σ6, H6, S6, q6⟩ := q
            exact gone S6 fun t7 J7 => ⟨_, _, J7, q6⟩
          | brk =>
            obtain ⟨σ6, H6, S6, q6⟩ := q
            exact gone S6 fun t7 J7 => ⟨_, _, J7, q6⟩
          | cont =>
            obtain ⟨σ6, H6, S6, q6⟩ := q
            exact gone S6 fun t7 J7 => ⟨_, _, J7, q6⟩
          | ret u =>
            obtain ⟨v6, σ6, H6, S6, r6, q6⟩ := q
            exact gone S6 fun t7 J7 => ⟨_, _, _, J7, r6, q6⟩
    exact turn cls wish
end Rt
set_option linter.all false
namespace Rt
/-! ### the mathematics: lowest terms -/
def gc (t b : Int) : Int := (Nat.gcd t.natAbs b.natAbs : Nat)
theorem gc_pos {t b : Int} (h : b ≠ 0) : 0 < gc t b := by
  unfold gc
  have : 0 < Nat.gcd t.natAbs b.natAbs := Nat.gcd_pos_of_pos_right _ (by omega)
  omega
theorem gc_negl (t b : Int) : gc (-t) b = gc t b := by
  unfold gc
  rw [Int.natAbs_neg]
theorem gc_negr (t b : Int) : gc t (-b) = gc t b := by
  unfold gc
  rw [Int.natAbs_neg]
theorem gc_le {t b : Int} (h : b ≠ 0) : (gc t b).natAbs ≤ b.natAbs := by
  unfold gc
  rw [Int.natAbs_natCast]
  exact Nat.gcd_le_right _ (by omega)
/-- the pair in lowest terms -/
def loT (t b : Int) : Int := if b < 0 then -t / gc t b else t / gc t b
def loB (t b : Int) : Int := if b < 0 then -b / gc t b else b / gc t b
/-- a ratio -/
def IsR (t b : Int) : Prop := 0 < b ∧ Nat.gcd t.natAbs b.natAbs = 1
instance (t b : Int) : Decidable (IsR t b) := by unfold IsR; infer_instance
theorem gc_dvd_l (t b : Int) : gc t b ∣ t := by
  unfold gc
  exact Int.ofNat_dvd_left.mpr (Nat.gcd_dvd_left _ _)
theorem gc_dvd_r (t b : Int) : gc t b ∣ b := by
  unfold gc
  exact Int.ofNat_dvd_left.mpr (Nat.gcd_dvd_right _ _)
theorem div_isR {t b : Int} (h : 0 < b) : IsR (t / gc t b) (b / gc t b) := by
  have g0 := gc_pos (t := t) (b := b) (by omega)
  refine ⟨Int.ediv_pos_of_pos_of_dvd h (by omega) (gc_dvd_r t b), ?_⟩
  have e1 : (t / gc t b).natAbs = t.natAbs / Nat.gcd t.natAbs b.natAbs := by
    rw [Int.natAbs_ediv_of_dvd (gc_dvd_l t b)]
    rfl
  have e2 : (b / gc t b).natAbs = b.natAbs / Nat.gcd t.natAbs b.natAbs := by
    rw [Int.natAbs_ediv_of_dvd (gc_dvd_r t b)]
    rfl
  rw [e1, e2]
  exact Nat.gcd_div_gcd_div_gcd_of_pos_right (by omega)
theorem lo_isR {t b : Int} (h : b ≠ 0) : IsR (loT t b) (loB t b) := by
  unfold loT loB
  by_cases hb : b < 0
  · rw [if_pos hb, if_pos hb]
    have q := div_isR (t := -t) (b := -b) (by omega)
    rw [gc_negl, gc_negr] at q
    exact q
  · rw [if_neg hb, if_neg hb]
    exact div_isR (by omega)
theorem div_le {t g : Int} (h : 0 < g) : (t / g).natAbs ≤ t.natAbs := Int.natAbs_ediv_le_natAbs _ _
theorem loT_le {t b : Int} : (loT t b).natAbs ≤ t.natAbs := by
  unfold loT
  split
  · have := Int.natAbs_ediv_le_natAbs (-t) (gc t b)
    rw [Int.natAbs_neg] at this
    exact this
  · exact Int.natAbs_ediv_le_natAbs _ _
theorem loB_le {t b : Int} : (loB t b).natAbs ≤ b.natAbs := by
  unfold loB
  split
  · have := Int.natAbs_ediv_le_natAbs (-b) (gc t b)
    rw [Int.natAbs_neg] at this
    exact this
  · exact Int.natAbs_ediv_le_natAbs _ _
end Rt
set_option Elab.async false
set_option linter.all false
set_option maxRecDepth 100000
set_option maxHeartbeats 4000000
namespace Rt
open PySem PySem.Spec PyProof.Rows L2
abbrev sGcd : Stmt := top 18
abbrev sLowest : Stmt := top 19
abbrev sNumber : Stmt := top 21
abbrev sPair : Stmt := top 30
theorem Well.mono {H : Hp} {p l : Addr} {ns : List Int} {n m : Nat} (W : Well H p l ns n) (h : n ≤ m) : Well H p l ns m := by
  obtain ⟨⟨c, a, k, hp, hc, ha, han, hk, hkn⟩, hl⟩ := W
  exact ⟨⟨c, a, k, hp, hc, ha, by omega, hk, by omega⟩, hl⟩
theorem cd {m : Int} (h : 0 < m) (h2 : m.natAbs < 2 ^ 1000) : CDivW 0 m := wide_div h h2 (by decide) (by decide)
/-- a def of the text, callable: where it stands, that the name is its own -/
structure Df (K : PySem.W.Frag) (mg : Str → Option Value) (x : Str) (ps : List Str) (f : Addr) (fd : FuncData) : Prop where
  g : mg x = some (.ref f)
  k : PySem.W.keepIn K (.ref f) = true
  b : Binds K fd ps []
def spNumber : Sp := fun vs H Q _ => ∃ (p l : Addr) (ns : List Int) (n : Nat), vs = [.ref p] ∧ Well H p l ns n ∧ n + 3 ≤ 1000000 ∧
  ∀ (r : Int) (H' : Hp), r.natAbs < 2 ^ 201 → Well H' p l ns (n + 3) → Kp p H H' → Q (.int r) H'
theorem scNumber : FnScope ["_law_well_here", "_law_shape"] ["_law_well_here"] (defScope sNumber) := ⟨rfl, rfl, rfl, by decide +kernel, rfl, by decide +kernel, by decide +kernel⟩
theorem scGcd : FnScope ["_law_a", "_law_b", "_law_rest"] ["_law_a", "_law_b"] (defScope sGcd) := ⟨rfl, rfl, rfl, by decide +kernel, rfl, by decide +kernel, by decide +kernel⟩
theorem scLowest : FnScope ["_law_top", "_law_bottom", "_law_common"] ["_law_top", "_law_bottom"] (defScope sLowest) := ⟨rfl, rfl, rfl, by decide +kernel, rfl, by decide +kernel, by decide +kernel⟩
theorem p60 : (10 : Int) ^ (Int.toNat 60) = 1000000000000000000000000000000000000000000000000000000000000 := by decide +kernel
theorem p59 : (10 : Int) ^ (Int.toNat 59) = 100000000000000000000000000000000000000000000000000000000000 := by decide +kernel
theorem p12 : (10 : Int) ^ (Int.toNat 12) = 1000000000000 := by decide +kernel
section
variable {P : Program} {w : World} {K : PySem.W.Frag} {mg : Str → Option Value} {base : Heap}
theorem ok_number {f fD : Addr} {fd fdD : FuncData} (F : Fun K "_law_number" "_law_number" sNumber f fd) (GD : FnOk P w K mg base CX0 1 fD fdD ["_law_well_here", "_law_many"] spDraw) (D : Df K mg "_law_draw" ["_law_well_here", "_law_many"] fD fdD) :
    FnOk P w K mg base CX0 2 f fd ["_law_well_here"] spNumber := by
  refine F.ok scNumber (fun vs H Q E h => ?_) (fun cdv A outer s H vs Q E hr h => ?_)
  · obtain ⟨p, l, ns, n, rfl, _⟩ := h
    rfl
  · obtain ⟨p, l, ns, n, rfl, W, hn, k⟩ := h
    refine ⟨_, pss_cons (ps_set (i := 1) scNumber.nd rfl (Or.inl rfl) (pe_call GD hr rfl D.g D.k D.b .nil pass0 (pa_cons (pv 0) (pa_cons pe_int pa_nil))))
      (pss_cons (ps_if (pt_cmpR op_eq (pv 1) pe_int (nomark _)) (pss_one (ps_ret pe_int)) pss_nil)
      (pss_cons (ps_if (pt_cmpR op_eq (pv 1) pe_int (nomark _)) (pss_one (ps_ret (pe_op op_sub pe_int (pe_op op_mul pe_int (pe_call GD hr rfl D.g D.k D.b .nil pass0 (pa_cons (pv 0) (pa_cons pe_int pa_nil))))))) pss_nil)
      (pss_cons (ps_if (pt_cmpR op_eq (pv 1) pe_int (nomark _)) (pss_one (ps_ret (pe_op op_sub (pe_call GD hr rfl D.g D.k D.b .nil pass0 (pa_cons (pv 0) (pa_cons (pe_op op_pow pe_int pe_int) pa_nil))) (pe_op op_mul pe_int (pe_op op_pow pe_int pe_int))))) pss_nil)
      (pss_cons (ps_if (pt_cmpR op_eq (pv 1) pe_int (nomark _)) (pss_one (ps_ret (pe_op op_mul (pe_op op_add (pe_op op_pow pe_int pe_int) (pe_call GD hr rfl D.g D.k D.b .nil pass0 (pa_cons (pv 0) (pa_cons pe_int pa_nil))))
          (pe_op op_sub pe_int (pe_op op_mul pe_int (pe_call GD hr rfl D.g D.k D.b .nil pass0 (pa_cons (pv 0) (pa_cons pe_int pa_nil)))))))) pss_nil)
      (pss_one (ps_ret (pe_op op_sub (pe_call GD hr rfl D.g D.k D.b .nil pass0 (pa_cons (pv 0) (pa_cons pe_int pa_nil))) pe_int))))))), ?_⟩
    refine ⟨_, rfl, p, l, ns, n, 9, rfl, by decide, cd (by decide) (by decide +kernel), W, by omega, fun r H1 r0 r1 W1 k1 => ?_⟩
    refine ⟨_, rfl, rfl, _, rfl, ite2 (fun _ => ?_) (fun _ => ?_)⟩
    · exact k 0 H1 (by decide +kernel) (W1.mono (by omega)) k1
    refine ⟨_, rfl, rfl, _, rfl, ite2 (fun _ => ?_) (fun _ => ?_)⟩
    · refine ⟨_, rfl, p, l, ns, _, 2, rfl, by decide, cd (by decide) (by decide +kernel), W1, by omega, fun r2 H2 r20 r21 W2 k2 => ?_⟩
      refine ⟨_, _, rfl, rfl, .inl ⟨by decide, by decide⟩, _, _, rfl, rfl, ?_⟩
      refine k _ H2 ?_ (W2.mono (by omega)) (k1.trans k2)
      have : (1 - 2 * r2).natAbs < 10 := by omega
      exact Nat.lt_of_lt_of_le this (by decide +kernel)
    refine ⟨_, rfl, rfl, _, rfl, ite2 (fun _ => ?_) (fun _ => ?_)⟩
    · refine ⟨_, rfl, _, _, rfl, rfl, ⟨by decide, by decide, by decide⟩, p, l, ns, _, _, rfl, by decide +kernel, cd (by decide +kernel) (by decide +kernel), W1, by omega, fun r2 H2 r20 r21 W2 k2 => ?_⟩
      refine ⟨_, _, rfl, rfl, ⟨by decide, by decide, by decide⟩, _, _, rfl, rfl, .inl ⟨by decide, by decide⟩, _, _, rfl, rfl, ?_⟩
      refine k _ H2 ?_ (W2.mono (by omega)) (k1.trans k2)
      rw [p60] at r21
      rw [p59]
      omega
    refine ⟨_, rfl, rfl, _, rfl, ite2 (fun _ => ?_) (fun _ => ?_)⟩
    · refine ⟨_, _, rfl, rfl, ⟨by decide, by decide, by decide⟩, _, rfl, p, l, ns, _, 5, rfl, by decide, cd (by decide) (by decide +kernel), W1, by omega, fun r2 H2 r20 r21 W2 k2 => ?_⟩
      refine ⟨_, _, rfl, rfl, _, rfl, p, l, ns, _, 2, rfl, by decide, cd (by decide) (by decide +kernel), W2, by omega, fun r3 H3 r30 r31 W3 k3 => ?_⟩
      have hb : (-(2 : Int) ^ 64 < (10 : Int) ^ (Int.toNat 12) + r2) ∧ (10 : Int) ^ (Int.toNat 12) + r2 < 2 ^ 64 := by
        rw [p12]
        omega
      refine ⟨_, _, rfl, rfl, .inl ⟨by decide, by decide⟩, _, _, rfl, rfl, _, _, rfl, rfl, .inl hb, ?_⟩
      refine k _ H3 ?_ (W3.mono (by omega)) ((k1.trans k2).trans k3)
      rw [p12]
      have e1 : (1 - 2 * r3).natAbs ≤ 1 := by omega
      have e2 : ((1000000000000 : Int) + r2).natAbs < 2 ^ 64 := by omega
      rw [Int.natAbs_mul]
      refine Nat.lt_of_le_of_lt (Nat.mul_le_mul_left _ e1) ?_
      rw [Nat.mul_one]
      exact Nat.lt_of_lt_of_le e2 (by decide +kernel)
    · refine ⟨_, rfl, p, l, ns, _, 25, rfl, by decide, cd (by decide) (by decide +kernel), W1, by omega, fun r2 H2 r20 r21 W2 k2 => ?_⟩
      refine ⟨_, _, rfl, rfl, ?_⟩
      refine k _ H2 ?_ (W2.mono (by omega)) (k1.trans k2)
      have : (r2 - 12).natAbs < 100 := by omega
      exact Nat.lt_of_lt_of_le this (by decide +kernel)
/-! ### the law's own gcd -/
def spGcd : Sp := fun vs H Q _ => ∃ a b : Int, vs = [.int a, .int b] ∧ Q (.int (gc a b)) H
theorem absI (i : Int) : (if i < 0 then -i else i) = (i.natAbs : Int) := by
  split <;> omega
theorem ok_gcd {f : Addr} {fd : FuncData} (F : Fun K "_law_gcd" "_law_gcd" sGcd f fd) (B : Bi mg) : FnOk P w K mg base CX0 1 f fd ["_law_a", "_law_b"] spGcd := by
  refine F.ok scGcd (fun vs H Q E h => ?_) (fun cdv A outer s H vs Q E hr h => ?_)
  · obtain ⟨a, b, rfl, _⟩ := h
    rfl
  · obtain ⟨a, b, rfl, k⟩ := h
    refine ⟨_, pss_cons (ps_set (i := 0) scGcd.nd rfl (Or.inl rfl) (pe_callB call_abs (by rfl) B.abs (by decide +kernel) (pa_cons (pv 0) pa_nil)))
      (pss_cons (ps_set (i := 1) scGcd.nd rfl (Or.inl rfl) (pe_callB call_abs (by rfl) B.abs (by decide +kernel) (pa_cons (pv 1) pa_nil)))
      (pss_cons (ps_while PassesOwn.never (pt_cmpR op_gt (pv 1) pe_int (nomark _))
        (pss_cons (ps_set (i := 2) scGcd.nd rfl (Or.inl rfl) (pe_op op_mod (pe_callTy call_int1 (by rfl) B.int (by decide +kernel) (pa_cons (pv 0) pa_nil)) (pv 1)))
        (pss_cons (ps_set (i := 0) scGcd.nd rfl (Or.inl rfl) (pv 1)) (pss_one (ps_set (i := 1) scGcd.nd rfl (Or.inl rfl) (pv 2))))))
      (pss_one (ps_ret (pv 0))))), ?_⟩
    refine ⟨_, rfl, _, rfl, _, rfl, _, rfl, ?_⟩
    rw [absI, absI]
    refine while_by (fun σ H' => H' = H ∧ ∃ (x y : Nat) (v : Option V), σ = [some (.int (x : Int)), some (.int (y : Int)), v] ∧ Nat.gcd x y = Nat.gcd a.natAbs b.natAbs)
      (fun σ _ => match σ with | [_, some (.int y), _] => y.toNat | _ => 0) ⟨rfl, a.natAbs, b.natAbs, none, rfl, rfl⟩ ?_ ?_
    · rintro σ H' ⟨rfl, x, y, v, rfl, hg⟩
      refine ⟨_, rfl, _, _, rfl, rfl, _, rfl, ite2 (fun hy => ?_) (fun hy => ?_)⟩
      · have hy := of_decide_eq_true hy
        refine ⟨_, rfl, .inl ⟨_, rfl, _, rfl, _, _, rfl, rfl, hy, _, rfl, _, rfl, ?_⟩⟩
        have hlt : x % y < y := Nat.mod_lt _ (by omega)
        refine ⟨⟨rfl, y, x % y, _, rfl, ?_⟩, ?_⟩
        · rw [← hg, Nat.gcd_comm x y, Nat.gcd_rec y x, Nat.gcd_comm]
        · show ((x : Int) % (y : Int)).toNat < (y : Int).toNat
          omega
      · have hy : ¬ (0 : Int) < (y : Int) := fun z => hy (decide_eq_true z)
        have y0 : y = 0 := by omega
        subst y0
        refine ⟨_, rfl, ?_⟩
        have e : gc a b = (x : Int) := by
          unfold gc
          rw [← hg, Nat.gcd_zero_right]
        rw [e] at k
        exact k
    · rintro σ H' Q' Q'' hq ⟨x, e, h⟩
      obtain ⟨i, j, e1, e2, z, e3, q⟩ := h
      exact ⟨x, e, i, j, e1, e2, z, e3, hq _ _ q⟩
end
end Rt
set_option Elab.async false
set_option linter.all false
set_option maxRecDepth 100000
set_option maxHeartbeats 4000000
namespace Rt
open PySem PySem.Spec PyProof.Rows L2
abbrev sDue : Stmt := top 29
abbrev sWell : Stmt := top 24
abbrev sInt : Stmt := top 23
abbrev sTruth : Stmt := top 25
abbrev sSame : Stmt := top 32
def spLowest : Sp := fun vs H Q _ => ∃ t b : Int, vs = [.int t, .int b] ∧ b ≠ 0 ∧ b.natAbs < 2 ^ 1000 ∧ ∀ p, H p = none → Q (.ref p) (upd H p (.tup [.int (loT t b), .int (loB t b)]))
theorem scPair : FnScope ["_law_well_here", "_law_top", "_law_bottom", "_law_factor"] ["_law_well_here"] (defScope sPair) := ⟨rfl, rfl, rfl, by decide +kernel, rfl, by decide +kernel, by decide +kernel⟩
def spPair : Sp := fun vs H Q _ => ∃ (p l : Addr) (ns : List Int) (n : Nat), vs = [.ref p] ∧ Well H p l ns n ∧ n + 10 ≤ 1000000 ∧
  ∀ (t b : Int) (q : Addr) (H' : Hp), t.natAbs < 2 ^ 330 → b.natAbs < 2 ^ 330 → b ≠ 0 → Well H' p l ns (n + 10) → Kp p H H' → H' q = some (.tup [.int t, .int b]) → Q (.ref q) H'
theorem p9 : (10 : Int) ^ (Int.toNat 9) = 1000000000 := by decide +kernel
theorem p30 : (10 : Int) ^ (Int.toNat 30) = 1000000000000000000000000000000 := by decide +kernel
theorem Well.new {H : Hp} {p l q : Addr} {ns : List Int} {n : Nat} {o : HO} (W : Well H p l ns n) (h : H q = none) : Well (upd H q o) p l ns n := by
  obtain ⟨⟨c, a, k, hp, r⟩, hl⟩ := W
  exact ⟨⟨c, a, k, by rw [upd_ne (ne_of_none hp h)]; exact hp, r⟩, by rw [upd_ne (ne_of_none hl h)]; exact hl⟩
section
variable {P : Program} {w : World} {K : PySem.W.Frag} {mg : Str → Option Value} {base : Heap}
theorem ok_lowest {f fG : Addr} {fd fdG : FuncData} (F : Fun K "_law_lowest" "_law_lowest" sLowest f fd) (GG : FnOk P w K mg base CX0 1 fG fdG ["_law_a", "_law_b"] spGcd) (D : Df K mg "_law_gcd" ["_law_a", "_law_b"] fG fdG) :
    FnOk P w K mg base CX0 2 f fd ["_law_top", "_law_bottom"] spLowest := by
  refine F.ok scLowest (fun vs H Q E h => ?_) (fun cdv A outer s H vs Q E hr h => ?_)
  · obtain ⟨t, b, rfl, _⟩ := h
    rfl
  · obtain ⟨t, b, rfl, hb, hb9, k⟩ := h
    refine ⟨_, pss_cons (ps_if (pt_cmpR op_lt (pv 1) pe_int (nomark _)) (pss_cons (ps_set (i := 0) scLowest.nd rfl (Or.inl rfl) (pe_un un_neg (pv 0))) (pss_one (ps_set (i := 1) scLowest.nd rfl (Or.inl rfl) (pe_un un_neg (pv 1))))) pss_nil)
      (pss_cons (ps_set (i := 2) scLowest.nd rfl (Or.inl rfl) (pe_call GG hr rfl D.g D.k D.b .nil pass0 (pa_cons (pv 0) (pa_cons (pv 1) pa_nil))))
      (pss_one (ps_ret (pe_tup (pa_cons (pe_op op_fdivW (pv 0) (pv 2)) (pa_cons (pe_op op_fdivW (pv 1) (pv 2)) pa_nil)))))), ?_⟩
    have g0 := gc_pos (t := t) hb
    have g9 : CDivW 0 (gc t b) := cd g0 (Nat.lt_of_le_of_lt (gc_le hb) hb9)
    refine ⟨_, rfl, _, _, rfl, rfl, _, rfl, ite2 (fun h0 => ?_) (fun h0 => ?_)⟩
    · have h0 := of_decide_eq_true h0
      refine ⟨_, rfl, _, rfl, _, rfl, _, rfl, _, rfl, _, rfl, _, _, rfl, ?_⟩
      rw [gc_negl, gc_negr]
      refine ⟨_, rfl, _, rfl, _, _, rfl, rfl, g9, _, rfl, _, rfl, _, _, rfl, rfl, g9, (by show 2 ≤ sizeLine; decide), fun p hp => ?_⟩
      have := k p hp
      unfold loT loB at this
      rw [if_pos h0, if_pos h0] at this
      exact this
    · have h0 : ¬ b < 0 := fun z => h0 (decide_eq_true z)
      refine ⟨_, rfl, _, rfl, _, _, rfl, ?_⟩
      refine ⟨_, rfl, _, rfl, _, _, rfl, rfl, g9, _, rfl, _, rfl, _, _, rfl, rfl, g9, (by show 2 ≤ sizeLine; decide), fun p hp => ?_⟩
      have := k p hp
      unfold loT loB at this
      rw [if_neg h0, if_neg h0] at this
      exact this
theorem ok_pair {f fN fD : Addr} {fd fdN fdD : FuncData} (F : Fun K "_law_pair" "_law_pair" sPair f fd) (GN : FnOk P w K mg base CX0 2 fN fdN ["_law_well_here"] spNumber) (N : Df K mg "_law_number" ["_law_well_here"] fN fdN)
    (GD : FnOk P w K mg base CX0 1 fD fdD ["_law_well_here", "_law_many"] spDraw) (D : Df K mg "_law_draw" ["_law_well_here", "_law_many"] fD fdD) :
    FnOk P w K mg base CX0 3 f fd ["_law_well_here"] spPair := by
  refine F.ok scPair (fun vs H Q E h => ?_) (fun cdv A outer s H vs Q E hr h => ?_)
  · obtain ⟨p, l, ns, n, rfl, _⟩ := h
    rfl
  · obtain ⟨p, l, ns, n, rfl, W, hn, k⟩ := h
    have hr1 : Room 1 _ := hr.mono (by decide)
    refine ⟨_, pss_cons (ps_set (i := 1) scPair.nd rfl (Or.inl rfl) (pe_call GN hr rfl N.g N.k N.b .nil pass0 (pa_cons (pv 0) pa_nil)))
      (pss_cons (ps_set (i := 2) scPair.nd rfl (Or.inl rfl) (pe_call GN hr rfl N.g N.k N.b .nil pass0 (pa_cons (pv 0) pa_nil)))
      (C8.pss_cut (ps_if (pt_cmpR op_eq (pv 2) pe_int (nomark _)) (pss_one (ps_set (i := 2) scPair.nd rfl (Or.inl rfl) (pe_op op_add pe_int (pe_call GD hr1 rfl D.g D.k D.b .nil pass0 (pa_cons (pv 0) (pa_cons pe_int pa_nil)))))) pss_nil)
      (pss_cons (ps_set (i := 3) scPair.nd rfl (Or.inl rfl) (pe_ix ix_list (pe_lst (pa_cons pe_int (pa_cons pe_int (pa_cons pe_int (pa_cons pe_int (pa_cons (pe_op op_pow pe_int pe_int) (pa_cons pe_int pa_nil)))))))
          (pe_call GD hr1 rfl D.g D.k D.b .nil pass0 (pa_cons (pv 0) (pa_cons pe_int pa_nil))) (fun _ _ => rfl)))
      (C8.pss_cut (ps_if (pt_cmpR op_eq (pe_call GD hr1 rfl D.g D.k D.b .nil pass0 (pa_cons (pv 0) (pa_cons pe_int pa_nil))) pe_int (nomark _))
          (pss_one (ps_set (i := 3) scPair.nd rfl (Or.inl rfl) (pe_op op_add pe_int (pe_call GD hr1 rfl D.g D.k D.b .nil pass0 (pa_cons (pv 0) (pa_cons (pe_op op_pow pe_int pe_int) pa_nil)))))) pss_nil)
      (pss_one (ps_ret (pe_tup (pa_cons (pe_op op_mulW (pv 1) (pv 3)) (pa_cons (pe_op op_mulW (pv 2) (pv 3)) pa_nil))))))))), ?_⟩
    refine ⟨_, rfl, p, l, ns, n, rfl, W, by omega, fun t H1 ht W1 k1 => ?_⟩
    refine ⟨_, rfl, p, l, ns, _, rfl, W1, by omega, fun b H2 hb W2 k2 => ?_⟩
    refine ⟨fun σ' H' => ∃ b' : Int, σ' = [some (.ref p), some (.int t), some (.int b'), none] ∧ b' ≠ 0 ∧ b'.natAbs < 2 ^ 201 ∧ Well H' p l ns (n + 7) ∧ Kp p H H', ?_, ?_⟩
    · refine ⟨_, rfl, rfl, _, rfl, ite2 (fun h0 => ?_) (fun h0 => ?_)⟩
      · refine ⟨_, rfl, p, l, ns, _, 6, rfl, by decide, cd (by decide) (by decide +kernel), W2, by omega, fun r H3 r0 r1 W3 k3 => ?_⟩
        refine ⟨_, _, rfl, rfl, 1 + r, rfl, by omega, ?_, W3.mono (by omega), (k1.trans k2).trans k3⟩
        have : (1 + r).natAbs < 100 := by omega
        exact Nat.lt_of_lt_of_le this (by decide +kernel)
      · refine ⟨b, rfl, fun z => h0 (by rw [z]; rfl), hb, W2.mono (by omega), k1.trans k2⟩
    rintro σ' H3 ⟨b', rfl, hb0, hb9, W3, k3⟩
    refine ⟨_, _, rfl, rfl, ⟨by decide, by decide, by decide⟩, (by show 6 ≤ sizeLine; decide), fun li hli => ?_⟩
    have npli : li ≠ p := by
      obtain ⟨⟨_, _, _, hp, _⟩, _⟩ := W3
      exact (ne_of_none hp hli).symm
    refine ⟨_, rfl, p, l, ns, _, 6, rfl, by decide, cd (by decide) (by decide +kernel), W3.new hli, by omega, fun r H4 r0 r1 W4 k4 => ?_⟩
    have hl4 := k4 li _ upd_same npli
    obtain ⟨v, hv, v1, v2⟩ : ∃ v : Int, ([.int 1, .int 1, .int 2, .int 6, .int ((10 : Int) ^ (Int.toNat 9)), .int 30030] : List V)[r.toNat]? = some (.int v) ∧ 1 ≤ v ∧ v.natAbs < 2 ^ 101 := by
      have hc : r = 0 ∨ r = 1 ∨ r = 2 ∨ r = 3 ∨ r = 4 ∨ r = 5 := by omega
      rcases hc with rfl | rfl | rfl | rfl | rfl | rfl
      · exact ⟨1, rfl, by decide, by decide +kernel⟩
      · exact ⟨1, rfl, by decide, by decide +kernel⟩
      · exact ⟨2, rfl, by decide, by decide +kernel⟩
      · exact ⟨6, rfl, by decide, by decide +kernel⟩
      · exact ⟨_, rfl, by decide +kernel, by decide +kernel⟩
      · exact ⟨30030, rfl, by decide, by decide +kernel⟩
    refine ⟨li, _, _, _, rfl, rfl, SqL.of hl4, at_of (j := r.toNat) (by omega) hv, ?_⟩
    refine ⟨fun σ' H' => ∃ z : Int, σ' = [some (.ref p), some (.int t), some (.int b'), some (.int z)] ∧ 1 ≤ z ∧ z.natAbs < 2 ^ 101 ∧ Well H' p l ns (n + 10) ∧ Kp p H H', ?_, ?_⟩
    · refine ⟨_, rfl, p, l, ns, _, 8, rfl, by decide, cd (by decide) (by decide +kernel), W4, by omega, fun r2 H5 r20 r21 W5 k5 => ?_⟩
      have kk : Kp p H H5 := ((k3.new hli).trans k4).trans k5
      refine ⟨rfl, _, rfl, ite2 (fun h0 => ?_) (fun h0 => ?_)⟩
      · refine ⟨_, rfl, _, _, rfl, rfl, ⟨by decide, by decide, by decide⟩, p, l, ns, _, _, rfl, by decide +kernel, cd (by decide +kernel) (by decide +kernel), W5, by omega, fun r3 H6 r30 r31 W6 k6 => ?_⟩
        refine ⟨_, _, rfl, rfl, 1 + r3, rfl, by omega, ?_, W6.mono (by omega), kk.trans k6⟩
        rw [p30] at r31
        omega
      · exact ⟨v, rfl, v1, v2, W5.mono (by omega), kk⟩
    rintro σ' H5 ⟨z, rfl, z1, z9, W5, k5⟩
    refine ⟨_, rfl, _, rfl, _, _, rfl, rfl, wide_mul ht z9 (by decide) (by decide) (by decide), _, rfl, _, rfl, _, _, rfl, rfl, wide_mul hb9 z9 (by decide) (by decide) (by decide), (by show 2 ≤ sizeLine; decide), fun q hq => ?_⟩
    have up : ∀ {x : Int}, x.natAbs < 2 ^ (201 + 101) → x.natAbs < 2 ^ 330 := fun h => Nat.lt_of_lt_of_le h (Nat.pow_le_pow_right (by decide) (by decide))
    exact k _ _ q _ (up (wide_lt ht z9)) (up (wide_lt hb9 z9)) (Int.mul_ne_zero hb0 (by omega)) (W5.new hq) (k5.new hq) upd_same
end
end Rt
set_option Elab.async false
set_option linter.all false
set_option maxRecDepth 100000
set_option maxHeartbeats 8000000
namespace Rt
open PySem PySem.Spec PyProof.Rows L2
abbrev sNo : Stmt := top 22
/-! ### what is no ratio -/
def Oth (H : Hp) (x : V) : Prop := (∃ b, x = .bl b) ∨ (∃ z, x = .str z) ∨ x = .non ∨ ∃ q xs, x = .ref q ∧ H q = some (.tup xs)
inductive BadT (H : Hp) : List V → Prop
  | len {xs : List V} (h : xs.length ≠ 2) : BadT H xs
  | fst {x y : V} (h : Oth H x) (g : Oth H y ∨ ∃ j, y = .int j) : BadT H [x, y]
  | snd {i : Int} {y : V} (h : Oth H y) : BadT H [.int i, y]
  | both {i j : Int} (h : ¬ IsR i j) : BadT H [.int i, .int j]
inductive NoR (p : Addr) (H : Hp) : V → Prop
  | int (i : Int) : NoR p H (.int i)
  | bl (b : Bool) : NoR p H (.bl b)
  | str (z : Str) : NoR p H (.str z)
  | non : NoR p H .non
  | lst {a : Addr} {xs : List V} (h : H a = some (.lst xs)) (n : a ≠ p) : NoR p H (.ref a)
  | dk {a : Addr} {kvs : List (Key × V)} (h : H a = some (.dK kvs)) : NoR p H (.ref a)
  | tup {a : Addr} {xs : List V} (h : H a = some (.tup xs)) (b : BadT H xs) : NoR p H (.ref a)
theorem Kp.obj {p : Addr} {ys : List V} {H H' : Hp} {a : Addr} {o : HO} (k : Kp p H H') (hp : H p = some (.lst ys)) (h : H a = some o) (d : o ≠ .lst ys) : H' a = some o := k a o h (ne_of h hp d)
theorem Oth.kp {p : Addr} {ys : List V} {H H' : Hp} {x : V} (k : Kp p H H') (hp : H p = some (.lst ys)) (h : Oth H x) : Oth H' x := by
  rcases h with h | h | h | ⟨q, xs, e, h⟩
  · exact .inl h
  · exact .inr (.inl h)
  · exact .inr (.inr (.inl h))
  · exact .inr (.inr (.inr ⟨q, xs, e, k.obj hp h (by intro z; cases z)⟩))
theorem NoR.kp {p : Addr} {ys : List V} {H H' : Hp} {x : V} (k : Kp p H H') (hp : H p = some (.lst ys)) (h : NoR p H x) : NoR p H' x := by
  cases h with
  | int i => exact .int i
  | bl b => exact .bl b
  | str z => exact .str z
  | non => exact .non
  | lst h n => exact .lst (k _ _ h n) n
  | dk h => exact .dk (k.obj hp h (by intro z; cases z))
  | tup ht b =>
    refine .tup (k.obj hp ht (by intro z; cases z)) ?_
    cases b with
    | len h => exact .len h
    | fst h g => exact .fst (h.kp k hp) (g.imp (fun z => z.kp k hp) id)
    | snd h => exact .snd (h.kp k hp)
    | both h => exact .both h
/-- what was made so far: none of it a ratio -/
structure Made (p l : Addr) (ns : List Int) (n : Nat) (H0 H : Hp) (xs : List V) : Prop where
  w : Well H p l ns n
  k : Kp p H0 H
  all : ∀ v ∈ xs, NoR p H v
theorem Made.more {p l : Addr} {ns : List Int} {n : Nat} {H0 H : Hp} {xs : List V} {q : Addr} {o : HO} (M : Made p l ns n H0 H xs) (h : H q = none) : Made p l ns n H0 (upd H q o) xs := by
  obtain ⟨⟨c, a, k, hp, _⟩, _⟩ := M.w
  exact ⟨M.w.new h, M.k.new h, fun v hv => (M.all v hv).kp ((Kp.refl p H).new h) hp⟩
theorem Made.add {p l : Addr} {ns : List Int} {n : Nat} {H0 H : Hp} {xs : List V} {v : V} (M : Made p l ns n H0 H xs) (h : NoR p H v) : Made p l ns n H0 H (xs ++ [v]) :=
  ⟨M.w, M.k, fun u hu => by
    rcases List.mem_append.mp hu with hu | hu
    · exact M.all u hu
    · rw [List.mem_singleton.mp hu]
      exact h⟩
/-- a new tuple that is no ratio -/
theorem Made.tup {p l : Addr} {ns : List Int} {n : Nat} {H0 H : Hp} {xs ys : List V} {q : Addr} (M : Made p l ns n H0 H xs) (h : H q = none) (b : BadT (upd H q (.tup ys)) ys) : Made p l ns n H0 (upd H q (.tup ys)) (xs ++ [.ref q]) :=
  (M.more h).add (.tup upd_same b)
theorem Made.lst {p l : Addr} {ns : List Int} {n : Nat} {H0 H : Hp} {xs ys : List V} {q : Addr} (M : Made p l ns n H0 H xs) (h : H q = none) : Made p l ns n H0 (upd H q (.lst ys)) (xs ++ [.ref q]) := by
  obtain ⟨⟨c, a, k, hp, _⟩, _⟩ := M.w
  exact (M.more h).add (.lst upd_same (ne_of_none hp h).symm)
def spNo : Sp := fun vs H Q _ => ∃ (p l : Addr) (ns : List Int) (n : Nat), vs = [.ref p] ∧ Well H p l ns n ∧ n + 3 ≤ 1000000 ∧
  ∀ (v : V) (H' : Hp), NoR p H' v → Well H' p l ns (n + 3) → Kp p H H' → Q v H'
theorem scNo : FnScope ["_law_well_here", "_law_n", "_law_m", "_law_things"] ["_law_well_here"] (defScope sNo) := ⟨rfl, rfl, rfl, by decide +kernel, rfl, by decide +kernel, by decide +kernel⟩
theorem p40 : (10 : Int) ^ (Int.toNat 40) = 10000000000000000000000000000000000000000 := by decide +kernel
theorem p20 : (10 : Int) ^ (Int.toNat 20) = 100000000000000000000 := by decide +kernel
theorem noR_common {t b g : Int} (h : 1 < g) (h1 : g ∣ t) (h2 : g ∣ b) : ¬ IsR t b := by
  rintro ⟨_, e⟩
  have d : g.natAbs ∣ Nat.gcd t.natAbs b.natAbs := Nat.dvd_gcd (Int.natAbs_dvd_natAbs.mpr h1) (Int.natAbs_dvd_natAbs.mpr h2)
  rw [e] at d
  have := Nat.le_of_dvd (by decide) d
  omega
section
variable {P : Program} {w : World} {K : PySem.W.Frag} {mg : Str → Option Value} {base : Heap}
theorem ok_no {f fD : Addr} {fd fdD : FuncData} (F : Fun K "_law_no_ratio" "_law_no_ratio" sNo f fd) (B : Bi mg)
    (GD : FnOk P w K mg base CX0 1 fD fdD ["_law_well_here", "_law_many"] spDraw) (D : Df K mg "_law_draw" ["_law_well_here", "_law_many"] fD fdD) : FnOk P w K mg base CX0 2 f fd ["_law_well_here"] spNo := by
  refine F.ok scNo (fun vs H Q E h => ?_) (fun cdv A outer s H vs Q E hr h => ?_)
  · obtain ⟨p, l, ns, n, rfl, _⟩ := h
    rfl
  · obtain ⟨p, l, ns, n, rfl, W, hn, k⟩ := h
    refine ⟨_, pss_cons (ps_set (i := 1) scNo.nd rfl (Or.inl rfl) (pe_op op_add pe_int (pe_call GD hr rfl D.g D.k D.b .nil pass0 (pa_cons (pv 0) (pa_cons pe_int pa_nil)))))
      (pss_cons (ps_set (i := 2) scNo.nd rfl (Or.inl rfl) (pe_op op_sub (pe_call GD hr rfl D.g D.k D.b .nil pass0 (pa_cons (pv 0) (pa_cons pe_int pa_nil))) pe_int))
      (C8.pss_cut (ps_set (i := 3) scNo.nd rfl (Or.inl rfl) (pe_lst
        (pa_cons (pe_tup (pa_cons pe_int (pa_cons pe_int pa_nil)))
        (pa_cons (pe_tup (pa_cons pe_int (pa_cons pe_int pa_nil)))
        (pa_cons (pe_tup (pa_cons pe_int (pa_cons (pe_un un_neg pe_int) pa_nil)))
        (pa_cons (pe_tup (pa_cons pe_int (pa_cons pe_int pa_nil)))
        (pa_cons (pe_tup (pa_cons pe_int (pa_cons pe_int pa_nil)))
        (pa_cons (pe_tup (pa_cons (pe_un un_neg pe_int) (pa_cons pe_int pa_nil)))
        (pa_cons (pe_lst (pa_cons pe_int (pa_cons pe_int pa_nil)))
        (pa_cons (pe_tup (pa_cons pe_int pa_nil))
        (pa_cons (pe_tup (pa_cons pe_int (pa_cons pe_int (pa_cons pe_int pa_nil))))
        (pa_cons (pe_tup (pa_cons pe_bl (pa_cons pe_int pa_nil)))
        (pa_cons (pe_tup (pa_cons pe_int (pa_cons pe_bl pa_nil))) pa_nil)))))))))))))
      (C8.pss_cut (ps_set (i := 3) scNo.nd rfl (Or.inl rfl) (pe_op op_cat (pv 3) (pe_lst
        (pa_cons pe_non (pa_cons pe_str (pa_cons pe_int (pa_cons (pe_tup pa_nil)
        (pa_cons (pe_tup (pa_cons (pe_tup (pa_cons pe_int (pa_cons pe_int pa_nil))) (pa_cons pe_int pa_nil)))
        (pa_cons (pe_tup (pa_cons pe_int (pa_cons (pe_tup (pa_cons pe_int (pa_cons pe_int pa_nil))) pa_nil)))
        (pa_cons pe_dnewK
        (pa_cons (pe_tup (pa_cons pe_str (pa_cons pe_int pa_nil)))
        (pa_cons (pe_tup (pa_cons pe_int (pa_cons (pe_un un_neg pe_int) pa_nil)))
        (pa_cons (pe_tup (pa_cons (pv 2) (pa_cons (pe_un un_neg (pv 1)) pa_nil)))
        (pa_cons (pe_tup (pa_cons (pe_op op_mul (pv 1) (pv 2)) (pa_cons (pv 1) pa_nil))) pa_nil))))))))))))))
      (C8.pss_cut (ps_set (i := 3) scNo.nd rfl (Or.inl rfl) (pe_op op_cat (pv 3) (pe_lst
        (pa_cons (pe_tup (pa_cons (pe_op op_mul (pe_op op_mul (pv 2) (pv 1)) (pe_op op_pow pe_int pe_int)) (pa_cons (pe_op op_mul (pv 1) (pe_op op_pow pe_int pe_int)) pa_nil)))
        (pa_cons (pe_lst (pa_cons (pe_tup (pa_cons pe_int (pa_cons pe_int pa_nil))) pa_nil))
        (pa_cons (pe_tup (pa_cons pe_non (pa_cons pe_int pa_nil)))
        (pa_cons (pe_tup (pa_cons pe_int (pa_cons pe_non pa_nil)))
        (pa_cons pe_bl
        (pa_cons (pe_tup (pa_cons (pv 2) (pa_cons pe_int pa_nil))) pa_nil)))))))))
      (pss_one (ps_ret (pe_ix ix_list (pv 3) (pe_call GD hr rfl D.g D.k D.b .nil pass0 (pa_cons (pv 0) (pa_cons (pe_callB call_len_seq (by rfl) B.len PySem.boot_len (pa_cons (pv 3) pa_nil)) pa_nil))) (fun _ _ => rfl)))))))), ?_⟩
    refine ⟨_, rfl, p, l, ns, n, 9, rfl, by decide, cd (by decide) (by decide +kernel), W, by omega, fun a H1 a0 a1 W1 k1 => ?_⟩
    refine ⟨_, _, rfl, rfl, _, rfl, p, l, ns, _, 21, rfl, by decide, cd (by decide) (by decide +kernel), W1, by omega, fun b H2 b0 b1 W2 k2 => ?_⟩
    refine ⟨_, _, rfl, rfl, ?_⟩
    have two : 2 ≤ sizeLine := by decide
    have three : 3 ≤ sizeLine := by decide
    have M0 : Made p l ns (n + 2) H H2 [] := ⟨W2, k1.trans k2, fun v hv => by cases hv⟩
    refine ⟨fun σ' H' => ∃ (xs : List V) (q : Addr), σ' = [some (.ref p), some (.int (2 + a)), some (.int (b - 10)), some (.ref q)] ∧ H' q = some (.lst xs) ∧ q ≠ p ∧ xs.length = 11 ∧ Made p l ns (n + 2) H H' xs, ?_, ?_⟩
    · refine ⟨two, fun q1 h1 => ?_⟩
      have M1 := M0.tup (ys := [.int 2, .int 4]) h1 (.both (by decide))
      refine ⟨two, fun q2 h2 => ?_⟩
      have M2 := M1.tup (ys := [.int 1, .int 0]) h2 (.both (by decide))
      refine ⟨_, rfl, two, fun q3 h3 => ?_⟩
      have M3 := M2.tup (ys := [.int 3, .int (-1)]) h3 (.both (by decide))
      refine ⟨two, fun q4 h4 => ?_⟩
      have M4 := M3.tup (ys := [.int 0, .int 2]) h4 (.both (by decide))
      refine ⟨two, fun q5 h5 => ?_⟩
      have M5 := M4.tup (ys := [.int 0, .int 0]) h5 (.both (by decide))
      refine ⟨_, rfl, two, fun q6 h6 => ?_⟩
      have M6 := M5.tup (ys := [.int (-4), .int 6]) h6 (.both (by decide))
      refine ⟨two, fun q7 h7 => ?_⟩
      have M7 := M6.lst (ys := [.int 1, .int 2]) h7
      refine ⟨(by show 1 ≤ sizeLine; decide), fun q8 h8 => ?_⟩
      have M8 := M7.tup (ys := [.int 1]) h8 (.len (by decide))
      refine ⟨three, fun q9 h9 => ?_⟩
      have M9 := M8.tup (ys := [.int 1, .int 2, .int 3]) h9 (.len (by decide))
      refine ⟨two, fun q10 h10 => ?_⟩
      have M10 := M9.tup (ys := [.bl true, .int 1]) h10 (.fst (.inl ⟨_, rfl⟩) (.inr ⟨_, rfl⟩))
      refine ⟨two, fun q11 h11 => ?_⟩
      have M11 := M10.tup (ys := [.int 1, .bl true]) h11 (.snd (.inl ⟨_, rfl⟩))
      refine ⟨(by show 11 ≤ sizeLine; decide), fun q hq => ?_⟩
      have Mq := M11.more (o := .lst [.ref q1, .ref q2, .ref q3, .ref q4, .ref q5, .ref q6, .ref q7, .ref q8, .ref q9, .ref q10, .ref q11]) hq
      obtain ⟨⟨_, _, _, hp, _⟩, _⟩ := M11.w
      exact ⟨_, q, rfl, upd_same, (ne_of_none hp hq).symm, rfl, Mq⟩
    rintro σ' H3 ⟨xs, q, rfl, hq, nq, hlen, M⟩
    refine ⟨fun σ' H' => ∃ (xs : List V) (q : Addr), σ' = [some (.ref p), some (.int (2 + a)), some (.int (b - 10)), some (.ref q)] ∧ H' q = some (.lst xs) ∧ q ≠ p ∧ xs.length = 22 ∧ Made p l ns (n + 2) H H' xs, ?_, ?_⟩
    · refine ⟨_, rfl, ?_⟩
      have A3 := ((M.add .non).add (.str "1/2")).add (.int 5)
      refine ⟨(by show 0 ≤ sizeLine; decide), fun q4 h4 => ?_⟩
      have A4 := A3.tup (ys := []) h4 (.len (by decide))
      refine ⟨two, fun r5 g5 => ⟨two, fun q5 h5 => ?_⟩⟩
      have A5 := (A4.more (o := .tup [.int 1, .int 1]) g5).tup (ys := [.ref r5, .int 1]) h5 (.fst (.inr (.inr (.inr ⟨r5, _, rfl, (Kp.new (Kp.refl q5 _) h5) r5 _ upd_same (ne_of_none upd_same h5)⟩))) (.inr ⟨_, rfl⟩))
      refine ⟨two, fun r6 g6 => ⟨two, fun q6 h6 => ?_⟩⟩
      have A6 := (A5.more (o := .tup [.int 1, .int 1]) g6).tup (ys := [.int 1, .ref r6]) h6 (.snd (.inr (.inr (.inr ⟨r6, _, rfl, (Kp.new (Kp.refl q6 _) h6) r6 _ upd_same (ne_of_none upd_same h6)⟩))))
      intro q7 h7
      have A7 := (A6.more (o := .dK []) h7).add (.dk upd_same)
      refine ⟨two, fun q8 h8 => ?_⟩
      have A8 := A7.tup (ys := [.str "1", .int 1]) h8 (.fst (.inr (.inl ⟨_, rfl⟩)) (.inr ⟨_, rfl⟩))
      refine ⟨_, rfl, two, fun q9 h9 => ?_⟩
      have A9 := A8.tup (ys := [.int 0, .int (-1)]) h9 (.both (by decide))
      refine ⟨_, rfl, _, rfl, _, rfl, two, fun q10 h10 => ?_⟩
      have A10 := A9.tup (ys := [.int (b - 10), .int (-(2 + a))]) h10 (.both (fun z => by have := z.1; omega))
      refine ⟨_, rfl, _, rfl, _, _, rfl, rfl, .inl ⟨by omega, by omega⟩, _, rfl, two, fun q11 h11 => ?_⟩
      have A11 := A10.tup (ys := [.int ((2 + a) * (b - 10)), .int (2 + a)]) h11 (.both (noR_common (g := 2 + a) (by omega) (Int.dvd_mul_right _ _) (Int.dvd_refl _)))
      refine ⟨(by show 11 ≤ sizeLine; decide), fun z hz => ?_⟩
      have Az := A11.more (o := .lst [.non, .str "1/2", .int 5, .ref q4, .ref q5, .ref q6, .ref q7, .ref q8, .ref q9, .ref q10, .ref q11]) hz
      have S : Kp p H3 _ := ((((((((((((Kp.refl p H3).new h4).new g5).new h5).new g6).new h6).new h7).new h8).new h9).new h10).new h11).new (o := .lst [.non, .str "1/2", .int 5, .ref q4, .ref q5, .ref q6, .ref q7, .ref q8, .ref q9, .ref q10, .ref q11]) hz)
      have hq2 := S q _ hq nq
      have le : xs.length + 11 ≤ sizeLine := by
        rw [hlen]
        decide
      refine ⟨q, z, xs, _, rfl, rfl, hq2, upd_same, le, fun u hu => ?_⟩
      have Au := Az.more (o := .lst (xs ++ [.non, .str "1/2", .int 5, .ref q4, .ref q5, .ref q6, .ref q7, .ref q8, .ref q9, .ref q10, .ref q11])) hu
      obtain ⟨⟨_, _, _, hp, _⟩, _⟩ := Az.w
      exact ⟨_, u, rfl, upd_same, (ne_of_none hp hu).symm, by rw [List.length_append, hlen]; rfl, ⟨Au.w, Au.k, fun v hv => Au.all v (by simpa [List.append_assoc] using hv)⟩⟩
    rintro σ' H4 ⟨ys, q', rfl, hq', nq', hlen', M'⟩
    refine ⟨fun σ' H' => ∃ (xs : List V) (q : Addr), σ' = [some (.ref p), some (.int (2 + a)), some (.int (b - 10)), some (.ref q)] ∧ H' q = some (.lst xs) ∧ q ≠ p ∧ xs.length = 28 ∧ Made p l ns (n + 2) H H' xs, ?_, ?_⟩
    · refine ⟨_, rfl, _, rfl, _, rfl, _, _, rfl, rfl, .inl ⟨by omega, by omega⟩, _, _, rfl, rfl, ⟨by decide, by decide, by decide⟩, _, _, rfl, rfl, ?_⟩
      have hb1 : -(10 : Int) * 10 ≤ (b - 10) * (2 + a) ∧ (b - 10) * (2 + a) ≤ 10 * 10 := by
        have c : a = 0 ∨ a = 1 ∨ a = 2 ∨ a = 3 ∨ a = 4 ∨ a = 5 ∨ a = 6 ∨ a = 7 ∨ a = 8 := by omega
        rcases c with rfl | rfl | rfl | rfl | rfl | rfl | rfl | rfl | rfl <;> omega
      refine ⟨.inl ⟨by omega, by omega⟩, _, rfl, _, _, rfl, rfl, ⟨by decide, by decide, by decide⟩, _, _, rfl, rfl, .inl ⟨by omega, by omega⟩, two, fun q1 h1 => ?_⟩
      have A1 := M'.tup (ys := [.int ((b - 10) * (2 + a) * (10 : Int) ^ (Int.toNat 40)), .int ((2 + a) * (10 : Int) ^ (Int.toNat 20))]) h1
        (.both (noR_common (g := (10 : Int) ^ (Int.toNat 20)) (by decide +kernel) (Int.dvd_trans (by rw [p20, p40]; decide +kernel) (Int.dvd_mul_left _ _)) (Int.dvd_mul_left _ _)))
      refine ⟨two, fun g2 e2 => ⟨(by show 1 ≤ sizeLine; decide), fun q2 h2 => ?_⟩⟩
      have A2 := (A1.more (o := .tup [.int 1, .int 2]) e2).lst (ys := [.ref g2]) h2
      refine ⟨two, fun q3 h3 => ?_⟩
      have A3 := A2.tup (ys := [.non, .int 1]) h3 (.fst (.inr (.inr (.inl rfl))) (.inr ⟨_, rfl⟩))
      refine ⟨two, fun q4 h4 => ?_⟩
      have A4 := (A3.tup (ys := [.int 1, .non]) h4 (.snd (.inr (.inr (.inl rfl))))).add (.bl false)
      refine ⟨_, rfl, two, fun q5 h5 => ?_⟩
      have A5 := A4.tup (ys := [.int (b - 10), .int 0]) h5 (.both (fun z => by have := z.1; omega))
      refine ⟨(by show 6 ≤ sizeLine; decide), fun z hz => ?_⟩
      have Az := A5.more (o := .lst [.ref q1, .ref q2, .ref q3, .ref q4, .bl false, .ref q5]) hz
      have S : Kp p H4 _ := (((((((Kp.refl p H4).new h1).new e2).new h2).new h3).new h4).new h5).new (o := .lst [.ref q1, .ref q2, .ref q3, .ref q4, .bl false, .ref q5]) hz
      have hq2 := S q' _ hq' nq'
      have le : ys.length + 6 ≤ sizeLine := by
        rw [hlen']
        decide
      refine ⟨q', z, ys, _, rfl, rfl, hq2, upd_same, le, fun u hu => ?_⟩
      have Au := Az.more (o := .lst (ys ++ [.ref q1, .ref q2, .ref q3, .ref q4, .bl false, .ref q5])) hu
      obtain ⟨⟨_, _, _, hp, _⟩, _⟩ := Az.w
      exact ⟨_, u, rfl, upd_same, (ne_of_none hp hu).symm, by rw [List.length_append, hlen']; rfl, ⟨Au.w, Au.k, fun v hv => Au.all v (by simpa [List.append_assoc] using hv)⟩⟩
    rintro σ' H5 ⟨zs, q, rfl, hq, nq, hlen, M⟩
    refine ⟨_, rfl, _, rfl, _, rfl, q, _, rfl, .inl (SqL.of hq), p, l, ns, _, _, rfl, by rw [hlen]; decide, cd (by rw [hlen]; decide) (by rw [hlen]; decide +kernel), M.w, by omega, fun r H6 r0 r1 W6 k6 => ?_⟩
    rw [hlen] at r1
    have hj : r.toNat < zs.length := by omega
    have hq6 := k6 q _ hq nq
    refine ⟨q, _, _, _, rfl, rfl, SqL.of hq6, at_of (j := r.toNat) (v := zs[r.toNat]) (by omega) (List.getElem?_eq_getElem hj), ?_⟩
    obtain ⟨⟨_, _, _, hp, _⟩, _⟩ := M.w
    exact k _ H6 ((M.all _ (List.getElem_mem hj)).kp k6 hp) (W6.mono (by omega)) (M.k.trans k6)
end
end Rt
set_option Elab.async false
set_option linter.all false
set_option maxRecDepth 100000
set_option maxHeartbeats 4000000
namespace Rt
open PySem PySem.Spec PyProof.Rows L2
abbrev sCalled : Stmt := top 26
abbrev sNamed : Stmt := top 27
abbrev sWord : Stmt := top 28
/-! ### ratios as values, and what the program promises of them -/
def Rat (H : Hp) (x : V) (t b : Int) : Prop := ∃ a, x = .ref a ∧ H a = some (.tup [.int t, .int b]) ∧ IsR t b ∧ t.natAbs < 2 ^ 331 ∧ b.natAbs < 2 ^ 331
def AnyV (p : Addr) (H : Hp) (x : V) : Prop := NoR p H x ∨ ∃ t b, Rat H x t b
def Bad (p : Addr) (H : Hp) (x y : V) : Prop := (NoR p H x ∧ AnyV p H y) ∨ ((∃ t b, Rat H x t b) ∧ NoR p H y)
def num (k t b u v : Int) : Int := if k = 0 then t * v + u * b else if k = 1 then t * v - u * b else if k = 2 then t * u else t * v
def den (k t b u v : Int) : Int := if k = 3 then b * u else b * v
/-- the result of plus, minus, product, quotient -/
def IsRes (k t b u v : Int) (H : Hp) (q : Addr) : Prop := H q = some (.tup [.int (loT (num k t b u v) (den k t b u v)), .int (loB (num k t b u v) (den k t b u v))])
def spBin (CB CZ : Addr) (k : Int) : Sp := fun vs H Q E => ∃ (p : Addr) (x y : V), vs = [x, y] ∧ ((Bad p H x y ∧ ∀ H', Same H H' → E (.ref CB) none H') ∨
  ∃ t b u v, Rat H x t b ∧ Rat H y u v ∧ ((k = 3 ∧ u = 0 ∧ ∀ H', Same H H' → E (.ref CZ) none H') ∨ (¬ (k = 3 ∧ u = 0) ∧ ∀ q H', Same H H' → IsRes k t b u v H' q → Q (.ref q) H')))
def spBelow (CB : Addr) : Sp := fun vs H Q E => ∃ (p : Addr) (x y : V), vs = [x, y] ∧ ((Bad p H x y ∧ ∀ H', Same H H' → E (.ref CB) none H') ∨
  ∃ t b u v, Rat H x t b ∧ Rat H y u v ∧ ∀ H', Same H H' → Q (.bl (decide (t * v < u * b))) H')
def spRatio (CZ : Addr) : Sp := fun vs H Q E => ∃ t b : Int, vs = [.int t, .int b] ∧ ((b = 0 ∧ ∀ H', Same H H' → E (.ref CZ) none H') ∨
  (b ≠ 0 ∧ b.natAbs < 2 ^ 1000 ∧ ∀ q H', Same H H' → H' q = some (.tup [.int (loT t b), .int (loB t b)]) → Q (.ref q) H'))
/-- the six functions: what each keeps, and that its name is its own -/
structure Six (P : Program) (w : World) (K : PySem.W.Frag) (mg : Str → Option Value) (base : Heap) (CB CZ : Addr) (j : Nat) (f0 f1 f2 f3 f4 f5 : Addr) (d0 d1 d2 d3 d4 d5 : FuncData) : Prop where
  g0 : FnOk P w K mg base (L2.CX P w) j f0 d0 ["a", "b"] (spBin CB CZ 0)
  g1 : FnOk P w K mg base (L2.CX P w) j f1 d1 ["a", "b"] (spBin CB CZ 1)
  g2 : FnOk P w K mg base (L2.CX P w) j f2 d2 ["a", "b"] (spBin CB CZ 2)
  g3 : FnOk P w K mg base (L2.CX P w) j f3 d3 ["a", "b"] (spBin CB CZ 3)
  g4 : FnOk P w K mg base (L2.CX P w) j f4 d4 ["a", "b"] (spBelow CB)
  g5 : FnOk P w K mg base (L2.CX P w) j f5 d5 ["top", "bottom"] (spRatio CZ)
  n0 : Df K mg "plus" ["a", "b"] f0 d0
  n1 : Df K mg "minus" ["a", "b"] f1 d1
  n2 : Df K mg "product" ["a", "b"] f2 d2
  n3 : Df K mg "quotient" ["a", "b"] f3 d3
  n4 : Df K mg "below" ["a", "b"] f4 d4
  n5 : Df K mg "ratio" ["top", "bottom"] f5 d5
  k0 : KBn K d0 ["a", "b"] 0 ["b", "a"] (fun _ ws => ws.reverse) (fun _ zs => zs.reverse)
  k1 : KBn K d1 ["a", "b"] 0 ["b", "a"] (fun _ ws => ws.reverse) (fun _ zs => zs.reverse)
  k2 : KBn K d2 ["a", "b"] 0 ["b", "a"] (fun _ ws => ws.reverse) (fun _ zs => zs.reverse)
  k3 : KBn K d3 ["a", "b"] 0 ["b", "a"] (fun _ ws => ws.reverse) (fun _ zs => zs.reverse)
  k4 : KBn K d4 ["a", "b"] 0 ["b", "a"] (fun _ ws => ws.reverse) (fun _ zs => zs.reverse)
  k5 : KBn K d5 ["top", "bottom"] 0 ["bottom", "top"] (fun _ ws => ws.reverse) (fun _ zs => zs.reverse)
theorem ifY {k j : Int} {A B : Prop} (h : k = j) (a : A) : if decide (V.int k = V.int j) = true then A else B := by
  rw [if_pos (decide_eq_true (by rw [h]))]
  exact a
theorem ifN {k j : Int} {A B : Prop} (h : k ≠ j) (b : B) : if decide (V.int k = V.int j) = true then A else B := by
  rw [if_neg (fun z => h (V.int.inj (of_decide_eq_true z)))]
  exact b
/-- _law_called -/
def spCalled (CB CZ : Addr) : Sp := fun vs H Q E => ∃ (k : Int) (x y : V), vs = [.int k, x, y] ∧ ((k = 5 ∧ spRatio CZ [x, y] H Q E) ∨ (0 ≤ k ∧ k < 4 ∧ spBin CB CZ k [x, y] H Q E) ∨ (k = 4 ∧ spBelow CB [x, y] H Q E))
theorem scCalled : FnScope ["_law_pick", "_law_a", "_law_b"] ["_law_pick", "_law_a", "_law_b"] (defScope sCalled) := ⟨rfl, rfl, rfl, by decide +kernel, rfl, by decide +kernel, by decide +kernel⟩
theorem scNamed : FnScope ["_law_pick", "_law_a", "_law_b"] ["_law_pick", "_law_a", "_law_b"] (defScope sNamed) := ⟨rfl, rfl, rfl, by decide +kernel, rfl, by decide +kernel, by decide +kernel⟩
section
variable {P : Program} {w : World} {K : PySem.W.Frag} {mg : Str → Option Value} {base : Heap} {CB CZ : Addr} {j : Nat} {f0 f1 f2 f3 f4 f5 : Addr} {d0 d1 d2 d3 d4 d5 : FuncData}
theorem ok_called {f : Addr} {fd : FuncData} (F : Fun K "_law_called" "_law_called" sCalled f fd) (S : Six P w K mg base CB CZ j f0 f1 f2 f3 f4 f5 d0 d1 d2 d3 d4 d5) : FnOk P w K mg base (L2.CX P w) (j + 1) f fd ["_law_pick", "_law_a", "_law_b"] (spCalled CB CZ) := by
  refine F.okX scCalled (fun vs H Q E h => ?_) (fun cdv A outer s H vs Q E hr h => ?_)
  · obtain ⟨k, x, y, rfl, _⟩ := h
    rfl
  · obtain ⟨k, x, y, rfl, h⟩ := h
    refine ⟨_, pss_cons (ps_if (pt_cmpR op_eq (pv 0) pe_int (nomark _)) (pss_one (ps_ret (pe_callS S.g0 hr rfl S.n0.g S.n0.k S.n0.b (fun σ => passAt (takes_of rfl rfl rfl rfl) σ) (pa_cons (pv 1) (pa_cons (pv 2) pa_nil))))) pss_nil)
      (pss_cons (ps_if (pt_cmpR op_eq (pv 0) pe_int (nomark _)) (pss_one (ps_ret (pe_callS S.g1 hr rfl S.n1.g S.n1.k S.n1.b (fun σ => passAt (takes_of rfl rfl rfl rfl) σ) (pa_cons (pv 1) (pa_cons (pv 2) pa_nil))))) pss_nil)
      (pss_cons (ps_if (pt_cmpR op_eq (pv 0) pe_int (nomark _)) (pss_one (ps_ret (pe_callS S.g2 hr rfl S.n2.g S.n2.k S.n2.b (fun σ => passAt (takes_of rfl rfl rfl rfl) σ) (pa_cons (pv 1) (pa_cons (pv 2) pa_nil))))) pss_nil)
      (pss_cons (ps_if (pt_cmpR op_eq (pv 0) pe_int (nomark _)) (pss_one (ps_ret (pe_callS S.g3 hr rfl S.n3.g S.n3.k S.n3.b (fun σ => passAt (takes_of rfl rfl rfl rfl) σ) (pa_cons (pv 1) (pa_cons (pv 2) pa_nil))))) pss_nil)
      (pss_cons (ps_if (pt_cmpR op_eq (pv 0) pe_int (nomark _)) (pss_one (ps_ret (pe_callS S.g4 hr rfl S.n4.g S.n4.k S.n4.b (fun σ => passAt (takes_of rfl rfl rfl rfl) σ) (pa_cons (pv 1) (pa_cons (pv 2) pa_nil))))) pss_nil)
      (pss_one (ps_ret (pe_callS S.g5 hr rfl S.n5.g S.n5.k S.n5.b (fun σ => passAt (takes_of rfl rfl rfl rfl) σ) (pa_cons (pv 1) (pa_cons (pv 2) pa_nil))))))))), ?_⟩
    rcases h with ⟨rfl, h⟩ | ⟨h0, h4, h⟩ | ⟨rfl, h⟩
    · refine ⟨_, rfl, rfl, _, rfl, ifN (by decide) ⟨_, rfl, rfl, _, rfl, ifN (by decide) ⟨_, rfl, rfl, _, rfl, ifN (by decide) ⟨_, rfl, rfl, _, rfl, ifN (by decide) ⟨_, rfl, rfl, _, rfl, ifN (by decide) ⟨_, rfl, _, rfl, h⟩⟩⟩⟩⟩⟩
    · have c : k = 0 ∨ k = 1 ∨ k = 2 ∨ k = 3 := by omega
      rcases c with rfl | rfl | rfl | rfl
      · exact ⟨_, rfl, rfl, _, rfl, ifY rfl ⟨_, rfl, _, rfl, h⟩⟩
      · exact ⟨_, rfl, rfl, _, rfl, ifN (by decide) ⟨_, rfl, rfl, _, rfl, ifY rfl ⟨_, rfl, _, rfl, h⟩⟩⟩
      · exact ⟨_, rfl, rfl, _, rfl, ifN (by decide) ⟨_, rfl, rfl, _, rfl, ifN (by decide) ⟨_, rfl, rfl, _, rfl, ifY rfl ⟨_, rfl, _, rfl, h⟩⟩⟩⟩
      · exact ⟨_, rfl, rfl, _, rfl, ifN (by decide) ⟨_, rfl, rfl, _, rfl, ifN (by decide) ⟨_, rfl, rfl, _, rfl, ifN (by decide) ⟨_, rfl, rfl, _, rfl, ifY rfl ⟨_, rfl, _, rfl, h⟩⟩⟩⟩⟩
    · refine ⟨_, rfl, rfl, _, rfl, ifN (by decide) ⟨_, rfl, rfl, _, rfl, ifN (by decide) ⟨_, rfl, rfl, _, rfl, ifN (by decide) ⟨_, rfl, rfl, _, rfl, ifN (by decide) ⟨_, rfl, rfl, _, rfl, ifY rfl ⟨_, rfl, _, rfl, h⟩⟩⟩⟩⟩⟩
/-- _law_named: the same, by names; here only where nothing is raised -/
theorem ok_named {f : Addr} {fd : FuncData} (F : Fun K "_law_named" "_law_named" sNamed f fd) (S : Six P w K mg base CB CZ j f0 f1 f2 f3 f4 f5 d0 d1 d2 d3 d4 d5) : FnOk P w K mg base CX0 (j + 1) f fd ["_law_pick", "_law_a", "_law_b"] (fun vs H Q _ => spCalled CB CZ vs H Q E0) := by
  refine F.ok scNamed (fun vs H Q E h => ?_) (fun cdv A outer s H vs Q E hr h => ?_)
  · obtain ⟨k, x, y, rfl, _⟩ := h
    rfl
  · obtain ⟨k, x, y, rfl, h⟩ := h
    refine ⟨_, pss_cons (ps_if (pt_cmpR op_eq (pv 0) pe_int (nomark _)) (pss_one (ps_ret (pe_kws S.g0 hr rfl S.n0.g S.n0.k S.k0 passL (pk_cons (pv 2) (pk_cons (pv 1) pk_nil))))) pss_nil)
      (pss_cons (ps_if (pt_cmpR op_eq (pv 0) pe_int (nomark _)) (pss_one (ps_ret (pe_kws S.g1 hr rfl S.n1.g S.n1.k S.k1 passL (pk_cons (pv 2) (pk_cons (pv 1) pk_nil))))) pss_nil)
      (pss_cons (ps_if (pt_cmpR op_eq (pv 0) pe_int (nomark _)) (pss_one (ps_ret (pe_kws S.g2 hr rfl S.n2.g S.n2.k S.k2 passL (pk_cons (pv 2) (pk_cons (pv 1) pk_nil))))) pss_nil)
      (pss_cons (ps_if (pt_cmpR op_eq (pv 0) pe_int (nomark _)) (pss_one (ps_ret (pe_kws S.g3 hr rfl S.n3.g S.n3.k S.k3 passL (pk_cons (pv 2) (pk_cons (pv 1) pk_nil))))) pss_nil)
      (pss_cons (ps_if (pt_cmpR op_eq (pv 0) pe_int (nomark _)) (pss_one (ps_ret (pe_kws S.g4 hr rfl S.n4.g S.n4.k S.k4 passL (pk_cons (pv 2) (pk_cons (pv 1) pk_nil))))) pss_nil)
      (pss_one (ps_ret (pe_kws S.g5 hr rfl S.n5.g S.n5.k S.k5 passL (pk_cons (pv 2) (pk_cons (pv 1) pk_nil))))))))), ?_⟩
    rcases h with ⟨rfl, h⟩ | ⟨h0, h4, h⟩ | ⟨rfl, h⟩
    · refine ⟨_, rfl, rfl, _, rfl, ifN (by decide) ⟨_, rfl, rfl, _, rfl, ifN (by decide) ⟨_, rfl, rfl, _, rfl, ifN (by decide) ⟨_, rfl, rfl, _, rfl, ifN (by decide) ⟨_, rfl, rfl, _, rfl, ifN (by decide) ⟨_, rfl, _, rfl, rfl, h⟩⟩⟩⟩⟩⟩
    · have c : k = 0 ∨ k = 1 ∨ k = 2 ∨ k = 3 := by omega
      rcases c with rfl | rfl | rfl | rfl
      · exact ⟨_, rfl, rfl, _, rfl, ifY rfl ⟨_, rfl, _, rfl, rfl, h⟩⟩
      · exact ⟨_, rfl, rfl, _, rfl, ifN (by decide) ⟨_, rfl, rfl, _, rfl, ifY rfl ⟨_, rfl, _, rfl, rfl, h⟩⟩⟩
      · exact ⟨_, rfl, rfl, _, rfl, ifN (by decide) ⟨_, rfl, rfl, _, rfl, ifN (by decide) ⟨_, rfl, rfl, _, rfl, ifY rfl ⟨_, rfl, _, rfl, rfl, h⟩⟩⟩⟩
      · exact ⟨_, rfl, rfl, _, rfl, ifN (by decide) ⟨_, rfl, rfl, _, rfl, ifN (by decide) ⟨_, rfl, rfl, _, rfl, ifN (by decide) ⟨_, rfl, rfl, _, rfl, ifY rfl ⟨_, rfl, _, rfl, rfl, h⟩⟩⟩⟩⟩
    · refine ⟨_, rfl, rfl, _, rfl, ifN (by decide) ⟨_, rfl, rfl, _, rfl, ifN (by decide) ⟨_, rfl, rfl, _, rfl, ifN (by decide) ⟨_, rfl, rfl, _, rfl, ifN (by decide) ⟨_, rfl, rfl, _, rfl, ifY rfl ⟨_, rfl, _, rfl, rfl, h⟩⟩⟩⟩⟩⟩
end
end Rt
set_option Elab.async false
set_option linter.all false
set_option maxRecDepth 100000
set_option maxHeartbeats 4000000
namespace Rt
open PySem PySem.Spec PyProof.Rows L2
/-! ### isinstance of the error that a suite holds, its class told by the reading -/
def rIsA (K : PySem.W.Frag) (a : Addr) (ec : Value) (d : Option Addr) : List V → Hp → VK → Prop := fun xs H Q => ∃ (D : Addr) (c : V) (cv : Value) (b : Bool), ec = .ref D ∧ d = none ∧ ExcC K D ∧ xs = [.ref a, c] ∧ (∀ u, RelV c u → u = cv) ∧ PySem.W.kitOne K (.ref D) cv = some b ∧ Q (.bl b) H
theorem call_isA {X : Cx} {a : Addr} {oe : Obj} {ec : Value} {d : Option Addr} {pn : List (Addr × Obj)} (hz : Zc ec d oe) (hf : ∃ fv, oe.data = .fields fv) : CallR (X.suite a ((a, oe) :: pn)) (.builtin "isinstance") (rIsA X.K a ec d) := by
  intro pins s σ H xs us Q I r h
  obtain ⟨D, c, cv, b, e1, e2, C, e3, rel, kit, q⟩ := h
  subst e1
  subst e2
  exact call_isE C hz hf pins s σ H xs us Q I r ⟨c, cv, b, e3, rel, kit, q⟩
/-- what the top says of the three error classes -/
structure Errs (K : PySem.W.Frag) (mg : Str → Option Value) (CS CB CZ : Addr) : Prop where
  gS : mg "StepError" = some (.ref CS)
  gB : mg "BadRatio" = some (.ref CB)
  gZ : mg "ZeroBottom" = some (.ref CZ)
  nV : mg "ValueError" = none
  nI : mg "isinstance" = none
  cB : ExcC K CB
  cZ : ExcC K CZ
  bS : PySem.W.kitOne K (.ref CB) (.ref CS) = some true
  bV : PySem.W.kitOne K (.ref CB) (.type "ValueError") = some true
  bZ : PySem.W.kitOne K (.ref CB) (.ref CZ) = some false
  zS : PySem.W.kitOne K (.ref CZ) (.ref CS) = some true
  zV : PySem.W.kitOne K (.ref CZ) (.type "ValueError") = some true
  eBB : PySem.W.exmOne K (.ref CB) (.ref CB) = some true
  eZB : PySem.W.exmOne K (.ref CZ) (.ref CB) = some false
  eZZ : PySem.W.exmOne K (.ref CZ) (.ref CZ) = some true
theorem spBin_mono {CB CZ : Addr} {k : Int} {vs : List V} {H : Hp} {Q Q' : VK} {E E' : XK} (hq : ∀ v H', Q v H' → Q' v H') (he : ∀ c d H', E c d H' → E' c d H') (h : spBin CB CZ k vs H Q E) : spBin CB CZ k vs H Q' E' := by
  obtain ⟨p, x, y, e, h⟩ := h
  refine ⟨p, x, y, e, ?_⟩
  rcases h with ⟨b, h⟩ | ⟨t, b, u, v, r1, r2, h⟩
  · exact .inl ⟨b, fun H' s => he _ _ _ (h H' s)⟩
  · refine .inr ⟨t, b, u, v, r1, r2, ?_⟩
    rcases h with ⟨h1, h2, h⟩ | ⟨h1, h⟩
    · exact .inl ⟨h1, h2, fun H' s => he _ _ _ (h H' s)⟩
    · exact .inr ⟨h1, fun q H' s r => hq _ _ (h q H' s r)⟩
theorem spBelow_mono {CB : Addr} {vs : List V} {H : Hp} {Q Q' : VK} {E E' : XK} (hq : ∀ v H', Q v H' → Q' v H') (he : ∀ c d H', E c d H' → E' c d H') (h : spBelow CB vs H Q E) : spBelow CB vs H Q' E' := by
  obtain ⟨p, x, y, e, h⟩ := h
  refine ⟨p, x, y, e, ?_⟩
  rcases h with ⟨b, h⟩ | ⟨t, b, u, v, r1, r2, h⟩
  · exact .inl ⟨b, fun H' s => he _ _ _ (h H' s)⟩
  · exact .inr ⟨t, b, u, v, r1, r2, fun H' s => hq _ _ (h H' s)⟩
theorem spRatio_mono {CZ : Addr} {vs : List V} {H : Hp} {Q Q' : VK} {E E' : XK} (hq : ∀ v H', Q v H' → Q' v H') (he : ∀ c d H', E c d H' → E' c d H') (h : spRatio CZ vs H Q E) : spRatio CZ vs H Q' E' := by
  obtain ⟨t, b, e, h⟩ := h
  refine ⟨t, b, e, ?_⟩
  rcases h with ⟨b, h⟩ | ⟨b1, b2, h⟩
  · exact .inl ⟨b, fun H' s => he _ _ _ (h H' s)⟩
  · exact .inr ⟨b1, b2, fun q H' s r => hq _ _ (h q H' s r)⟩
theorem spCalled_mono {CB CZ : Addr} {vs : List V} {H : Hp} {Q Q' : VK} {E E' : XK} (hq : ∀ v H', Q v H' → Q' v H') (he : ∀ c d H', E c d H' → E' c d H') (h : spCalled CB CZ vs H Q E) : spCalled CB CZ vs H Q' E' := by
  obtain ⟨k, x, y, e, h⟩ := h
  refine ⟨k, x, y, e, ?_⟩
  rcases h with ⟨a, h⟩ | ⟨a, b, h⟩ | ⟨a, h⟩
  · exact .inl ⟨a, spRatio_mono hq he h⟩
  · exact .inr (.inl ⟨a, b, spBin_mono hq he h⟩)
  · exact .inr (.inr ⟨a, spBelow_mono hq he h⟩)
/-- _law_word: which way the call went -/
@[irreducible] def spWord (CB CZ : Addr) : Sp := fun vs H Q _ => spCalled CB CZ vs H (fun _ H' => Q (.str "none") H') (fun ec d H' => d = none ∧ ((ec = .ref CB ∧ Q (.str "bad") H') ∨ (ec = .ref CZ ∧ Q (.str "zero") H')))
theorem scWord : FnScope ["_law_pick", "_law_a", "_law_b", "_law_word_here", "e"] ["_law_pick", "_law_a", "_law_b"] (defScope sWord) := ⟨rfl, rfl, rfl, by decide +kernel, rfl, by decide +kernel, by decide +kernel⟩
/-- the suites -/
def t_suB (K : PySem.W.Frag) (CS CZ : Addr) : Addr → Value → Option Addr → TS := fun a ec d =>
  tSeq (tAsg (tC (.str "bad")) (gName 3)) (tIfS (tOr (tNot (tB (tCB (rIsA K a ec d) (tCons (tVar 4) (tCons (tC (.ref CS)) tNil))))) (tOr (tNot (tB (tCB (rIsA K a ec d) (tCons (tVar 4) (tCons (tC (.ty "ValueError")) tNil))))) (tB (tCB (rIsA K a ec d) (tCons (tVar 4) (tCons (tC (.ref CZ)) tNil))))))
    (tAsg (tC (.str "wrong")) (gName 3)) tNext)
def t_suZ (K : PySem.W.Frag) (CS : Addr) : Addr → Value → Option Addr → TS := fun a ec d =>
  tSeq (tAsg (tC (.str "zero")) (gName 3)) (tIfS (tOr (tNot (tB (tCB (rIsA K a ec d) (tCons (tVar 4) (tCons (tC (.ref CS)) tNil))))) (tNot (tB (tCB (rIsA K a ec d) (tCons (tVar 4) (tCons (tC (.ty "ValueError")) tNil))))))
    (tAsg (tC (.str "wrong")) (gName 3)) tNext)
section
variable {P : Program} {w : World} {K : PySem.W.Frag} {mg : Str → Option Value} {base : Heap} {CS CB CZ : Addr} {j : Nat}
theorem ok_word {f fC : Addr} {fd fdC : FuncData} (F : Fun K "_law_word" "_law_word" sWord f fd) (X : Errs K mg CS CB CZ)
    (GC : FnOk P w K mg base (L2.CX P w) j fC fdC ["_law_pick", "_law_a", "_law_b"] (spCalled CB CZ)) (C : Df K mg "_law_called" ["_law_pick", "_law_a", "_law_b"] fC fdC) :
    FnOk P w K mg base CX0 (j + 1) f fd ["_law_pick", "_law_a", "_law_b"] (spWord CB CZ) := by
  refine F.ok scWord (fun vs H Q E h => ?_) (fun cdv A outer s H vs Q E hr h => ?_)
  · unfold spWord at h
    obtain ⟨k, x, y, rfl, _⟩ := h
    rfl
  · unfold spWord at h
    have hc : spCalled CB CZ vs H (fun _ H' => Q (.str "none") H') (fun ec d H' => d = none ∧ ((ec = .ref CB ∧ Q (.str "bad") H') ∨ (ec = .ref CZ ∧ Q (.str "zero") H'))) := h
    obtain ⟨k, x, y, rfl, _⟩ := id hc
    refine ⟨_, pss_cons (ps_set (i := 3) scWord.nd rfl (Or.inl rfl) pe_str)
      (C8.pss_cut (ps_tryAll (tb := fun W => tDrop (tCallS (spCalled CB CZ) (WE W) (tCons (tVar 0) (tCons (tVar 1) (tCons (tVar 2) tNil))))) (Wo := fun _ _ _ _ => False)
          (l := [(.ref CB, 4, t_suB K CS CZ), (.ref CZ, 4, t_suZ K CS)]) rfl rfl scWord.nd takes0
          (fun W pn xe tk _ => pss_one (ps_expr (by exact (pe_callS GC hr rfl C.g C.k C.b (fun σ => passAt tk σ) (by exact (pa_cons (pv 0) (pa_cons (pv 1) (pa_cons (pv 2) pa_nil))))))))
          (.more ⟨rfl, by decide, .inl X.gB⟩ rfl rfl
            (fun a oe ec d pn hz hf => pss_cons (ps_set (i := 3) scWord.nd rfl (Or.inl rfl) pe_str)
              (pss_one (ps_if (PW.pt (pw_or (pt_not (pt_val (pe_callB (call_isA hz hf) (by rfl) X.nI boot_isinstance (pa_cons (pv 4) (pa_cons (pe_glob rfl X.gS rfl) pa_nil)))))
                (pw_or (pt_not (pt_val (pe_callB (call_isA hz hf) (by rfl) X.nI boot_isinstance (pa_cons (pv 4) (pa_cons (pe_bltn (v := .ty "ValueError") rfl X.nV (by decide +kernel) rfl) pa_nil)))))
                (pw_or1 (pt_val (pe_callB (call_isA hz hf) (by rfl) X.nI boot_isinstance (pa_cons (pv 4) (pa_cons (pe_glob rfl X.gZ rfl) pa_nil))))))))
                (pss_one (ps_set (i := 3) scWord.nd rfl (Or.inl rfl) pe_str)) pss_nil)))
          (.more ⟨rfl, by decide, .inl X.gZ⟩ rfl rfl
            (fun a oe ec d pn hz hf => pss_cons (ps_set (i := 3) scWord.nd rfl (Or.inl rfl) pe_str)
              (pss_one (ps_if (PW.pt (pw_or (pt_not (pt_val (pe_callB (call_isA hz hf) (by rfl) X.nI boot_isinstance (pa_cons (pv 4) (pa_cons (pe_glob rfl X.gS rfl) pa_nil)))))
                (pw_or1 (pt_not (pt_val (pe_callB (call_isA hz hf) (by rfl) X.nI boot_isinstance (pa_cons (pv 4) (pa_cons (pe_bltn (v := .ty "ValueError") rfl X.nV (by decide +kernel) rfl) pa_nil))))))))
                (pss_one (ps_set (i := 3) scWord.nd rfl (Or.inl rfl) pe_str)) pss_nil))) .none)))
      (pss_one (ps_ret (pv 3)))), ?_⟩
    refine ⟨fun σ' H' => ∃ z : Str, σ' = [some (.int k), some x, some y, some (.str z), none] ∧ Q (.str z) H', ?_, ?_⟩
    · refine ⟨_, rfl, _, rfl, _, rfl, spCalled_mono (fun v H' q => ?_) (fun ec d H' q => ?_) hc⟩
      · exact ⟨"none", rfl, q⟩
      · obtain ⟨rfl, q⟩ := q
        rcases q with ⟨rfl, q⟩ | ⟨rfl, q⟩
        · refine ⟨true, X.eBB, fun _ a na => ?_, fun z => Bool.noConfusion z⟩
          refine ⟨_, rfl, CB, _, _, true, rfl, rfl, X.cB, rfl, (fun u r => r), X.bS, _, rfl, ?_⟩
          refine ⟨_, rfl, CB, _, _, true, rfl, rfl, X.cB, rfl, (fun u r => r), X.bV, _, rfl, ?_⟩
          refine ⟨_, rfl, CB, _, _, false, rfl, rfl, X.cB, rfl, (fun u r => r), X.bZ, _, rfl, ?_⟩
          exact ⟨"bad", rfl, q⟩
        · refine ⟨false, X.eZB, (fun z => Bool.noConfusion z), fun _ => ⟨true, X.eZZ, fun _ a na => ?_, fun z => Bool.noConfusion z⟩⟩
          refine ⟨_, rfl, CZ, _, _, true, rfl, rfl, X.cZ, rfl, (fun u r => r), X.zS, _, rfl, ?_⟩
          refine ⟨_, rfl, CZ, _, _, true, rfl, rfl, X.cZ, rfl, (fun u r => r), X.zV, _, rfl, ?_⟩
          exact ⟨"zero", rfl, q⟩
    rintro σ' H' ⟨z, rfl, q⟩
    exact ⟨_, rfl, q⟩
end
end Rt
set_option Elab.async false
set_option linter.all false
set_option maxRecDepth 100000
set_option maxHeartbeats 4000000
namespace Rt
open PySem PySem.Spec PyProof.Rows L2
abbrev sDoors : Stmt := top 31
abbrev sLaw : Stmt := top 33
theorem scDue : FnScope ["_law_pick", "_law_a", "_law_b"] ["_law_pick", "_law_a", "_law_b"] (defScope sDue) := ⟨rfl, rfl, rfl, by decide +kernel, rfl, by decide +kernel, by decide +kernel⟩
theorem scInt : FnScope ["_law_thing"] ["_law_thing"] (defScope sInt) := ⟨rfl, rfl, rfl, by decide +kernel, rfl, by decide +kernel, by decide +kernel⟩
theorem scWell : FnScope ["_law_script", "_law_at"] ["_law_script", "_law_at"] (defScope sWell) := ⟨rfl, rfl, rfl, by decide +kernel, rfl, by decide +kernel, by decide +kernel⟩
theorem scTruth : FnScope ["_law_told", "_law_due_here"] ["_law_told", "_law_due_here"] (defScope sTruth) := ⟨rfl, rfl, rfl, by decide +kernel, rfl, by decide +kernel, by decide +kernel⟩
theorem scSame : FnScope ["_law_told", "_law_due_here"] ["_law_told", "_law_due_here"] (defScope sSame) := ⟨rfl, rfl, rfl, by decide +kernel, rfl, by decide +kernel, by decide +kernel⟩
def spDue : Sp := fun vs H Q _ => ∃ (k : Int) (x y : V) (t b u v : Int), vs = [.int k, x, y] ∧ 0 ≤ k ∧ k < 4 ∧ Rat H x t b ∧ Rat H y u v ∧ ¬ (k = 3 ∧ u = 0) ∧ ∀ q H', Same H H' → IsRes k t b u v H' q → Q (.ref q) H'
def spInt : Sp := fun vs H Q _ => ∃ i : Int, vs = [.int i] ∧ Q (.bl true) H
def spTruth : Sp := fun vs H Q _ => ∃ b : Bool, vs = [.bl b, .bl b] ∧ Q (.bl true) H
def spSame : Sp := fun vs H Q _ => ∃ (a c : Addr) (x y : Int), vs = [.ref a, .ref c] ∧ H a = some (.tup [.int x, .int y]) ∧ H c = some (.tup [.int x, .int y]) ∧ Q (.bl true) H
def spWell (K : PySem.W.Frag) : Sp := fun vs H Q _ => ∃ (a : Addr) (ns : List Int), vs = [.ref a, .int 0] ∧ SqL K H a (ns.map V.int) ∧ ∀ p l H', Well H' p l ns 0 → Same H H' → H p = none → Q (.ref p) H'
theorem sameNew {H H1 : Hp} {q : Addr} {o : HO} (s : Same H H1) (h : H1 q = none) : Same H (upd H1 q o) := fun b u e => by
  rw [upd_ne (ne_of_none (s b u e) h)]
  exact s b u e
theorem ratSame {H H' : Hp} {x : V} {t b : Int} (s : Same H H') (h : Rat H x t b) : Rat H' x t b := by
  obtain ⟨a, e, h, r⟩ := h
  exact ⟨a, e, s _ _ h, r⟩
theorem big {a b : Int} (ha : a.natAbs < 2 ^ 331) (hb : b.natAbs < 2 ^ 331) : CMulW a b := wide_mul ha hb (by decide) (by decide) (by decide)
theorem mul_lt {a b : Int} (ha : a.natAbs < 2 ^ 331) (hb : b.natAbs < 2 ^ 331) : (a * b).natAbs < 2 ^ 1000 := Nat.lt_of_lt_of_le (wide_lt ha hb) (Nat.pow_le_pow_right (by decide) (by decide))
section
variable {P : Program} {w : World} {K : PySem.W.Frag} {mg : Str → Option Value} {base : Heap}
theorem ok_due {f fL : Addr} {fd fdL : FuncData} (F : Fun K "_law_due" "_law_due" sDue f fd) (GL : FnOk P w K mg base CX0 2 fL fdL ["_law_top", "_law_bottom"] spLowest) (L : Df K mg "_law_lowest" ["_law_top", "_law_bottom"] fL fdL) :
    FnOk P w K mg base CX0 3 f fd ["_law_pick", "_law_a", "_law_b"] spDue := by
  refine F.ok scDue (fun vs H Q E h => ?_) (fun cdv A outer s H vs Q E hr h => ?_)
  · obtain ⟨k, x, y, t, b, u, v, rfl, _⟩ := h
    rfl
  · obtain ⟨k, x, y, t, b, u, v, rfl, h0, h4, ⟨ax, rfl, hx, rx, xt, xb⟩, ⟨ay, rfl, hy, ry, yt, yb⟩, hz, kq⟩ := h
    have two : 2 ≤ sizeLine := by decide
    refine ⟨_, pss_cons (ps_if (pt_cmpR op_eq (pv 0) pe_int (nomark _)) (pss_one (ps_ret (pe_call GL hr rfl L.g L.k L.b .nil pass0
          (pa_cons (pe_op op_add (pe_op op_mulW (pe_ix ix_tup (pv 1) pe_int (fun _ _ => rfl)) (pe_ix ix_tup (pv 2) pe_int (fun _ _ => rfl))) (pe_op op_mulW (pe_ix ix_tup (pv 2) pe_int (fun _ _ => rfl)) (pe_ix ix_tup (pv 1) pe_int (fun _ _ => rfl))))
          (pa_cons (pe_op op_mulW (pe_ix ix_tup (pv 1) pe_int (fun _ _ => rfl)) (pe_ix ix_tup (pv 2) pe_int (fun _ _ => rfl))) pa_nil))))) pss_nil)
      (pss_cons (ps_if (pt_cmpR op_eq (pv 0) pe_int (nomark _)) (pss_one (ps_ret (pe_call GL hr rfl L.g L.k L.b .nil pass0
          (pa_cons (pe_op op_sub (pe_op op_mulW (pe_ix ix_tup (pv 1) pe_int (fun _ _ => rfl)) (pe_ix ix_tup (pv 2) pe_int (fun _ _ => rfl))) (pe_op op_mulW (pe_ix ix_tup (pv 2) pe_int (fun _ _ => rfl)) (pe_ix ix_tup (pv 1) pe_int (fun _ _ => rfl))))
          (pa_cons (pe_op op_mulW (pe_ix ix_tup (pv 1) pe_int (fun _ _ => rfl)) (pe_ix ix_tup (pv 2) pe_int (fun _ _ => rfl))) pa_nil))))) pss_nil)
      (pss_cons (ps_if (pt_cmpR op_eq (pv 0) pe_int (nomark _)) (pss_one (ps_ret (pe_call GL hr rfl L.g L.k L.b .nil pass0
          (pa_cons (pe_op op_mulW (pe_ix ix_tup (pv 1) pe_int (fun _ _ => rfl)) (pe_ix ix_tup (pv 2) pe_int (fun _ _ => rfl)))
          (pa_cons (pe_op op_mulW (pe_ix ix_tup (pv 1) pe_int (fun _ _ => rfl)) (pe_ix ix_tup (pv 2) pe_int (fun _ _ => rfl))) pa_nil))))) pss_nil)
      (pss_one (ps_ret (pe_call GL hr rfl L.g L.k L.b .nil pass0
          (pa_cons (pe_op op_mulW (pe_ix ix_tup (pv 1) pe_int (fun _ _ => rfl)) (pe_ix ix_tup (pv 2) pe_int (fun _ _ => rfl)))
          (pa_cons (pe_op op_mulW (pe_ix ix_tup (pv 1) pe_int (fun _ _ => rfl)) (pe_ix ix_tup (pv 2) pe_int (fun _ _ => rfl))) pa_nil))))))), ?_⟩
    have b0 := rx.1
    have v0 := ry.1
    have nz : b * v ≠ 0 := Int.mul_ne_zero (by omega) (by omega)
    have c : k = 0 ∨ k = 1 ∨ k = 2 ∨ k = 3 := by omega
    have i0 : ∀ {p q : Int}, atI [V.int p, V.int q] 0 = some (V.int p) := at_of (j := 0) rfl rfl
    have i1 : ∀ {p q : Int}, atI [V.int p, V.int q] 1 = some (V.int q) := at_of (j := 1) rfl rfl
    have X := SqT.of (K := K) hx
    have Y := SqT.of (K := K) hy
    have fin : ∀ q, H q = none → IsRes k t b u v (upd H q (.tup [.int (loT (num k t b u v) (den k t b u v)), .int (loB (num k t b u v) (den k t b u v))])) q := fun q _ => upd_same
    rcases c with rfl | rfl | rfl | rfl
    · refine ⟨_, rfl, rfl, _, rfl, ifY rfl ?_⟩
      refine ⟨_, rfl, ax, _, _, _, rfl, rfl, X, i0, _, rfl, ay, _, _, _, rfl, rfl, Y, i1, _, _, rfl, rfl, big xt yb, _, rfl, ay, _, _, _, rfl, rfl, Y, i0, _, rfl, ax, _, _, _, rfl, rfl, X, i1, _, _, rfl, rfl, big yt xb, _, _, rfl, rfl,
        _, rfl, ax, _, _, _, rfl, rfl, X, i1, _, rfl, ay, _, _, _, rfl, rfl, Y, i1, _, _, rfl, rfl, big xb yb, _, _, rfl, nz, mul_lt xb yb, fun q hq => kq q _ (sameNew (Same.refl H) hq) (fin q hq)⟩
    · refine ⟨_, rfl, rfl, _, rfl, ifN (by decide) ⟨_, rfl, rfl, _, rfl, ifY rfl ?_⟩⟩
      refine ⟨_, rfl, ax, _, _, _, rfl, rfl, X, i0, _, rfl, ay, _, _, _, rfl, rfl, Y, i1, _, _, rfl, rfl, big xt yb, _, rfl, ay, _, _, _, rfl, rfl, Y, i0, _, rfl, ax, _, _, _, rfl, rfl, X, i1, _, _, rfl, rfl, big yt xb, _, _, rfl, rfl,
        _, rfl, ax, _, _, _, rfl, rfl, X, i1, _, rfl, ay, _, _, _, rfl, rfl, Y, i1, _, _, rfl, rfl, big xb yb, _, _, rfl, nz, mul_lt xb yb, fun q hq => kq q _ (sameNew (Same.refl H) hq) (fin q hq)⟩
    · refine ⟨_, rfl, rfl, _, rfl, ifN (by decide) ⟨_, rfl, rfl, _, rfl, ifN (by decide) ⟨_, rfl, rfl, _, rfl, ifY rfl ?_⟩⟩⟩
      refine ⟨_, rfl, ax, _, _, _, rfl, rfl, X, i0, _, rfl, ay, _, _, _, rfl, rfl, Y, i0, _, _, rfl, rfl, big xt yt,
        _, rfl, ax, _, _, _, rfl, rfl, X, i1, _, rfl, ay, _, _, _, rfl, rfl, Y, i1, _, _, rfl, rfl, big xb yb, _, _, rfl, nz, mul_lt xb yb, fun q hq => kq q _ (sameNew (Same.refl H) hq) (fin q hq)⟩
    · have u0 : u ≠ 0 := fun z => hz ⟨rfl, z⟩
      refine ⟨_, rfl, rfl, _, rfl, ifN (by decide) ⟨_, rfl, rfl, _, rfl, ifN (by decide) ⟨_, rfl, rfl, _, rfl, ifN (by decide) ?_⟩⟩⟩
      refine ⟨_, rfl, ax, _, _, _, rfl, rfl, X, i0, _, rfl, ay, _, _, _, rfl, rfl, Y, i1, _, _, rfl, rfl, big xt yb,
        _, rfl, ax, _, _, _, rfl, rfl, X, i1, _, rfl, ay, _, _, _, rfl, rfl, Y, i0, _, _, rfl, rfl, big xb yt, _, _, rfl, Int.mul_ne_zero (by omega) u0, mul_lt xb yt, fun q hq => kq q _ (sameNew (Same.refl H) hq) (fin q hq)⟩
theorem ok_int {f : Addr} {fd : FuncData} (F : Fun K "_law_int" "_law_int" sInt f fd) (nI : mg "isinstance" = none) (ni : mg "int" = none) (nb : mg "bool" = none) : FnOk P w K mg base CX0 1 f fd ["_law_thing"] spInt := by
  refine F.ok scInt (fun vs H Q E h => ?_) (fun cdv A outer s H vs Q E hr h => ?_)
  · obtain ⟨i, rfl, _⟩ := h
    rfl
  · obtain ⟨i, rfl, k⟩ := h
    refine ⟨_, pss_one (ps_ret (pe_and (pe_callB call_isi (by rfl) nI boot_isinstance (pa_cons (pv 0) (pa_cons (pe_bltn (v := .ty "int") rfl ni (by decide +kernel) rfl) pa_nil)))
      (pe_one (pe_not (pe_callB call_isi (by rfl) nI boot_isinstance (pa_cons (pv 0) (pa_cons (pe_bltn (v := .ty "bool") rfl nb (by decide +kernel) rfl) pa_nil))))))), ?_⟩
    refine ⟨_, rfl, _, _, _, _, true, rfl, .ty "int", .base (.int i), kit_ty (by decide +kernel), true, rfl, ?_⟩
    refine iteT ?_
    refine ⟨_, rfl, _, _, _, _, false, rfl, .ty "bool", .base (.int i), kit_ty (by decide +kernel), false, rfl, k⟩
theorem ok_truth {f : Addr} {fd : FuncData} (F : Fun K "_law_truth" "_law_truth" sTruth f fd) (nI : mg "isinstance" = none) (nb : mg "bool" = none) : FnOk P w K mg base CX0 1 f fd ["_law_told", "_law_due_here"] spTruth := by
  refine F.ok scTruth (fun vs H Q E h => ?_) (fun cdv A outer s H vs Q E hr h => ?_)
  · obtain ⟨b, rfl, _⟩ := h
    rfl
  · obtain ⟨b, rfl, k⟩ := h
    refine ⟨_, pss_one (ps_ret (pe_and (pe_callB call_isi (by rfl) nI boot_isinstance (pa_cons (pv 0) (pa_cons (pe_bltn (v := .ty "bool") rfl nb (by decide +kernel) rfl) pa_nil)))
      (pe_one (pe_cmpR op_eq (pv 0) (pv 1) (nomark _))))), ?_⟩
    refine ⟨_, rfl, _, _, _, _, true, rfl, .ty "bool", .base (.bl b), kit_ty (by decide +kernel), true, rfl, iteT ?_⟩
    refine ⟨_, rfl, _, rfl, rfl, ?_⟩
    show Q (.bl (decide (V.bl b = V.bl b))) H
    rw [decide_eq_true rfl]
    exact k
theorem ok_same {f fI : Addr} {fd fdI : FuncData} (F : Fun K "_law_same" "_law_same" sSame f fd) (nI : mg "isinstance" = none) (nt : mg "tuple" = none) (nl : mg "len" = none) (GI : FnOk P w K mg base CX0 1 fI fdI ["_law_thing"] spInt) (I : Df K mg "_law_int" ["_law_thing"] fI fdI) :
    FnOk P w K mg base CX0 2 f fd ["_law_told", "_law_due_here"] spSame := by
  refine F.ok scSame (fun vs H Q E h => ?_) (fun cdv A outer s H vs Q E hr h => ?_)
  · obtain ⟨a, c, x, y, rfl, _⟩ := h
    rfl
  · obtain ⟨a, c, x, y, rfl, ha, hc, k⟩ := h
    refine ⟨_, pss_cons (ps_if (PW.pt (pw_or (pt_not (pt_val (pe_callB call_isi (by rfl) nI boot_isinstance (pa_cons (pv 0) (pa_cons (pe_bltn (v := .ty "tuple") rfl nt (by decide +kernel) rfl) pa_nil)))))
        (pw_or1 (pt_cmpR op_ne (pe_callB call_len_seq (by rfl) nl PySem.boot_len (pa_cons (pv 0) pa_nil)) pe_int (nomark _))))) (pss_one (ps_ret pe_bl)) pss_nil)
      (pss_one (ps_ret (pe_and (pe_call GI hr rfl I.g I.k I.b .nil pass0 (pa_cons (pe_ix ix_tup (pv 0) pe_int (fun _ _ => rfl)) pa_nil))
        (pe_and (pe_call GI hr rfl I.g I.k I.b .nil pass0 (pa_cons (pe_ix ix_tup (pv 0) pe_int (fun _ _ => rfl)) pa_nil))
        (pe_one (pe_cmpR (op_eqD hr.units) (pv 0) (pv 1) (nomark _))))))), ?_⟩
    refine ⟨_, rfl, _, _, _, _, true, rfl, .ty "tuple", .base (.tup ha), kit_ty (by decide +kernel), true, rfl, ?_⟩
    refine ⟨_, rfl, a, _, rfl, .inr (SqT.of ha), rfl, _, rfl, ?_⟩
    refine ⟨_, rfl, a, _, _, _, rfl, rfl, SqT.of ha, at_of (j := 0) rfl rfl, x, rfl, true, rfl, iteT ?_⟩
    refine ⟨_, rfl, a, _, _, _, rfl, rfl, SqT.of ha, at_of (j := 1) rfl rfl, y, rfl, true, rfl, iteT ?_⟩
    refine ⟨_, rfl, _, rfl, .tuple [.int x, .int y], .tuple [.int x, .int y], .tup (SqT.of ha) (.cons (.int x) (.cons (.int y) .nil)), .tup (SqT.of hc) (.cons (.int x) (.cons (.int y) .nil)), rfl, rfl, ?_⟩
    have e : PyData.eqv (.tuple [.int x, .int y]) (.tuple [.int x, .int y]) = true := by simp [PyData.eqv, PyData.eqvAll]
    rw [e]
    exact k
theorem ok_well {f : Addr} {fd : FuncData} (F : Fun K "_law_well" "_law_well" sWell f fd) (nl : mg "list" = none) : FnOk P w K mg base CX0 1 f fd ["_law_script", "_law_at"] (spWell K) := by
  refine F.ok scWell (fun vs H Q E h => ?_) (fun cdv A outer s H vs Q E hr h => ?_)
  · obtain ⟨a, ns, rfl, _⟩ := h
    rfl
  · obtain ⟨a, ns, rfl, hS, k⟩ := h
    refine ⟨_, pss_one (ps_ret (pe_lst (pa_cons pe_int (pa_cons (pv 1) (pa_cons (pe_callTy call_list_of (by rfl) nl boot_list (pa_cons (pv 0) pa_nil)) (pa_cons pe_int pa_nil)))))), ?_⟩
    refine ⟨_, rfl, _, rfl, a, _, rfl, .inl hS, fun l hl => ⟨(by show 4 ≤ sizeLine; decide), fun p hp => ?_⟩⟩
    have npl : l ≠ p := ne_of_none upd_same hp
    refine k p l _ ⟨⟨0, 0, 0, upd_same, by decide, by decide, by decide, by decide, by decide⟩, by rw [upd_ne npl]; exact upd_same⟩ (sameNew (sameNew (Same.refl H) hl) hp) ?_
    rw [upd_ne npl.symm] at hp
    exact hp
end
end Rt
set_option Elab.async false
set_option linter.all false
set_option maxRecDepth 100000
set_option maxHeartbeats 4000000
namespace Rt
open PySem PySem.Spec PyProof.Rows L2
theorem scDoors : FnScope ["_law_well_here", "_law_a", "_law_b", "_law_bad", "_law_worse", "_law_zero", "_law_pick"] ["_law_well_here", "_law_a", "_law_b"] (defScope sDoors) := ⟨rfl, rfl, rfl, by decide +kernel, rfl, by decide +kernel, by decide +kernel⟩
theorem sameKp {p : Addr} {H H' : Hp} (s : Same H H') : Kp p H H' := fun b o e _ => s b o e
/-- what stands while the doors are tried -/
structure Dr (p z : Addr) (x y bad worse : V) (t b u v : Int) (H : Hp) : Prop where
  hp : ∃ ys, H p = some (.lst ys)
  rx : Rat H x t b
  ry : Rat H y u v
  nb : NoR p H bad
  nw : NoR p H worse
  hz : Rat H (.ref z) 0 1
theorem Dr.same {p z : Addr} {x y bad worse : V} {t b u v : Int} {H H' : Hp} (D : Dr p z x y bad worse t b u v H) (s : Same H H') : Dr p z x y bad worse t b u v H' := by
  obtain ⟨ys, hp⟩ := D.hp
  exact ⟨⟨ys, s _ _ hp⟩, ratSame s D.rx, ratSame s D.ry, D.nb.kp (sameKp s) hp, D.nw.kp (sameKp s) hp, ratSame s D.hz⟩
section
variable {CB CZ : Addr} {p : Addr} {H : Hp} {Q : VK} {E : XK} {k : Int} {x y : V}
theorem word_bad (h0 : 0 ≤ k) (h5 : k < 5) (b : Bad p H x y) (h : ∀ H', Same H H' → Q (.str "bad") H') : spWord CB CZ [.int k, x, y] H Q E := by
  unfold spWord
  refine ⟨k, x, y, rfl, ?_⟩
  by_cases h4 : k = 4
  · exact .inr (.inr ⟨h4, p, x, y, rfl, .inl ⟨b, fun H' s => ⟨rfl, .inl ⟨rfl, h H' s⟩⟩⟩⟩)
  · exact .inr (.inl ⟨h0, by omega, p, x, y, rfl, .inl ⟨b, fun H' s => ⟨rfl, .inl ⟨rfl, h H' s⟩⟩⟩⟩)
theorem word_none {t b u v : Int} (h0 : 0 ≤ k) (h5 : k < 5) (rx : Rat H x t b) (ry : Rat H y u v) (hz : ¬ (k = 3 ∧ u = 0)) (h : ∀ H', Same H H' → Q (.str "none") H') : spWord CB CZ [.int k, x, y] H Q E := by
  unfold spWord
  refine ⟨k, x, y, rfl, ?_⟩
  by_cases h4 : k = 4
  · exact .inr (.inr ⟨h4, 0, x, y, rfl, .inr ⟨t, b, u, v, rx, ry, fun H' s => h H' s⟩⟩)
  · exact .inr (.inl ⟨h0, by omega, 0, x, y, rfl, .inr ⟨t, b, u, v, rx, ry, .inr ⟨hz, fun q H' s _ => h H' s⟩⟩⟩)
theorem word_zero {t b v : Int} (rx : Rat H x t b) (ry : Rat H y 0 v) (h : ∀ H', Same H H' → Q (.str "zero") H') : spWord CB CZ [.int 3, x, y] H Q E := by
  unfold spWord
  exact ⟨3, x, y, rfl, .inr (.inl ⟨by decide, by decide, 0, x, y, rfl, .inr ⟨t, b, 0, v, rx, ry, .inl ⟨rfl, rfl, fun H' s => ⟨rfl, .inr ⟨rfl, h H' s⟩⟩⟩⟩⟩)⟩
theorem word5_zero {i : Int} (h : ∀ H', Same H H' → Q (.str "zero") H') : spWord CB CZ [.int 5, .int i, .int 0] H Q E := by
  unfold spWord
  exact ⟨5, _, _, rfl, .inl ⟨rfl, i, 0, rfl, .inl ⟨rfl, fun H' s => ⟨rfl, .inr ⟨rfl, h H' s⟩⟩⟩⟩⟩
theorem word5_none {i j : Int} (hj : j ≠ 0) (hl : j.natAbs < 2 ^ 1000) (h : ∀ H', Same H H' → Q (.str "none") H') : spWord CB CZ [.int 5, .int i, .int j] H Q E := by
  unfold spWord
  exact ⟨5, _, _, rfl, .inl ⟨rfl, i, j, rfl, .inr ⟨hj, hl, fun q H' s _ => h H' s⟩⟩⟩
end
def spDoors : Sp := fun vs H Q _ => ∃ (p l : Addr) (ns : List Int) (n : Nat) (x y : V) (t b u v : Int), vs = [.ref p, x, y] ∧ Well H p l ns n ∧ n + 6 ≤ 1000000 ∧ Rat H x t b ∧ Rat H y u v ∧ ∀ H', Q (.bl true) H'
section
variable {P : Program} {w : World} {K : PySem.W.Frag} {mg : Str → Option Value} {base : Heap} {CB CZ : Addr} {j : Nat}
theorem ok_doors {f fN fW : Addr} {fd fdN fdW : FuncData} (F : Fun K "_law_doors" "_law_doors" sDoors f fd) (hj : 2 ≤ j) (nR : mg "range" = none) (ni : mg "int" = none)
    (GN : FnOk P w K mg base CX0 2 fN fdN ["_law_well_here"] spNo) (N : Df K mg "_law_no_ratio" ["_law_well_here"] fN fdN)
    (GW : FnOk P w K mg base CX0 j fW fdW ["_law_pick", "_law_a", "_law_b"] (spWord CB CZ)) (W : Df K mg "_law_word" ["_law_pick", "_law_a", "_law_b"] fW fdW) :
    FnOk P w K mg base CX0 (j + 1) f fd ["_law_well_here", "_law_a", "_law_b"] spDoors := by
  refine F.ok scDoors (fun vs H Q E h => ?_) (fun cdv A outer s H vs Q E hr h => ?_)
  · obtain ⟨p, l, ns, n, x, y, t, b, u, v, rfl, _⟩ := h
    rfl
  · obtain ⟨p, l, ns, n, x, y, t, b, u, v, rfl, Wl, hn, rx, ry, kq⟩ := h
    have hr2 : Room 2 _ := hr.mono hj
    obtain ⟨ax, rfl, _⟩ := id rx
    have two : 2 ≤ sizeLine := by decide
    refine ⟨_, pss_cons (ps_set (i := 3) scDoors.nd rfl (Or.inl rfl) (pe_call GN hr2 rfl N.g N.k N.b .nil pass0 (pa_cons (pv 0) pa_nil)))
      (pss_cons (ps_set (i := 4) scDoors.nd rfl (Or.inl rfl) (pe_call GN hr2 rfl N.g N.k N.b .nil pass0 (pa_cons (pv 0) pa_nil)))
      (pss_cons (ps_set (i := 5) scDoors.nd rfl (Or.inl rfl) (pe_tup (pa_cons pe_int (pa_cons pe_int pa_nil))))
      (pss_cons (ps_for PassesOwn.never rfl (pi_range1 rfl nR (pa_cons pe_int pa_nil)) (pg_name (i := 6) scDoors.nd rfl (Or.inl rfl))
        (pss_cons (ps_if (PW.pt (pw_or (pt_cmpR op_ne (pe_call GW hr rfl W.g W.k W.b .nil pass0 (pa_cons (pv 6) (pa_cons (pv 3) (pa_cons (pv 2) pa_nil)))) pe_str (nomark _))
            (pw_or1 (pt_cmpR op_ne (pe_call GW hr rfl W.g W.k W.b .nil pass0 (pa_cons (pv 6) (pa_cons (pv 1) (pa_cons (pv 4) pa_nil)))) pe_str (nomark _))))) (pss_one (ps_ret pe_bl)) pss_nil)
        (pss_cons (ps_if (PW.pt (pw_or (pt_cmpR op_ne (pe_call GW hr rfl W.g W.k W.b .nil pass0 (pa_cons (pv 6) (pa_cons (pv 3) (pa_cons (pv 4) pa_nil)))) pe_str (nomark _))
            (pw_or1 (pt_cmpR op_ne (pe_call GW hr rfl W.g W.k W.b .nil pass0 (pa_cons (pv 6) (pa_cons (pv 3) (pa_cons (pv 5) pa_nil)))) pe_str (nomark _))))) (pss_one (ps_ret pe_bl)) pss_nil)
        (pss_cons (ps_if (pt_cmpR op_ne (pe_call GW hr rfl W.g W.k W.b .nil pass0 (pa_cons (pv 6) (pa_cons (pv 5) (pa_cons (pv 1) pa_nil))))
            (pe_ix ix_list (pe_lst (pa_cons pe_str (pa_cons pe_str pa_nil))) (pe_callTy call_int1 (by rfl) ni (by decide +kernel) (pa_cons (pe_and (pe_cmpR op_eq (pv 6) pe_int (nomark _)) (pe_one (pe_cmpR op_eq (pe_ix ix_tup (pv 1) pe_int (fun _ _ => rfl)) pe_int (nomark _)))) pa_nil)) (fun _ _ => rfl)) (nomark _)) (pss_one (ps_ret pe_bl)) pss_nil)
        (pss_one (ps_if (pt_cmpR op_ne (pe_call GW hr rfl W.g W.k W.b .nil pass0 (pa_cons (pv 6) (pa_cons (pv 1) (pa_cons (pv 5) pa_nil))))
            (pe_ix ix_list (pe_lst (pa_cons pe_str (pa_cons pe_str pa_nil))) (pe_callTy call_int1 (by rfl) ni (by decide +kernel) (pa_cons (pe_cmpR op_eq (pv 6) pe_int (nomark _)) pa_nil)) (fun _ _ => rfl)) (nomark _)) (pss_one (ps_ret pe_bl)) pss_nil))))))
      (pss_cons (ps_if (PW.pt (pw_or (pt_cmpR op_ne (pe_call GW hr rfl W.g W.k W.b .nil pass0 (pa_cons pe_int (pa_cons (pe_ix ix_tup (pv 1) pe_int (fun _ _ => rfl)) (pa_cons pe_int pa_nil)))) pe_str (nomark _))
            (pw_or1 (pt_cmpR op_ne (pe_call GW hr rfl W.g W.k W.b .nil pass0 (pa_cons pe_int (pa_cons pe_int (pa_cons pe_int pa_nil)))) pe_str (nomark _))))) (pss_one (ps_ret pe_bl)) pss_nil)
      (pss_one (ps_ret (pe_cmpR op_eq (pe_call GW hr rfl W.g W.k W.b .nil pass0 (pa_cons pe_int (pa_cons pe_int (pa_cons (pe_ix ix_tup (pv 1) pe_int (fun _ _ => rfl)) pa_nil)))) pe_str (nomark _)))))))), ?_⟩
    -- bad, worse, zero
    refine ⟨_, rfl, p, l, ns, n, rfl, Wl, by omega, fun bad H1 nb W1 k1 => ?_⟩
    obtain ⟨⟨c0, a0, e0, hp0, _⟩, _⟩ := id Wl
    obtain ⟨⟨c1, a1, e1, hp1, _⟩, _⟩ := id W1
    refine ⟨_, rfl, p, l, ns, _, rfl, W1, by omega, fun worse H2 nw W2 k2 => ?_⟩
    obtain ⟨⟨c2, a2, e2, hp2, _⟩, _⟩ := id W2
    refine ⟨two, fun z hz => ?_⟩
    have up : ∀ {x : V} {t b : Int}, Rat H x t b → Rat H2 x t b := fun {x t b} r => by
      obtain ⟨a, e, h, r⟩ := r
      exact ⟨a, e, k2.obj hp1 (k1.obj hp0 h (by intro q; cases q)) (by intro q; cases q), r⟩
    have s3 : Same H2 (upd H2 z (.tup [.int 0, .int 1])) := sameNew (Same.refl H2) hz
    have D0 : Dr p z (.ref ax) y bad worse t b u v (upd H2 z (.tup [.int 0, .int 1])) :=
      ⟨⟨_, s3 _ _ hp2⟩, ratSame s3 (up rx), ratSame s3 (up ry), (nb.kp k2 hp1).kp (sameKp s3) hp2, nw.kp (sameKp s3) hp2, z, rfl, upd_same, ⟨by decide, by decide⟩, by decide +kernel, by decide +kernel⟩
    refine ⟨5, rfl, by decide, by decide, for_range (n := 5) (fun i σ H' => ∃ vp : Option V, σ = [some (.ref p), some (.ref ax), some y, some bad, some worse, some (.ref z), vp] ∧ Dr p z (.ref ax) y bad worse t b u v H') ⟨none, rfl, D0⟩ ?_ ?_⟩
    · rintro i σ H3 hi ⟨vp, rfl, D⟩
      have g0 : (0 : Int) ≤ 0 + (i : Int) := by omega
      have g5 : (0 : Int) + (i : Int) < 5 := by omega
      generalize (0 : Int) + (i : Int) = k at g0 g5
      refine ⟨_, rfl, _, rfl, _, rfl, word_bad (p := p) g0 g5 (.inl ⟨D.nb, .inr ⟨_, _, D.ry⟩⟩) fun H4 s4 => ?_⟩
      have D4 := D.same s4
      refine ⟨rfl, _, rfl, iteNS rfl ?_⟩
      refine ⟨_, rfl, _, rfl, _, rfl, word_bad (p := p) g0 g5 (.inr ⟨⟨_, _, D4.rx⟩, D4.nw⟩) fun H5 s5 => ?_⟩
      have D5 := D4.same s5
      refine ⟨rfl, _, rfl, iteNS rfl ?_⟩
      refine ⟨_, rfl, _, rfl, _, rfl, word_bad (p := p) g0 g5 (.inl ⟨D5.nb, .inl D5.nw⟩) fun H6 s6 => ?_⟩
      have D6 := D5.same s6
      refine ⟨rfl, _, rfl, iteNS rfl ?_⟩
      refine ⟨_, rfl, _, rfl, _, rfl, word_bad (p := p) g0 g5 (.inl ⟨D6.nb, .inr ⟨_, _, D6.hz⟩⟩) fun H7 s7 => ?_⟩
      have D7 := D6.same s7
      refine ⟨rfl, _, rfl, iteNS rfl ?_⟩
      have wz : ∀ {Q' : VK} {E' : XK}, (∀ H', Same H7 H' → Q' (.str (if k = 3 ∧ t = 0 then "zero" else "none")) H') → spWord CB CZ [.int k, .ref z, .ref ax] H7 Q' E' := by
        intro Q' E' h
        by_cases c : k = 3 ∧ t = 0
        · rw [if_pos c] at h
          obtain ⟨rfl, rfl⟩ := c
          exact word_zero D7.hz D7.rx h
        · rw [if_neg c] at h
          exact word_none g0 g5 D7.hz D7.rx c h
      refine ⟨_, rfl, _, rfl, _, rfl, wz fun H8 s8 => ?_⟩
      have D8 := D7.same s8
      refine ⟨two, fun li hli => ⟨_, rfl, rfl, _, rfl, ?_⟩⟩
      obtain ⟨a8, e8, h8, _⟩ := id D8.rx
      cases e8
      have s9 : Same H8 (upd H8 li (.lst [.str "none", .str "zero"])) := sameNew (Same.refl H8) hli
      have D9 := D8.same s9
      have back : ∀ {A B : Prop} {w1 w2 : Str}, w1 = w2 → B → if (!decide (V.str w1 = V.str w2)) = true then A else B := fun e h => iteNS (by rw [e]) h
      have wz2 : ∀ {H9 : Hp} {Q' : VK} {E' : XK}, Dr p z (.ref ax) y bad worse t b u v H9 → (∀ H', Same H9 H' → Q' (.str (if k = 3 then "zero" else "none")) H') → spWord CB CZ [.int k, .ref ax, .ref z] H9 Q' E' := by
        intro H9 Q' E' D9 h
        by_cases c : k = 3
        · rw [if_pos c] at h
          subst c
          exact word_zero D9.rx D9.hz h
        · rw [if_neg c] at h
          exact word_none g0 g5 D9.rx D9.hz (fun q => c q.1) h
      by_cases hk : k = 3
      · refine ifY hk ?_
        refine ⟨_, rfl, ax, _, _, _, rfl, rfl, SqT.of (s9 _ _ h8), at_of (j := 0) rfl rfl, rfl, .inr ⟨_, rfl, ?_⟩⟩
        by_cases ht : t = 0
        · refine ⟨li, _, _, .str "zero", rfl, rfl, SqL.of upd_same, at_of (j := 1) (by rw [if_pos (decide_eq_true (by rw [ht]))]; rfl) rfl, rfl, _, rfl, back (if_pos ⟨hk, ht⟩) ?_⟩
          refine ⟨_, rfl, _, rfl, _, rfl, wz2 D9 fun H10 s10 => ?_⟩
          refine ⟨two, fun lj hlj => ⟨_, rfl, rfl, .inr ⟨_, rfl, ?_⟩⟩⟩
          have Dz := (D9.same s10).same (sameNew (o := .lst [.str "none", .str "zero"]) (Same.refl H10) hlj)
          by_cases hk3 : k = 3
          · exact ⟨lj, _, _, .str "zero", rfl, rfl, SqL.of upd_same, at_of (j := 1) (by rw [if_pos (decide_eq_true (by rw [hk3]))]; rfl) rfl, rfl, _, rfl, back (if_pos hk3) ⟨_, rfl, Dz⟩⟩
          · exact ⟨lj, _, _, .str "none", rfl, rfl, SqL.of upd_same, at_of (j := 0) (by rw [if_neg (fun q => hk3 (V.int.inj (of_decide_eq_true q)))]; rfl) rfl, rfl, _, rfl, back (if_neg hk3) ⟨_, rfl, Dz⟩⟩
        · refine ⟨li, _, _, .str "none", rfl, rfl, SqL.of upd_same, at_of (j := 0) (by rw [if_neg (fun q => ht (V.int.inj (of_decide_eq_true q)))]; rfl) rfl, rfl, _, rfl, back (if_neg fun q => ht q.2) ?_⟩
          refine ⟨_, rfl, _, rfl, _, rfl, wz2 D9 fun H10 s10 => ?_⟩
          refine ⟨two, fun lj hlj => ⟨_, rfl, rfl, .inr ⟨_, rfl, ?_⟩⟩⟩
          have Dz := (D9.same s10).same (sameNew (o := .lst [.str "none", .str "zero"]) (Same.refl H10) hlj)
          by_cases hk3 : k = 3
          · exact ⟨lj, _, _, .str "zero", rfl, rfl, SqL.of upd_same, at_of (j := 1) (by rw [if_pos (decide_eq_true (by rw [hk3]))]; rfl) rfl, rfl, _, rfl, back (if_pos hk3) ⟨_, rfl, Dz⟩⟩
          · exact ⟨lj, _, _, .str "none", rfl, rfl, SqL.of upd_same, at_of (j := 0) (by rw [if_neg (fun q => hk3 (V.int.inj (of_decide_eq_true q)))]; rfl) rfl, rfl, _, rfl, back (if_neg hk3) ⟨_, rfl, Dz⟩⟩
      · refine ifN hk ?_
        refine .inr ⟨_, rfl, li, _, _, .str "none", rfl, rfl, SqL.of upd_same, at_of (j := 0) rfl rfl, rfl, _, rfl, back (if_neg fun q => hk q.1) ?_⟩
        refine ⟨_, rfl, _, rfl, _, rfl, wz2 D9 fun H10 s10 => ?_⟩
        refine ⟨two, fun lj hlj => ⟨_, rfl, rfl, .inr ⟨_, rfl, ?_⟩⟩⟩
        have Dz := (D9.same s10).same (sameNew (o := .lst [.str "none", .str "zero"]) (Same.refl H10) hlj)
        by_cases hk3 : k = 3
        · exact ⟨lj, _, _, .str "zero", rfl, rfl, SqL.of upd_same, at_of (j := 1) (by rw [if_pos (decide_eq_true (by rw [hk3]))]; rfl) rfl, rfl, _, rfl, back (if_pos hk3) ⟨_, rfl, Dz⟩⟩
        · exact ⟨lj, _, _, .str "none", rfl, rfl, SqL.of upd_same, at_of (j := 0) (by rw [if_neg (fun q => hk3 (V.int.inj (of_decide_eq_true q)))]; rfl) rfl, rfl, _, rfl, back (if_neg hk3) ⟨_, rfl, Dz⟩⟩
    · rintro σ H3 ⟨vp, rfl, D⟩
      obtain ⟨a, ea, ha, hR, ht, hb⟩ := id D.rx
      cases ea
      refine ⟨_, rfl, ax, _, _, _, rfl, rfl, SqT.of ha, at_of (j := 0) rfl rfl, word5_zero fun H4 s4 => ?_⟩
      refine ⟨rfl, _, rfl, iteNS rfl ?_⟩
      refine word5_zero fun H5 s5 => ?_
      refine ⟨rfl, _, rfl, iteNS rfl ?_⟩
      have ha5 := s5 _ _ (s4 _ _ ha)
      refine ⟨_, rfl, ax, _, _, _, rfl, rfl, SqT.of ha5, at_of (j := 1) rfl rfl, word5_none (by have := hR.1; omega) (Nat.lt_of_lt_of_le hb (Nat.pow_le_pow_right (by decide) (by decide))) fun H6 s6 => ?_⟩
      refine ⟨rfl, ?_⟩
      show Q (.bl (decide (V.str "none" = V.str "none"))) H6
      rw [decide_eq_true rfl]
      exact kq H6
end
end Rt
set_option Elab.async false
set_option linter.all false
set_option maxRecDepth 100000
set_option maxHeartbeats 8000000
namespace Rt
open PySem PySem.Spec PyProof.Rows L2
theorem scLaw : FnScope ["_law_script", "_law_well_here", "_law_kept", "_law_k", "_law_top", "_law_bottom", "_law_due_here", "_law_a", "_law_b", "_law_pick"] ["_law_script"] (defScope sLaw) := ⟨rfl, rfl, rfl, by decide +kernel, rfl, by decide +kernel, by decide +kernel⟩
def spLaw (K : PySem.W.Frag) : Sp := fun vs H Q _ => ∃ (a : Addr) (ns : List Int), vs = [.ref a] ∧ SqL K H a (ns.map V.int) ∧ ns.length ≤ 63 ∧ ∀ H', Q (.bl true) H'
/-- what the law keeps: the well at p, the ratios so far at q -/
structure Kept (p l q : Addr) (ns : List Int) (n : Nat) (xs : List V) (H : Hp) : Prop where
  w : Well H p l ns n
  k : H q = some (.lst xs)
  np : q ≠ p
  nl : q ≠ l
  all : ∀ x ∈ xs, ∃ t b, Rat H x t b
theorem Kept.same {p l q : Addr} {ns : List Int} {n : Nat} {xs : List V} {H H' : Hp} (D : Kept p l q ns n xs H) (s : Same H H') : Kept p l q ns n xs H' := by
  obtain ⟨⟨⟨c, a, k, hp, r⟩, hl⟩, hk, np, nl, all⟩ := D
  refine ⟨⟨⟨c, a, k, s _ _ hp, r⟩, s _ _ hl⟩, s _ _ hk, np, nl, fun x hx => ?_⟩
  obtain ⟨t, b, h⟩ := all x hx
  exact ⟨t, b, ratSame s h⟩
theorem ratKp {p : Addr} {ys : List V} {H H' : Hp} {x : V} {t b : Int} (k : Kp p H H') (hp : H p = some (.lst ys)) (h : Rat H x t b) : Rat H' x t b := by
  obtain ⟨a, e, h, r⟩ := h
  exact ⟨a, e, k.obj hp h (by intro q; cases q), r⟩
theorem Kept.kp {p l q : Addr} {ns : List Int} {n m : Nat} {xs : List V} {H H' : Hp} (D : Kept p l q ns n xs H) (k : Kp p H H') (w : Well H' p l ns m) : Kept p l q ns m xs H' := by
  obtain ⟨⟨⟨c, a, e, hp, r⟩, hl⟩, hk, np, nl, all⟩ := D
  refine ⟨w, k _ _ hk np, np, nl, fun x hx => ?_⟩
  obtain ⟨t, b, h⟩ := all x hx
  exact ⟨t, b, ratKp k hp h⟩
theorem Kept.app {p l q : Addr} {ns : List Int} {n : Nat} {xs : List V} {H : Hp} {x : V} {t b : Int} (D : Kept p l q ns n xs H) (r : Rat H x t b) : Kept p l q ns n (xs ++ [x]) (upd H q (.lst (xs ++ [x]))) := by
  obtain ⟨⟨⟨c, a, e, hp, r'⟩, hl⟩, hk, np, nl, all⟩ := D
  have tu : ∀ {a : Addr} {ys : List V}, H a = some (.tup ys) → upd H q (.lst (xs ++ [x])) a = some (.tup ys) := fun h => by
    rw [upd_ne (ne_of h hk (by intro z; cases z))]
    exact h
  refine ⟨⟨⟨c, a, e, by rw [upd_ne np.symm]; exact hp, r'⟩, by rw [upd_ne nl.symm]; exact hl⟩, upd_same, np, nl, fun y hy => ?_⟩
  rcases List.mem_append.mp hy with hy | hy
  · obtain ⟨t, b, a, e, h, r⟩ := all y hy
    exact ⟨t, b, a, e, tu h, r⟩
  · rw [List.mem_singleton.mp hy]
    obtain ⟨a, e, h, r⟩ := r
    exact ⟨t, b, a, e, tu h, r⟩
theorem ifT {c : Prop} [Decidable c] {A B : Prop} (h : c) (a : A) : if decide c = true then A else B := by
  rw [if_pos (decide_eq_true h)]
  exact a
theorem ifF {c : Prop} [Decidable c] {A B : Prop} (h : ¬ c) (b : B) : if decide c = true then A else B := by
  rw [if_neg (fun z => h (of_decide_eq_true z))]
  exact b
theorem ifNT {u : Int} {A B : Prop} (h : u ≠ 0) (a : A) : if (!decide (V.int u = V.int 0)) = true then A else B := by
  rw [decide_eq_false (fun z => h (V.int.inj z))]
  exact a
theorem ifNF {u : Int} {A B : Prop} (h : u = 0) (b : B) : if (!decide (V.int u = V.int 0)) = true then A else B := by
  rw [h]
  exact iteNS rfl b
section
variable {P : Program} {w : World} {K : PySem.W.Frag} {mg : Str → Option Value} {base : Heap} {CB CZ : Addr} {j : Nat} {f0 f1 f2 f3 f4 f5 : Addr} {d0 d1 d2 d3 d4 d5 : FuncData}
theorem ok_law {f fWl fP fL fSm fNm fD fDu fCl fTr fDo : Addr} {fd dWl dP dL dSm dNm dD dDu dCl dTr dDo : FuncData} (F : Fun K "law" "law" sLaw f fd) (hj : 3 ≤ j) (nR : mg "range" = none) (nl : mg "len" = none)
    (S : Six P w K mg base CB CZ j f0 f1 f2 f3 f4 f5 d0 d1 d2 d3 d4 d5)
    (GWl : FnOk P w K mg base CX0 1 fWl dWl ["_law_script", "_law_at"] (spWell K)) (Wl : Df K mg "_law_well" ["_law_script", "_law_at"] fWl dWl)
    (GP : FnOk P w K mg base CX0 3 fP dP ["_law_well_here"] spPair) (Pr : Df K mg "_law_pair" ["_law_well_here"] fP dP)
    (GL : FnOk P w K mg base CX0 2 fL dL ["_law_top", "_law_bottom"] spLowest) (L : Df K mg "_law_lowest" ["_law_top", "_law_bottom"] fL dL)
    (GS : FnOk P w K mg base CX0 2 fSm dSm ["_law_told", "_law_due_here"] spSame) (Sm : Df K mg "_law_same" ["_law_told", "_law_due_here"] fSm dSm)
    (GNm : FnOk P w K mg base CX0 (j + 1) fNm dNm ["_law_pick", "_law_a", "_law_b"] (fun vs H Q _ => spCalled CB CZ vs H Q E0)) (Nm : Df K mg "_law_named" ["_law_pick", "_law_a", "_law_b"] fNm dNm)
    (GD : FnOk P w K mg base CX0 1 fD dD ["_law_well_here", "_law_many"] spDraw) (D : Df K mg "_law_draw" ["_law_well_here", "_law_many"] fD dD)
    (GDu : FnOk P w K mg base CX0 3 fDu dDu ["_law_pick", "_law_a", "_law_b"] spDue) (Du : Df K mg "_law_due" ["_law_pick", "_law_a", "_law_b"] fDu dDu)
    (GCl : FnOk P w K mg base (L2.CX P w) (j + 1) fCl dCl ["_law_pick", "_law_a", "_law_b"] (spCalled CB CZ)) (Cl : Df K mg "_law_called" ["_law_pick", "_law_a", "_law_b"] fCl dCl)
    (GTr : FnOk P w K mg base CX0 1 fTr dTr ["_law_told", "_law_due_here"] spTruth) (Tr : Df K mg "_law_truth" ["_law_told", "_law_due_here"] fTr dTr)
    (GDo : FnOk P w K mg base CX0 (j + 3) fDo dDo ["_law_well_here", "_law_a", "_law_b"] spDoors) (Do : Df K mg "_law_doors" ["_law_well_here", "_law_a", "_law_b"] fDo dDo) :
    FnOk P w K mg base CX0 (j + 4) f fd ["_law_script"] (spLaw K) := by
  refine F.ok scLaw (fun vs H Q E h => ?_) (fun cdv A outer s H vs Q E hr h => ?_)
  · obtain ⟨a, ns, rfl, _⟩ := h
    rfl
  · obtain ⟨a, ns, rfl, hS, hlen, kq⟩ := h
    have r1 : Room 1 _ := hr.mono (by omega)
    have r2 : Room 2 _ := hr.mono (by omega)
    have r3 : Room 3 _ := hr.mono (by omega)
    have rj : Room j _ := hr.mono (by omega)
    have rj1 : Room (j + 1) _ := hr.mono (by omega)
    have two : 2 ≤ sizeLine := by decide
    refine ⟨_, pss_cons (ps_set (i := 1) scLaw.nd rfl (Or.inl rfl) (pe_call GWl r1 (by rfl) Wl.g Wl.k Wl.b .nil pass0 (pa_cons (pv 0) (pa_cons pe_int pa_nil))))
      (pss_cons (ps_set (i := 2) scLaw.nd rfl (Or.inl rfl) (pe_lst (pa_cons (pe_tup (pa_cons pe_int (pa_cons pe_int pa_nil))) pa_nil)))
      (pss_cons (ps_for PassesOwn.never rfl (pi_range1 (by rfl) nR (pa_cons pe_int pa_nil)) (pg_name (i := 3) scLaw.nd rfl (Or.inl rfl))
        (pss_cons (ps_asg (pe_call GP r3 (by rfl) Pr.g Pr.k Pr.b .nil pass0 (pa_cons (pv 1) pa_nil)) (pg_tup rfl (pgs_cons (pg_name (i := 4) scLaw.nd rfl (Or.inl rfl)) (pgs_cons (pg_name (i := 5) scLaw.nd rfl (Or.inl rfl)) pgs_nil))))
        (pss_cons (ps_set (i := 6) scLaw.nd rfl (Or.inl rfl) (pe_call GL r2 (by rfl) L.g L.k L.b .nil pass0 (pa_cons (pv 4) (pa_cons (pv 5) pa_nil))))
        (pss_cons (ps_if (PW.pt (pw_or (pt_not (pt_val (pe_call GS r2 (by rfl) Sm.g Sm.k Sm.b .nil pass0 (pa_cons (pe_call S.g5 rj (by rfl) S.n5.g S.n5.k S.n5.b .nil passL (pa_cons (pv 4) (pa_cons (pv 5) pa_nil))) (pa_cons (pv 6) pa_nil)))))
            (pw_or1 (pt_not (pt_val (pe_call GS r2 (by rfl) Sm.g Sm.k Sm.b .nil pass0 (pa_cons (pe_call GNm rj1 (by rfl) Nm.g Nm.k Nm.b .nil pass0 (pa_cons pe_int (pa_cons (pv 4) (pa_cons (pv 5) pa_nil)))) (pa_cons (pv 6) pa_nil)))))))) (pss_one (ps_ret pe_bl)) pss_nil)
        (pss_one (ps_expr (pe_bm PySem.F.plainAttrs_list PySem.F.slot_list_append PySem.F.type_list_append mt_append (pv 2) (pa_cons (pv 6) pa_nil))))))))
      (pss_cons (ps_for PassesOwn.never rfl (pi_list (pv 2)) (pg_name (i := 7) scLaw.nd rfl (Or.inl rfl))
        (pss_cons (ps_set (i := 8) scLaw.nd rfl (Or.inl rfl) (pe_ix ix_list (pv 2) (pe_call GD r1 (by rfl) D.g D.k D.b .nil pass0 (pa_cons (pv 1) (pa_cons (pe_callB call_len_seq (by rfl) nl PySem.boot_len (pa_cons (pv 2) pa_nil)) pa_nil))) (fun _ _ => rfl)))
        (pss_cons (ps_for PassesOwn.never rfl (pi_range1 (by rfl) nR (pa_cons pe_int pa_nil)) (pg_name (i := 9) scLaw.nd rfl (Or.inl rfl))
          (pss_one (ps_if (PW.pt (pw_or (pt_cmpR op_lt (pv 9) pe_int (nomark _)) (pw_or1 (pt_cmpR op_ne (pe_ix ix_tup (pv 8) pe_int (fun _ _ => rfl)) pe_int (nomark _)))))
            (pss_cons (ps_set (i := 6) scLaw.nd rfl (Or.inl rfl) (pe_call GDu r3 (by rfl) Du.g Du.k Du.b .nil pass0 (pa_cons (pv 9) (pa_cons (pv 7) (pa_cons (pv 8) pa_nil)))))
            (pss_one (ps_if (PW.pt (pw_or (pt_not (pt_val (pe_call GS r2 (by rfl) Sm.g Sm.k Sm.b .nil pass0 (pa_cons (pe_call GCl rj1 (by rfl) Cl.g Cl.k Cl.b .nil passL (pa_cons (pv 9) (pa_cons (pv 7) (pa_cons (pv 8) pa_nil)))) (pa_cons (pv 6) pa_nil)))))
              (pw_or1 (pt_not (pt_val (pe_call GS r2 (by rfl) Sm.g Sm.k Sm.b .nil pass0 (pa_cons (pe_call GNm rj1 (by rfl) Nm.g Nm.k Nm.b .nil pass0 (pa_cons (pv 9) (pa_cons (pv 7) (pa_cons (pv 8) pa_nil)))) (pa_cons (pv 6) pa_nil)))))))) (pss_one (ps_ret pe_bl)) pss_nil)))
            pss_nil)))
        (pss_one (ps_if (PW.pt (pw_or (pt_not (pt_val (pe_call GTr r1 (by rfl) Tr.g Tr.k Tr.b .nil pass0 (pa_cons (pe_call S.g4 rj (by rfl) S.n4.g S.n4.k S.n4.b .nil passL (pa_cons (pv 7) (pa_cons (pv 8) pa_nil)))
              (pa_cons (pe_cmpR op_lt (pe_op op_mulW (pe_ix ix_tup (pv 7) pe_int (fun _ _ => rfl)) (pe_ix ix_tup (pv 8) pe_int (fun _ _ => rfl))) (pe_op op_mulW (pe_ix ix_tup (pv 8) pe_int (fun _ _ => rfl)) (pe_ix ix_tup (pv 7) pe_int (fun _ _ => rfl))) (nomark _)) pa_nil)))))
            (pw_or1 (pt_not (pt_val (pe_call GTr r1 (by rfl) Tr.g Tr.k Tr.b .nil pass0 (pa_cons (pe_call GNm rj1 (by rfl) Nm.g Nm.k Nm.b .nil pass0 (pa_cons pe_int (pa_cons (pv 7) (pa_cons (pv 7) pa_nil)))) (pa_cons pe_bl pa_nil)))))))) (pss_one (ps_ret pe_bl)) pss_nil)))))
      (pss_one (ps_ret (pe_call GDo hr (by rfl) Do.g Do.k Do.b .nil pass0 (pa_cons (pv 1) (pa_cons (pe_ix ix_list (pv 2) pe_int (fun _ _ => rfl)) (pa_cons (pe_ix ix_list (pv 2) pe_int (fun _ _ => rfl)) pa_nil))))))))), ?_⟩
    have up3 : ∀ {x : Int}, x.natAbs < 2 ^ 330 → x.natAbs < 2 ^ 1000 := fun h => Nat.lt_of_lt_of_le h (Nat.pow_le_pow_right (by decide) (by decide))
    have up1 : ∀ {x y : Int}, y.natAbs ≤ x.natAbs → x.natAbs < 2 ^ 330 → y.natAbs < 2 ^ 331 := fun e h => Nat.lt_of_le_of_lt e (Nat.lt_of_lt_of_le h (Nat.pow_le_pow_right (by decide) (by decide)))
    -- the well, the kept
    refine ⟨_, rfl, a, ns, rfl, hS, fun p l H1 W1 s1 hp1 => ?_⟩
    refine ⟨two, fun t0 ht0 => ⟨(by show 1 ≤ sizeLine; decide), fun q hq => ?_⟩⟩
    have K0 : Kept p l q ns 0 [.ref t0] (upd (upd H1 t0 (.tup [.int 0, .int 1])) q (.lst [.ref t0])) := by
      have W2 := W1.new (o := .tup [.int 0, .int 1]) ht0
      obtain ⟨⟨_, _, _, hp2, _⟩, hl2⟩ := id W2
      refine ⟨W2.new hq, upd_same, (ne_of_none hp2 hq).symm, (ne_of_none hl2 hq).symm, fun x hx => ?_⟩
      rw [List.mem_singleton.mp hx]
      exact ⟨0, 1, t0, rfl, (upd_ne (ne_of_none upd_same hq)).trans upd_same, ⟨by decide, by decide⟩, by decide +kernel, by decide +kernel⟩
    refine ⟨5, rfl, by decide, by decide, for_range (n := 5) (fun i σ H' => ∃ (v3 v4 v5 v6 : Option V) (xs : List V), σ = [some (.ref a), some (.ref p), some (.ref q), v3, v4, v5, v6, none, none, none] ∧ xs.length = i + 1 ∧ Kept p l q ns (10 * i) xs H')
      ⟨none, none, none, none, _, rfl, rfl, K0⟩ ?_ ?_⟩
    · rintro i σ H3 hi ⟨v3, v4, v5, v6, xs, rfl, hxs, D3⟩
      refine ⟨_, rfl, p, l, ns, _, rfl, D3.w, by omega, fun t b e4 H4 ht hb hb0 W4 k4 he4 => ?_⟩
      have D4 := D3.kp k4 W4
      refine ⟨e4, _, rfl, SqT.of he4, rfl, _, _, rfl, _, _, rfl, rfl, ?_⟩
      refine ⟨_, rfl, _, rfl, t, b, rfl, hb0, up3 hb, fun d hd => ?_⟩
      have s5 : Same H4 (upd H4 d (.tup [.int (loT t b), .int (loB t b)])) := sameNew (Same.refl H4) hd
      have D5 := D4.same s5
      have R5 : Rat (upd H4 d (.tup [.int (loT t b), .int (loB t b)])) (.ref d) (loT t b) (loB t b) := ⟨d, rfl, upd_same, lo_isR hb0, up1 loT_le ht, up1 loB_le hb⟩
      refine ⟨_, rfl, _, rfl, t, b, rfl, .inr ⟨hb0, up3 hb, fun q6 H6 s6 h6 => ?_⟩⟩
      refine ⟨_, rfl, q6, d, _, _, rfl, h6, s6 _ _ upd_same, true, rfl, ?_⟩
      refine ⟨_, rfl, _, rfl, 5, _, _, rfl, .inl ⟨rfl, t, b, rfl, .inr ⟨hb0, up3 hb, fun q7 H7 s7 h7 => ?_⟩⟩⟩
      refine ⟨_, rfl, q7, d, _, _, rfl, h7, s7 _ _ (s6 _ _ upd_same), true, rfl, ?_⟩
      have D7 := (D5.same s6).same s7
      have R7 := ratSame s7 (ratSame s6 R5)
      refine ⟨_, rfl, .inl ⟨rfl, _, SqL.of D7.k⟩, _, rfl, q, _, _, rfl, rfl, D7.k, small1000 (by omega), ?_⟩
      exact ⟨_, _, _, _, xs ++ [.ref d], rfl, by rw [List.length_append, hxs]; rfl, (by rw [show 10 * (i + 1) = 10 * i + 10 by omega]; exact D7.app R7)⟩
    rintro σ H3 ⟨v3, v4, v5, v6, xs, rfl, hxs, D3⟩
    refine ⟨_, rfl, q, rfl, ⟨_, SqL.of D3.k⟩, for_list (K := K) (a := q) (xs := xs) (fun i σ H' => ∃ (v3 v4 v5 v6 v7 v8 v9 : Option V), σ = [some (.ref a), some (.ref p), some (.ref q), v3, v4, v5, v6, v7, v8, v9] ∧ Kept p l q ns (50 + i) xs H')
      ⟨v3, v4, v5, v6, none, none, none, rfl, D3⟩ (fun i σ H' _ h => by obtain ⟨_, _, _, _, _, _, _, _, D⟩ := h; exact SqL.of D.k) ?_ ?_⟩
    · rintro i x σ H4 hi ⟨w3, w4, w5, w6, w7, w8, w9, rfl, D4⟩
      have hil : i < xs.length := (List.getElem?_eq_some_iff.mp hi).1
      have hxm : x ∈ xs := List.mem_of_getElem? hi
      refine ⟨_, rfl, _, rfl, _, rfl, q, _, rfl, .inl (SqL.of D4.k), p, l, ns, _, _, rfl, by omega, cd (by omega) (by rw [hxs]; decide +kernel), D4.w, by omega, fun r H5 r0 r1 W5 k5 => ?_⟩
      have D5 := D4.kp k5 W5
      have hj : r.toNat < xs.length := by omega
      refine ⟨q, _, _, _, rfl, rfl, SqL.of D5.k, at_of (j := r.toNat) (v := xs[r.toNat]) (by omega) (List.getElem?_eq_getElem hj), ?_⟩
      have hym : xs[r.toNat] ∈ xs := List.getElem_mem hj
      generalize xs[r.toNat] = y at hym
      refine ⟨4, rfl, by decide, by decide, for_range (n := 4) (fun _ σ H' => ∃ (v6 v9 : Option V), σ = [some (.ref a), some (.ref p), some (.ref q), w3, w4, w5, v6, some x, some y, v9] ∧ Kept p l q ns (50 + (i + 1)) xs H') ⟨w6, w9, rfl, D5⟩ ?_ ?_⟩
      · rintro i' σ H6 hi' ⟨v6, v9, rfl, D6⟩
        have g0 : (0 : Int) ≤ 0 + (i' : Int) := by omega
        have g4 : (0 : Int) + (i' : Int) < 4 := by omega
        generalize (0 : Int) + (i' : Int) = k at g0 g4
        obtain ⟨t, b, rx⟩ := D6.all x hxm
        obtain ⟨u, v, ry⟩ := D6.all y hym
        obtain ⟨ay, rfl, hay, _⟩ := id ry
        refine ⟨_, rfl, _, _, rfl, rfl, _, rfl, ?_⟩
        by_cases h3 : k < 3
        · refine ifT h3 (iteT ?_)
          have hz : ¬ (k = 3 ∧ u = 0) := fun z => by omega
          refine ⟨_, rfl, _, rfl, _, rfl, k, x, .ref ay, t, b, u, v, rfl, g0, g4, rx, ry, hz, fun d H7 s7 h7 => ?_⟩
          have rx7 := ratSame s7 rx
          have ry7 := ratSame s7 ry
          refine ⟨_, rfl, _, rfl, _, rfl, k, x, .ref ay, rfl, .inr (.inl ⟨g0, g4, 0, x, .ref ay, rfl, .inr ⟨t, b, u, v, rx7, ry7, .inr ⟨hz, fun q8 H8 s8 h8 => ?_⟩⟩⟩)⟩
          refine ⟨_, rfl, q8, d, _, _, rfl, h8, s8 _ _ h7, true, rfl, ?_⟩
          refine ⟨_, rfl, _, rfl, _, rfl, k, x, .ref ay, rfl, .inr (.inl ⟨g0, g4, 0, x, .ref ay, rfl, .inr ⟨t, b, u, v, ratSame s8 rx7, ratSame s8 ry7, .inr ⟨hz, fun q9 H9 s9 h9 => ?_⟩⟩⟩)⟩
          refine ⟨_, rfl, q9, d, _, _, rfl, h9, s9 _ _ (s8 _ _ h7), true, rfl, ?_⟩
          exact ⟨_, _, rfl, ((D6.same s7).same s8).same s9⟩
        · refine ifF h3 ?_
          refine ⟨_, rfl, ay, _, _, _, rfl, rfl, SqT.of hay, at_of (j := 0) rfl rfl, rfl, _, rfl, ?_⟩
          by_cases hu : u = 0
          · refine ifNF hu ?_
            exact ⟨_, _, rfl, D6⟩
          · refine ifNT hu ?_
            have hz : ¬ (k = 3 ∧ u = 0) := fun z => hu z.2
            refine ⟨_, rfl, _, rfl, _, rfl, k, x, .ref ay, t, b, u, v, rfl, g0, g4, rx, ry, hz, fun d H7 s7 h7 => ?_⟩
            have rx7 := ratSame s7 rx
            have ry7 := ratSame s7 ry
            refine ⟨_, rfl, _, rfl, _, rfl, k, x, .ref ay, rfl, .inr (.inl ⟨g0, g4, 0, x, .ref ay, rfl, .inr ⟨t, b, u, v, rx7, ry7, .inr ⟨hz, fun q8 H8 s8 h8 => ?_⟩⟩⟩)⟩
            refine ⟨_, rfl, q8, d, _, _, rfl, h8, s8 _ _ h7, true, rfl, ?_⟩
            refine ⟨_, rfl, _, rfl, _, rfl, k, x, .ref ay, rfl, .inr (.inl ⟨g0, g4, 0, x, .ref ay, rfl, .inr ⟨t, b, u, v, ratSame s8 rx7, ratSame s8 ry7, .inr ⟨hz, fun q9 H9 s9 h9 => ?_⟩⟩⟩)⟩
            refine ⟨_, rfl, q9, d, _, _, rfl, h9, s9 _ _ (s8 _ _ h7), true, rfl, ?_⟩
            exact ⟨_, _, rfl, ((D6.same s7).same s8).same s9⟩
      · rintro σ H6 ⟨v6, v9, rfl, D6⟩
        obtain ⟨t, b, rx⟩ := D6.all x hxm
        obtain ⟨u, v, ry⟩ := D6.all y hym
        obtain ⟨ax, rfl, hax, rX, xt, xb⟩ := id rx
        obtain ⟨ay, rfl, hay, rY, yt, yb⟩ := id ry
        have i0 : ∀ {m n : Int}, atI [V.int m, V.int n] 0 = some (V.int m) := at_of (j := 0) rfl rfl
        have i1 : ∀ {m n : Int}, atI [V.int m, V.int n] 1 = some (V.int n) := at_of (j := 1) rfl rfl
        refine ⟨_, rfl, _, rfl, 0, _, _, rfl, .inr ⟨t, b, u, v, rx, ry, fun H7 s7 => ?_⟩⟩
        have X7 := SqT.of (K := K) (s7 _ _ hax)
        have Y7 := SqT.of (K := K) (s7 _ _ hay)
        refine ⟨_, rfl, ax, _, _, _, rfl, rfl, X7, i0, _, rfl, ay, _, _, _, rfl, rfl, Y7, i1, _, _, rfl, rfl, big xt yb, _, rfl, ay, _, _, _, rfl, rfl, Y7, i0, _, rfl, ax, _, _, _, rfl, rfl, X7, i1, _, _, rfl, rfl, big yt xb, _, _, rfl, rfl, _, rfl, true, rfl, ?_⟩
        refine ⟨_, rfl, _, rfl, 4, _, _, rfl, .inr (.inr ⟨rfl, 0, _, _, rfl, .inr ⟨t, b, t, b, ratSame s7 rx, ratSame s7 rx, fun H8 s8 => ?_⟩⟩)⟩
        refine ⟨false, by rw [decide_eq_false (Int.lt_irrefl _)]; rfl, true, rfl, ?_⟩
        exact ⟨_, _, _, _, _, _, _, rfl, (D6.same s7).same s8⟩
    rintro σ H4 ⟨w3, w4, w5, w6, w7, w8, w9, rfl, D4⟩
    have h1 : 1 < xs.length := by omega
    have h2 : 2 < xs.length := by omega
    obtain ⟨t, b, rx⟩ := D4.all xs[1] (List.getElem_mem h1)
    obtain ⟨u, v, ry⟩ := D4.all xs[2] (List.getElem_mem h2)
    refine ⟨_, rfl, _, rfl, q, _, _, _, rfl, rfl, SqL.of D4.k, at_of (j := 1) rfl (List.getElem?_eq_getElem h1), _, rfl, q, _, _, _, rfl, rfl, SqL.of D4.k, at_of (j := 2) rfl (List.getElem?_eq_getElem h2), ?_⟩
    exact ⟨p, l, ns, _, _, _, t, b, u, v, rfl, D4.w, by omega, rx, ry, kq⟩
end
end Rt
set_option Elab.async false
set_option linter.all false
set_option maxRecDepth 100000
set_option maxHeartbeats 4000000
namespace Rt
open PySem PySem.Spec PyProof.Rows L2
/-! ### the program's own functions -/
abbrev pIsInt : Stmt := top 6
abbrev pIsTup : Stmt := top 7
abbrev pIsR : Stmt := top 9
abbrev pRatio : Stmt := top 10
abbrev pPlus : Stmt := top 11
abbrev pMinus : Stmt := top 12
abbrev pProd : Stmt := top 13
abbrev pQuot : Stmt := top 14
abbrev pBelow : Stmt := top 15
abbrev pNeed : Stmt := top 16
theorem sc1 : FnScope ["thing"] ["thing"] (defScope pIsInt) := ⟨rfl, rfl, rfl, by decide +kernel, rfl, by decide +kernel, by decide +kernel⟩
theorem sc2 : FnScope ["thing", "least", "most"] ["thing", "least", "most"] (defScope pIsTup) := ⟨rfl, rfl, rfl, by decide +kernel, rfl, by decide +kernel, by decide +kernel⟩
theorem sc3 : FnScope ["top", "bottom", "common"] ["top", "bottom"] (defScope pRatio) := ⟨rfl, rfl, rfl, by decide +kernel, rfl, by decide +kernel, by decide +kernel⟩
theorem sc4 : FnScope ["a", "b"] ["a", "b"] (defScope pPlus) := ⟨rfl, rfl, rfl, by decide +kernel, rfl, by decide +kernel, by decide +kernel⟩
theorem sc5 : FnScope ["a", "b"] ["a", "b"] (defScope pMinus) := ⟨rfl, rfl, rfl, by decide +kernel, rfl, by decide +kernel, by decide +kernel⟩
theorem sc6 : FnScope ["a", "b"] ["a", "b"] (defScope pProd) := ⟨rfl, rfl, rfl, by decide +kernel, rfl, by decide +kernel, by decide +kernel⟩
theorem sc7 : FnScope ["a", "b"] ["a", "b"] (defScope pQuot) := ⟨rfl, rfl, rfl, by decide +kernel, rfl, by decide +kernel, by decide +kernel⟩
theorem sc8 : FnScope ["a", "b"] ["a", "b"] (defScope pBelow) := ⟨rfl, rfl, rfl, by decide +kernel, rfl, by decide +kernel, by decide +kernel⟩
theorem sc10 : FnScope ["thing"] ["thing"] (defScope pIsR) := ⟨rfl, rfl, rfl, by decide +kernel, rfl, by decide +kernel, by decide +kernel⟩
theorem sc11 : FnScope ["a", "b"] ["a", "b"] (defScope pNeed) := ⟨rfl, rfl, rfl, by decide +kernel, rfl, by decide +kernel, by decide +kernel⟩
def spIsInt : Sp := fun vs H Q _ => ∃ x, vs = [x] ∧ ((∃ i, x = .int i ∧ Q (.bl true) H) ∨ (Oth H x ∧ Q (.bl false) H))
def spIsTup (K : PySem.W.Frag) : Sp := fun vs H Q _ => ∃ x, vs = [x, .int 2, .int 2] ∧ ((∃ a xs, x = .ref a ∧ H a = some (.tup xs) ∧ Q (.bl (decide (xs.length = 2))) H) ∨ ((∃ t : String, TyOf K H x (.type t) ∧ kitB t "tuple" = some false) ∧ Q (.bl false) H))
def spIsR : Sp := fun vs H Q _ => ∃ (p : Addr) (x : V), vs = [x] ∧ ((NoR p H x ∧ Q (.bl false) H) ∨ ((∃ t b, Rat H x t b) ∧ Q (.bl true) H))
def spNeed (CB : Addr) : Sp := fun vs H Q E => ∃ (p : Addr) (x y : V), vs = [x, y] ∧ ((Bad p H x y ∧ E (.ref CB) none H) ∨ ((∃ t b, Rat H x t b) ∧ (∃ t b, Rat H y t b) ∧ Q .non H))
/-- what the top says of an error class, for its raising -/
structure Exn (K : PySem.W.Frag) (mg : Str → Option Value) (nm : Str) (C : Addr) : Prop where
  x : PySem.W.excIn K C [.type "ValueError", .type "Exception", .type "BaseException", .type "object"] "ValueError.__new__" = true
  g : mg nm = some (.ref C)
  k : PySem.W.keepIn K (.ref C) = true
  b : PySem.W.subIn K (.ref C) (.type "BaseException") = some true
  t : PySem.W.typeIn K (.ref C) = some (.type "type")
/-- // by any int but 0 -/
theorem op_fdivX {X : Cx} : OpR X (binaryOp .FloorDiv) (rI (fun _ j => j ≠ 0 ∧ j.natAbs.log2 < 9000) fun i j => .int (i.fdiv j)) := opI fun i j _ _ _ _ _ hc q => floordiv_int hc.1 q (.inl (PyProof.noPylong_of_log2 hc.2))
theorem gc_log {t b : Int} (hb : b ≠ 0) (h : b.natAbs < 2 ^ 1000) : (gc t b).natAbs.log2 < 9000 := (cd (gc_pos (t := t) hb) (Nat.lt_of_le_of_lt (gc_le hb) h)).2
theorem fdiv_g {t g : Int} (h : 0 < g) (_d : g ∣ t) : t.fdiv g = t / g := Int.fdiv_eq_ediv_of_nonneg t (by omega)
theorem fdiv_ng {t g : Int} (h : 0 < g) (d : g ∣ t) : t.fdiv (-g) = -t / g := by
  obtain ⟨k, rfl⟩ := d
  have e1 : -(g * k) / g = -k := by
    rw [← Int.mul_neg]
    exact Int.mul_ediv_cancel_left _ (by omega)
  rw [e1]
  have e2 : g * k = -k * -g := by rw [Int.neg_mul_neg, Int.mul_comm]
  rw [e2]
  exact Int.mul_fdiv_cancel _ (by omega)
structure Nat4 (mg : Str → Option Value) : Prop where
  nI : mg "isinstance" = none
  ni : mg "int" = none
  nb : mg "bool" = none
  nt : mg "tuple" = none
  nl : mg "len" = none
section
variable {P : Program} {w : World} {K : PySem.W.Frag} {mg : Str → Option Value} {base : Heap} {CB CZ : Addr}
theorem ok_isInt {f : Addr} {fd : FuncData} (F : Fun K "is_integer" "is_integer" pIsInt f fd) (N : Nat4 mg) : FnOk P w K mg base CX0 1 f fd ["thing"] spIsInt := by
  refine F.ok sc1 (fun vs H Q E h => ?_) (fun cdv A outer s H vs Q E hr h => ?_)
  · obtain ⟨x, rfl, _⟩ := h
    rfl
  · obtain ⟨x, rfl, h⟩ := h
    refine ⟨_, pss_one (ps_ret (pe_and (pe_callB call_isi (by rfl) N.nI boot_isinstance (pa_cons (pv 0) (pa_cons (pe_bltn (v := .ty "int") rfl N.ni (by decide +kernel) rfl) pa_nil)))
      (pe_one (pe_not (pe_callB call_isi (by rfl) N.nI boot_isinstance (pa_cons (pv 0) (pa_cons (pe_bltn (v := .ty "bool") rfl N.nb (by decide +kernel) rfl) pa_nil))))))), ?_⟩
    rcases h with ⟨i, rfl, k⟩ | ⟨⟨b, rfl⟩ | ⟨z, rfl⟩ | rfl | ⟨q, xs, rfl, hq⟩, k⟩
    · exact ⟨_, rfl, _, _, _, _, true, rfl, .ty "int", .base (.int i), kit_ty (by decide +kernel), true, rfl, iteT ⟨_, rfl, _, _, _, _, false, rfl, .ty "bool", .base (.int i), kit_ty (by decide +kernel), false, rfl, k⟩⟩
    · exact ⟨_, rfl, _, _, _, _, true, rfl, .ty "int", .base (.bl b), kit_ty (by decide +kernel), true, rfl, iteT ⟨_, rfl, _, _, _, _, true, rfl, .ty "bool", .base (.bl b), kit_ty (by decide +kernel), true, rfl, k⟩⟩
    · exact ⟨_, rfl, _, _, _, _, false, rfl, .ty "int", .base (.str z), kit_ty (by decide +kernel), false, rfl, iteF k⟩
    · exact ⟨_, rfl, _, _, _, _, false, rfl, .ty "int", .base .non, kit_ty (by decide +kernel), false, rfl, iteF k⟩
    · exact ⟨_, rfl, _, _, _, _, false, rfl, .ty "int", .base (.tup hq), kit_ty (by decide +kernel), false, rfl, iteF k⟩
theorem ok_isTup {f : Addr} {fd : FuncData} (F : Fun K "is_tuple" "is_tuple" pIsTup f fd) (N : Nat4 mg) : FnOk P w K mg base CX0 1 f fd ["thing", "least", "most"] (spIsTup K) := by
  refine F.ok sc2 (fun vs H Q E h => ?_) (fun cdv A outer s H vs Q E hr h => ?_)
  · obtain ⟨x, rfl, _⟩ := h
    rfl
  · obtain ⟨x, rfl, h⟩ := h
    refine ⟨_, pss_one (ps_ret (pe_and (pe_callB call_isi (by rfl) N.nI boot_isinstance (pa_cons (pv 0) (pa_cons (pe_bltn (v := .ty "tuple") rfl N.nt (by decide +kernel) rfl) pa_nil)))
      (pe_one (pe_chain op_le op_le (pv 1) (pe_callB call_len_seq (by rfl) N.nl PySem.boot_len (pa_cons (pv 0) pa_nil)) (pv 2))))), ?_⟩
    rcases h with ⟨a, xs, rfl, ha, k⟩ | ⟨⟨t, ty, kb⟩, k⟩
    · refine ⟨_, rfl, _, _, _, _, true, rfl, .ty "tuple", .base (.tup ha), kit_ty (by decide +kernel), true, rfl, iteT ?_⟩
      refine ⟨_, rfl, _, rfl, a, xs, rfl, .inr (SqT.of ha), _, _, rfl, rfl, _, rfl, ?_⟩
      by_cases h2 : (2 : Int) ≤ (xs.length : Int)
      · refine ifT h2 ?_
        refine ⟨_, rfl, _, _, rfl, rfl, ?_⟩
        have e : decide ((xs.length : Int) ≤ 2) = decide (xs.length = 2) := decide_eq_decide.mpr (by omega)
        show Q (.bl (decide ((xs.length : Int) ≤ 2))) H
        rw [e]
        exact k
      · refine ifF h2 ?_
        rw [decide_eq_false (show ¬ xs.length = 2 by omega)] at k
        exact k
    · exact ⟨_, rfl, _, _, _, _, false, rfl, .ty "tuple", .base ty, kit_ty kb, false, rfl, iteF k⟩
theorem ok_ratio {n : Nat} {f : Addr} {fd : FuncData} (F : Fun K "ratio" "ratio" pRatio f fd) (Z : Exn K mg "ZeroBottom" CZ) (gg : mg "gcd" = some (.builtin "math.gcd")) : FnOk P w K mg base (L2.CX P w) (n + 1) f fd ["top", "bottom"] (spRatio CZ) := by
  refine F.okX sc3 (fun vs H Q E h => ?_) (fun cdv A outer s H vs Q E hr h => ?_)
  · obtain ⟨t, b, rfl, _⟩ := h
    rfl
  · obtain ⟨t, b, rfl, h⟩ := h
    refine ⟨_, pss_cons (ps_if (pt_cmpR op_eq (pv 1) pe_int (nomark _)) (pss_one (ps_raise rfl (takes_of rfl rfl rfl rfl) (pmk_own PySem.F.excBase_ValueError Z.x Z.g Z.k (raises_own Z.b Z.t) rfl))) pss_nil)
      (pss_cons (ps_set (i := 2) sc3.nd rfl (Or.inl rfl) (pe_callBfun cr_gcd (by rfl) gg (pa_cons (pv 0) (pa_cons (pv 1) pa_nil))))
      (pss_cons (ps_if (pt_cmpR op_lt (pv 1) pe_int (nomark _)) (pss_one (ps_set (i := 2) sc3.nd rfl (Or.inl rfl) (pe_un un_neg (pv 2)))) pss_nil)
      (pss_one (ps_ret (pe_tup (pa_cons (pe_op op_fdivX (pv 0) (pv 2)) (pa_cons (pe_op op_fdivX (pv 1) (pv 2)) pa_nil))))))), ?_⟩
    refine ⟨_, rfl, rfl, _, rfl, ?_⟩
    rcases h with ⟨h0, e⟩ | ⟨hb, hl, k⟩
    · exact ifY h0 (e H (Same.refl H))
    refine ifN hb ?_
    have g0 := gc_pos (t := t) hb
    have gl := gc_log (t := t) hb hl
    refine ⟨_, rfl, _, rfl, t, b, rfl, _, rfl, _, _, rfl, rfl, _, rfl, ?_⟩
    by_cases h0 : b < 0
    · refine ifT h0 ?_
      have c : (-gc t b) ≠ 0 ∧ (-gc t b).natAbs.log2 < 9000 := ⟨by omega, by rw [Int.natAbs_neg]; exact gl⟩
      refine ⟨_, rfl, _, rfl, _, rfl, _, rfl, _, _, rfl, rfl, c, _, rfl, _, rfl, _, _, rfl, rfl, c, (by show 2 ≤ sizeLine; decide), fun p hp => ?_⟩
      have q := k p _ (sameNew (Same.refl H) hp) upd_same
      have e1 : loT t b = t.fdiv (-gc t b) := by
        rw [fdiv_ng g0 (gc_dvd_l t b)]
        exact if_pos h0
      have e2 : loB t b = b.fdiv (-gc t b) := by
        rw [fdiv_ng g0 (gc_dvd_r t b)]
        exact if_pos h0
      rw [e1, e2] at q
      exact q
    · refine ifF h0 ?_
      have c : gc t b ≠ 0 ∧ (gc t b).natAbs.log2 < 9000 := ⟨by omega, gl⟩
      refine ⟨_, rfl, _, rfl, _, _, rfl, rfl, c, _, rfl, _, rfl, _, _, rfl, rfl, c, (by show 2 ≤ sizeLine; decide), fun p hp => ?_⟩
      have q := k p _ (sameNew (Same.refl H) hp) upd_same
      have e1 : loT t b = t.fdiv (gc t b) := by
        rw [fdiv_g g0 (gc_dvd_l t b)]
        exact if_neg h0
      have e2 : loB t b = b.fdiv (gc t b) := by
        rw [fdiv_g g0 (gc_dvd_r t b)]
        exact if_neg h0
      rw [e1, e2] at q
      exact q
theorem ok_isR {f fT fI : Addr} {fd fdT fdI : FuncData} (F : Fun K "is_ratio" "is_ratio" pIsR f fd) (gg : mg "gcd" = some (.builtin "math.gcd"))
    (GT : FnOk P w K mg base CX0 1 fT fdT ["thing", "least", "most"] (spIsTup K)) (T : Df K mg "is_tuple" ["thing", "least", "most"] fT fdT)
    (GI : FnOk P w K mg base CX0 1 fI fdI ["thing"] spIsInt) (I : Df K mg "is_integer" ["thing"] fI fdI) : FnOk P w K mg base CX0 2 f fd ["thing"] spIsR := by
  refine F.ok sc10 (fun vs H Q E h => ?_) (fun cdv A outer s H vs Q E hr h => ?_)
  · obtain ⟨p, x, rfl, _⟩ := h
    rfl
  · obtain ⟨p, x, rfl, h⟩ := h
    refine ⟨_, pss_cons (ps_if (PW.pt (pw_or (pt_not (pt_val (pe_call GT hr (by rfl) T.g T.k T.b .nil pass0 (pa_cons (pv 0) (pa_cons pe_int (pa_cons pe_int pa_nil))))))
        (pw_or (pt_not (pt_val (pe_call GI hr (by rfl) I.g I.k I.b .nil pass0 (pa_cons (pe_ix ix_tup (pv 0) pe_int (fun _ _ => rfl)) pa_nil))))
        (pw_or1 (pt_not (pt_val (pe_call GI hr (by rfl) I.g I.k I.b .nil pass0 (pa_cons (pe_ix ix_tup (pv 0) pe_int (fun _ _ => rfl)) pa_nil)))))))) (pss_one (ps_ret pe_bl)) pss_nil)
      (pss_one (ps_ret (pe_and (pe_cmpR op_ge (pe_ix ix_tup (pv 0) pe_int (fun _ _ => rfl)) pe_int (nomark _))
        (pe_one (pe_cmpR op_eq (pe_callBfun cr_gcd (by rfl) gg (pa_cons (pe_ix ix_tup (pv 0) pe_int (fun _ _ => rfl)) (pa_cons (pe_ix ix_tup (pv 0) pe_int (fun _ _ => rfl)) pa_nil))) pe_int (nomark _)))))), ?_⟩
    have i0 : ∀ {u v : V}, atI [u, v] 0 = some u := at_of (j := 0) rfl rfl
    have i1 : ∀ {u v : V}, atI [u, v] 1 = some v := at_of (j := 1) rfl rfl
    rcases h with ⟨h, k⟩ | ⟨⟨t, b, a, rfl, ha, hR, _⟩, k⟩
    · cases h with
      | int i => exact ⟨_, rfl, _, rfl, .inr ⟨⟨"int", .int i, by decide +kernel⟩, false, rfl, k⟩⟩
      | bl c => exact ⟨_, rfl, _, rfl, .inr ⟨⟨"bool", .bl c, by decide +kernel⟩, false, rfl, k⟩⟩
      | str z => exact ⟨_, rfl, _, rfl, .inr ⟨⟨"str", .str z, by decide +kernel⟩, false, rfl, k⟩⟩
      | non => exact ⟨_, rfl, _, rfl, .inr ⟨⟨"NoneType", .non, by decide +kernel⟩, false, rfl, k⟩⟩
      | lst h n => exact ⟨_, rfl, _, rfl, .inr ⟨⟨"list", .lst h, by decide +kernel⟩, false, rfl, k⟩⟩
      | dk h => exact ⟨_, rfl, _, rfl, .inr ⟨⟨"dict", .dK h, by decide +kernel⟩, false, rfl, k⟩⟩
      | @tup a xs h bd =>
        have X := SqT.of (K := K) h
        cases bd with
        | len hl =>
          refine ⟨_, rfl, _, rfl, .inl ⟨a, xs, rfl, h, false, ?_, k⟩⟩
          rw [decide_eq_false hl]
        | @fst u v ho _ =>
          refine ⟨_, rfl, _, rfl, .inl ⟨a, _, rfl, h, true, rfl, ?_⟩⟩
          exact ⟨_, rfl, a, _, _, _, rfl, rfl, X, i0, _, rfl, .inr ⟨ho, false, rfl, k⟩⟩
        | @snd i v ho =>
          refine ⟨_, rfl, _, rfl, .inl ⟨a, _, rfl, h, true, rfl, ?_⟩⟩
          refine ⟨_, rfl, a, _, _, _, rfl, rfl, X, i0, _, rfl, .inl ⟨i, rfl, true, rfl, ?_⟩⟩
          exact ⟨_, rfl, a, _, _, _, rfl, rfl, X, i1, _, rfl, .inr ⟨ho, false, rfl, k⟩⟩
        | @both i j hn =>
          refine ⟨_, rfl, _, rfl, .inl ⟨a, _, rfl, h, true, rfl, ?_⟩⟩
          refine ⟨_, rfl, a, _, _, _, rfl, rfl, X, i0, _, rfl, .inl ⟨i, rfl, true, rfl, ?_⟩⟩
          refine ⟨_, rfl, a, _, _, _, rfl, rfl, X, i1, _, rfl, .inl ⟨j, rfl, true, rfl, ?_⟩⟩
          refine ⟨_, rfl, a, _, _, _, rfl, rfl, X, i1, _, _, rfl, rfl, _, rfl, ?_⟩
          by_cases h1 : 1 ≤ j
          · refine ifT h1 ?_
            have h0 : 0 < j := by omega
            refine ⟨_, rfl, a, _, _, _, rfl, rfl, X, i0, _, rfl, a, _, _, _, rfl, rfl, X, i1, i, j, rfl, rfl, ?_⟩
            have e : decide (V.int ((Nat.gcd i.natAbs j.natAbs : Nat) : Int) = V.int 1) = false := decide_eq_false fun z => hn ⟨h0, by have := V.int.inj z; omega⟩
            show Q (.bl (decide (V.int ((Nat.gcd i.natAbs j.natAbs : Nat) : Int) = V.int 1))) H
            rw [e]
            exact k
          · exact ifF h1 k
    · have X := SqT.of (K := K) ha
      refine ⟨_, rfl, _, rfl, .inl ⟨a, _, rfl, ha, true, rfl, ?_⟩⟩
      refine ⟨_, rfl, a, _, _, _, rfl, rfl, X, i0, _, rfl, .inl ⟨t, rfl, true, rfl, ?_⟩⟩
      refine ⟨_, rfl, a, _, _, _, rfl, rfl, X, i1, _, rfl, .inl ⟨b, rfl, true, rfl, ?_⟩⟩
      refine ⟨_, rfl, a, _, _, _, rfl, rfl, X, i1, _, _, rfl, rfl, _, rfl, ifT (show (1 : Int) ≤ b by have := hR.1; omega) ?_⟩
      refine ⟨_, rfl, a, _, _, _, rfl, rfl, X, i0, _, rfl, a, _, _, _, rfl, rfl, X, i1, t, b, rfl, rfl, ?_⟩
      show Q (.bl (decide (V.int ((Nat.gcd t.natAbs b.natAbs : Nat) : Int) = V.int 1))) H
      rw [hR.2]
      exact k
theorem ok_need {f fR : Addr} {fd fdR : FuncData} (F : Fun K "_need_both" "_need_both" pNeed f fd) (B : Exn K mg "BadRatio" CB)
    (GR : FnOk P w K mg base CX0 2 fR fdR ["thing"] spIsR) (R : Df K mg "is_ratio" ["thing"] fR fdR) : FnOk P w K mg base (L2.CX P w) 3 f fd ["a", "b"] (spNeed CB) := by
  refine F.okX sc11 (fun vs H Q E h => ?_) (fun cdv A outer s H vs Q E hr h => ?_)
  · obtain ⟨p, x, y, rfl, _⟩ := h
    rfl
  · obtain ⟨p, x, y, rfl, h⟩ := h
    refine ⟨_, pss_one (ps_if (PW.pt (pw_or (pt_not (pt_val (pe_call GR hr (by rfl) R.g R.k R.b .nil pass0 (pa_cons (pv 0) pa_nil))))
        (pw_or1 (pt_not (pt_val (pe_call GR hr (by rfl) R.g R.k R.b .nil pass0 (pa_cons (pv 1) pa_nil))))))) 
        (pss_one (ps_raise rfl (takes_of rfl rfl rfl rfl) (pmk_own PySem.F.excBase_ValueError B.x B.g B.k (raises_own B.b B.t) rfl))) pss_nil), ?_⟩
    rcases h with ⟨⟨nx, _⟩ | ⟨rx, ny⟩, e⟩ | ⟨rx, ry, k⟩
    · exact ⟨_, rfl, p, x, rfl, .inl ⟨nx, false, rfl, e⟩⟩
    · exact ⟨_, rfl, p, x, rfl, .inr ⟨rx, true, rfl, _, rfl, p, y, rfl, .inl ⟨ny, false, rfl, e⟩⟩⟩
    · exact ⟨_, rfl, p, x, rfl, .inr ⟨rx, true, rfl, _, rfl, p, y, rfl, .inr ⟨ry, true, rfl, k⟩⟩⟩
end
end Rt
set_option Elab.async false
set_option linter.all false
set_option maxRecDepth 100000
set_option maxHeartbeats 4000000
namespace Rt
open PySem PySem.Spec PyProof.Rows L2
section
variable {P : Program} {w : World} {K : PySem.W.Frag} {mg : Str → Option Value} {base : Heap} {CB CZ : Addr}
theorem ok_plus {f fN fR : Addr} {fd fdN fdR : FuncData} (F : Fun K "plus" "plus" pPlus f fd) (Z : Exn K mg "ZeroBottom" CZ) (GN : FnOk P w K mg base (L2.CX P w) 3 fN fdN ["a", "b"] (spNeed CB)) (N : Df K mg "_need_both" ["a", "b"] fN fdN)
    (GR : FnOk P w K mg base (L2.CX P w) 3 fR fdR ["top", "bottom"] (spRatio CZ)) (R : Df K mg "ratio" ["top", "bottom"] fR fdR) : FnOk P w K mg base (L2.CX P w) 4 f fd ["a", "b"] (spBin CB CZ 0) := by
  refine F.okX sc4 (fun vs H Q E h => ?_) (fun cdv A outer s H vs Q E hr h => ?_)
  · obtain ⟨p, x, y, rfl, _⟩ := h
    rfl
  · obtain ⟨p, x, y, rfl, h⟩ := h
    have r1 : Room 1 _ := hr.mono (by decide)
    have i0 : ∀ {m n : Int}, atI [V.int m, V.int n] 0 = some (V.int m) := at_of (j := 0) rfl rfl
    have i1 : ∀ {m n : Int}, atI [V.int m, V.int n] 1 = some (V.int n) := at_of (j := 1) rfl rfl
    refine ⟨_, pss_cons (ps_expr (pe_callS GN hr (by rfl) N.g N.k N.b (fun σ => passAt (takes_of rfl rfl rfl rfl) σ) (pa_cons (pv 0) (pa_cons (pv 1) pa_nil))))
      (pss_one (ps_ret (pe_callS GR hr (by rfl) R.g R.k R.b (fun σ => passAt (takes_of rfl rfl rfl rfl) σ) (pa_cons (pe_op op_add (pe_op op_mulW (pe_ix ix_tup (pv 0) pe_int (fun _ _ => rfl)) (pe_ix ix_tup (pv 1) pe_int (fun _ _ => rfl))) (pe_op op_mulW (pe_ix ix_tup (pv 1) pe_int (fun _ _ => rfl)) (pe_ix ix_tup (pv 0) pe_int (fun _ _ => rfl)))) (pa_cons (pe_op op_mulW (pe_ix ix_tup (pv 0) pe_int (fun _ _ => rfl)) (pe_ix ix_tup (pv 1) pe_int (fun _ _ => rfl))) pa_nil))))), ?_⟩
    rcases h with ⟨bad, e⟩ | ⟨t, b, u, v, rx, ry, h⟩
    · exact ⟨_, rfl, _, rfl, p, x, y, rfl, .inl ⟨bad, e H (Same.refl H)⟩⟩
    refine ⟨_, rfl, _, rfl, p, x, y, rfl, .inr ⟨⟨t, b, rx⟩, ⟨u, v, ry⟩, ?_⟩⟩
    obtain ⟨ax, rfl, hx, rX, xt, xb⟩ := rx
    obtain ⟨ay, rfl, hy, rY, yt, yb⟩ := ry
    have X := SqT.of (K := K) hx
    have Y := SqT.of (K := K) hy
    have b0 := rX.1
    have v0 := rY.1
    obtain ⟨_, k⟩ : ¬ ((0 : Int) = 3 ∧ u = 0) ∧ ∀ q H', Same H H' → IsRes 0 t b u v H' q → Q (.ref q) H' := h.resolve_left (fun z => absurd z.1 (by decide))
    exact ⟨_, rfl, ax, _, _, _, rfl, rfl, X, i0, _, rfl, ay, _, _, _, rfl, rfl, Y, i1, _, _, rfl, rfl, big xt yb, _, rfl, ay, _, _, _, rfl, rfl, Y, i0, _, rfl, ax, _, _, _, rfl, rfl, X, i1, _, _, rfl, rfl, big yt xb, _, _, rfl, rfl, _, rfl, ax, _, _, _, rfl, rfl, X, i1, _, rfl, ay, _, _, _, rfl, rfl, Y, i1, _, _, rfl, rfl, big xb yb, _, _, rfl, .inr ⟨Int.mul_ne_zero (by omega) (by omega), mul_lt xb yb, fun q H' s hq => k q H' s hq⟩⟩
theorem ok_minus {f fN fR : Addr} {fd fdN fdR : FuncData} (F : Fun K "minus" "minus" pMinus f fd) (Z : Exn K mg "ZeroBottom" CZ) (GN : FnOk P w K mg base (L2.CX P w) 3 fN fdN ["a", "b"] (spNeed CB)) (N : Df K mg "_need_both" ["a", "b"] fN fdN)
    (GR : FnOk P w K mg base (L2.CX P w) 3 fR fdR ["top", "bottom"] (spRatio CZ)) (R : Df K mg "ratio" ["top", "bottom"] fR fdR) : FnOk P w K mg base (L2.CX P w) 4 f fd ["a", "b"] (spBin CB CZ 1) := by
  refine F.okX sc5 (fun vs H Q E h => ?_) (fun cdv A outer s H vs Q E hr h => ?_)
  · obtain ⟨p, x, y, rfl, _⟩ := h
    rfl
  · obtain ⟨p, x, y, rfl, h⟩ := h
    have r1 : Room 1 _ := hr.mono (by decide)
    have i0 : ∀ {m n : Int}, atI [V.int m, V.int n] 0 = some (V.int m) := at_of (j := 0) rfl rfl
    have i1 : ∀ {m n : Int}, atI [V.int m, V.int n] 1 = some (V.int n) := at_of (j := 1) rfl rfl
    refine ⟨_, pss_cons (ps_expr (pe_callS GN hr (by rfl) N.g N.k N.b (fun σ => passAt (takes_of rfl rfl rfl rfl) σ) (pa_cons (pv 0) (pa_cons (pv 1) pa_nil))))
      (pss_one (ps_ret (pe_callS GR hr (by rfl) R.g R.k R.b (fun σ => passAt (takes_of rfl rfl rfl rfl) σ) (pa_cons (pe_op op_sub (pe_op op_mulW (pe_ix ix_tup (pv 0) pe_int (fun _ _ => rfl)) (pe_ix ix_tup (pv 1) pe_int (fun _ _ => rfl))) (pe_op op_mulW (pe_ix ix_tup (pv 1) pe_int (fun _ _ => rfl)) (pe_ix ix_tup (pv 0) pe_int (fun _ _ => rfl)))) (pa_cons (pe_op op_mulW (pe_ix ix_tup (pv 0) pe_int (fun _ _ => rfl)) (pe_ix ix_tup (pv 1) pe_int (fun _ _ => rfl))) pa_nil))))), ?_⟩
    rcases h with ⟨bad, e⟩ | ⟨t, b, u, v, rx, ry, h⟩
    · exact ⟨_, rfl, _, rfl, p, x, y, rfl, .inl ⟨bad, e H (Same.refl H)⟩⟩
    refine ⟨_, rfl, _, rfl, p, x, y, rfl, .inr ⟨⟨t, b, rx⟩, ⟨u, v, ry⟩, ?_⟩⟩
    obtain ⟨ax, rfl, hx, rX, xt, xb⟩ := rx
    obtain ⟨ay, rfl, hy, rY, yt, yb⟩ := ry
    have X := SqT.of (K := K) hx
    have Y := SqT.of (K := K) hy
    have b0 := rX.1
    have v0 := rY.1
    obtain ⟨_, k⟩ : ¬ ((1 : Int) = 3 ∧ u = 0) ∧ ∀ q H', Same H H' → IsRes 1 t b u v H' q → Q (.ref q) H' := h.resolve_left (fun z => absurd z.1 (by decide))
    exact ⟨_, rfl, ax, _, _, _, rfl, rfl, X, i0, _, rfl, ay, _, _, _, rfl, rfl, Y, i1, _, _, rfl, rfl, big xt yb, _, rfl, ay, _, _, _, rfl, rfl, Y, i0, _, rfl, ax, _, _, _, rfl, rfl, X, i1, _, _, rfl, rfl, big yt xb, _, _, rfl, rfl, _, rfl, ax, _, _, _, rfl, rfl, X, i1, _, rfl, ay, _, _, _, rfl, rfl, Y, i1, _, _, rfl, rfl, big xb yb, _, _, rfl, .inr ⟨Int.mul_ne_zero (by omega) (by omega), mul_lt xb yb, fun q H' s hq => k q H' s hq⟩⟩
theorem ok_product {f fN fR : Addr} {fd fdN fdR : FuncData} (F : Fun K "product" "product" pProd f fd) (Z : Exn K mg "ZeroBottom" CZ) (GN : FnOk P w K mg base (L2.CX P w) 3 fN fdN ["a", "b"] (spNeed CB)) (N : Df K mg "_need_both" ["a", "b"] fN fdN)
    (GR : FnOk P w K mg base (L2.CX P w) 3 fR fdR ["top", "bottom"] (spRatio CZ)) (R : Df K mg "ratio" ["top", "bottom"] fR fdR) : FnOk P w K mg base (L2.CX P w) 4 f fd ["a", "b"] (spBin CB CZ 2) := by
  refine F.okX sc6 (fun vs H Q E h => ?_) (fun cdv A outer s H vs Q E hr h => ?_)
  · obtain ⟨p, x, y, rfl, _⟩ := h
    rfl
  · obtain ⟨p, x, y, rfl, h⟩ := h
    have r1 : Room 1 _ := hr.mono (by decide)
    have i0 : ∀ {m n : Int}, atI [V.int m, V.int n] 0 = some (V.int m) := at_of (j := 0) rfl rfl
    have i1 : ∀ {m n : Int}, atI [V.int m, V.int n] 1 = some (V.int n) := at_of (j := 1) rfl rfl
    refine ⟨_, pss_cons (ps_expr (pe_callS GN hr (by rfl) N.g N.k N.b (fun σ => passAt (takes_of rfl rfl rfl rfl) σ) (pa_cons (pv 0) (pa_cons (pv 1) pa_nil))))
      (pss_one (ps_ret (pe_callS GR hr (by rfl) R.g R.k R.b (fun σ => passAt (takes_of rfl rfl rfl rfl) σ) (pa_cons (pe_op op_mulW (pe_ix ix_tup (pv 0) pe_int (fun _ _ => rfl)) (pe_ix ix_tup (pv 1) pe_int (fun _ _ => rfl))) (pa_cons (pe_op op_mulW (pe_ix ix_tup (pv 0) pe_int (fun _ _ => rfl)) (pe_ix ix_tup (pv 1) pe_int (fun _ _ => rfl))) pa_nil))))), ?_⟩
    rcases h with ⟨bad, e⟩ | ⟨t, b, u, v, rx, ry, h⟩
    · exact ⟨_, rfl, _, rfl, p, x, y, rfl, .inl ⟨bad, e H (Same.refl H)⟩⟩
    refine ⟨_, rfl, _, rfl, p, x, y, rfl, .inr ⟨⟨t, b, rx⟩, ⟨u, v, ry⟩, ?_⟩⟩
    obtain ⟨ax, rfl, hx, rX, xt, xb⟩ := rx
    obtain ⟨ay, rfl, hy, rY, yt, yb⟩ := ry
    have X := SqT.of (K := K) hx
    have Y := SqT.of (K := K) hy
    have b0 := rX.1
    have v0 := rY.1
    obtain ⟨_, k⟩ : ¬ ((2 : Int) = 3 ∧ u = 0) ∧ ∀ q H', Same H H' → IsRes 2 t b u v H' q → Q (.ref q) H' := h.resolve_left (fun z => absurd z.1 (by decide))
    exact ⟨_, rfl, ax, _, _, _, rfl, rfl, X, i0, _, rfl, ay, _, _, _, rfl, rfl, Y, i0, _, _, rfl, rfl, big xt yt, _, rfl, ax, _, _, _, rfl, rfl, X, i1, _, rfl, ay, _, _, _, rfl, rfl, Y, i1, _, _, rfl, rfl, big xb yb, _, _, rfl, .inr ⟨Int.mul_ne_zero (by omega) (by omega), mul_lt xb yb, fun q H' s hq => k q H' s hq⟩⟩
theorem ok_quotient {f fN fR : Addr} {fd fdN fdR : FuncData} (F : Fun K "quotient" "quotient" pQuot f fd) (Z : Exn K mg "ZeroBottom" CZ) (GN : FnOk P w K mg base (L2.CX P w) 3 fN fdN ["a", "b"] (spNeed CB)) (N : Df K mg "_need_both" ["a", "b"] fN fdN)
    (GR : FnOk P w K mg base (L2.CX P w) 3 fR fdR ["top", "bottom"] (spRatio CZ)) (R : Df K mg "ratio" ["top", "bottom"] fR fdR) : FnOk P w K mg base (L2.CX P w) 4 f fd ["a", "b"] (spBin CB CZ 3) := by
  refine F.okX sc7 (fun vs H Q E h => ?_) (fun cdv A outer s H vs Q E hr h => ?_)
  · obtain ⟨p, x, y, rfl, _⟩ := h
    rfl
  · obtain ⟨p, x, y, rfl, h⟩ := h
    have r1 : Room 1 _ := hr.mono (by decide)
    have i0 : ∀ {m n : Int}, atI [V.int m, V.int n] 0 = some (V.int m) := at_of (j := 0) rfl rfl
    have i1 : ∀ {m n : Int}, atI [V.int m, V.int n] 1 = some (V.int n) := at_of (j := 1) rfl rfl
    refine ⟨_, pss_cons (ps_expr (pe_callS GN hr (by rfl) N.g N.k N.b (fun σ => passAt (takes_of rfl rfl rfl rfl) σ) (pa_cons (pv 0) (pa_cons (pv 1) pa_nil))))
      (pss_one (ps_ret (pe_callS GR hr (by rfl) R.g R.k R.b (fun σ => passAt (takes_of rfl rfl rfl rfl) σ) (pa_cons (pe_op op_mulW (pe_ix ix_tup (pv 0) pe_int (fun _ _ => rfl)) (pe_ix ix_tup (pv 1) pe_int (fun _ _ => rfl))) (pa_cons (pe_op op_mulW (pe_ix ix_tup (pv 0) pe_int (fun _ _ => rfl)) (pe_ix ix_tup (pv 1) pe_int (fun _ _ => rfl))) pa_nil))))), ?_⟩
    rcases h with ⟨bad, e⟩ | ⟨t, b, u, v, rx, ry, h⟩
    · exact ⟨_, rfl, _, rfl, p, x, y, rfl, .inl ⟨bad, e H (Same.refl H)⟩⟩
    refine ⟨_, rfl, _, rfl, p, x, y, rfl, .inr ⟨⟨t, b, rx⟩, ⟨u, v, ry⟩, ?_⟩⟩
    obtain ⟨ax, rfl, hx, rX, xt, xb⟩ := rx
    obtain ⟨ay, rfl, hy, rY, yt, yb⟩ := ry
    have X := SqT.of (K := K) hx
    have Y := SqT.of (K := K) hy
    have b0 := rX.1
    have v0 := rY.1
    refine ⟨_, rfl, ax, _, _, _, rfl, rfl, X, i0, _, rfl, ay, _, _, _, rfl, rfl, Y, i1, _, _, rfl, rfl, big xt yb, _, rfl, ax, _, _, _, rfl, rfl, X, i1, _, rfl, ay, _, _, _, rfl, rfl, Y, i0, _, _, rfl, rfl, big xb yt, _, _, rfl, ?_⟩
    rcases h with ⟨_, h0, e⟩ | ⟨h0, k⟩
    · exact .inl ⟨by rw [h0]; exact Int.mul_zero _, fun H' s => e H' s⟩
    · have u0 : u ≠ 0 := fun z => h0 ⟨rfl, z⟩
      exact .inr ⟨Int.mul_ne_zero (by omega) u0, mul_lt xb yt, fun q H' s hq => k q H' s hq⟩
theorem ok_below {f fN : Addr} {fd fdN : FuncData} (F : Fun K "below" "below" pBelow f fd) (GN : FnOk P w K mg base (L2.CX P w) 3 fN fdN ["a", "b"] (spNeed CB)) (N : Df K mg "_need_both" ["a", "b"] fN fdN)
    : FnOk P w K mg base (L2.CX P w) 4 f fd ["a", "b"] (spBelow CB) := by
  refine F.okX sc8 (fun vs H Q E h => ?_) (fun cdv A outer s H vs Q E hr h => ?_)
  · obtain ⟨p, x, y, rfl, _⟩ := h
    rfl
  · obtain ⟨p, x, y, rfl, h⟩ := h
    have r1 : Room 1 _ := hr.mono (by decide)
    have i0 : ∀ {m n : Int}, atI [V.int m, V.int n] 0 = some (V.int m) := at_of (j := 0) rfl rfl
    have i1 : ∀ {m n : Int}, atI [V.int m, V.int n] 1 = some (V.int n) := at_of (j := 1) rfl rfl
    refine ⟨_, pss_cons (ps_expr (pe_callS GN hr (by rfl) N.g N.k N.b (fun σ => passAt (takes_of rfl rfl rfl rfl) σ) (pa_cons (pv 0) (pa_cons (pv 1) pa_nil))))
      (pss_one (ps_ret (pe_cmpR op_lt (pe_op op_mulW (pe_ix ix_tup (pv 0) pe_int (fun _ _ => rfl)) (pe_ix ix_tup (pv 1) pe_int (fun _ _ => rfl))) (pe_op op_mulW (pe_ix ix_tup (pv 1) pe_int (fun _ _ => rfl)) (pe_ix ix_tup (pv 0) pe_int (fun _ _ => rfl))) (nomark _)))), ?_⟩
    rcases h with ⟨bad, e⟩ | ⟨t, b, u, v, rx, ry, h⟩
    · exact ⟨_, rfl, _, rfl, p, x, y, rfl, .inl ⟨bad, e H (Same.refl H)⟩⟩
    refine ⟨_, rfl, _, rfl, p, x, y, rfl, .inr ⟨⟨t, b, rx⟩, ⟨u, v, ry⟩, ?_⟩⟩
    obtain ⟨ax, rfl, hx, rX, xt, xb⟩ := rx
    obtain ⟨ay, rfl, hy, rY, yt, yb⟩ := ry
    have X := SqT.of (K := K) hx
    have Y := SqT.of (K := K) hy
    have b0 := rX.1
    have v0 := rY.1
    exact ⟨_, rfl, ax, _, _, _, rfl, rfl, X, i0, _, rfl, ay, _, _, _, rfl, rfl, Y, i1, _, _, rfl, rfl, big xt yb, _, rfl, ay, _, _, _, rfl, rfl, Y, i0, _, rfl, ax, _, _, _, rfl, rfl, X, i1, _, _, rfl, rfl, big yt xb, _, _, rfl, rfl, h H (Same.refl H)⟩
end
end Rt
set_option Elab.async false
set_option linter.all false
set_option maxRecDepth 100000
set_option maxHeartbeats 8000000
namespace Rt
open PySem PySem.Spec PyProof.Rows L2
theorem vals_rev {zs : List V} {ws : List Value} (r : Vals zs ws) : Vals zs.reverse ws.reverse := by
  induction r with
  | nil => exact .nil
  | cons h t ih =>
    rw [List.reverse_cons, List.reverse_cons]
    exact ih.append (.cons h .nil)
theorem kit_t {K : PySem.W.Frag} {C D : Addr} (h1 : PySem.W.isClsIn K D = true) (h2 : PySem.W.typeIn K (.ref D) = some (.type "type")) (h3 : PySem.W.subIn K (.ref C) (.ref D) = some true) : PySem.W.kitOne K (.ref C) (.ref D) = some true := by
  have e : ((PySem.W.clsIn K D).isSome && PySem.W.typeIn K (.ref D) == some (.type "type")) = true := by
    rw [show (PySem.W.clsIn K D).isSome = true from h1, h2] <;> rfl
  unfold PySem.W.kitOne
  split
  · rfl
  · show (if ((PySem.W.clsIn K D).isSome && PySem.W.typeIn K (.ref D) == some (.type "type")) = true then PySem.W.subIn K (.ref C) (.ref D) else none) = some true
    rw [if_pos e]
    exact h3
theorem kit_f {K : PySem.W.Frag} {C D : Addr} (h1 : PySem.W.isClsIn K D = true) (h2 : PySem.W.typeIn K (.ref D) = some (.type "type")) (h3 : PySem.W.subIn K (.ref C) (.ref D) = some false) (h4 : PySem.W.subIn K (.ref C) (.ref C) = some true) : PySem.W.kitOne K (.ref C) (.ref D) = some false := by
  have e : ((PySem.W.clsIn K D).isSome && PySem.W.typeIn K (.ref D) == some (.type "type")) = true := by
    rw [show (PySem.W.clsIn K D).isSome = true from h1, h2] <;> rfl
  unfold PySem.W.kitOne
  split
  · rename_i q
    have z : C = D := Value.ref.inj (beq_iff_eq.mp q)
    subst z
    rw [h4] at h3
    cases h3
  · show (if ((PySem.W.clsIn K D).isSome && PySem.W.typeIn K (.ref D) == some (.type "type")) = true then PySem.W.subIn K (.ref C) (.ref D) else none) = some false
    rw [if_pos e]
    exact h3
theorem kit_v {K : PySem.W.Frag} {C : Addr} (h : PySem.W.subIn K (.ref C) (.type "ValueError") = some true) : PySem.W.kitOne K (.ref C) (.type "ValueError") = some true := by
  unfold PySem.W.kitOne
  split
  · rfl
  · show (if PySem.W.kitMeta "ValueError" = true then PySem.W.subIn K (.ref C) (.type "ValueError") else none) = some true
    rw [if_pos (by decide +kernel)]
    exact h
theorem all_mk {l : PySem.W.OpenLaw} {w : World} {K : PySem.W.Frag} {h : Heap} {mg : Str → Option Value} {fa CS CB CZ : Addr} (X : K.In h) (G : h.Ns mainGlobals mg) (hfa : mg "law" = some (.ref fa))
    {f0 : Addr} {od0 an0 : Option Addr} {sl0 : Array (Option Value)} {oc0 kV0 dc0 pm0 cd0 ct0 : Value} (a0 : PySem.W.nsIn K mainGlobals "is_integer" = some (some (.ref f0))) (l0 : K.lookup f0 = some ⟨oc0, od0, .func (PySem.W.fnOf "is_integer" "is_integer" (defArgs (top 6)) (defBody (top 6)) (defScope (top 6)) .none kV0 dc0 pm0 an0 cd0 ct0), sl0⟩) (c0 : PySem.W.codeIn K cd0 "is_integer" = true) (k0 : PySem.W.keepIn K (.ref f0) = true)
    {f1 : Addr} {od1 an1 : Option Addr} {sl1 : Array (Option Value)} {oc1 kV1 dc1 pm1 cd1 ct1 : Value} (a1 : PySem.W.nsIn K mainGlobals "is_tuple" = some (some (.ref f1))) (l1 : K.lookup f1 = some ⟨oc1, od1, .func (PySem.W.fnOf "is_tuple" "is_tuple" (defArgs (top 7)) (defBody (top 7)) (defScope (top 7)) .none kV1 dc1 pm1 an1 cd1 ct1), sl1⟩) (c1 : PySem.W.codeIn K cd1 "is_tuple" = true) (k1 : PySem.W.keepIn K (.ref f1) = true)
    {f2 : Addr} {od2 an2 : Option Addr} {sl2 : Array (Option Value)} {oc2 kV2 dc2 pm2 cd2 ct2 : Value} (a2 : PySem.W.nsIn K mainGlobals "ratio" = some (some (.ref f2))) (l2 : K.lookup f2 = some ⟨oc2, od2, .func (PySem.W.fnOf "ratio" "ratio" (defArgs (top 10)) (defBody (top 10)) (defScope (top 10)) .none kV2 dc2 pm2 an2 cd2 ct2), sl2⟩) (c2 : PySem.W.codeIn K cd2 "ratio" = true) (k2 : PySem.W.keepIn K (.ref f2) = true)
    {f3 : Addr} {od3 an3 : Option Addr} {sl3 : Array (Option Value)} {oc3 kV3 dc3 pm3 cd3 ct3 : Value} (a3 : PySem.W.nsIn K mainGlobals "plus" = some (some (.ref f3))) (l3 : K.lookup f3 = some ⟨oc3, od3, .func (PySem.W.fnOf "plus" "plus" (defArgs (top 11)) (defBody (top 11)) (defScope (top 11)) .none kV3 dc3 pm3 an3 cd3 ct3), sl3⟩) (c3 : PySem.W.codeIn K cd3 "plus" = true) (k3 : PySem.W.keepIn K (.ref f3) = true)
    {f4 : Addr} {od4 an4 : Option Addr} {sl4 : Array (Option Value)} {oc4 kV4 dc4 pm4 cd4 ct4 : Value} (a4 : PySem.W.nsIn K mainGlobals "minus" = some (some (.ref f4))) (l4 : K.lookup f4 = some ⟨oc4, od4, .func (PySem.W.fnOf "minus" "minus" (defArgs (top 12)) (defBody (top 12)) (defScope (top 12)) .none kV4 dc4 pm4 an4 cd4 ct4), sl4⟩) (c4 : PySem.W.codeIn K cd4 "minus" = true) (k4 : PySem.W.keepIn K (.ref f4) = true)
    {f5 : Addr} {od5 an5 : Option Addr} {sl5 : Array (Option Value)} {oc5 kV5 dc5 pm5 cd5 ct5 : Value} (a5 : PySem.W.nsIn K mainGlobals "product" = some (some (.ref f5))) (l5 : K.lookup f5 = some ⟨oc5, od5, .func (PySem.W.fnOf "product" "product" (defArgs (top 13)) (defBody (top 13)) (defScope (top 13)) .none kV5 dc5 pm5 an5 cd5 ct5), sl5⟩) (c5 : PySem.W.codeIn K cd5 "product" = true) (k5 : PySem.W.keepIn K (.ref f5) = true)
    {f6 : Addr} {od6 an6 : Option Addr} {sl6 : Array (Option Value)} {oc6 kV6 dc6 pm6 cd6 ct6 : Value} (a6 : PySem.W.nsIn K mainGlobals "quotient" = some (some (.ref f6))) (l6 : K.lookup f6 = some ⟨oc6, od6, .func (PySem.W.fnOf "quotient" "quotient" (defArgs (top 14)) (defBody (top 14)) (defScope (top 14)) .none kV6 dc6 pm6 an6 cd6 ct6), sl6⟩) (c6 : PySem.W.codeIn K cd6 "quotient" = true) (k6 : PySem.W.keepIn K (.ref f6) = true)
    {f7 : Addr} {od7 an7 : Option Addr} {sl7 : Array (Option Value)} {oc7 kV7 dc7 pm7 cd7 ct7 : Value} (a7 : PySem.W.nsIn K mainGlobals "below" = some (some (.ref f7))) (l7 : K.lookup f7 = some ⟨oc7, od7, .func (PySem.W.fnOf "below" "below" (defArgs (top 15)) (defBody (top 15)) (defScope (top 15)) .none kV7 dc7 pm7 an7 cd7 ct7), sl7⟩) (c7 : PySem.W.codeIn K cd7 "below" = true) (k7 : PySem.W.keepIn K (.ref f7) = true)
    {f8 : Addr} {od8 an8 : Option Addr} {sl8 : Array (Option Value)} {oc8 kV8 dc8 pm8 cd8 ct8 : Value} (a8 : PySem.W.nsIn K mainGlobals "is_ratio" = some (some (.ref f8))) (l8 : K.lookup f8 = some ⟨oc8, od8, .func (PySem.W.fnOf "is_ratio" "is_ratio" (defArgs (top 9)) (defBody (top 9)) (defScope (top 9)) .none kV8 dc8 pm8 an8 cd8 ct8), sl8⟩) (c8 : PySem.W.codeIn K cd8 "is_ratio" = true) (k8 : PySem.W.keepIn K (.ref f8) = true)
    {f9 : Addr} {od9 an9 : Option Addr} {sl9 : Array (Option Value)} {oc9 kV9 dc9 pm9 cd9 ct9 : Value} (a9 : PySem.W.nsIn K mainGlobals "_need_both" = some (some (.ref f9))) (l9 : K.lookup f9 = some ⟨oc9, od9, .func (PySem.W.fnOf "_need_both" "_need_both" (defArgs (top 16)) (defBody (top 16)) (defScope (top 16)) .none kV9 dc9 pm9 an9 cd9 ct9), sl9⟩) (c9 : PySem.W.codeIn K cd9 "_need_both" = true) (k9 : PySem.W.keepIn K (.ref f9) = true)
    {f10 : Addr} {od10 an10 : Option Addr} {sl10 : Array (Option Value)} {oc10 kV10 dc10 pm10 cd10 ct10 : Value} (a10 : PySem.W.nsIn K mainGlobals "_law_gcd" = some (some (.ref f10))) (l10 : K.lookup f10 = some ⟨oc10, od10, .func (PySem.W.fnOf "_law_gcd" "_law_gcd" (defArgs (top 18)) (defBody (top 18)) (defScope (top 18)) .none kV10 dc10 pm10 an10 cd10 ct10), sl10⟩) (c10 : PySem.W.codeIn K cd10 "_law_gcd" = true) (k10 : PySem.W.keepIn K (.ref f10) = true)
    {f11 : Addr} {od11 an11 : Option Addr} {sl11 : Array (Option Value)} {oc11 kV11 dc11 pm11 cd11 ct11 : Value} (a11 : PySem.W.nsIn K mainGlobals "_law_lowest" = some (some (.ref f11))) (l11 : K.lookup f11 = some ⟨oc11, od11, .func (PySem.W.fnOf "_law_lowest" "_law_lowest" (defArgs (top 19)) (defBody (top 19)) (defScope (top 19)) .none kV11 dc11 pm11 an11 cd11 ct11), sl11⟩) (c11 : PySem.W.codeIn K cd11 "_law_lowest" = true) (k11 : PySem.W.keepIn K (.ref f11) = true)
    {f12 : Addr} {od12 an12 : Option Addr} {sl12 : Array (Option Value)} {oc12 kV12 dc12 pm12 cd12 ct12 : Value} (a12 : PySem.W.nsIn K mainGlobals "_law_draw" = some (some (.ref f12))) (l12 : K.lookup f12 = some ⟨oc12, od12, .func (PySem.W.fnOf "_law_draw" "_law_draw" (defArgs (top 20)) (defBody (top 20)) (defScope (top 20)) .none kV12 dc12 pm12 an12 cd12 ct12), sl12⟩) (c12 : PySem.W.codeIn K cd12 "_law_draw" = true) (k12 : PySem.W.keepIn K (.ref f12) = true)
    {f13 : Addr} {od13 an13 : Option Addr} {sl13 : Array (Option Value)} {oc13 kV13 dc13 pm13 cd13 ct13 : Value} (a13 : PySem.W.nsIn K mainGlobals "_law_number" = some (some (.ref f13))) (l13 : K.lookup f13 = some ⟨oc13, od13, .func (PySem.W.fnOf "_law_number" "_law_number" (defArgs (top 21)) (defBody (top 21)) (defScope (top 21)) .none kV13 dc13 pm13 an13 cd13 ct13), sl13⟩) (c13 : PySem.W.codeIn K cd13 "_law_number" = true) (k13 : PySem.W.keepIn K (.ref f13) = true)
    {f14 : Addr} {od14 an14 : Option Addr} {sl14 : Array (Option Value)} {oc14 kV14 dc14 pm14 cd14 ct14 : Value} (a14 : PySem.W.nsIn K mainGlobals "_law_no_ratio" = some (some (.ref f14))) (l14 : K.lookup f14 = some ⟨oc14, od14, .func (PySem.W.fnOf "_law_no_ratio" "_law_no_ratio" (defArgs (top 22)) (defBody (top 22)) (defScope (top 22)) .none kV14 dc14 pm14 an14 cd14 ct14), sl14⟩) (c14 : PySem.W.codeIn K cd14 "_law_no_ratio" = true) (k14 : PySem.W.keepIn K (.ref f14) = true)
    {f15 : Addr} {od15 an15 : Option Addr} {sl15 : Array (Option Value)} {oc15 kV15 dc15 pm15 cd15 ct15 : Value} (a15 : PySem.W.nsIn K mainGlobals "_law_int" = some (some (.ref f15))) (l15 : K.lookup f15 = some ⟨oc15, od15, .func (PySem.W.fnOf "_law_int" "_law_int" (defArgs (top 23)) (defBody (top 23)) (defScope (top 23)) .none kV15 dc15 pm15 an15 cd15 ct15), sl15⟩) (c15 : PySem.W.codeIn K cd15 "_law_int" = true) (k15 : PySem.W.keepIn K (.ref f15) = true)
    {f16 : Addr} {od16 an16 : Option Addr} {sl16 : Array (Option Value)} {oc16 kV16 dc16 pm16 cd16 ct16 : Value} (a16 : PySem.W.nsIn K mainGlobals "_law_well" = some (some (.ref f16))) (l16 : K.lookup f16 = some ⟨oc16, od16, .func (PySem.W.fnOf "_law_well" "_law_well" (defArgs (top 24)) (defBody (top 24)) (defScope (top 24)) .none kV16 dc16 pm16 an16 cd16 ct16), sl16⟩) (c16 : PySem.W.codeIn K cd16 "_law_well" = true) (k16 : PySem.W.keepIn K (.ref f16) = true)
    {f17 : Addr} {od17 an17 : Option Addr} {sl17 : Array (Option Value)} {oc17 kV17 dc17 pm17 cd17 ct17 : Value} (a17 : PySem.W.nsIn K mainGlobals "_law_truth" = some (some (.ref f17))) (l17 : K.lookup f17 = some ⟨oc17, od17, .func (PySem.W.fnOf "_law_truth" "_law_truth" (defArgs (top 25)) (defBody (top 25)) (defScope (top 25)) .none kV17 dc17 pm17 an17 cd17 ct17), sl17⟩) (c17 : PySem.W.codeIn K cd17 "_law_truth" = true) (k17 : PySem.W.keepIn K (.ref f17) = true)
    {f18 : Addr} {od18 an18 : Option Addr} {sl18 : Array (Option Value)} {oc18 kV18 dc18 pm18 cd18 ct18 : Value} (a18 : PySem.W.nsIn K mainGlobals "_law_called" = some (some (.ref f18))) (l18 : K.lookup f18 = some ⟨oc18, od18, .func (PySem.W.fnOf "_law_called" "_law_called" (defArgs (top 26)) (defBody (top 26)) (defScope (top 26)) .none kV18 dc18 pm18 an18 cd18 ct18), sl18⟩) (c18 : PySem.W.codeIn K cd18 "_law_called" = true) (k18 : PySem.W.keepIn K (.ref f18) = true)
    {f19 : Addr} {od19 an19 : Option Addr} {sl19 : Array (Option Value)} {oc19 kV19 dc19 pm19 cd19 ct19 : Value} (a19 : PySem.W.nsIn K mainGlobals "_law_named" = some (some (.ref f19))) (l19 : K.lookup f19 = some ⟨oc19, od19, .func (PySem.W.fnOf "_law_named" "_law_named" (defArgs (top 27)) (defBody (top 27)) (defScope (top 27)) .none kV19 dc19 pm19 an19 cd19 ct19), sl19⟩) (c19 : PySem.W.codeIn K cd19 "_law_named" = true) (k19 : PySem.W.keepIn K (.ref f19) = true)
    {f20 : Addr} {od20 an20 : Option Addr} {sl20 : Array (Option Value)} {oc20 kV20 dc20 pm20 cd20 ct20 : Value} (a20 : PySem.W.nsIn K mainGlobals "_law_word" = some (some (.ref f20))) (l20 : K.lookup f20 = some ⟨oc20, od20, .func (PySem.W.fnOf "_law_word" "_law_word" (defArgs (top 28)) (defBody (top 28)) (defScope (top 28)) .none kV20 dc20 pm20 an20 cd20 ct20), sl20⟩) (c20 : PySem.W.codeIn K cd20 "_law_word" = true) (k20 : PySem.W.keepIn K (.ref f20) = true)
    {f21 : Addr} {od21 an21 : Option Addr} {sl21 : Array (Option Value)} {oc21 kV21 dc21 pm21 cd21 ct21 : Value} (a21 : PySem.W.nsIn K mainGlobals "_law_due" = some (some (.ref f21))) (l21 : K.lookup f21 = some ⟨oc21, od21, .func (PySem.W.fnOf "_law_due" "_law_due" (defArgs (top 29)) (defBody (top 29)) (defScope (top 29)) .none kV21 dc21 pm21 an21 cd21 ct21), sl21⟩) (c21 : PySem.W.codeIn K cd21 "_law_due" = true) (k21 : PySem.W.keepIn K (.ref f21) = true)
    {f22 : Addr} {od22 an22 : Option Addr} {sl22 : Array (Option Value)} {oc22 kV22 dc22 pm22 cd22 ct22 : Value} (a22 : PySem.W.nsIn K mainGlobals "_law_pair" = some (some (.ref f22))) (l22 : K.lookup f22 = some ⟨oc22, od22, .func (PySem.W.fnOf "_law_pair" "_law_pair" (defArgs (top 30)) (defBody (top 30)) (defScope (top 30)) .none kV22 dc22 pm22 an22 cd22 ct22), sl22⟩) (c22 : PySem.W.codeIn K cd22 "_law_pair" = true) (k22 : PySem.W.keepIn K (.ref f22) = true)
    {f23 : Addr} {od23 an23 : Option Addr} {sl23 : Array (Option Value)} {oc23 kV23 dc23 pm23 cd23 ct23 : Value} (a23 : PySem.W.nsIn K mainGlobals "_law_doors" = some (some (.ref f23))) (l23 : K.lookup f23 = some ⟨oc23, od23, .func (PySem.W.fnOf "_law_doors" "_law_doors" (defArgs (top 31)) (defBody (top 31)) (defScope (top 31)) .none kV23 dc23 pm23 an23 cd23 ct23), sl23⟩) (c23 : PySem.W.codeIn K cd23 "_law_doors" = true) (k23 : PySem.W.keepIn K (.ref f23) = true)
    {f24 : Addr} {od24 an24 : Option Addr} {sl24 : Array (Option Value)} {oc24 kV24 dc24 pm24 cd24 ct24 : Value} (a24 : PySem.W.nsIn K mainGlobals "_law_same" = some (some (.ref f24))) (l24 : K.lookup f24 = some ⟨oc24, od24, .func (PySem.W.fnOf "_law_same" "_law_same" (defArgs (top 32)) (defBody (top 32)) (defScope (top 32)) .none kV24 dc24 pm24 an24 cd24 ct24), sl24⟩) (c24 : PySem.W.codeIn K cd24 "_law_same" = true) (k24 : PySem.W.keepIn K (.ref f24) = true)
    {f25 : Addr} {od25 an25 : Option Addr} {sl25 : Array (Option Value)} {oc25 kV25 dc25 pm25 cd25 ct25 : Value} (a25 : PySem.W.nsIn K mainGlobals "law" = some (some (.ref f25))) (l25 : K.lookup f25 = some ⟨oc25, od25, .func (PySem.W.fnOf "law" "law" (defArgs (top 33)) (defBody (top 33)) (defScope (top 33)) .none kV25 dc25 pm25 an25 cd25 ct25), sl25⟩) (c25 : PySem.W.codeIn K cd25 "law" = true) (k25 : PySem.W.keepIn K (.ref f25) = true)
    (zlen : PySem.W.nsIn K mainGlobals "len" = some none)
    (zabs : PySem.W.nsIn K mainGlobals "abs" = some none)
    (zint : PySem.W.nsIn K mainGlobals "int" = some none)
    (zbool : PySem.W.nsIn K mainGlobals "bool" = some none)
    (ztuple : PySem.W.nsIn K mainGlobals "tuple" = some none)
    (zlist : PySem.W.nsIn K mainGlobals "list" = some none)
    (zrange : PySem.W.nsIn K mainGlobals "range" = some none)
    (zisinstance : PySem.W.nsIn K mainGlobals "isinstance" = some none)
    (zValueError : PySem.W.nsIn K mainGlobals "ValueError" = some none)
    (zgcd : PySem.W.nsIn K mainGlobals "gcd" = some (some (.builtin "math.gcd")))
    (eS : PySem.W.nsIn K mainGlobals "StepError" = some (some (.ref CS)))
    (eB : PySem.W.nsIn K mainGlobals "BadRatio" = some (some (.ref CB)))
    (eZ : PySem.W.nsIn K mainGlobals "ZeroBottom" = some (some (.ref CZ)))
    (xB : PySem.W.excIn K CB [.type "ValueError", .type "Exception", .type "BaseException", .type "object"] "ValueError.__new__" = true) (yB : PySem.W.keepIn K (.ref CB) = true) (bB : PySem.W.subIn K (.ref CB) (.type "BaseException") = some true) (tB : PySem.W.typeIn K (.ref CB) = some (.type "type"))
    (qB1 : PySem.W.findIn K (.ref CB) "__getattribute__" = some (some (.builtin "BaseException.__getattribute__"))) (qB2 : PySem.W.findIn K (.ref CB) "__getattr__" = some none) (qB3 : PySem.W.hasDictIn K CB = true) (qB4 : PySem.W.findIn K (.ref CB) "__class__" = some (some (.builtin "object.__class__"))) (qB5 : PySem.W.mroIn K CB (.type "object") = some true)
    (xZ : PySem.W.excIn K CZ [.type "ValueError", .type "Exception", .type "BaseException", .type "object"] "ValueError.__new__" = true) (yZ : PySem.W.keepIn K (.ref CZ) = true) (bZ : PySem.W.subIn K (.ref CZ) (.type "BaseException") = some true) (tZ : PySem.W.typeIn K (.ref CZ) = some (.type "type"))
    (qZ1 : PySem.W.findIn K (.ref CZ) "__getattribute__" = some (some (.builtin "BaseException.__getattribute__"))) (qZ2 : PySem.W.findIn K (.ref CZ) "__getattr__" = some none) (qZ3 : PySem.W.hasDictIn K CZ = true) (qZ4 : PySem.W.findIn K (.ref CZ) "__class__" = some (some (.builtin "object.__class__"))) (qZ5 : PySem.W.mroIn K CZ (.type "object") = some true)
    (qn : PySem.W.specialIn K (.builtin "object.__class__") "__get__" = some (some (.builtin "getset_descriptor.__get__"))) (qt : PySem.W.takesIn K (.builtin "object.__class__") = some true)
    (sBS : PySem.W.subIn K (.ref CB) (.ref CS) = some true)
    (sBV : PySem.W.subIn K (.ref CB) (.type "ValueError") = some true)
    (sBZ : PySem.W.subIn K (.ref CB) (.ref CZ) = some false)
    (sBB : PySem.W.subIn K (.ref CB) (.ref CB) = some true)
    (sZS : PySem.W.subIn K (.ref CZ) (.ref CS) = some true)
    (sZV : PySem.W.subIn K (.ref CZ) (.type "ValueError") = some true)
    (sZB : PySem.W.subIn K (.ref CZ) (.ref CB) = some false)
    (sZZ : PySem.W.subIn K (.ref CZ) (.ref CZ) = some true)
    (iS : PySem.W.isClsIn K CS = true) (iB : PySem.W.isClsIn K CB = true) (iZ : PySem.W.isClsIn K CZ = true) (tS : PySem.W.typeIn K (.ref CS) = some (.type "type"))
     :
    ∃ fd : FuncData, (∀ (s : Shared) (v : Value), BindsTo s fd ⟨[v], []⟩ [("_law_script", v)]) ∧ ∀ base : Heap, K.In base → base.Ns mainGlobals mg → FnOk l.prog w K mg base CX0 8 fa fd ["_law_script"] (spLaw K) := by
  have e := hfa.symm.trans (PySem.W.mg_of X G a25)
  cases e
  have F0 := fun_mk (st := top 6) l0 c0 k0
  have B0 := F0.binds (ps := ["thing"]) fun _ _ _ _ _ _ us hl => match us, hl with | [_], _ => rfl
  have D0 : Df K mg "is_integer" ["thing"] f0 _ := ⟨PySem.W.mg_of X G a0, k0, B0⟩
  have F1 := fun_mk (st := top 7) l1 c1 k1
  have B1 := F1.binds (ps := ["thing", "least", "most"]) fun _ _ _ _ _ _ us hl => match us, hl with | [_, _, _], _ => rfl
  have D1 : Df K mg "is_tuple" ["thing", "least", "most"] f1 _ := ⟨PySem.W.mg_of X G a1, k1, B1⟩
  have F2 := fun_mk (st := top 10) l2 c2 k2
  have B2 := F2.binds (ps := ["top", "bottom"]) fun _ _ _ _ _ _ us hl => match us, hl with | [_, _], _ => rfl
  have D2 : Df K mg "ratio" ["top", "bottom"] f2 _ := ⟨PySem.W.mg_of X G a2, k2, B2⟩
  have F3 := fun_mk (st := top 11) l3 c3 k3
  have B3 := F3.binds (ps := ["a", "b"]) fun _ _ _ _ _ _ us hl => match us, hl with | [_, _], _ => rfl
  have D3 : Df K mg "plus" ["a", "b"] f3 _ := ⟨PySem.W.mg_of X G a3, k3, B3⟩
  have F4 := fun_mk (st := top 12) l4 c4 k4
  have B4 := F4.binds (ps := ["a", "b"]) fun _ _ _ _ _ _ us hl => match us, hl with | [_, _], _ => rfl
  have D4 : Df K mg "minus" ["a", "b"] f4 _ := ⟨PySem.W.mg_of X G a4, k4, B4⟩
  have F5 := fun_mk (st := top 13) l5 c5 k5
  have B5 := F5.binds (ps := ["a", "b"]) fun _ _ _ _ _ _ us hl => match us, hl with | [_, _], _ => rfl
  have D5 : Df K mg "product" ["a", "b"] f5 _ := ⟨PySem.W.mg_of X G a5, k5, B5⟩
  have F6 := fun_mk (st := top 14) l6 c6 k6
  have B6 := F6.binds (ps := ["a", "b"]) fun _ _ _ _ _ _ us hl => match us, hl with | [_, _], _ => rfl
  have D6 : Df K mg "quotient" ["a", "b"] f6 _ := ⟨PySem.W.mg_of X G a6, k6, B6⟩
  have F7 := fun_mk (st := top 15) l7 c7 k7
  have B7 := F7.binds (ps := ["a", "b"]) fun _ _ _ _ _ _ us hl => match us, hl with | [_, _], _ => rfl
  have D7 : Df K mg "below" ["a", "b"] f7 _ := ⟨PySem.W.mg_of X G a7, k7, B7⟩
  have F8 := fun_mk (st := top 9) l8 c8 k8
  have B8 := F8.binds (ps := ["thing"]) fun _ _ _ _ _ _ us hl => match us, hl with | [_], _ => rfl
  have D8 : Df K mg "is_ratio" ["thing"] f8 _ := ⟨PySem.W.mg_of X G a8, k8, B8⟩
  have F9 := fun_mk (st := top 16) l9 c9 k9
  have B9 := F9.binds (ps := ["a", "b"]) fun _ _ _ _ _ _ us hl => match us, hl with | [_, _], _ => rfl
  have D9 : Df K mg "_need_both" ["a", "b"] f9 _ := ⟨PySem.W.mg_of X G a9, k9, B9⟩
  have F10 := fun_mk (st := top 18) l10 c10 k10
  have B10 := F10.binds (ps := ["_law_a", "_law_b"]) fun _ _ _ _ _ _ us hl => match us, hl with | [_, _], _ => rfl
  have D10 : Df K mg "_law_gcd" ["_law_a", "_law_b"] f10 _ := ⟨PySem.W.mg_of X G a10, k10, B10⟩
  have F11 := fun_mk (st := top 19) l11 c11 k11
  have B11 := F11.binds (ps := ["_law_top", "_law_bottom"]) fun _ _ _ _ _ _ us hl => match us, hl with | [_, _], _ => rfl
  have D11 : Df K mg "_law_lowest" ["_law_top", "_law_bottom"] f11 _ := ⟨PySem.W.mg_of X G a11, k11, B11⟩
  have F12 := fun_mk (st := top 20) l12 c12 k12
  have B12 := F12.binds (ps := ["_law_well_here", "_law_many"]) fun _ _ _ _ _ _ us hl => match us, hl with | [_, _], _ => rfl
  have D12 : Df K mg "_law_draw" ["_law_well_here", "_law_many"] f12 _ := ⟨PySem.W.mg_of X G a12, k12, B12⟩
  have F13 := fun_mk (st := top 21) l13 c13 k13
  have B13 := F13.binds (ps := ["_law_well_here"]) fun _ _ _ _ _ _ us hl => match us, hl with | [_], _ => rfl
  have D13 : Df K mg "_law_number" ["_law_well_here"] f13 _ := ⟨PySem.W.mg_of X G a13, k13, B13⟩
  have F14 := fun_mk (st := top 22) l14 c14 k14
  have B14 := F14.binds (ps := ["_law_well_here"]) fun _ _ _ _ _ _ us hl => match us, hl with | [_], _ => rfl
  have D14 : Df K mg "_law_no_ratio" ["_law_well_here"] f14 _ := ⟨PySem.W.mg_of X G a14, k14, B14⟩
  have F15 := fun_mk (st := top 23) l15 c15 k15
  have B15 := F15.binds (ps := ["_law_thing"]) fun _ _ _ _ _ _ us hl => match us, hl with | [_], _ => rfl
  have D15 : Df K mg "_law_int" ["_law_thing"] f15 _ := ⟨PySem.W.mg_of X G a15, k15, B15⟩
  have F16 := fun_mk (st := top 24) l16 c16 k16
  have B16 := F16.binds (ps := ["_law_script", "_law_at"]) fun _ _ _ _ _ _ us hl => match us, hl with | [_, _], _ => rfl
  have D16 : Df K mg "_law_well" ["_law_script", "_law_at"] f16 _ := ⟨PySem.W.mg_of X G a16, k16, B16⟩
  have F17 := fun_mk (st := top 25) l17 c17 k17
  have B17 := F17.binds (ps := ["_law_told", "_law_due_here"]) fun _ _ _ _ _ _ us hl => match us, hl with | [_, _], _ => rfl
  have D17 : Df K mg "_law_truth" ["_law_told", "_law_due_here"] f17 _ := ⟨PySem.W.mg_of X G a17, k17, B17⟩
  have F18 := fun_mk (st := top 26) l18 c18 k18
  have B18 := F18.binds (ps := ["_law_pick", "_law_a", "_law_b"]) fun _ _ _ _ _ _ us hl => match us, hl with | [_, _, _], _ => rfl
  have D18 : Df K mg "_law_called" ["_law_pick", "_law_a", "_law_b"] f18 _ := ⟨PySem.W.mg_of X G a18, k18, B18⟩
  have F19 := fun_mk (st := top 27) l19 c19 k19
  have B19 := F19.binds (ps := ["_law_pick", "_law_a", "_law_b"]) fun _ _ _ _ _ _ us hl => match us, hl with | [_, _, _], _ => rfl
  have D19 : Df K mg "_law_named" ["_law_pick", "_law_a", "_law_b"] f19 _ := ⟨PySem.W.mg_of X G a19, k19, B19⟩
  have F20 := fun_mk (st := top 28) l20 c20 k20
  have B20 := F20.binds (ps := ["_law_pick", "_law_a", "_law_b"]) fun _ _ _ _ _ _ us hl => match us, hl with | [_, _, _], _ => rfl
  have D20 : Df K mg "_law_word" ["_law_pick", "_law_a", "_law_b"] f20 _ := ⟨PySem.W.mg_of X G a20, k20, B20⟩
  have F21 := fun_mk (st := top 29) l21 c21 k21
  have B21 := F21.binds (ps := ["_law_pick", "_law_a", "_law_b"]) fun _ _ _ _ _ _ us hl => match us, hl with | [_, _, _], _ => rfl
  have D21 : Df K mg "_law_due" ["_law_pick", "_law_a", "_law_b"] f21 _ := ⟨PySem.W.mg_of X G a21, k21, B21⟩
  have F22 := fun_mk (st := top 30) l22 c22 k22
  have B22 := F22.binds (ps := ["_law_well_here"]) fun _ _ _ _ _ _ us hl => match us, hl with | [_], _ => rfl
  have D22 : Df K mg "_law_pair" ["_law_well_here"] f22 _ := ⟨PySem.W.mg_of X G a22, k22, B22⟩
  have F23 := fun_mk (st := top 31) l23 c23 k23
  have B23 := F23.binds (ps := ["_law_well_here", "_law_a", "_law_b"]) fun _ _ _ _ _ _ us hl => match us, hl with | [_, _, _], _ => rfl
  have D23 : Df K mg "_law_doors" ["_law_well_here", "_law_a", "_law_b"] f23 _ := ⟨PySem.W.mg_of X G a23, k23, B23⟩
  have F24 := fun_mk (st := top 32) l24 c24 k24
  have B24 := F24.binds (ps := ["_law_told", "_law_due_here"]) fun _ _ _ _ _ _ us hl => match us, hl with | [_, _], _ => rfl
  have D24 : Df K mg "_law_same" ["_law_told", "_law_due_here"] f24 _ := ⟨PySem.W.mg_of X G a24, k24, B24⟩
  have F25 := fun_mk (st := top 33) l25 c25 k25
  have glen := PySem.W.mg_none_of X G zlen
  have gabs := PySem.W.mg_none_of X G zabs
  have gint := PySem.W.mg_none_of X G zint
  have gbool := PySem.W.mg_none_of X G zbool
  have gtuple := PySem.W.mg_none_of X G ztuple
  have glist := PySem.W.mg_none_of X G zlist
  have grange := PySem.W.mg_none_of X G zrange
  have gisinstance := PySem.W.mg_none_of X G zisinstance
  have gValueError := PySem.W.mg_none_of X G zValueError
  have ggcd := PySem.W.mg_of X G zgcd
  have er : Errs K mg CS CB CZ := { gS := PySem.W.mg_of X G eS, gB := PySem.W.mg_of X G eB, gZ := PySem.W.mg_of X G eZ, nV := gValueError, nI := gisinstance, cB := ⟨qB1, qB2, bB, qB3, qB4, qn, qt, qB5⟩, cZ := ⟨qZ1, qZ2, bZ, qZ3, qZ4, qn, qt, qZ5⟩, bS := kit_t iS tS sBS, bV := kit_v sBV, bZ := kit_f iZ tZ sBZ sBB, zS := kit_t iS tS sZS, zV := kit_v sZV, eBB := PySem.W.exm_ref bB qB3 tB sBB, eZB := PySem.W.exm_ref bB qB3 tB sZB, eZZ := PySem.W.exm_ref bZ qZ3 tZ sZZ }
  have bi : Bi mg := ⟨glen, gabs, gint⟩
  have N4 : Nat4 mg := ⟨gisinstance, gint, gbool, gtuple, glen⟩
  have XB : Exn K mg "BadRatio" CB := ⟨xB, PySem.W.mg_of X G eB, yB, bB, tB⟩
  have XZ : Exn K mg "ZeroBottom" CZ := ⟨xZ, PySem.W.mg_of X G eZ, yZ, bZ, tZ⟩
  refine ⟨PySem.W.fnOf "law" "law" (defArgs (top 33)) (defBody (top 33)) (defScope (top 33)) .none kV25 dc25 pm25 an25 cd25 ct25, fun s v => .of_eq rfl, fun base _ _ => ?_⟩
  have G0 := ok_isInt (P := l.prog) (w := w) (base := base) F0 N4
  have G1 := ok_isTup (P := l.prog) (w := w) (base := base) F1 N4
  have G8 := ok_isR (P := l.prog) (w := w) (base := base) F8 ggcd G1 D1 G0 D0
  have G9 := ok_need (P := l.prog) (w := w) (base := base) F9 XB G8 D8
  have G2 := ok_ratio (P := l.prog) (w := w) (base := base) (n := 2) F2 XZ ggcd
  have S : Six l.prog w K mg base CB CZ 4 f3 f4 f5 f6 f7 f2 _ _ _ _ _ _ := {
    g0 := ok_plus F3 XZ G9 D9 G2 D2, g1 := ok_minus F4 XZ G9 D9 G2 D2, g2 := ok_product F5 XZ G9 D9 G2 D2, g3 := ok_quotient F6 XZ G9 D9 G2 D2, g4 := ok_below F7 G9 D9, g5 := ok_ratio (n := 3) F2 XZ ggcd
    n0 := D3, n1 := D4, n2 := D5, n3 := D6, n4 := D7, n5 := D2
    k0 := ⟨fun s us ws _ h1 h2 => match us, ws, h1, h2 with | [], [_, _], _, _ => .of_eq rfl, fun _ r => vals_rev r⟩, k1 := ⟨fun s us ws _ h1 h2 => match us, ws, h1, h2 with | [], [_, _], _, _ => .of_eq rfl, fun _ r => vals_rev r⟩, k2 := ⟨fun s us ws _ h1 h2 => match us, ws, h1, h2 with | [], [_, _], _, _ => .of_eq rfl, fun _ r => vals_rev r⟩, k3 := ⟨fun s us ws _ h1 h2 => match us, ws, h1, h2 with | [], [_, _], _, _ => .of_eq rfl, fun _ r => vals_rev r⟩, k4 := ⟨fun s us ws _ h1 h2 => match us, ws, h1, h2 with | [], [_, _], _, _ => .of_eq rfl, fun _ r => vals_rev r⟩, k5 := ⟨fun s us ws _ h1 h2 => match us, ws, h1, h2 with | [], [_, _], _, _ => .of_eq rfl, fun _ r => vals_rev r⟩ }
  have G10 := ok_gcd (P := l.prog) (w := w) (base := base) F10 bi
  have G11 := ok_lowest (P := l.prog) (w := w) (base := base) F11 G10 D10
  have G12 := ok_draw (P := l.prog) (w := w) (base := base) F12 bi
  have G13 := ok_number (P := l.prog) (w := w) (base := base) F13 G12 D12
  have G14 := ok_no (P := l.prog) (w := w) (base := base) F14 bi G12 D12
  have G15 := ok_int (P := l.prog) (w := w) (base := base) F15 gisinstance gint gbool
  have G16 := ok_well (P := l.prog) (w := w) (base := base) F16 glist
  have G17 := ok_truth (P := l.prog) (w := w) (base := base) F17 gisinstance gbool
  have G18 := ok_called F18 S
  have G19 := ok_named F19 S
  have G20 := ok_word F20 er G18 D18
  have G21 := ok_due (P := l.prog) (w := w) (base := base) F21 G11 D11
  have G22 := ok_pair (P := l.prog) (w := w) (base := base) F22 G13 D13 G12 D12
  have G23 := ok_doors F23 (by decide) grange gint G14 D14 G20 D20
  have G24 := ok_same (P := l.prog) (w := w) (base := base) F24 gisinstance gtuple glen G15 D15
  exact ok_law F25 (by decide) grange glen S G16 D16 G22 D22 G11 D11 G24 D24 G19 D19 G12 D12 G21 D21 G18 D18 G17 D17 G23 D23
theorem walk {l : PySem.W.OpenLaw} {q : Program} {loose : List Str} {XP : (Str → Option Value) → Heap → Prop} {YP : World → Heap → Prop} {d : DefRec} {K : Params → PySem.W.Frag} (hn : l.most = some 63) (hdf : d.params.defaults = [])
    (hY : ∀ (w : World) (h : Heap), YP w h → (K w.params).In h)
    (F : ∀ (w : World) (mg : Str → Option Value) (fa : Addr) (h : Heap), (K w.params).In h → h.Ns mainGlobals mg → mg d.name = some (.ref fa) →
      ∃ fd : FuncData, (∀ (s : Shared) (u : Value), BindsTo s fd ⟨[u], []⟩ [("_law_script", u)]) ∧ ∀ base : Heap, (K w.params).In base → base.Ns mainGlobals mg → FnOk l.prog w (K w.params) mg base CX0 8 fa fd ["_law_script"] (spLaw (K w.params))) :
    PySem.W.WalkO q loose XP YP l.row.toRowW d [] (fun f vs => PySem.call f vs) :=
  L2.walk_of (n := 63) (k := 8) (x := "_law_script") (CX := fun _ => CX0) (sp := fun w => spLaw (K w.params)) hn (by decide) hdf ⟨rfl, by decide, by decide⟩ hY F (fun _ _ a ns hl _ hS => ⟨a, ns, rfl, hS, hl, fun _ => rfl⟩) fun _ _ _ _ _ z => z
end Rt
open PySem PySem.W PyProof.Rows
set_option maxRecDepth 100000 in
set_option maxHeartbeats 0 in
theorem PySem.Challenge.cw_juststeps_k66_ratios_holds : PySem.Challenge.rw_juststeps_k66_ratios.Holds := by
  w_on; o_law; k_head; (case hw => w_witness2)
  k_fill
  refine Rt.walk (l := PySem.Challenge.rw_juststeps_k66_ratios) rfl rfl (fun w h Y => PySem.W.kIn_of Y) ?F
  case F =>
    intro w mg fa h KX G hmg
    refine' Rt.all_mk KX G hmg ?a0 ?l0 ?c0 ?k0 ?a1 ?l1 ?c1 ?k1 ?a2 ?l2 ?c2 ?k2 ?a3 ?l3 ?c3 ?k3 ?a4 ?l4 ?c4 ?k4 ?a5 ?l5 ?c5 ?k5 ?a6 ?l6 ?c6 ?k6 ?a7 ?l7 ?c7 ?k7 ?a8 ?l8 ?c8 ?k8 ?a9 ?l9 ?c9 ?k9 ?a10 ?l10 ?c10 ?k10 ?a11 ?l11 ?c11 ?k11 ?a12 ?l12 ?c12 ?k12 ?a13 ?l13 ?c13 ?k13 ?a14 ?l14 ?c14 ?k14 ?a15 ?l15 ?c15 ?k15 ?a16 ?l16 ?c16 ?k16 ?a17 ?l17 ?c17 ?k17 ?a18 ?l18 ?c18 ?k18 ?a19 ?l19 ?c19 ?k19 ?a20 ?l20 ?c20 ?k20 ?a21 ?l21 ?c21 ?k21 ?a22 ?l22 ?c22 ?k22 ?a23 ?l23 ?c23 ?k23 ?a24 ?l24 ?c24 ?k24 ?a25 ?l25 ?c25 ?k25 ?zlen ?zabs ?zint ?zbool ?ztuple ?zlist ?zrange ?zisinstance ?zValueError ?zgcd ?eS ?eB ?eZ ?xB ?yB ?bB ?tB ?qB1 ?qB2 ?qB3 ?qB4 ?qB5 ?xZ ?yZ ?bZ ?tZ ?qZ1 ?qZ2 ?qZ3 ?qZ4 ?qZ5 ?qn ?qt ?sBS ?sBV ?sBZ ?sBB ?sZS ?sZV ?sZB ?sZZ ?iS ?iB ?iZ ?tS
    (case a0 => k_is)
    (case l0 => k_is)
    (case c0 => k_is)
    (case k0 => k_is)
    (case a1 => k_is)
    (case l1 => k_is)
    (case c1 => k_is)
    (case k1 => k_is)
    (case a2 => k_is)
    (case l2 => k_is)
    (case c2 => k_is)
    (case k2 => k_is)
    (case a3 => k_is)
    (case l3 => k_is)
    (case c3 => k_is)
    (case k3 => k_is)
    (case a4 => k_is)
    (case l4 => k_is)
    (case c4 => k_is)
    (case k4 => k_is)
    (case a5 => k_is)
    (case l5 => k_is)
    (case c5 => k_is)
    (case k5 => k_is)
    (case a6 => k_is)
    (case l6 => k_is)
    (case c6 => k_is)
    (case k6 => k_is)
    (case a7 => k_is)
    (case l7 => k_is)
    (case c7 => k_is)
    (case k7 => k_is)
    (case a8 => k_is)
    (case l8 => k_is)
    (case c8 => k_is)
    (case k8 => k_is)
    (case a9 => k_is)
    (case l9 => k_is)
    (case c9 => k_is)
    (case k9 => k_is)
    (case a10 => k_is)
    (case l10 => k_is)
    (case c10 => k_is)
    (case k10 => k_is)
    (case a11 => k_is)
    (case l11 => k_is)
    (case c11 => k_is)
    (case k11 => k_is)
    (case a12 => k_is)
    (case l12 => k_is)
    (case c12 => k_is)
    (case k12 => k_is)
    (case a13 => k_is)
    (case l13 => k_is)
    (case c13 => k_is)
    (case k13 => k_is)
    (case a14 => k_is)
    (case l14 => k_is)
    (case c14 => k_is)
    (case k14 => k_is)
    (case a15 => k_is)
    (case l15 => k_is)
    (case c15 => k_is)
    (case k15 => k_is)
    (case a16 => k_is)
    (case l16 => k_is)
    (case c16 => k_is)
    (case k16 => k_is)
    (case a17 => k_is)
    (case l17 => k_is)
    (case c17 => k_is)
    (case k17 => k_is)
    (case a18 => k_is)
    (case l18 => k_is)
    (case c18 => k_is)
    (case k18 => k_is)
    (case a19 => k_is)
    (case l19 => k_is)
    (case c19 => k_is)
    (case k19 => k_is)
    (case a20 => k_is)
    (case l20 => k_is)
    (case c20 => k_is)
    (case k20 => k_is)
    (case a21 => k_is)
    (case l21 => k_is)
    (case c21 => k_is)
    (case k21 => k_is)
    (case a22 => k_is)
    (case l22 => k_is)
    (case c22 => k_is)
    (case k22 => k_is)
    (case a23 => k_is)
    (case l23 => k_is)
    (case c23 => k_is)
    (case k23 => k_is)
    (case a24 => k_is)
    (case l24 => k_is)
    (case c24 => k_is)
    (case k24 => k_is)
    (case a25 => k_is)
    (case l25 => k_is)
    (case c25 => k_is)
    (case k25 => k_is)
    (case zlen => k_is)
    (case zabs => k_is)
    (case zint => k_is)
    (case zbool => k_is)
    (case ztuple => k_is)
    (case zlist => k_is)
    (case zrange => k_is)
    (case zisinstance => k_is)
    (case zValueError => k_is)
    (case zgcd => k_is)
    (case eS => k_is)
    (case eB => k_is)
    (case eZ => k_is)
    (case xB => k_exc)
    (case yB => k_is)
    (case bB => k_is)
    (case tB => k_is)
    (case qB1 => k_is)
    (case qB2 => k_is)
    (case qB3 => k_is)
    (case qB4 => k_is)
    (case qB5 => k_is)
    (case xZ => k_exc)
    (case yZ => k_is)
    (case bZ => k_is)
    (case tZ => k_is)
    (case qZ1 => k_is)
    (case qZ2 => k_is)
    (case qZ3 => k_is)
    (case qZ4 => k_is)
    (case qZ5 => k_is)
    (case qn => k_is)
    (case qt => k_is)
    (case sBS => k_is)
    (case sBV => k_is)
    (case sBZ => k_is)
    (case sBB => k_is)
    (case sZS => k_is)
    (case sZV => k_is)
    (case sZB => k_is)
    (case sZZ => k_is)
    (case iS => k_is)
    (case iB => k_is)
    (case iZ => k_is)
    (case tS => k_is)
