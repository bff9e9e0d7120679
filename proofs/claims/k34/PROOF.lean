import PyProof.Rows.All
import Wide.All
import OpenK.AllK
import Wide.FinOn
import HandS.AnyAll
import HandS.GenList
import HandS.Conv
import HandS.ForSpec
import HandS.Wide
import HandS.IsInst
import HandS.ExcIs
import HandS.Codes
import HandS.Defaults
import HandS.Text
import HandS.StrMore
import HandS.Flow
import HandS.TupLen
import HandS.DictTup
import HandS.TupSets
import HandS.More
import HandS.RaiseMore
import HandS.Zip
import HandS.TupAny
import HandS.Walk
import PyProof.NeKinds
import HandS.NoneIn
import HandS.Gcd
import HandS.Deep
import HandS.TupLe
import PySem.Challenge.RW_juststeps_k34_showings_judged
set_option Elab.async false
namespace GxR
theorem own_ns : True := trivial
end GxR
namespace GA
theorem own_ns : True := trivial
end GA
set_option Elab.async false
set_option linter.all false
set_option maxRecDepth 100000
set_option maxHeartbeats 4000000
namespace J1
open PySem PySem.Spec PyProof.Rows L2 GxR GA
def top (i : Nat) : Stmt := PySem.Challenge.pw_juststeps_k34_showings_judged.main.body.getD i (.Pass ⟨0, 0, 0, 0⟩)
/-! ### what is judged: things of tuples, lists, texts, integers, truths, None -/
inductive Da where
  | non
  | bl (b : Bool)
  | int (i : Int)
  | str (s : Str)
  | tup (l : List Da)
  | lst (l : List Da)
/-- a text of the size and the signs that there may be -/
structure SOk (s : Str) : Prop where
  len : s.length ≤ 10000
  ok : ∀ c ∈ s.cps.toList, c < 1114112
mutual
/-- the thing d is held at x; its lists stand where B says -/
inductive EncB (B : Addr → Prop) (H : Hp) : Da → V → Prop
  | non : EncB B H .non .non
  | bl (b : Bool) : EncB B H (.bl b) (.bl b)
  | int (i : Int) : EncB B H (.int i) (.int i)
  | str (s : Str) (h : SOk s) : EncB B H (.str s) (.str s)
  | tup {a : Addr} {xs : List V} {l : List Da} (h : H a = some (.tup xs)) (e : EncsB B H l xs) : EncB B H (.tup l) (.ref a)
  | lst {a : Addr} {xs : List V} {l : List Da} (h : H a = some (.lst xs)) (e : EncsB B H l xs) (b : B a) : EncB B H (.lst l) (.ref a)
inductive EncsB (B : Addr → Prop) (H : Hp) : List Da → List V → Prop
  | nil : EncsB B H [] []
  | cons {d : Da} {x : V} {l : List Da} {xs : List V} (h : EncB B H d x) (t : EncsB B H l xs) : EncsB B H (d :: l) (x :: xs)
end
abbrev Enc (H : Hp) : Da → V → Prop := EncB (fun _ => True) H
abbrev Encs (H : Hp) : List Da → List V → Prop := EncsB (fun _ => True) H
mutual
theorem EncB.any {B : Addr → Prop} {H : Hp} : ∀ {d : Da} {x : V}, EncB B H d x → Enc H d x
  | _, _, .non => .non
  | _, _, .bl b => .bl b
  | _, _, .int i => .int i
  | _, _, .str s h => .str s h
  | _, _, .tup h e => .tup h (EncsB.any e)
  | _, _, .lst h e _ => .lst h (EncsB.any e) trivial
theorem EncsB.any {B : Addr → Prop} {H : Hp} : ∀ {l : List Da} {xs : List V}, EncsB B H l xs → Encs H l xs
  | _, _, .nil => .nil
  | _, _, .cons h t => .cons (EncB.any h) (EncsB.any t)
end
/-- all that stood stands; tables may have grown -/
def Grow (H H' : Hp) : Prop := ∀ a o, H a = some o → H' a = some o ∨ (∃ ps, o = .tbl ps) ∧ TabG H' a
theorem Grow.refl (H : Hp) : Grow H H := fun _ _ h => .inl h
theorem Grow.trans {H H1 H2 : Hp} (x : Grow H H1) (y : Grow H1 H2) : Grow H H2 := fun a o h => by
  rcases x a o h with h1 | ⟨h1, h2⟩
  · exact y a o h1
  · obtain ⟨ps, q, _⟩ := h2
    rcases y a _ q with z | ⟨_, z⟩
    · exact .inr ⟨h1, ps, z, by assumption⟩
    · exact .inr ⟨h1, z⟩
theorem Grow.new {H : Hp} {a : Addr} {o : HO} (h : H a = none) : Grow H (upd H a o) := fun b u e => .inl (by rw [upd_ne (ne_of_none e h)]; exact e)
theorem Grow.tab {P : Addr} {H H' : Hp} (h : TabG H P) (t : Tabbed P H H') : Grow H H' := fun b u e => by
  by_cases z : b = P
  · subst z
    obtain ⟨ps, q, _⟩ := h
    rw [q] at e
    cases e
    exact .inr ⟨⟨ps, rfl⟩, t.1⟩
  · exact .inl ((t.2 b z).trans e)
theorem Grow.tup {H H' : Hp} (g : Grow H H') {a : Addr} {xs : List V} (h : H a = some (.tup xs)) : H' a = some (.tup xs) := by
  rcases g a _ h with q | ⟨⟨ps, q⟩, _⟩
  · exact q
  · cases q
theorem Grow.lst {H H' : Hp} (g : Grow H H') {a : Addr} {xs : List V} (h : H a = some (.lst xs)) : H' a = some (.lst xs) := by
  rcases g a _ h with q | ⟨⟨ps, q⟩, _⟩
  · exact q
  · cases q
theorem Grow.tabs {H H' : Hp} (g : Grow H H') {P : Addr} (h : TabG H P) : TabG H' P := by
  obtain ⟨ps, q, z⟩ := h
  rcases g P _ q with q | ⟨_, q⟩
  · exact ⟨ps, q, z⟩
  · exact q
/-- .. but for the list at w, which is none of B's -/
def GrowW (w : Addr) (H H' : Hp) : Prop := ∀ a o, a ≠ w → H a = some o → H' a = some o ∨ (∃ ps, o = .tbl ps) ∧ TabG H' a
mutual
theorem EncB.growW {B : Addr → Prop} {w : Addr} {H H' : Hp} (g : GrowW w H H') (hB : ¬ B w) (hw : ∀ xs, H w ≠ some (.tup xs)) : ∀ {d : Da} {x : V}, EncB B H d x → EncB B H' d x
  | _, _, .non => .non
  | _, _, .bl b => .bl b
  | _, _, .int i => .int i
  | _, _, .str s h => .str s h
  | _, _, .tup (a := a) (xs := xs) h e => .tup (by
      rcases g a _ (fun z => hw xs (z ▸ h)) h with q | ⟨⟨ps, q⟩, _⟩
      · exact q
      · cases q) (EncsB.growW g hB hw e)
  | _, _, .lst (a := a) h e b => .lst (by
      rcases g a _ (fun z => hB (z ▸ b)) h with q | ⟨⟨ps, q⟩, _⟩
      · exact q
      · cases q) (EncsB.growW g hB hw e) b
theorem EncsB.growW {B : Addr → Prop} {w : Addr} {H H' : Hp} (g : GrowW w H H') (hB : ¬ B w) (hw : ∀ xs, H w ≠ some (.tup xs)) : ∀ {l : List Da} {xs : List V}, EncsB B H l xs → EncsB B H' l xs
  | _, _, .nil => .nil
  | _, _, .cons h t => .cons (EncB.growW g hB hw h) (EncsB.growW g hB hw t)
end
mutual
theorem EncB.grow {B : Addr → Prop} {H H' : Hp} (g : Grow H H') : ∀ {d : Da} {x : V}, EncB B H d x → EncB B H' d x
  | _, _, .non => .non
  | _, _, .bl b => .bl b
  | _, _, .int i => .int i
  | _, _, .str s h => .str s h
  | _, _, .tup h e => .tup (g.tup h) (EncsB.grow g e)
  | _, _, .lst h e b => .lst (g.lst h) (EncsB.grow g e) b
theorem EncsB.grow {B : Addr → Prop} {H H' : Hp} (g : Grow H H') : ∀ {l : List Da} {xs : List V}, EncsB B H l xs → EncsB B H' l xs
  | _, _, .nil => .nil
  | _, _, .cons h t => .cons (EncB.grow g h) (EncsB.grow g t)
end
theorem EncsB.length {B : Addr → Prop} {H : Hp} : ∀ {l : List Da} {xs : List V}, EncsB B H l xs → l.length = xs.length
  | _, _, .nil => rfl
  | _, _, .cons _ t => by rw [List.length_cons, List.length_cons, EncsB.length t]
theorem EncsB.get {B : Addr → Prop} {H : Hp} : ∀ {l : List Da} {xs : List V} {i : Nat} {x : V}, EncsB B H l xs → xs[i]? = some x → ∃ d, l[i]? = some d ∧ EncB B H d x
  | _, _, _, _, .nil, e => by cases e
  | _, _, 0, _, .cons h _, e => by cases e; exact ⟨_, rfl, h⟩
  | _, _, i + 1, _, .cons _ t, e => by
    obtain ⟨d, q, z⟩ := EncsB.get t (i := i) e
    exact ⟨d, q, z⟩
theorem EncsB.got {B : Addr → Prop} {H : Hp} : ∀ {l : List Da} {xs : List V} {i : Nat} {d : Da}, EncsB B H l xs → l[i]? = some d → ∃ x, xs[i]? = some x ∧ EncB B H d x
  | _, _, _, _, .nil, e => by cases e
  | _, _, 0, _, .cons h _, e => by cases e; exact ⟨_, rfl, h⟩
  | _, _, i + 1, _, .cons _ t, e => by
    obtain ⟨d, q, z⟩ := EncsB.got t (i := i) e
    exact ⟨d, q, z⟩
def tyD : Da → String
  | .non => "NoneType"
  | .bl _ => "bool"
  | .int _ => "int"
  | .str _ => "str"
  | .tup _ => "tuple"
  | .lst _ => "list"
theorem EncB.ty {B : Addr → Prop} {K : PySem.W.Frag} {H : Hp} {d : Da} {x : V} (h : EncB B H d x) : TyX K H x (.type (tyD d)) := by
  cases h with
  | non => exact .base .non
  | bl b => exact .base (.bl b)
  | int i => exact .base (.int i)
  | str s _ => exact .base (.str s)
  | tup h e => exact .base (.tup h)
  | lst h e _ => exact .base (.lst h)
/-- isinstance's answer -/
def isD (d : Da) (t : String) : Bool := match d, t with
  | .bl _, "int" => true
  | d, t => tyD d == t
theorem kb_NoneType_int : kitB "NoneType" "int" = some false := by decide +kernel
theorem kb_NoneType_bool : kitB "NoneType" "bool" = some false := by decide +kernel
theorem kb_NoneType_str : kitB "NoneType" "str" = some false := by decide +kernel
theorem kb_NoneType_tuple : kitB "NoneType" "tuple" = some false := by decide +kernel
theorem kb_bool_int : kitB "bool" "int" = some true := by decide +kernel
theorem kb_bool_bool : kitB "bool" "bool" = some true := by decide +kernel
theorem kb_bool_str : kitB "bool" "str" = some false := by decide +kernel
theorem kb_bool_tuple : kitB "bool" "tuple" = some false := by decide +kernel
theorem kb_int_int : kitB "int" "int" = some true := by decide +kernel
theorem kb_int_bool : kitB "int" "bool" = some false := by decide +kernel
theorem kb_int_str : kitB "int" "str" = some false := by decide +kernel
theorem kb_int_tuple : kitB "int" "tuple" = some false := by decide +kernel
theorem kb_str_int : kitB "str" "int" = some false := by decide +kernel
theorem kb_str_bool : kitB "str" "bool" = some false := by decide +kernel
theorem kb_str_str : kitB "str" "str" = some true := by decide +kernel
theorem kb_str_tuple : kitB "str" "tuple" = some false := by decide +kernel
theorem kb_tuple_int : kitB "tuple" "int" = some false := by decide +kernel
theorem kb_tuple_bool : kitB "tuple" "bool" = some false := by decide +kernel
theorem kb_tuple_str : kitB "tuple" "str" = some false := by decide +kernel
theorem kb_tuple_tuple : kitB "tuple" "tuple" = some true := by decide +kernel
theorem kb_list_int : kitB "list" "int" = some false := by decide +kernel
theorem kb_list_bool : kitB "list" "bool" = some false := by decide +kernel
theorem kb_list_str : kitB "list" "str" = some false := by decide +kernel
theorem kb_list_tuple : kitB "list" "tuple" = some false := by decide +kernel
def bI : Da → Bool
  | .bl _ => true
  | .int _ => true
  | _ => false
def bB : Da → Bool
  | .bl _ => true
  | _ => false
def bS : Da → Bool
  | .str _ => true
  | _ => false
def bT : Da → Bool
  | .tup _ => true
  | _ => false
theorem kitD (d : Da) : kitB (tyD d) "int" = some (bI d) ∧ kitB (tyD d) "bool" = some (bB d) ∧ kitB (tyD d) "str" = some (bS d) ∧ kitB (tyD d) "tuple" = some (bT d) := match d with
  | .non => ⟨kb_NoneType_int, kb_NoneType_bool, kb_NoneType_str, kb_NoneType_tuple⟩
  | .bl _ => ⟨kb_bool_int, kb_bool_bool, kb_bool_str, kb_bool_tuple⟩
  | .int _ => ⟨kb_int_int, kb_int_bool, kb_int_str, kb_int_tuple⟩
  | .str _ => ⟨kb_str_int, kb_str_bool, kb_str_str, kb_str_tuple⟩
  | .tup _ => ⟨kb_tuple_int, kb_tuple_bool, kb_tuple_str, kb_tuple_tuple⟩
  | .lst _ => ⟨kb_list_int, kb_list_bool, kb_list_str, kb_list_tuple⟩
/-- a def as the globals hold it -/
structure Df (K : PySem.W.Frag) (mg : Str → Option Value) (x : Str) (ps : List Str) (f : Addr) (fd : FuncData) : Prop where
  g : mg x = some (.ref f)
  k : PySem.W.keepIn K (.ref f) = true
  b : Binds K fd ps []
theorem ifT {p : Prop} [Decidable p] {A B : Prop} (h : p) (a : A) : if decide p = true then A else B := by
  rw [decide_eq_true h]
  exact iteT a
theorem ifF {p : Prop} [Decidable p] {A B : Prop} (h : ¬ p) (b : B) : if decide p = true then A else B := by
  rw [decide_eq_false h]
  exact iteF b
/-! ### a def that holds generator expressions: its code object at c -/
structure FunC (K : PySem.W.Frag) (x qual : Str) (st : Stmt) (f : Addr) (fd : FuncData) (c : Addr) : Prop where
  ex : ∃ (oc : Value) (od : Option Addr) (kV doc pm : Value) (an : Option Addr) (ct : Value) (osl : Array (Option Value)),
    fd = PySem.W.fnOf x qual (defArgs st) (defBody st) (defScope st) .none kV doc pm an (.ref c) ct ∧ K.lookup f = some ⟨oc, od, .func fd, osl⟩ ∧ PySem.W.codeIn K (.ref c) qual = true
  kp : PySem.W.keepIn K (.ref f) = true
theorem FunC.ok {P : Program} {w : World} {K : PySem.W.Frag} {mg : Str → Option Value} {base : Heap} {x qual : Str} {st : Stmt} {f c : Addr} {fd : FuncData} {N ps : List Str} {k : Nat} {sp : Sp} (F : FunC K x qual st f fd c) (S : FnScope N ps (defScope st)) (len : ∀ vs H Q E, sp vs H Q E → vs.length = ps.length)
    (hbody : ∀ (A : Around) (outer : List Env) (s : Shared) (H : Hp) (vs : List V) (Q : VK) (E : XK), Room k (A.deeper (envOfC qual (defScope st) s.heap.objs.size f (.ref c))) → sp vs H Q E →
      ∃ t, PSs (cxOf CX0 P w K mg base N qual (defScope st) f (.ref c) A outer s H E).nox (defBody st) t ∧ t { nx := fun _ H' => Q .non H', rt := Q } (start N vs) H) : FnOk P w K mg base CX0 (k + 1) f fd ps sp := by
  obtain ⟨oc, od, kV, doc, pm, an, ct, osl, rfl, lk, hcd⟩ := F.ex
  refine fn_of lk hcd S len fun A outer s H vs Q E hr hsp => ?_
  obtain ⟨t, h, q⟩ := hbody A outer s H vs Q E hr hsp
  exact ⟨t, h.nox, q⟩

end J1
set_option Elab.async false
set_option linter.all false
set_option maxRecDepth 100000
set_option maxHeartbeats 4000000
namespace J1
open PySem PySem.Spec PyProof.Rows L2 GxR GA
abbrev sInt : Stmt := top 6
abbrev sBet : Stmt := top 7
abbrev sTup : Stmt := top 8
theorem c11 : FnScope ["thing"] ["thing"] (defScope sInt) := ⟨rfl, rfl, rfl, by decide +kernel, rfl, by decide +kernel, by decide +kernel⟩
theorem c12 : FnScope ["thing", "least", "most"] ["thing", "least", "most"] (defScope sBet) := ⟨rfl, rfl, rfl, by decide +kernel, rfl, by decide +kernel, by decide +kernel⟩
theorem c15 : FnScope ["thing", "least", "most"] ["thing", "least", "most"] (defScope sTup) := ⟨rfl, rfl, rfl, by decide +kernel, rfl, by decide +kernel, by decide +kernel⟩
/-! ### what they tell -/
def isInt (d : Da) : Bool := bI d && !bB d
def isBet (lo hi : Int) : Da → Bool
  | .int i => decide (lo ≤ i) && decide (i ≤ hi)
  | _ => false
def isTu (lo hi : Int) : Da → Bool
  | .tup l => decide (lo ≤ (l.length : Int)) && decide ((l.length : Int) ≤ hi)
  | _ => false
/-- a judge of one thing that lays nothing -/
def spF (g : Da → Bool) : Sp := fun vs H Q _ => ∃ x d, vs = [x] ∧ Enc H d x ∧ Q (.bl (g d)) H
def spF3 (g : Int → Int → Da → Bool) : Sp := fun vs H Q _ => ∃ x d lo hi, vs = [x, .int lo, .int hi] ∧ Enc H d x ∧ Q (.bl (g lo hi d)) H
/-- the globals that they use -/
structure Gn (K : PySem.W.Frag) (mg : Str → Option Value) : Prop where
  nI : mg "isinstance" = none
  ni : mg "int" = none
  nb : mg "bool" = none
  nt : mg "tuple" = none
  ns : mg "str" = none
  nl : mg "len" = none
  na : mg "all" = none
section
variable {P : Program} {w : World} {K : PySem.W.Frag} {mg : Str → Option Value} {base : Heap}
theorem ok_int {f : Addr} {fd : FuncData} (F : Fun K "is_integer" "is_integer" sInt f fd) (N : Gn K mg) : FnOk P w K mg base CX0 1 f fd ["thing"] (spF isInt) := by
  refine F.ok c11 (fun vs H Q E h => ?_) (fun cdv A outer s H vs Q E hr h => ?_)
  · obtain ⟨x, d, rfl, _⟩ := h
    rfl
  · obtain ⟨x, d, rfl, en, k⟩ := h
    obtain ⟨kI, kB, _, _⟩ := kitD d
    refine ⟨_, pss_one (ps_ret (pe_and (pe_callB call_isi (by rfl) N.nI boot_isinstance (pa_cons (pv 0) (pa_cons (pe_bltn (v := .ty "int") rfl N.ni (by decide +kernel) rfl) pa_nil)))
      (pe_one (pe_not (pe_callB call_isi (by rfl) N.nI boot_isinstance (pa_cons (pv 0) (pa_cons (pe_bltn (v := .ty "bool") rfl N.nb (by decide +kernel) rfl) pa_nil))))))), ?_⟩
    refine ⟨_, rfl, _, _, _, _, _, rfl, .ty "int", en.ty, kit_ty kI, _, rfl, ite2 (fun e => ?_) (fun e => ?_)⟩
    · refine ⟨_, rfl, _, _, _, _, _, rfl, .ty "bool", en.ty, kit_ty kB, _, rfl, ?_⟩
      unfold isInt at k
      rw [e, Bool.true_and] at k
      exact k
    · unfold isInt at k
      rw [Bool.eq_false_iff.mpr e, Bool.false_and] at k
      exact k
theorem ok_bet {f fI : Addr} {fd fdI : FuncData} (F : Fun K "is_between" "is_between" sBet f fd) (GI : FnOk P w K mg base CX0 1 fI fdI ["thing"] (spF isInt)) (I : Df K mg "is_integer" ["thing"] fI fdI) : FnOk P w K mg base CX0 2 f fd ["thing", "least", "most"] (spF3 isBet) := by
  refine F.ok c12 (fun vs H Q E h => ?_) (fun cdv A outer s H vs Q E hr h => ?_)
  · obtain ⟨x, d, lo, hi, rfl, _⟩ := h
    rfl
  · obtain ⟨x, d, lo, hi, rfl, en, k⟩ := h
    refine ⟨_, pss_one (ps_ret (pe_and (pe_call GI hr (by rfl) I.g I.k I.b .nil pass0 (pa_cons (pv 0) pa_nil)) (pe_one (pe_chain op_le op_le (pv 1) (pv 0) (pv 2))))), ?_⟩
    refine ⟨_, rfl, _, _, rfl, en, _, rfl, ?_⟩
    cases en with
    | int i =>
      refine iteT ⟨_, rfl, _, rfl, _, _, rfl, rfl, _, rfl, ?_⟩
      by_cases h1 : lo ≤ i
      · refine ifT h1 ⟨_, rfl, _, _, rfl, rfl, ?_⟩
        have e : isBet lo hi (.int i) = decide (i ≤ hi) := by show (decide (lo ≤ i) && decide (i ≤ hi)) = _; rw [decide_eq_true h1, Bool.true_and]
        rw [e] at k
        exact k
      · refine ifF h1 ?_
        have e : isBet lo hi (.int i) = false := by show (decide (lo ≤ i) && decide (i ≤ hi)) = _; rw [decide_eq_false h1, Bool.false_and]
        rw [e] at k
        exact k
    | non => exact iteF k
    | bl b => exact iteF k
    | str s => exact iteF k
    | tup h e => exact iteF k
    | lst h e => exact iteF k
theorem ok_tup {f : Addr} {fd : FuncData} (F : Fun K "is_tuple" "is_tuple" sTup f fd) (N : Gn K mg) : FnOk P w K mg base CX0 1 f fd ["thing", "least", "most"] (spF3 isTu) := by
  refine F.ok c15 (fun vs H Q E h => ?_) (fun cdv A outer s H vs Q E hr h => ?_)
  · obtain ⟨x, d, lo, hi, rfl, _⟩ := h
    rfl
  · obtain ⟨x, d, lo, hi, rfl, en, k⟩ := h
    obtain ⟨_, _, _, kT⟩ := kitD d
    refine ⟨_, pss_one (ps_ret (pe_and (pe_callB call_isi (by rfl) N.nI boot_isinstance (pa_cons (pv 0) (pa_cons (pe_bltn (v := .ty "tuple") rfl N.nt (by decide +kernel) rfl) pa_nil)))
      (pe_one (pe_chain op_le op_le (pv 1) (pe_callB call_len_seq (by rfl) N.nl PySem.boot_len (pa_cons (pv 0) pa_nil)) (pv 2))))), ?_⟩
    refine ⟨_, rfl, _, _, _, _, _, rfl, .ty "tuple", en.ty, kit_ty kT, _, rfl, ?_⟩
    cases en with
    | @tup a xs l h e =>
      have el := e.length
      refine iteT ⟨_, rfl, _, rfl, a, xs, rfl, .inr (SqT.of h), _, _, rfl, rfl, _, rfl, ?_⟩
      by_cases h1 : lo ≤ (xs.length : Int)
      · refine ifT h1 ⟨_, rfl, _, _, rfl, rfl, ?_⟩
        have e : isTu lo hi (.tup l) = decide ((xs.length : Int) ≤ hi) := by show (decide (lo ≤ (l.length : Int)) && decide ((l.length : Int) ≤ hi)) = _; rw [el, decide_eq_true h1, Bool.true_and]
        rw [e] at k
        exact k
      · refine ifF h1 ?_
        have e : isTu lo hi (.tup l) = false := by show (decide (lo ≤ (l.length : Int)) && decide ((l.length : Int) ≤ hi)) = _; rw [el, decide_eq_false h1, Bool.false_and]
        rw [e] at k
        exact k
    | non => exact iteF k
    | bl b => exact iteF k
    | int i => exact iteF k
    | str s => exact iteF k
    | lst h e => exact iteF k
end
end J1
set_option Elab.async false
set_option linter.all false
set_option maxRecDepth 100000
set_option maxHeartbeats 4000000
/-! ### sorting of triples of ints and of pairs of such a triple and an int -/
namespace RA
open PySem PySem.W PySem.Calls PyProof.Rows PyProof.V PySem.Spec
abbrev A3 := Int × Int × Int
def il (t : A3) : List Int := [t.1, t.2.1, t.2.2]
structure Rg (t : A3) : Prop where
  a0 : -1 ≤ t.1
  a1 : t.1 ≤ 900
  b0 : -1 ≤ t.2.1
  b1 : t.2.1 ≤ 900
  c0 : -1 ≤ t.2.2
  c1 : t.2.2 ≤ 900
def rk (t : A3) : Int := t.1 * 1000000 + t.2.1 * 1000 + t.2.2
theorem rk_inj {t u : A3} (r : Rg t) (z : Rg u) (h : rk t = rk u) : t = u := by
  obtain ⟨a, b, c⟩ := t
  obtain ⟨a', b', c'⟩ := u
  obtain ⟨r1, r2, r3, r4, r5, r6⟩ := r
  obtain ⟨z1, z2, z3, z4, z5, z6⟩ := z
  unfold rk at h
  dsimp only at *
  have e1 : a = a' := by omega
  have e2 : b = b' := by omega
  have e3 : c = c' := by omega
  rw [e1, e2, e3]
theorem rk_lex {t u : A3} (r : Rg t) (z : Rg u) : HT.lexLt (il t) (il u) = decide (rk t < rk u) := by
  obtain ⟨a, b, c⟩ := t
  obtain ⟨a', b', c'⟩ := u
  obtain ⟨r1, r2, r3, r4, r5, r6⟩ := r
  obtain ⟨z1, z2, z3, z4, z5, z6⟩ := z
  unfold rk il
  dsimp only at *
  simp only [HT.lexLt]
  by_cases e1 : a = a'
  · rw [if_pos e1]
    by_cases e2 : b = b'
    · rw [if_pos e2]
      by_cases e3 : c = c'
      · rw [if_pos e3, eq_comm, decide_eq_false_iff_not]
        omega
      · rw [if_neg e3, decide_eq_decide]
        omega
    · rw [if_neg e2, decide_eq_decide]
      omega
  · rw [if_neg e1, decide_eq_decide]
    omega
section
variable {prog : Program} {w : World} {A : Around} {E : Value → Shared → Prop} {s : Shared}
theorem eqI {a c : Int} {t u : Tok} {b fin : Bool} {Q : Bool → Shared → Prop} {r : List (Value × Value)} {i : Nat} (h1 : a = c → KatLex prog w A b fin Q r (i + 1) s) (h2 : a ≠ c → Q (decide (a < c)) s) :
    KatLex prog w A b fin Q ((Value.int a t, Value.int c u) :: r) i s := by
  refine kat_cons (wpAny_eqBool_int ?_)
  by_cases e : a = c
  · rw [show (a == c) = true from beq_iff_eq.mpr e]
    exact kat_yes (h1 e)
  · rw [show (a == c) = false from beq_eq_false_iff_ne.mpr e]
    exact kat_no (TS.oneLt_ints _ (h2 e))
theorem lex_il {t u : A3} {xs ys : List Value} {b : Bool} {i : Nat} {Q : Bool → Shared → Prop} (hx : IntsAre xs (il t)) (hy : IntsAre ys (il u)) (h : Q (HT.lexLt (il t) (il u)) s) : KatLex prog w A b false Q (xs.zip ys) i s := by
  obtain ⟨t1, x1, rfl, hx1⟩ := hx.cons_inv
  obtain ⟨t2, x2, rfl, hx2⟩ := hx1.cons_inv
  obtain ⟨t3, x3, rfl, hx3⟩ := hx2.cons_inv
  obtain ⟨u1, y1, rfl, hy1⟩ := hy.cons_inv
  obtain ⟨u2, y2, rfl, hy2⟩ := hy1.cons_inv
  obtain ⟨u3, y3, rfl, hy3⟩ := hy2.cons_inv
  cases hx3
  cases hy3
  unfold il at h
  simp only [HT.lexLt] at h
  refine eqI (fun e => ?_) (fun e => by rw [if_neg e] at h; exact h)
  rw [if_pos e] at h
  refine eqI (fun e => ?_) (fun e => by rw [if_neg e] at h; exact h)
  rw [if_pos e] at h
  refine eqI (fun e => ?_) (fun e => by rw [if_neg e] at h; exact h)
  rw [if_pos e] at h
  exact kat_nil h
theorem firsts3 {h : Heap} {g : Value → A3} : ∀ vs : List Value, (∀ v ∈ vs, TS.TupInts h v (il (g v))) → ∃ fs, KatTups h vs fs ∧ fs.length = vs.length ∧ ∀ f ∈ fs, ∃ n t, f = Value.int n t
  | [], _ => ⟨[], KatTups.nil, rfl, fun _ z => by simp at z⟩
  | v :: r, x => by
    obtain ⟨fs, k, e, z⟩ := firsts3 r fun u hu => x u (List.mem_cons_of_mem _ hu)
    obtain ⟨a, xs, e1, ⟨o, ho, hc, n, hd⟩, i⟩ := x v List.mem_cons_self
    obtain ⟨t1, x1, e2, _⟩ := i.cons_inv
    rw [e1]
    refine ⟨.int (g v).1 t1 :: fs, KatTups.cons ho hc hd ?_ k, by rw [List.length_cons, List.length_cons, e], fun f hf => ?_⟩
    · rw [← Array.getElem?_toList, e2]
      rfl
    · rcases List.mem_cons.mp hf with q | q
      · exact ⟨_, _, q⟩
      · exact z f q
theorem kind3 {vs : List Value} {g : Value → A3} (hv : ∀ v ∈ vs, TS.TupInts s.heap v (il (g v)) ∧ Rg (g v)) (h2 : 2 ≤ vs.length) {Q : SortKind → Shared → Prop}
    (h : ∀ κ, TS.Cmp prog w A s κ (pairsOf vs) (fun v => rk (g v)) → Q κ s) : wpAny (model prog w) A (keyKind' vs.toArray) Q E s := by
  obtain ⟨fs, k, e, z⟩ := firsts3 vs fun v hm => (hv v hm).1
  refine kat_kind (T := Value.type "int") k (by omega) (fun f hf => ?_) rfl (h _ ?_)
  · obtain ⟨n, t, rfl⟩ := z f hf
    exact Looks.of_pure rfl
  · intro p q hp hq Q' E' hQ
    rw [pairsOf_toList] at hp hq
    obtain ⟨tp, rp⟩ := hv _ (mem_zip_self hp).2
    obtain ⟨tq, rq⟩ := hv _ (mem_zip_self hq).2
    have hQ : Q' (decide (rk (g p.1) < rk (g q.1))) s := hQ
    rw [← rk_lex rp rq] at hQ
    generalize g p.1 = t at tp hQ
    generalize g q.1 = u at tq hQ
    obtain ⟨a, xs, e1, ⟨o, ho, hc, n, hd⟩, i⟩ := tp
    obtain ⟨a', ys, e2, ⟨o', ho', hc', n', hd'⟩, i'⟩ := tq
    rw [e1, e2]
    refine kat_lt ho hd ho' hd' ?_
    have l1 := i.length
    have l2 := i'.length
    rw [Array.length_toList] at l1 l2
    rw [show decide (xs.size < ys.size) = false from decide_eq_false (by rw [l1, l2]; exact Nat.lt_irrefl 3)]
    exact lex_il i i' hQ
/-- v is a pair of a triple and an int -/
def PrIn (h : Heap) (v : Value) (t : A3) (n : Int) : Prop := ∃ (a b : Addr) (k : Tok), v = .ref a ∧ IsTup h a #[.ref b, .int n k] ∧ TS.TupInts h (.ref b) (il t)
theorem firstsP {h : Heap} {g : Value → A3} {m : Value → Int} : ∀ vs : List Value, (∀ v ∈ vs, PrIn h v (g v) (m v)) → ∃ fs, KatTups h vs fs ∧ fs.length = vs.length ∧ ∀ f ∈ fs, ∃ (q : Addr) (o : Obj), f = Value.ref q ∧ h.get? q = some o ∧ o.cls = .type "tuple"
  | [], _ => ⟨[], KatTups.nil, rfl, fun _ z => by simp at z⟩
  | v :: r, x => by
    obtain ⟨fs, k, e, z⟩ := firstsP r fun u hu => x u (List.mem_cons_of_mem _ hu)
    obtain ⟨a, b, kt, e1, ⟨o, ho, hc, n, hd⟩, ⟨b', xs, e2, ⟨o2, ho2, hc2, _⟩, _⟩⟩ := x v List.mem_cons_self
    cases e2
    rw [e1]
    refine ⟨.ref b :: fs, KatTups.cons ho hc hd rfl k, by rw [List.length_cons, List.length_cons, e], fun f hf => ?_⟩
    rcases List.mem_cons.mp hf with q | q
    · exact ⟨b, o2, q, ho2, hc2⟩
    · exact z f q
theorem keyIn {h : Heap} {b : Addr} {t : A3} (x : TS.TupInts h (.ref b) (il t)) : IsTupleKey (L2.mixKind prog w) h ((il t).map Sum.inl) b := by
  obtain ⟨b', xs, e, ⟨o, ho, hc, n, hd⟩, i⟩ := x
  cases e
  refine ⟨o, xs, n, ho, hc, hd, ?_⟩
  obtain ⟨t1, x1, e1, i1⟩ := i.cons_inv
  obtain ⟨t2, x2, rfl, i2⟩ := i1.cons_inv
  obtain ⟨t3, x3, rfl, i3⟩ := i2.cons_inv
  cases i3
  rw [e1]
  exact .cons (L2.mixKind_int prog w _ _) (.cons (L2.mixKind_int prog w _ _) (.cons (L2.mixKind_int prog w _ _) .nil))
theorem il_inj {t u : A3} (h : (il t).map (Sum.inl : Int → L2.Key) = (il u).map Sum.inl) : t = u := by
  obtain ⟨a, b, c⟩ := t
  obtain ⟨a', b', c'⟩ := u
  simp only [il, List.map_cons, List.map_nil, List.cons.injEq, Sum.inl.injEq] at h
  obtain ⟨h1, h2, h3, _⟩ := h
  rw [h1, h2, h3]
theorem kindP {vs : List Value} {g : Value → A3} {m : Value → Int} (hu : A.units < cLine) (hv : ∀ v ∈ vs, PrIn s.heap v (g v) (m v) ∧ Rg (g v)) (hn : ∀ v ∈ vs, ∀ u ∈ vs, g v = g u → m v = m u) (h2 : 2 ≤ vs.length) {Q : SortKind → Shared → Prop}
    (h : ∀ κ, TS.Cmp prog w A s κ (pairsOf vs) (fun v => rk (g v)) → Q κ s) : wpAny (model prog w) A (keyKind' vs.toArray) Q E s := by
  obtain ⟨fs, k, e, z⟩ := firstsP vs fun v hm => (hv v hm).1
  refine kat_kind (T := Value.type "tuple") k (by omega) (fun f hf => ?_) rfl (h _ ?_)
  · obtain ⟨q, o, rfl, ho, hc⟩ := z f hf
    rw [← hc]
    exact (Looks.ld ho).andThen .now
  · rw [show (Value.type "tuple" != Value.type "tuple") = false by simp]
    intro p q hp hq Q' E' hQ
    rw [pairsOf_toList] at hp hq
    have mp := (mem_zip_self hp).2
    have mq := (mem_zip_self hq).2
    obtain ⟨tp, rp⟩ := hv _ mp
    obtain ⟨tq, rq⟩ := hv _ mq
    have hm := hn _ mp _ mq
    have hQ : Q' (decide (rk (g p.1) < rk (g q.1))) s := hQ
    rw [← rk_lex rp rq] at hQ
    generalize m p.1 = n1 at tp hm
    generalize m q.1 = n2 at tq hm
    generalize g p.1 = t at tp hQ hm
    generalize g q.1 = u at tq hQ hm
    obtain ⟨a, b, kt, e1, ⟨o, ho, hc, n, hd⟩, i⟩ := tp
    obtain ⟨a', b', kt', e2, ⟨o', ho', hc', n', hd'⟩, i'⟩ := tq
    rw [e1, e2]
    refine kat_lt ho hd ho' hd' ?_
    show KatLex prog w A false false Q' [(Value.ref b, Value.ref b'), (Value.int n1 kt, Value.int n2 kt')] 0 s
    refine kat_cons (wpAny_eqBool_tuple hu (keyIn i) (keyIn i') (kat_go (fun e0 => ?_) (fun e0 => ?_)))
    · have et := il_inj (of_decide_eq_true e0)
      have en := hm et
      subst et en
      refine kat_yes (eqI (fun _ => kat_nil ?_) (fun z => absurd rfl z))
      rw [show HT.lexLt (il t) (il t) = false by unfold il; simp [HT.lexLt]] at hQ
      exact hQ
    · obtain ⟨b0, xs, q1, t1, j1⟩ := i
      obtain ⟨b1, ys, q2, t2, j2⟩ := i'
      cases q1
      cases q2
      refine kat_no ?_
      show wpAny _ _ (oneLt' false _ _) _ _ _
      exact kat_one _ _ (HT.lt_tupInts t1 t2 j1 j2 hu hQ)
end
end RA
set_option Elab.async false
set_option linter.all false
set_option maxRecDepth 100000
set_option maxHeartbeats 4000000
namespace RA
open PySem PySem.W PySem.Calls PyProof.Rows PyProof.V PySem.Spec
section
variable {prog : Program} {w : World} {A : Around} {E : Value → Shared → Prop} {s : Shared}
theorem map_perm_back : ∀ {ts : List Addr} {vs : List Value}, vs.Perm (ts.map Value.ref) → ∃ us : List Addr, us.Perm ts ∧ vs = us.map Value.ref := by
  intro ts vs h
  have all : ∀ v ∈ vs, ∃ a, v = Value.ref a := fun v hv => by
    obtain ⟨a, _, e⟩ := List.mem_map.mp (h.mem_iff.mp hv)
    exact ⟨a, e.symm⟩
  let f : Value → Addr := fun v => match v with | .ref a => a | _ => 0
  have e : (vs.map f).map Value.ref = vs := by
    rw [List.map_map]
    refine (List.map_congr_left fun v hv => ?_).trans (List.map_id vs)
    obtain ⟨a, rfl⟩ := all v hv
    rfl
  have p := h.map f
  rw [List.map_map, show (f ∘ Value.ref) = id from rfl, List.map_id] at p
  exact ⟨vs.map f, p, e.symm⟩
/-- list.sort of a new list of addresses -/
theorem sort_call {h : Heap} {tk : Nat} {ts : List Addr} {r : Value → Int} {Q : Value → Shared → Prop} (h64 : ts.length < 64)
    (hk : ∀ h2 : Heap, (∀ b o, h.get? b = some o → h2.get? b = some o) → 2 ≤ (ts.map Value.ref).length → ∀ R : SortKind → Shared → Prop, (∀ κ, TS.Cmp prog w A.in1 { s with heap := h2, toks := tk } κ (pairsOf (ts.map Value.ref)) r → R κ { s with heap := h2, toks := tk }) →
      wpAny (model prog w) A.in1 (keyKind' (ts.map Value.ref).toArray) R E { s with heap := h2, toks := tk })
    (hQ : ∀ (us : List Addr) (e : Nat) (h3 : Heap), us.Perm ts → us.Pairwise (fun t u => r (.ref t) ≤ r (.ref u)) → h3.get? h.objs.size = some (seqObj "list" (us.map Value.ref).toArray e) → (∀ b o, h.get? b = some o → h3.get? b = some o) → Q .none { s with heap := h3, toks := tk }) :
    wpAny (model prog w) A (call (.builtin "list.sort") [.ref h.objs.size]) Q E { s with heap := h.push (seqObj "list" (ts.map Value.ref).toArray 0), toks := tk } := by
  have ho : (h.push (seqObj "list" (ts.map Value.ref).toArray 0)).get? h.objs.size = some (seqObj "list" (ts.map Value.ref).toArray 0) := Heap.get?_push_size _ rfl
  have keep : ∀ b o, h.get? b = some o → b ≠ h.objs.size ∧ (h.push (seqObj "list" (ts.map Value.ref).toArray 0)).get? b = some o := fun b o e => ⟨Nat.ne_of_lt (Heap.lt_size e), Heap.get?_push_of_some _ e⟩
  refine wpAny_call_entry slot_list_sort ⟨_, ho, rfl⟩ entry_list_sort (SK.plain_sort (r := r) ho (by rw [List.length_map]; exact h64) (fun h2 R hR => ?_) fun ps out o1 o2 o3 => ⟨.none, rfl, ?_⟩) (args_list_sort _)
  · exact hk _ (fun b o e => TS.midHeap_old (keep b o e).1 (keep b o e).2) h2 R hR
  · obtain ⟨p1, p2⟩ := TS.out_rank o1 o2 o3
    obtain ⟨us, q1, q2⟩ := map_perm_back p1
    obtain ⟨e', he⟩ := sortedHeap_at (vs := ts.map Value.ref) (out := out) ho
    refine hQ us e' _ q1 ?_ ?_ (fun b o e => (sortedHeap_old (keep b o e).1 (Heap.lt_size (keep b o e).2)).trans (keep b o e).2)
    · rw [q2, List.pairwise_map] at p2
      exact p2
    · rw [← q2, Array.toArray_toList]
      exact he
end
end RA
namespace L2
open PySem PySem.Spec PyProof.Rows RA
section
variable {X : Cx}
/-- the triple at an address -/
def Tr (H : Hp) (t : Addr) (g : Addr → A3) : Prop := H t = some (.tup ((il (g t)).map V.int)) ∧ Rg (g t)
theorem tr_raw {pins : List (Addr × Obj)} {σ : St} {H : Hp} {s : Shared} (I : Inv X pins σ H s) {t : Addr} {a : A3} (h : H t = some (.tup ((il a).map V.int))) {h' : Heap} (k : ∀ b o, s.heap.get? b = some o → h'.get? b = some o) : TS.TupInts h' (.ref t) (il a) := by
  obtain ⟨its, rv, hT, _⟩ := I.tuple (SqT.of h)
  have z : TS.TupInts s.heap (.ref t) (il a) := ⟨t, its.toArray, rfl, hT, by simpa using rv.ints⟩
  exact z.keeps fun b o e _ => k b o e
def adr : Value → Addr
  | .ref a => a
  | _ => 0
def rSorted3 (K : PySem.W.Frag) : List V → Hp → VK → Prop := fun vs H Q => ∃ (a : Addr) (ts : List Addr) (g : Addr → A3), vs = [V.ref a] ∧ SqL K H a (ts.map V.ref) ∧ ts.length < 64 ∧ (∀ t ∈ ts, Tr H t g) ∧
  ∀ (us : List Addr) (p : Addr), us.Perm ts → us.Pairwise (fun t u => rk (g t) ≤ rk (g u)) → H p = none → Q (.ref p) (upd H p (.lst (us.map V.ref)))
theorem refs34 : ∀ {ts : List Addr} {us : List Value}, Vals (ts.map V.ref) us → us = ts.map Value.ref
  | [], _, .nil => rfl
  | _ :: _, _, .cons h t => by
    rw [List.map_cons, ← refs34 t]
    cases h
    rfl
theorem units2 (A : Around) (h : A.units + 64 < cLine) : A.in1.in1.units < cLine := by
  simp only [units_in1]
  omega
theorem sorted_list {pins : List (Addr × Obj)} {σ : St} {H : Hp} {s : Shared} {a : Addr} {ts : List Addr} {r : Value → Int} {Q : VK} (I : Inv X pins σ H s) (hs : SqL X.K H a (ts.map V.ref)) (h64 : ts.length < 64)
    (hk : ∀ (h2 : Heap) (tk : Nat), (∀ b o, s.heap.get? b = some o → h2.get? b = some o) → 2 ≤ (ts.map Value.ref).length → ∀ R : SortKind → Shared → Prop, (∀ κ, TS.Cmp X.prog X.w X.A.in1.in1 { s with heap := h2, toks := tk } κ (pairsOf (ts.map Value.ref)) r → R κ { s with heap := h2, toks := tk }) →
      wpAny (model X.prog X.w) X.A.in1.in1 (keyKind' (ts.map Value.ref).toArray) R X.xe { s with heap := h2, toks := tk })
    (q : ∀ (us : List Addr) (p : Addr), us.Perm ts → us.Pairwise (fun t u => r (.ref t) ≤ r (.ref u)) → H p = none → Q (.ref p) (upd H p (.lst (us.map V.ref)))) :
    wpAny (model X.prog X.w) X.A (call (.builtin "sorted") [.ref a]) (EP X pins σ Q) X.xe s := by
  obtain ⟨its, rv, hl, hz⟩ := I.list hs
  have ei := refs34 rv
  subst ei
  have hz2 : (ts.map Value.ref).length ≤ sizeLine := by
    rw [List.length_map, sizeLine_eq]
    omega
  refine Calls.call_function_entry kind_sorted plain_sorted entry_sorted (args_sorted1 _) ?_
  unfold Builtin.«sorted»
  refine wpAny_bind (m := checkCount "sorted" 1 1 _) (wpAny_pure ?_)
  refine wpAny_bind (collect_list hl.isList ?_ hz2)
  refine wpAny_bind (wpAny_newList ?_ hz2)
  have old : ∀ b o, s.heap.get? b = some o → ((s.heap.push (seqObj "list" #[] 0)).update s.heap.objs.size (Obj.mapSeq (· ++ (ts.map Value.ref).toArray))).get? b = some o := fun b o e => by
    rw [Heap.get?_update_ne _ _ _ _ (Nat.ne_of_lt (Heap.lt_size e))]
    exact Heap.get?_push_of_some _ e
  have sz : s.heap.objs.size ≤ ((s.heap.push (seqObj "list" #[] 0)).update s.heap.objs.size (Obj.mapSeq (· ++ (ts.map Value.ref).toArray))).objs.size := by
    rw [Heap.size_update, size_push']
    exact Nat.le_succ _
  generalize (s.heap.push (seqObj "list" #[] 0)).update s.heap.objs.size (Obj.mapSeq (· ++ (ts.map Value.ref).toArray)) = h1 at old sz
  show wpAny _ _ _ _ _ { s with heap := h1.push (seqObj "list" (ts.map Value.ref).toArray 0), toks := s.toks }
  refine wpAny_bind (wpAny_holding (sort_call (r := r) h64 (fun h2 k2 => hk h2 s.toks fun b o e => k2 b o (old b o e)) fun us e h3 u1 u2 u3 u4 => ?_))
  refine wpAny_pure ⟨_, rfl, .ref h1.objs.size, upd H h1.objs.size (.lst (us.map V.ref)), I.laid (t' := s.toks) (fun b o z => u4 b o (old b o z)) sz ?_, rfl, q us _ u1 u2 (I.hok.fresh sz)⟩
  have hlen : (us.map V.ref).length ≤ sizeLine := by
    rw [List.length_map, u1.length_eq, sizeLine_eq]
    omega
  exact (show ObjOk X.prog X.w _ _ _ (.lst (us.map V.ref)) from ⟨hlen, us.map Value.ref, e, vals_refs us, u3⟩)
theorem cr_sorted3 : CallR X (.builtin "sorted") (rSorted3 X.K) := by
  intro pins s σ H vs us Q I r h
  obtain ⟨a, ts, g, rfl, hs, h64, hx, q⟩ := h
  rw [Vals.ref1 r]
  refine sorted_list (r := fun v => rk (g (adr v))) I hs h64 (fun h2 tk k2 l2 R hR => kind3 (g := fun v => g (adr v)) (fun v hv => ?_) l2 hR) q
  obtain ⟨t, ht, rfl⟩ := List.mem_map.mp hv
  exact ⟨tr_raw I (hx t ht).1 k2, (hx t ht).2⟩
def rSortedP3 (K : PySem.W.Frag) : List V → Hp → VK → Prop := fun vs H Q => ∃ (a : Addr) (ts : List Addr) (g : Addr → A3) (m : Addr → Int), vs = [V.ref a] ∧ SqL K H a (ts.map V.ref) ∧ ts.length < 64 ∧ (∀ t ∈ ts, Rg (g t) ∧ ∃ b, H t = some (.tup [.ref b, .int (m t)]) ∧ H b = some (.tup ((il (g t)).map V.int))) ∧
  (∀ t ∈ ts, ∀ u ∈ ts, g t = g u → m t = m u) ∧ ∀ (us : List Addr) (p : Addr), us.Perm ts → us.Pairwise (fun t u => rk (g t) ≤ rk (g u)) → H p = none → Q (.ref p) (upd H p (.lst (us.map V.ref)))
theorem cr_sortedP3 (hu : X.A.units + 64 < cLine) : CallR X (.builtin "sorted") (rSortedP3 X.K) := by
  intro pins s σ H vs us Q I r h
  obtain ⟨a, ts, g, m, rfl, hs, h64, hx, hn, q⟩ := h
  rw [Vals.ref1 r]
  refine sorted_list (r := fun v => rk (g (adr v))) I hs h64 (fun h2 tk k2 l2 R hR => kindP (g := fun v => g (adr v)) (m := fun v => m (adr v)) (units2 _ hu) (fun v hv => ?_) (fun v hv u hv' => ?_) l2 hR) q
  · obtain ⟨t, ht, rfl⟩ := List.mem_map.mp hv
    obtain ⟨rg, b, h1, h2⟩ := hx t ht
    refine ⟨⟨t, b, ?_⟩, rg⟩
    obtain ⟨its, rv, hT, _⟩ := I.tuple (SqT.of h1)
    obtain ⟨u1, u2, rfl, e1, k, e2⟩ := vals2 rv
    cases e1
    cases e2
    obtain ⟨o, ho, hc, hd⟩ := hT
    exact ⟨k, rfl, ⟨o, k2 _ _ ho, hc, hd⟩, tr_raw I h2 k2⟩
  · obtain ⟨t, ht, rfl⟩ := List.mem_map.mp hv
    obtain ⟨t', ht', rfl⟩ := List.mem_map.mp hv'
    exact hn t ht t' ht'
end
end L2
set_option Elab.async false
set_option linter.all false
set_option maxRecDepth 100000
set_option maxHeartbeats 4000000
namespace L2
open PySem PySem.Spec PyProof.Rows RA
/-- the triple that stands at an address -/
def gH (H : Hp) (t : Addr) : A3 := match H t with
  | some (.tup [.int a, .int b, .int c]) => (a, b, c)
  | _ => (0, 0, 0)
theorem gH_of {H : Hp} {t : Addr} {a : A3} (h : H t = some (.tup ((il a).map V.int))) : gH H t = a := by
  unfold gH
  rw [h]
  rfl
def kA (a : A3) : List Key := (il a).map Sum.inl
theorem kA_V (a : A3) : (kA a).map kV = (il a).map V.int := rfl
theorem kA_inj {a b : A3} (h : kA a = kA b) : a = b := il_inj h
/-- a dict's entries: triples and ints -/
def dA (es : List (A3 × Int)) : List (List Key × V) := es.map fun e => (kA e.1, V.int e.2)
section
variable {X : Cx}
theorem keys34 {H : Hp} : ∀ {es : List (A3 × Int)} {bs : List Addr}, IsKeys H (dA es) bs → (∀ b ∈ bs, ∃ a, H b = some (.tup ((il a).map V.int)) ∧ a ∈ es.map (·.1)) ∧ bs.map (gH H) = es.map (·.1)
  | [], _, .nil => ⟨fun _ z => absurd z List.not_mem_nil, rfl⟩
  | e :: es, _, .cons (b := b) h t => by
    obtain ⟨h1, h2⟩ := keys34 (es := es) t
    have hb : H b = some (.tup ((il e.1).map V.int)) := h
    refine ⟨fun c hc => ?_, ?_⟩
    · rcases List.mem_cons.mp hc with q | q
      · subst q
        exact ⟨e.1, hb, List.mem_cons_self⟩
      · obtain ⟨a, q1, q2⟩ := h1 c q
        exact ⟨a, q1, List.mem_cons_of_mem _ q2⟩
    · rw [List.map_cons, List.map_cons, h2, gH_of hb]
def rSortedD3 : List V → Hp → VK → Prop := fun vs H Q => ∃ (d : Addr) (es : List (A3 × Int)), vs = [V.ref d] ∧ Rd H d (.dT (dA es)) ∧ es.length < 64 ∧ (∀ e ∈ es, Rg e.1) ∧
  ∀ (us : List Addr) (p : Addr), (us.map (gH H)).Perm (es.map (·.1)) → us.Pairwise (fun t u => rk (gH H t) ≤ rk (gH H u)) → (∀ t ∈ us, H t = some (.tup ((il (gH H t)).map V.int))) → H p = none → Q (.ref p) (upd H p (.lst (us.map V.ref)))
theorem cr_sortedD3 (hc : X.calm = true) : CallR X (.builtin "sorted") rSortedD3 := by
  intro pins s σ H vs us Q I r h
  obtain ⟨d, es, rfl, hd, h64, hr, q⟩ := h
  rw [Vals.ref1 r]
  obtain ⟨z, hs, ks, pr, o, ent, ep, ho, hx, hdt, he, hn⟩ := (show ObjOk X.prog X.w H s.heap d (.dT (dA es)) from hd.ok I.hok)
  have l1 : ent.size = ks.length := size_of_entries he
  have l2 : (dA es).length = ks.length := Paired.length pr
  have l3 : (dA es).length = es.length := List.length_map ..
  have isk := isKeys_of pr
  obtain ⟨k1, k2⟩ := keys34 isk
  generalize hts : (ks.map fun x => x.2.1) = ts at isk k1 k2
  have lt : ts.length = es.length := by
    rw [← hts, List.length_map, ← l2, l3]
  have tr : ∀ t ∈ ts, H t = some (.tup ((il (gH H t)).map V.int)) ∧ Rg (gH H t) := fun t ht => by
    obtain ⟨a, q1, q2⟩ := k1 t ht
    rw [gH_of q1]
    obtain ⟨e, e1, e2⟩ := List.mem_map.mp q2
    exact ⟨q1, by rw [← e2]; exact hr e e1⟩
  have hz2 : (ts.map Value.ref).length ≤ sizeLine := by
    rw [List.length_map, sizeLine_eq]
    omega
  refine Calls.call_function_entry kind_sorted plain_sorted entry_sorted (args_sorted1 _) ?_
  unfold Builtin.«sorted»
  refine wpAny_bind (m := checkCount "sorted" 1 1 _) (wpAny_pure ?_)
  refine wpAny_bind (PySem.W.kdu_collect (A := X.A.in1) (kdl_raw hs hx hdt) (I.ok.hd hc) ho (by rw [l1, ← l2, l3, sizeLine_eq]; omega) fun h' tk acc kp it => ?_)
  have ea : acc.toList = ts.map Value.ref := by
    rw [← hts, List.map_map]
    refine List.ext_getElem? fun j => ?_
    rw [List.getElem?_map, Array.getElem?_toList]
    have hlen : acc.size = ks.length := it.1.trans l1
    by_cases hj : j < acc.size
    · obtain ⟨en, e1, e2⟩ := it.2 j _ (Array.getElem?_eq_getElem hj)
      have hj2 : j < ks.length := by omega
      have e3 := entry_at he j
      rw [e1, List.getElem?_eq_getElem hj2] at e3
      rw [Array.getElem?_eq_getElem hj, List.getElem?_eq_getElem hj2, e2, Option.some.inj e3]
      rfl
    · rw [Array.getElem?_eq_none (by omega), List.getElem?_eq_none (by omega)]
      rfl
  rw [ea]
  refine wpAny_bind (wpAny_newList ?_ hz2)
  have I1 : Inv X pins σ H { s with heap := h', toks := tk } := I.kept kp
  show wpAny _ _ _ _ _ { s with heap := h'.push (seqObj "list" (ts.map Value.ref).toArray 0), toks := tk }
  refine wpAny_bind (wpAny_holding (sort_call (r := fun v => rk (gH H (adr v))) (by rw [lt]; exact h64) (fun h2 q2 n2 R hR => kind3 (g := fun v => gH H (adr v)) (fun v hv => ?_) n2 hR) fun us e h3 u1 u2 u3 u4 => ?_))
  · obtain ⟨t, ht, rfl⟩ := List.mem_map.mp hv
    exact ⟨tr_raw I1 (tr t ht).1 q2, (tr t ht).2⟩
  · have hlen : (us.map V.ref).length ≤ sizeLine := by
      rw [List.length_map, u1.length_eq, sizeLine_eq]
      omega
    refine wpAny_pure ⟨_, rfl, .ref h'.objs.size, upd H h'.objs.size (.lst (us.map V.ref)), I1.laid (t' := tk) u4 (Nat.le_refl _)
      (show ObjOk X.prog X.w _ _ _ (.lst (us.map V.ref)) from ⟨hlen, us.map Value.ref, e, vals_refs us, u3⟩), rfl, q us _ ?_ u2 (fun t ht => (tr t (u1.mem_iff.mp ht)).1) (I1.hok.fresh (Nat.le_refl _))⟩
    rw [← k2]
    exact u1.map _
end
end L2
set_option Elab.async false
set_option linter.all false
set_option maxRecDepth 100000
set_option maxHeartbeats 4000000
namespace L2
open PySem PySem.Spec PyProof.Rows RA
/-- the entries of a locked dict with tuples as keys, each a new pair of the key's tuple and the value -/
def Itit (d : Addr) (o : Obj) (kvs : List (List Key × V)) : It :=
  ⟨fun i H => H d = some (.frz o (.dT kvs)) ∧ i < kvs.length, fun i H x H' => ∃ T k v q, kvs[i]? = some (k, v) ∧ x = .ref T ∧ H T = none ∧ H q = some (.tup (k.map kV)) ∧ H' = upd H T (.tup [.ref q, v]), fun i H => H d = some (.frz o (.dT kvs)) ∧ kvs.length ≤ i⟩
section
variable {P : Program} {w : World} {K : PySem.W.Frag} {d : Addr} {o : Obj} {es : Array DictEntry} {ep : Nat}
/-- what a locked dict with tuples as keys holds -/
theorem frzT2 {X : Cx} {pins : List (Addr × Obj)} {σ : St} {H : Hp} {s : Shared} {kvs : List (List Key × V)} (I : Inv X pins σ H s) (h : H d = some (.frz o (.dT kvs))) :
    (d == sysModules) = false ∧ ∃ (es : Array DictEntry) (ep : Nat), o.data = .dict es ep ∧ es.size = kvs.length ∧ DT.Raw s.heap d es ep ∧
      ∀ (i : Nat) (k : List Key) (v : V), kvs[i]? = some (k, v) → ∃ (en : DictEntry) (q : Addr), es[i]? = some en ∧ en.key = .ref q ∧ H q = some (.tup (k.map kV)) ∧ RelV v en.val := by
  obtain ⟨hd, z, hs, xs, pr, o', es, ep, ho, hx, hdt, he, _⟩ := I.hok d _ h
  have eo : o = o' := Option.some.inj (hd.symm.trans ho)
  subst eo
  have lp : kvs.length = xs.length := Paired.length pr
  refine ⟨hs, es, ep, hdt, (size_of_entries he).trans lp.symm, ⟨o, ho, hx, hdt⟩, fun i k v hi => ?_⟩
  have il := (List.getElem?_eq_some_iff.mp hi).1
  have hxi := List.getElem?_eq_getElem (l := xs) (i := i) (by omega)
  obtain ⟨e0, h0, h1, h2, h3⟩ := DX.pget pr hxi
  have ee : (k, v) = e0 := Option.some.inj (hi.symm.trans h0)
  subst ee
  have q := entry_at he i
  rw [hxi] at q
  exact ⟨_, _, q, rfl, h2, h3⟩
theorem turn_itemsT {kvs : List (List Key × V)} {elts : List Expr} {kk : Nat} {tpos : Pos} (it : Addr) (hod : o.data = .dict es ep) :
    Turn P w K (.Tuple elts kk tpos) (Itit d o kvs) [it] it (fun i h => ∃ ok ov, IsItemIter h it d i kvs.length ep ok ov) where
  mem := by simp
  obj := fun i h st b hb => by
    obtain ⟨ok, ov, e⟩ := st
    have eb : b = it := by simpa using hb
    rw [eb]
    exact ⟨_, e, fun v z => nomatch z⟩
  keep := fun i h h' st k => by
    obtain ⟨ok, ov, e⟩ := st
    exact ⟨ok, ov, k it (by simp) _ e⟩
  item := by
    intro Y eP ew eK cal i pn s τ G E inv hf sta go
    subst eP ew eK
    obtain ⟨hd, hi⟩ := go
    obtain ⟨hs, es', ep', hdt, hsz, raw, ent⟩ := frzT2 inv hd
    obtain ⟨rfl, rfl⟩ := dict_ep hod hdt
    obtain ⟨⟨k, v⟩, hkv⟩ : ∃ p, kvs[i]? = some p := ⟨kvs[i], List.getElem?_eq_getElem hi⟩
    obtain ⟨en, q, hen, hkey, hq, rv⟩ := ent i k v hkv
    obtain ⟨ok, ov, he⟩ := sta
    rw [← hsz] at he
    have hlt : it < s.heap.objs.size := Heap.lt_size he
    have hi2 : i < es'.size := by omega
    have een : es'[i] = en := Option.some.inj ((Array.getElem?_eq_getElem hi2).symm.trans hen)
    refine DT.nextI he raw hi2 fun h' ho hT hz hk => ?_
    rw [een] at ho hT
    refine ⟨_, rfl, wpAny_letOwnedTupleGo_items (s := { s with heap := h' }) ho fun h2 he' sb => ?_⟩
    have hT2 : h2.get? s.heap.objs.size = some { cls := .type "tuple", data := .seq #[en.key, en.val] } := (sb.2 _ (Nat.ne_of_gt hlt)).trans hT
    have new : ObjOk Y.prog Y.w (upd G s.heap.objs.size (.tup [.ref q, v])) h2 s.heap.objs.size (.tup [.ref q, v]) :=
      ⟨by show 2 ≤ sizeLine; decide, [en.key, en.val], .cons hkey (.cons rv .nil), ⟨_, hT2, rfl, _, rfl⟩⟩
    have I1 : Inv Y pn τ (upd G s.heap.objs.size (.tup [.ref q, v])) { s with heap := h2 } :=
      inv.turnedNew (t' := s.toks) (ch := [it]) (fun b ob hb e => (sb.2 b (by simpa using hb)).trans (hk b ob (by simpa using hb) e)) hf (Nat.le_refl _) new
    refine ⟨.ref s.heap.objs.size, _, I1, rfl, ⟨_, k, v, q, hkv, rfl, inv.hok.fresh (Nat.le_refl _), hq, rfl⟩, ⟨en.key, en.val, by rw [← hsz]; exact he'⟩, fun b hb => ?_⟩
    have e : b = it := by simpa using hb
    rw [e, upd_ne (Nat.ne_of_lt hlt)]
    exact (hf it (by simp)).1
  done := by
    intro Y eP ew eK cal i pn s τ G E inv hf sta go
    subst eP ew eK
    obtain ⟨hd, hi⟩ := go
    obtain ⟨f0, f1, f2, f3, f4, f5⟩ := hf it (by simp)
    obtain ⟨hs, es', ep', hdt, hsz, raw, ent⟩ := frzT2 inv hd
    obtain ⟨rfl, rfl⟩ := dict_ep hod hdt
    obtain ⟨ok, ov, he⟩ := sta
    rw [← hsz] at he
    exact DT.endI (inv.ok.hd cal) he raw (by omega) fun h' eb => ⟨rfl, inv.turned (t' := s.toks) (fun b ob hb e => eb b ob hb e) f0 f1 f3 f4 f5⟩
  self := fun A i s Q E st h => let ⟨_, _, e⟩ := st; PySem.W.kcp_self e h
end
def iItemsT (td : TE) : TI := fun σ H R => td σ H fun x H1 => ∃ d o kvs, x = .ref d ∧ H1 d = some (.frz o (.dT kvs)) ∧ R (Itit d o kvs) H1
section
variable {X : Cx} {tg e : Expr} {td : TE} {apos cpos : Pos}
theorem pi_itemsT {elts : List Expr} {kk : Nat} {tpos : Pos} (he : PE X e td) (hbase : attributeBase e "items" X.env (eval e X.env) = eval e X.env := by rfl) (hline : (apos.endLine == cpos.line) = true := by rfl) :
    PI X (.Tuple elts kk tpos) (.Call (.Attribute e "items" apos) [] [] cpos) (iItemsT td) := by
  refine ⟨fun pn s σ H R I h => ?_⟩
  refine wpAny_Call_method (T := "dict") (id := "dict.items") hbase rfl hline F.plainAttrs_dict F.slot_dict_items F.type_dict_items (thn (he.run pn s σ H _ I h) fun u s1 ⟨x, H1, I1, rx, d, o, kvs, ex, hd, q⟩ => ?_)
  subst ex
  have eu : u = Value.ref d := rx
  subst eu
  obtain ⟨hs, es, ep, hdt, hsz, raw, ent⟩ := frzT2 I1 hd
  obtain ⟨ob, hob, hex, hdat⟩ := id raw
  have ty : s1.TypeIs (.ref d) "dict" := raw.typeIs
  refine ⟨ty, ?_, ?_⟩
  · intro a ea
    cases ea
    exact ⟨ob, hob, by first | exact hex.2 | exact hex.2.1⟩
  have I2 : Inv X pn σ H1 { s1 with heap := s1.heap.push { cls := .type "dict_items", data := .fields #[.ref d] } } := I1.kept (t' := s1.toks) fun b ob q => Heap.get?_push_of_some _ q
  have fin : wpAny (model X.prog X.w) X.A (pyIter (.ref s1.heap.objs.size)) (PIE X pn σ (.Tuple elts kk tpos) R) X.xe { s1 with heap := s1.heap.push { cls := .type "dict_items", data := .fields #[.ref d] } } := by
    refine DT.iterI (d := d) ⟨_, Heap.get?_push_size _ rfl, rfl, rfl⟩ (raw.push _) (pi_one (tk := s1.toks) I2 _ (turn_itemsT _ hdt) ⟨.none, .none, ?_⟩ q)
    rw [← hsz]
    exact Heap.get?_push_size _ rfl
  show wpAny _ _ (callWith cpos (.builtin "dict.items") [.ref d] [] []) _ X.xe s1
  exact method_meetsIn F.slot_dict_items F.entry_dict_items rfl (PySem.evalArgs_none ⟨rfl, ty, F.args_dict_items_1 _, _, DT.meetsItems (es := es) (ep := ep) hs, ⟨raw, fin⟩⟩)
end
end L2
set_option Elab.async false
set_option linter.all false
set_option maxRecDepth 100000
set_option maxHeartbeats 4000000
namespace J1
open PySem PySem.Spec PyProof.Rows L2 GxR GA RA
theorem wipe_set {σ : L2.St} {j : Nat} {x : V} : wipe ((wipe σ [j]).set j (some x)) [j] = wipe σ [j] := by
  show (((σ.set j none).set j (some x)).set j none) = σ.set j none
  rw [List.set_set, List.set_set]
/-! ### atoms, forms, hints -/
structure OkA (a : A3) : Prop where
  k : (a.1 = 0 ∧ -1 ≤ a.2.1 ∧ a.2.1 ≤ 399 ∧ 0 ≤ a.2.2 ∧ a.2.2 ≤ 12) ∨ (a.1 = 1 ∧ 0 ≤ a.2.1 ∧ a.2.1 ≤ 239 ∧ 0 ≤ a.2.2 ∧ a.2.2 ≤ 1)
theorem OkA.rg {a : A3} (h : OkA a) : Rg a := by
  rcases h.k with ⟨h1, h2, h3, h4, h5⟩ | ⟨h1, h2, h3, h4, h5⟩ <;> exact ⟨by omega, by omega, by omega, by omega, by omega, by omega⟩
abbrev Tm := A3 × Int
abbrev Fm := Int × List Tm
structure Ht where
  f : Fm
  ex : Bool
  og : Option (Int × Int)
def atD (a : A3) : Da := .tup [.int a.1, .int a.2.1, .int a.2.2]
def tmD (t : Tm) : Da := .tup [atD t.1, .int t.2]
def fmD (f : Fm) : Da := .tup [.int f.1, .tup (f.2.map tmD)]
def ogD : Option (Int × Int) → Da
  | none => .non
  | some p => .tup [.int p.1, .int p.2]
def htD (h : Ht) : Da := .tup [fmD h.f, .bl h.ex, ogD h.og]
def nvD (l : List Int) : Da := .tup (l.map .int)
/-- an int that is not too great -/
def Sm (i : Int) : Prop := i.natAbs < 2 ^ 3000
theorem Sm.mul {i j : Int} (h : Sm i) (k : Sm j) : CMulW i j := wide_mul h k (by decide) (by decide) (by decide)
structure GoodF (U : List A3) (f : Fm) : Prop where
  asc : (f.2.map (·.1)).Pairwise (fun a b => rk a < rk b)
  inU : ∀ t ∈ f.2, t.1 ∈ U
  nz : ∀ t ∈ f.2, t.2 ≠ 0
  sm : Sm f.1 ∧ ∀ t ∈ f.2, Sm t.2
/-- the atoms that there are -/
structure OkU (U : List A3) : Prop where
  ok : ∀ a ∈ U, OkA a
  len : U.length ≤ 9
  nd : U.Nodup
structure GoodH (U : List A3) (h : Ht) : Prop where
  f : GoodF U h.f
  og : ∀ p, h.og = some p → 0 ≤ p.1 ∧ p.1 ≤ 239 ∧ 0 ≤ p.2 ∧ p.2 ≤ 29
structure GoodN (l : List Int) : Prop where
  len : l.length ≤ 12
  ok : ∀ n ∈ l, 1 ≤ n ∧ n ≤ 12
  asc : l.Pairwise (· < ·)
theorem isBet_true {lo hi i : Int} (h0 : lo ≤ i) (h1 : i ≤ hi) : isBet lo hi (.int i) = true := by
  show (decide (lo ≤ i) && decide (i ≤ hi)) = true
  rw [decide_eq_true h0, decide_eq_true h1]
  rfl
theorem isTu_true {lo hi : Int} {l : List Da} (h0 : lo ≤ (l.length : Int)) (h1 : (l.length : Int) ≤ hi) : isTu lo hi (.tup l) = true := by
  show (decide _ && decide _) = true
  rw [decide_eq_true h0, decide_eq_true h1]
  rfl
theorem rep_push (i : Nat) : (List.replicate i true).map V.bl ++ [V.bl true] = (List.replicate (i + 1) true).map V.bl := by
  rw [List.replicate_succ', List.map_append]
  rfl
theorem rep_all (i : Nat) : (List.replicate i true).all id = true := by
  rw [List.all_eq_true]
  intro b hb
  exact (List.mem_replicate.mp hb).2
theorem Grow.upd' {H0 H : Hp} (g : Grow H0 H) {D : Addr} (hD : H0 D = none) {o : HO} : Grow H0 (L2.upd H D o) := fun a u h => by
  have m : a ≠ D := fun z => by rw [z, hD] at h; cases h
  rcases g a u h with r | ⟨r1, ps, r2, r3⟩
  · exact .inl (by rw [upd_ne m]; exact r)
  · exact .inr ⟨r1, ps, by rw [upd_ne m]; exact r2, r3⟩
theorem none_upd {H : Hp} {q D : Addr} {o : HO} (h : L2.upd H q o D = none) : H D = none := by
  by_cases e : D = q
  · subst e
    rw [upd_same] at h
    cases h
  · rw [upd_ne e] at h
    exact h
theorem Grow.none' {H H' : Hp} (g : Grow H H') {a : Addr} (h : H' a = none) : H a = none := by
  cases e : H a with
  | none => rfl
  | some o =>
    rcases g a o e with q | ⟨_, ps, q, _⟩
    · rw [h] at q; cases q
    · rw [h] at q; cases q
theorem map_get {α : Type} {f : α → Da} {l : List α} {i : Nat} {d : Da} (h : (l.map f)[i]? = some d) : ∃ a, l[i]? = some a ∧ f a = d := by
  rw [List.getElem?_map] at h
  cases e : l[i]? with
  | none => rw [e] at h; cases h
  | some a => rw [e] at h; exact ⟨a, rfl, Option.some.inj h⟩
def rLen (K : PySem.W.Frag) : List V → Hp → VK → Prop := fun xs H Q => ∃ p ys, xs = [.ref p] ∧ (SqL K H p ys ∨ SqT K H p ys) ∧ Q (.int ys.length) H
/-- a statement that is never come to -/
theorem ps_no {X : Cx} {st : Stmt} : PS X st (fun _ _ _ => False) := ⟨fun _ _ _ _ _ _ h => h.elim⟩
/-- what the program's globals hold -/
structure Gk (mg : Str → Option Value) : Prop where
  var : ∃ t, mg "MOST_VARIABLE" = some (.int 399 t)
  row : ∃ t, mg "MOST_ROW" = some (.int 239 t)
  num : ∃ t, mg "MOST_NUMBER" = some (.int 12 t)
  never : ∃ t, mg "MOST_NEVER" = some (.int 12 t)
  hints : ∃ t, mg "MOST_HINTS" = some (.int 8000 t)
  orow : ∃ t, mg "MOST_ORIGIN_ROW" = some (.int 239 t)
  ocl : ∃ t, mg "MOST_ORIGIN_CLAIM" = some (.int 29 t)
  zip : mg "zip" = none
  list : mg "list" = none
  sorted : mg "sorted" = none
end J1
set_option Elab.async false
set_option linter.all false
set_option maxRecDepth 100000
set_option maxHeartbeats 4000000
namespace J1
open PySem PySem.Spec PyProof.Rows L2 GxR GA RA
abbrev sAt : Stmt := top 14
theorem cAt : FnScope ["thing"] ["thing"] (defScope sAt) := ⟨rfl, rfl, rfl, by decide +kernel, rfl, by decide +kernel, by decide +kernel⟩
abbrev sCo : Stmt := top 15
theorem cCo : FnScope ["thing"] ["thing"] (defScope sCo) := ⟨rfl, rfl, rfl, by decide +kernel, rfl, by decide +kernel, by decide +kernel⟩
def spAt : Sp := fun vs H Q _ => ∃ (x : V) (a : A3), vs = [x] ∧ Enc H (atD a) x ∧ OkA a ∧ Q (.bl true) H
def spCo : Sp := fun vs H Q _ => ∃ i : Int, vs = [.int i] ∧ i ≠ 0 ∧ Q (.bl true) H
section
variable {P : Program} {w : World} {K : PySem.W.Frag} {mg : Str → Option Value} {base : Heap}
theorem ok_atom {f fB fT : Addr} {fd fdB fdT : FuncData} (F : Fun K "is_atom" "is_atom" sAt f fd) (G : Gk mg) (GB : FnOk P w K mg base CX0 2 fB fdB ["thing", "least", "most"] (spF3 isBet)) (DB : Df K mg "is_between" ["thing", "least", "most"] fB fdB)
    (GT : FnOk P w K mg base CX0 1 fT fdT ["thing", "least", "most"] (spF3 isTu)) (DT : Df K mg "is_tuple" ["thing", "least", "most"] fT fdT) : FnOk P w K mg base CX0 3 f fd ["thing"] spAt := by
  obtain ⟨tV, hV⟩ := G.var
  obtain ⟨tR, hR⟩ := G.row
  obtain ⟨tM, hM⟩ := G.num
  refine F.ok (k := 2) cAt (fun vs H Q E h => ?_) (fun cdv A outer s H vs Q E hr h => ?_)
  · obtain ⟨x, a, rfl, _⟩ := h
    rfl
  · obtain ⟨x, a, rfl, en, oa, k⟩ := h
    refine ⟨_, (pss_cons (ps_if (PW.pt (pw_or (pt_not (pt_val (pe_call (GT.mono (by decide)) hr (by rfl) DT.g DT.k DT.b .nil pass0 (pa_cons (pv 0) (pa_cons pe_int (pa_cons pe_int pa_nil)))))) (pw_or1 (pt_not (pt_val (pe_call (GB.mono (by decide)) hr (by rfl) DB.g DB.k DB.b .nil pass0 (pa_cons (pe_ix ix_tup (pv 0) pe_int (fun _ _ => rfl)) (pa_cons pe_int (pa_cons pe_int pa_nil))))))))) (pss_one (ps_ret pe_bl)) pss_nil) (pss_cons (ps_if (pt_cmpR op_eq (pe_ix ix_tup (pv 0) pe_int (fun _ _ => rfl)) pe_int (nomark _)) (pss_one (ps_ret (pe_and (pe_call (GB.mono (by decide)) hr (by rfl) DB.g DB.k DB.b .nil pass0 (pa_cons (pe_ix ix_tup (pv 0) pe_int (fun _ _ => rfl)) (pa_cons (pe_un un_neg pe_int) (pa_cons (pe_glob (v := .int 399) (by rfl) hV ⟨tV, rfl⟩) pa_nil)))) (pe_one (pe_call (GB.mono (by decide)) hr (by rfl) DB.g DB.k DB.b .nil pass0 (pa_cons (pe_ix ix_tup (pv 0) pe_int (fun _ _ => rfl)) (pa_cons pe_int (pa_cons (pe_glob (v := .int 12) (by rfl) hM ⟨tM, rfl⟩) pa_nil)))))))) pss_nil) (pss_one (ps_ret (pe_and (pe_call (GB.mono (by decide)) hr (by rfl) DB.g DB.k DB.b .nil pass0 (pa_cons (pe_ix ix_tup (pv 0) pe_int (fun _ _ => rfl)) (pa_cons pe_int (pa_cons (pe_glob (v := .int 239) (by rfl) hR ⟨tR, rfl⟩) pa_nil)))) (pe_one (pe_call (GB.mono (by decide)) hr (by rfl) DB.g DB.k DB.b .nil pass0 (pa_cons (pe_ix ix_tup (pv 0) pe_int (fun _ _ => rfl)) (pa_cons pe_int (pa_cons pe_int pa_nil)))))))))), ?_⟩
    obtain ⟨a0, a1, a2⟩ := a
    have en0 := en
    cases en with
    | @tup p xs _ hp es =>
    cases es with
    | @cons _ x0 _ _ e0 es =>
    cases es with
    | @cons _ x1 _ _ e1 es =>
    cases es with
    | @cons _ x2 _ _ e2 es =>
    cases es
    cases e0
    cases e1
    cases e2
    have i0 : Enc H (.int a0) (.int a0) := .int a0
    have i1 : Enc H (.int a1) (.int a1) := .int a1
    have i2 : Enc H (.int a2) (.int a2) := .int a2
    have hk := oa.k
    dsimp only at hk
    refine ⟨_, rfl, .ref p, _, 3, 3, rfl, en0, _, rfl, ?_⟩
    rw [show isTu 3 3 (atD (a0, a1, a2)) = true from isTu_true (by show (3 : Int) ≤ ((3 : Nat) : Int); decide) (by show ((3 : Nat) : Int) ≤ 3; decide)]
    refine iteF ⟨_, rfl, p, _, _, _, rfl, rfl, SqT.of hp, at_of (j := 0) rfl rfl, _, _, 0, 1, rfl, i0, _, rfl, ?_⟩
    rw [isBet_true (by omega) (by omega)]
    refine iteF ⟨_, rfl, p, _, _, _, rfl, rfl, SqT.of hp, at_of (j := 0) rfl rfl, rfl, _, rfl, ?_⟩
    by_cases hz : a0 = 0
    · have hk : -1 ≤ a1 ∧ a1 ≤ 399 ∧ 0 ≤ a2 ∧ a2 ≤ 12 := by omega
      refine ifT (by rw [hz]) ⟨_, rfl, p, _, _, _, rfl, rfl, SqT.of hp, at_of (j := 1) rfl rfl, _, rfl, _, _, _, _, rfl, i1, _, rfl, ?_⟩
      rw [isBet_true (by omega) (by omega)]
      refine iteT ⟨_, rfl, p, _, _, _, rfl, rfl, SqT.of hp, at_of (j := 2) rfl rfl, _, _, _, _, rfl, i2, ?_⟩
      rw [isBet_true (by omega) (by omega)]
      exact k
    · have hk : 0 ≤ a1 ∧ a1 ≤ 239 ∧ 0 ≤ a2 ∧ a2 ≤ 1 := by omega
      refine ifF (fun z => hz (V.int.inj z)) ⟨_, rfl, p, _, _, _, rfl, rfl, SqT.of hp, at_of (j := 1) rfl rfl, _, _, _, _, rfl, i1, _, rfl, ?_⟩
      rw [isBet_true (by omega) (by omega)]
      refine iteT ⟨_, rfl, p, _, _, _, rfl, rfl, SqT.of hp, at_of (j := 2) rfl rfl, _, _, _, _, rfl, i2, ?_⟩
      rw [isBet_true (by omega) (by omega)]
      exact k
theorem ok_coef {f fI : Addr} {fd fdI : FuncData} (F : Fun K "is_coefficient" "is_coefficient" sCo f fd) (GI : FnOk P w K mg base CX0 1 fI fdI ["thing"] (spF isInt)) (DI : Df K mg "is_integer" ["thing"] fI fdI) : FnOk P w K mg base CX0 2 f fd ["thing"] spCo := by
  refine F.ok (k := 1) cCo (fun vs H Q E h => ?_) (fun cdv A outer s H vs Q E hr h => ?_)
  · obtain ⟨i, rfl, _⟩ := h
    rfl
  · obtain ⟨i, rfl, nz, k⟩ := h
    refine ⟨_, (pss_one (ps_ret (pe_and (pe_call (GI.mono (by decide)) hr (by rfl) DI.g DI.k DI.b .nil pass0 (pa_cons (pv 0) pa_nil)) (pe_one (pe_cmpR op_ne (pv 0) pe_int (nomark _)))))), ?_⟩
    refine ⟨_, rfl, _, _, rfl, .int i, _, rfl, iteT ⟨_, rfl, rfl, ?_⟩⟩
    rw [show (!decide (V.int i = V.int 0)) = true by rw [decide_eq_false (fun z => nz (V.int.inj z))]; rfl]
    exact k
end
end J1
set_option Elab.async false
set_option linter.all false
set_option maxRecDepth 100000
set_option maxHeartbeats 4000000
namespace J1
open PySem PySem.Spec PyProof.Rows L2 GxR GA RA RZ
abbrev sAs : Stmt := top 16
theorem cAs : FnScope ["keys", "one", "two"] ["keys"] (defScope sAs) := ⟨rfl, rfl, rfl, by decide +kernel, rfl, by decide +kernel, by decide +kernel⟩
theorem walk34 {K : PySem.W.Frag} {a b : Addr} {xs ys : List V} {n : Nat} (h1 : n ≤ xs.length) (h2 : n ≤ ys.length) (h3 : xs.length ≤ n ∨ ys.length ≤ n) :
    Walk (ItzT K a b) n (fun H => SqT K H a xs ∧ SqT K H b ys) (YPair (fun i => xs[i]?) (fun i => ys[i]?)) := by
  refine ⟨fun i H hi q => ⟨xs, ys, xs[i]'(by omega), ys[i]'(by omega), q.1, q.2, List.getElem?_eq_getElem _, List.getElem?_eq_getElem _⟩, fun H q => ⟨xs, ys, q.1, q.2, h3⟩, fun i H v H' _ q y => ?_⟩
  obtain ⟨T, x, z, e1, e2, e3, e4, e5⟩ := y
  exact ⟨T, x, z, e1, e2, e3, e4 xs q.1, e5 ys q.2⟩
theorem cut1 (xs : List V) : cutV xs (some 1) none = xs.drop 1 := by
  unfold cutV
  rw [HT.sIx_none, show HT.sIx xs.length 0 (some 1) = min 1 xs.length from HT.sIx_nat _ _ 1]
  cases xs with
  | nil => rfl
  | cons x r =>
    rw [show min 1 (x :: r).length = 1 by rw [List.length_cons]; omega]
    rw [List.take_of_length_le]
    simp
def spAsT : Sp := fun vs H Q _ => ∃ (x : V) (l : List Int), vs = [x] ∧ Enc H (nvD l) x ∧ l.length ≤ 12 ∧ l.Pairwise (· < ·) ∧ ∀ H', Grow H H' → Q (.bl true) H'
def spAsL : Sp := fun vs H Q _ => ∃ (p : Addr) (ts : List Addr) (g : Addr → A3), vs = [.ref p] ∧ H p = some (.lst (ts.map V.ref)) ∧ ts.length ≤ 12 ∧ (∀ t ∈ ts, Tr H t g) ∧ (ts.map g).Pairwise (fun a b => rk a < rk b) ∧ ∀ H', Grow H H' → Q (.bl true) H'
theorem ints_vals {H : Hp} : ∀ {l : List Int} {xs : List V}, Encs H (l.map .int) xs → xs = l.map V.int
  | [], _, .nil => rfl
  | _ :: _, _, .cons e t => by
    cases e
    rw [List.map_cons, ints_vals t]
theorem pw_next {α : Type} {R : α → α → Prop} : ∀ {l : List α} {i : Nat} {a b : α}, l.Pairwise R → l[i]? = some a → (l.drop 1)[i]? = some b → R a b := by
  intro l i a b h ha hb
  rw [List.getElem?_drop] at hb
  rw [List.pairwise_iff_getElem] at h
  obtain ⟨i1, e1⟩ := List.getElem?_eq_some_iff.mp ha
  obtain ⟨i2, e2⟩ := List.getElem?_eq_some_iff.mp hb
  have q := h i (1 + i) i1 i2 (by omega)
  rw [e1, e2] at q
  exact q
section
variable {P : Program} {w : World} {K : PySem.W.Frag} {mg : Str → Option Value} {base : Heap}
theorem ok_ascT {f : Addr} {fd : FuncData} (F : Fun K "is_ascending" "is_ascending" sAs f fd) (N : Gn K mg) (G : Gk mg) : FnOk P w K mg base CX0 1 f fd ["keys"] spAsT := by
  refine F.ok cAs (fun vs H Q E h => ?_) (fun cdv A outer s H vs Q E hr h => ?_)
  · obtain ⟨x, l, rfl, _⟩ := h
    rfl
  · obtain ⟨x, l, rfl, en, hl, hp0, k⟩ := h
    refine ⟨_, (pss_one (ps_ret (pe_callB (cr_all (by rfl)) (by rfl) N.na (by decide +kernel) (pa_cons (pe_lc (own := [("one", 1), ("two", 2)]) (g := gTup K 2 (gCons (gName 1) (gCons (gName 2) gNil))) (tt := tYes) (by rfl) cAs.nd (pi_zipA (by rfl) G.zip (pa_cons (pv 0) (pa_cons (pe_slice sl_tupA (pv 0) (po_some pe_int) po_none) pa_nil))) (blkOk_by (own := [("one", 1), ("two", 2)]) (N := ["keys", "one", "two"]) (sc := defScope sAs) (by decide +kernel)) (fun _ _ _ _ _ => (pg_tup (by rfl) (pgs_cons (pg_name (i := 1) cAs.nd rfl (Or.inl rfl)) (pgs_cons (pg_name (i := 2) cAs.nd rfl (Or.inl rfl)) pgs_nil)))) (fun _ _ _ _ _ => pts_nil) (fun _ _ _ _ _ => (pe_cmpR op_lt (pv 1) (pv 2) (nomark _)))) pa_nil)))), ?_⟩
    cases en with
    | @tup a xs _ ha es =>
    have ex := ints_vals es
    subst ex
    have main : ∀ (b : Addr) (H1 : Hp), Grow H H1 → H1 b = some (.tup ((l.map V.int).drop 1)) → ∀ D, H1 D = none → ∀ Qd : Hp → Prop, (∀ H', H' D = some (.lst ((List.replicate (l.length - 1) true).map V.bl)) → Grow H H' → Qd H') →
        ∃ W : Nat → Nat → Hp → Prop, (∃ m, W 0 m (L2.upd H1 D (.lst []))) ∧ ∀ i m Hc, W i m Hc → ((ItzT K a b).stop i Hc ∧ Qd Hc) ∨ ((ItzT K a b).go i Hc ∧ ∃ Nx : Hp → Prop, (∀ H', Nx H' → ∃ m', m' < m ∧ W (i + 1) m' H') ∧ ∀ x H', (ItzT K a b).yld i Hc x H' →
          gTup K 2 (gCons (gName 1) (gCons (gName 2) gNil)) x (wipe [some (V.ref a), none, none] [1, 2]) H' fun σ2 H2 => wipe σ2 [1, 2] = wipe [some (V.ref a), none, none] [1, 2] ∧ tYes σ2 H2 fun c H3 =>
            if c = true then tOp (rI0 fun i j => V.bl (decide (i < j))) (tVar 1) (tVar 2) σ2 H3 fun y H4 => ∃ acc, H4 D = some (.lst acc) ∧ acc.length < sizeLine ∧ Nx (L2.upd H4 D (.lst (acc ++ [y]))) else Nx H3) := by
      intro b H1 g1 hb D hD Qd hq
      refine lc_it (walk34 (xs := l.map V.int) (ys := (l.map V.int).drop 1) (n := l.length - 1) (by rw [List.length_map]; omega) (by rw [List.length_drop, List.length_map]; omega) (.inr (by rw [List.length_drop, List.length_map]; omega)))
        (fun i Hc => Hc D = some (.lst ((List.replicate i true).map V.bl)) ∧ Grow H1 Hc) ⟨upd_same, Grow.new hD⟩ (fun i Hc _ hp => ⟨SqT.of ((g1.trans hp.2).tup ha), SqT.of (hp.2.tup hb)⟩) (fun i x Hc H' hi hp y => ?_) (fun Hc hp => hq Hc hp.1 (g1.trans hp.2))
      obtain ⟨T, x1, x2, rfl, hT, rfl, e1, e2⟩ := y
      obtain ⟨hacc, g⟩ := hp
      have e1 : (l.map V.int)[i]? = some x1 := e1
      have e2 : ((l.map V.int).drop 1)[i]? = some x2 := e2
      rw [List.getElem?_map] at e1
      have e2' : ((l.drop 1).map V.int)[i]? = some x2 := by rw [List.map_drop]; exact e2
      rw [List.getElem?_map] at e2'
      cases q1 : l[i]? with
      | none => rw [q1] at e1; cases e1
      | some v1 =>
      cases q2 : (l.drop 1)[i]? with
      | none => rw [q2] at e2'; cases e2'
      | some v2 =>
      rw [q1] at e1
      rw [q2] at e2'
      cases e1
      cases e2'
      have lt := pw_next hp0 q1 q2
      have nT : T ≠ D := fun z => by rw [z, hacc] at hT; cases hT
      refine ⟨T, _, rfl, SqT.of upd_same, rfl, _, _, rfl, _, _, rfl, rfl, rfl, ?_⟩
      unfold tYes
      refine iteT ⟨_, rfl, _, rfl, _, _, rfl, rfl, _, by rw [upd_ne (Ne.symm nT)]; exact hacc, ?_, ?_, (g.upd' (g.none' hT)).upd' hD⟩
      · rw [List.length_map, List.length_replicate, sizeLine_eq]
        omega
      · dsimp only
        rw [decide_eq_true lt, rep_push]
        exact upd_same
    refine ⟨_, rfl, _, rfl, _, rfl, ?_⟩
    dsimp only [tNoPart]
    refine ⟨a, _, rfl, SqT.of ha, fun hw => ?_, fun _ q hq => ?_⟩
    · have hl0 : l.length = 0 := by
        have z := hw.1
        rw [show HT.sIx (l.map V.int).length 0 (some 1) = min 1 (l.map V.int).length from HT.sIx_nat _ _ 1, List.length_map] at z
        omega
      have ha' : H a = some (.tup ((l.map V.int).drop 1)) := by
        rw [ha, List.eq_nil_of_length_eq_zero hl0]
        rfl
      refine ⟨a, a, _, _, rfl, .inr ⟨SqT.of ha, SqT.of ha, fun D hD => ?_⟩⟩
      refine main a H (Grow.refl H) ha' D hD _ fun Hd hacc g => ?_
      refine ⟨D, _, rfl, SqL.of hacc, ?_⟩
      rw [rep_all]
      exact k _ g
    · rw [cut1]
      refine ⟨a, q, _, _, rfl, .inr ⟨SqT.of ((Grow.new hq).tup ha), SqT.of upd_same, fun D hD => ?_⟩⟩
      refine main q _ (Grow.new hq) upd_same D hD _ fun Hd hacc g => ?_
      refine ⟨D, _, rfl, SqL.of hacc, ?_⟩
      rw [rep_all]
      exact k _ g
theorem ok_ascL {f : Addr} {fd : FuncData} (F : Fun K "is_ascending" "is_ascending" sAs f fd) (N : Gn K mg) (G : Gk mg) : FnOk P w K mg base CX0 1 f fd ["keys"] spAsL := by
  refine F.ok cAs (fun vs H Q E h => ?_) (fun cdv A outer s H vs Q E hr h => ?_)
  · obtain ⟨p, ts, g, rfl, _⟩ := h
    rfl
  · obtain ⟨a, ts, g, rfl, ha, hl, tr, hp0, k⟩ := h
    have hu1 := Nat.lt_of_succ_lt (hu_of hr)
    refine ⟨_, (pss_one (ps_ret (pe_callB (cr_all (by rfl)) (by rfl) N.na (by decide +kernel) (pa_cons (pe_lc (own := [("one", 1), ("two", 2)]) (g := gTup K 2 (gCons (gName 1) (gCons (gName 2) gNil))) (tt := tYes) (by rfl) cAs.nd (pi_zipA (by rfl) G.zip (pa_cons (pv 0) (pa_cons (pe_slice sl_list (pv 0) (po_some pe_int) po_none) pa_nil))) (blkOk_by (own := [("one", 1), ("two", 2)]) (N := ["keys", "one", "two"]) (sc := defScope sAs) (by decide +kernel)) (fun _ _ _ _ _ => (pg_tup (by rfl) (pgs_cons (pg_name (i := 1) cAs.nd rfl (Or.inl rfl)) (pgs_cons (pg_name (i := 2) cAs.nd rfl (Or.inl rfl)) pgs_nil)))) (fun _ _ _ _ _ => pts_nil) (fun _ _ _ _ _ => (pe_cmpR (r := rLtT K) (op_ltT hu1) (pv 1) (pv 2) (nomark _)))) pa_nil)))), ?_⟩
    refine ⟨_, rfl, _, rfl, _, rfl, ?_⟩
    dsimp only [tNoPart]
    refine ⟨a, _, rfl, SqL.of ha, fun q hq => ?_⟩
    rw [cut1]
    have gq := Grow.new (o := .lst ((ts.map V.ref).drop 1)) hq
    refine ⟨a, q, _, _, rfl, .inl ⟨SqL.of (gq.lst ha), SqL.of upd_same, fun D hD => ?_⟩⟩
    refine lc_it (walk_zip (xs := ts.map V.ref) (ys := (ts.map V.ref).drop 1) (n := ts.length - 1) (by rw [List.length_drop, List.length_map]; omega))
      (fun i Hc => Hc D = some (.lst ((List.replicate i true).map V.bl)) ∧ Hc q = some (.lst ((ts.map V.ref).drop 1)) ∧ Grow H Hc) ⟨upd_same, (Grow.new hD).lst upd_same, gq.trans (Grow.new hD)⟩ (fun i Hc _ hp => ⟨SqL.of (hp.2.2.lst ha), SqL.of hp.2.1⟩) (fun i x Hc H' hi hp y => ?_) (fun Hc hp => ?_)
    · obtain ⟨T, x1, x2, rfl, hT, rfl, e1, e2⟩ := y
      obtain ⟨hacc, hqc, g3⟩ := hp
      have e1 : (ts.map V.ref)[i]? = some x1 := e1
      have e2 : ((ts.map V.ref).drop 1)[i]? = some x2 := e2
      rw [List.getElem?_map] at e1
      rw [← List.map_drop, List.getElem?_map] at e2
      cases q1 : ts[i]? with
      | none => rw [q1] at e1; cases e1
      | some t1 =>
      cases q2 : (ts.drop 1)[i]? with
      | none => rw [q2] at e2; cases e2
      | some t2 =>
      rw [q1] at e1
      rw [q2] at e2
      cases e1
      cases e2
      rw [List.pairwise_map] at hp0
      have lt := pw_next hp0 q1 q2
      obtain ⟨h1, r1⟩ := tr t1 (List.mem_of_getElem? q1)
      obtain ⟨h2, r2⟩ := tr t2 (List.mem_of_mem_drop (List.mem_of_getElem? q2))
      have nT : T ≠ D := fun z => by rw [z, hacc] at hT; cases hT
      have nq : T ≠ q := fun z => by rw [z, hqc] at hT; cases hT
      have g4 := g3.upd' (g3.none' hT) (o := .tup [.ref t1, .ref t2])
      have nD : H D = none := none_upd hD
      refine ⟨T, _, rfl, SqT.of upd_same, rfl, _, _, rfl, _, _, rfl, rfl, rfl, ?_⟩
      unfold tYes
      refine iteT ⟨_, rfl, _, rfl, t1, t2, _, _, rfl, rfl, SqT.of (g4.tup h1), SqT.of (g4.tup h2), _, by rw [upd_ne (Ne.symm nT)]; exact hacc, ?_, ?_, ?_, g4.upd' nD⟩
      · rw [List.length_map, List.length_replicate, sizeLine_eq]
        omega
      · rw [rk_lex r1 r2, decide_eq_true lt, rep_push]
        exact upd_same
      · have nDq : q ≠ D := fun z => by rw [← z, upd_same] at hD; cases hD
        rw [upd_ne nDq, upd_ne (Ne.symm nq)]
        exact hqc
    · obtain ⟨hacc, _, g3⟩ := hp
      refine ⟨D, _, rfl, SqL.of hacc, ?_⟩
      rw [rep_all]
      exact k _ g3
end
end J1
set_option Elab.async false
set_option linter.all false
set_option maxRecDepth 100000
set_option maxHeartbeats 4000000
namespace J1
open PySem PySem.Spec PyProof.Rows L2 GxR GA RA
abbrev sFo : Stmt := top 13
theorem cFo : FnScope ["thing", "terms", "term", "atom", "_"] ["thing"] (defScope sFo) := ⟨rfl, rfl, rfl, by decide +kernel, rfl, by decide +kernel, by decide +kernel⟩
abbrev sOr : Stmt := top 25
theorem cOr : FnScope ["thing"] ["thing"] (defScope sOr) := ⟨rfl, rfl, rfl, by decide +kernel, rfl, by decide +kernel, by decide +kernel⟩
abbrev sHi : Stmt := top 24
theorem cHi : FnScope ["thing"] ["thing"] (defScope sHi) := ⟨rfl, rfl, rfl, by decide +kernel, rfl, by decide +kernel, by decide +kernel⟩
/-- terms as they stand: the pairs, the atoms' addresses -/
inductive TmAt (H : Hp) : List Tm → List V → List Addr → Prop
  | nil : TmAt H [] [] []
  | cons {e : Tm} {b t : Addr} {l : List Tm} {xs : List V} {ts : List Addr} (hb : H b = some (.tup [.ref t, .int e.2])) (ht : H t = some (.tup ((il e.1).map V.int))) (r : TmAt H l xs ts) : TmAt H (e :: l) (.ref b :: xs) (t :: ts)
theorem at_enc {H : Hp} {a : A3} {x : V} (h : Enc H (atD a) x) : ∃ t, x = .ref t ∧ H t = some (.tup ((il a).map V.int)) := by
  cases h with
  | @tup t xs _ ht es =>
  have := ints_vals (l := il a) es
  subst this
  exact ⟨t, rfl, ht⟩
theorem enc_at {B : Addr → Prop} {H : Hp} {a : A3} {t : Addr} (h : H t = some (.tup ((il a).map V.int))) : EncB B H (atD a) (.ref t) :=
  .tup h (.cons (.int _) (.cons (.int _) (.cons (.int _) .nil)))
theorem tm_enc {H : Hp} {e : Tm} {x : V} (h : Enc H (tmD e) x) : ∃ b t, x = .ref b ∧ H b = some (.tup [.ref t, .int e.2]) ∧ H t = some (.tup ((il e.1).map V.int)) := by
  cases h with
  | @tup b xs _ hb es =>
  cases es with
  | @cons _ x0 _ _ e0 es =>
  cases es with
  | @cons _ x1 _ _ e1 es =>
  cases es
  cases e1
  obtain ⟨t, rfl, ht⟩ := at_enc e0
  exact ⟨b, t, rfl, hb, ht⟩
theorem TmAt.of {H : Hp} : ∀ {l : List Tm} {xs : List V}, Encs H (l.map tmD) xs → ∃ ts, TmAt H l xs ts
  | [], _, .nil => ⟨[], .nil⟩
  | e :: l, _, .cons h t => by
    obtain ⟨ts, r⟩ := TmAt.of t
    obtain ⟨b, t, rfl, hb, ht⟩ := tm_enc h
    exact ⟨t :: ts, .cons hb ht r⟩
theorem TmAt.enc {B : Addr → Prop} {H : Hp} {l : List Tm} {xs : List V} {ts : List Addr} (h : TmAt H l xs ts) : EncsB B H (l.map tmD) xs := by
  induction h with
  | nil => exact .nil
  | cons hb ht r ih => exact .cons (.tup hb (.cons (enc_at ht) (.cons (.int _) .nil))) ih
theorem TmAt.grow {H H' : Hp} (g : Grow H H') {l : List Tm} {xs : List V} {ts : List Addr} (h : TmAt H l xs ts) : TmAt H' l xs ts := by
  induction h with
  | nil => exact .nil
  | cons hb ht r ih => exact .cons (g.tup hb) (g.tup ht) ih
theorem TmAt.len {H : Hp} {l : List Tm} {xs : List V} {ts : List Addr} (h : TmAt H l xs ts) : xs.length = l.length ∧ ts.length = l.length := by
  induction h with
  | nil => exact ⟨rfl, rfl⟩
  | cons hb ht r ih => exact ⟨by rw [List.length_cons, List.length_cons, ih.1], by rw [List.length_cons, List.length_cons, ih.2]⟩
theorem TmAt.get {H : Hp} {l : List Tm} {xs : List V} {ts : List Addr} (h : TmAt H l xs ts) : ∀ {i : Nat} {x : V}, xs[i]? = some x → ∃ e b t, l[i]? = some e ∧ x = .ref b ∧ ts[i]? = some t ∧ H b = some (.tup [.ref t, .int e.2]) ∧ H t = some (.tup ((il e.1).map V.int)) := by
  induction h with
  | nil => intro i x z; cases z
  | cons hb ht r ih =>
    intro i x z
    cases i with
    | zero => cases z; exact ⟨_, _, _, rfl, rfl, rfl, hb, ht⟩
    | succ i => exact ih (i := i) z
theorem TmAt.tr {H : Hp} {l : List Tm} {xs : List V} {ts : List Addr} (h : TmAt H l xs ts) : ts.map (gH H) = l.map (·.1) ∧ ((∀ e ∈ l, Rg e.1) → ∀ t ∈ ts, Tr H t (gH H)) := by
  induction h with
  | nil => exact ⟨rfl, fun _ _ z => absurd z List.not_mem_nil⟩
  | cons hb ht r ih =>
    refine ⟨by rw [List.map_cons, List.map_cons, ih.1, gH_of ht], fun o t m => ?_⟩
    rcases List.mem_cons.mp m with q | q
    · rw [q]
      refine ⟨?_, ?_⟩
      · rw [gH_of ht]; exact ht
      · rw [gH_of ht]; exact o _ List.mem_cons_self
    · exact ih.2 (fun e he => o e (List.mem_cons_of_mem _ he)) t q
def spFo : Sp := fun vs H Q _ => ∃ (x : V) (U : List A3) (f : Fm), vs = [x] ∧ Enc H (fmD f) x ∧ OkU U ∧ GoodF U f ∧ ∀ H', Grow H H' → Q (.bl true) H'
def spOr : Sp := fun vs H Q _ => ∃ (x : V) (p : Int × Int), vs = [x] ∧ Enc H (ogD (some p)) x ∧ (0 ≤ p.1 ∧ p.1 ≤ 239 ∧ 0 ≤ p.2 ∧ p.2 ≤ 29) ∧ Q (.bl true) H
def spHi : Sp := fun vs H Q _ => ∃ (x : V) (U : List A3) (h : Ht), vs = [x] ∧ Enc H (htD h) x ∧ OkU U ∧ GoodH U h ∧ ∀ H', Grow H H' → Q (.bl true) H'
theorem GoodF.len {U : List A3} {f : Fm} (u : OkU U) (g : GoodF U f) : f.2.length ≤ 9 := by
  have nd : (f.2.map (·.1)).Nodup := g.asc.imp fun {a b} h e => by rw [e] at h; exact absurd h (Int.lt_irrefl _)
  have q := nd.length_le_of_subset (l₂ := U) fun a ha => by
    obtain ⟨t, ht, rfl⟩ := List.mem_map.mp ha
    exact g.inU t ht
  rw [List.length_map] at q
  exact Nat.le_trans q u.len
section
variable {P : Program} {w : World} {K : PySem.W.Frag} {mg : Str → Option Value} {base : Heap}
theorem ok_form {f fT fI fA fC fS : Addr} {fd fdT fdI fdA fdC fdS : FuncData} (F : Fun K "is_form" "is_form" sFo f fd) (N : Gn K mg)
    (GT : FnOk P w K mg base CX0 1 fT fdT ["thing", "least", "most"] (spF3 isTu)) (DT : Df K mg "is_tuple" ["thing", "least", "most"] fT fdT)
    (GI : FnOk P w K mg base CX0 1 fI fdI ["thing"] (spF isInt)) (DI : Df K mg "is_integer" ["thing"] fI fdI)
    (GA : FnOk P w K mg base CX0 3 fA fdA ["thing"] spAt) (DA : Df K mg "is_atom" ["thing"] fA fdA)
    (GC : FnOk P w K mg base CX0 2 fC fdC ["thing"] spCo) (DC : Df K mg "is_coefficient" ["thing"] fC fdC)
    (GS : FnOk P w K mg base CX0 1 fS fdS ["keys"] spAsL) (DS : Df K mg "is_ascending" ["keys"] fS fdS) : FnOk P w K mg base CX0 4 f fd ["thing"] spFo := by
  refine F.ok (k := 3) cFo (fun vs H Q E h => ?_) (fun cdv A outer s H vs Q E hr h => ?_)
  · obtain ⟨x, U, f, rfl, _⟩ := h
    rfl
  · obtain ⟨x, U, fm, rfl, en, ou, gf, k⟩ := h
    refine ⟨_, (pss_cons (ps_if (PW.pt (pw_or (pt_not (pt_val (pe_call (GT.mono (by decide)) hr (by rfl) DT.g DT.k DT.b .nil pass0 (pa_cons (pv 0) (pa_cons pe_int (pa_cons pe_int pa_nil)))))) (pw_or (pt_not (pt_val (pe_call (GI.mono (by decide)) hr (by rfl) DI.g DI.k DI.b .nil pass0 (pa_cons (pe_ix ix_tup (pv 0) pe_int (fun _ _ => rfl)) pa_nil)))) (pw_or1 (pt_not (pt_val (pe_callB call_isi (by rfl) N.nI boot_isinstance (pa_cons (pe_ix ix_tup (pv 0) pe_int (fun _ _ => rfl)) (pa_cons (pe_bltn (v := .ty "tuple") rfl N.nt (by decide +kernel) rfl) pa_nil))))))))) (pss_one (ps_ret pe_bl)) pss_nil) (pss_cons (ps_set (i := 1) cFo.nd rfl (Or.inl rfl) (pe_ix ix_tup (pv 0) pe_int (fun _ _ => rfl))) (pss_cons (ps_if (pt_not (pt_val (pe_callB (cr_all (by rfl)) (by rfl) N.na (by decide +kernel) (pa_cons (pe_lc (own := [("term", 2)]) (g := gName 2) (tt := tYes) (by rfl) cFo.nd (pi_tup (pv 1)) (blkOk_by (own := [("term", 2)]) (N := ["thing", "terms", "term", "atom", "_"]) (sc := defScope sFo) (by decide +kernel)) (fun _ _ _ _ _ => (pg_name (i := 2) cFo.nd rfl (Or.inl rfl))) (fun _ _ _ _ _ => pts_nil) (fun _ _ _ _ _ => (pe_and (pe_call (GT.mono (by decide)) hr (by rfl) DT.g DT.k DT.b .nil pass0 (pa_cons (pv 2) (pa_cons pe_int (pa_cons pe_int pa_nil)))) (pe_and (pe_call (GA.mono (by decide)) hr (by rfl) DA.g DA.k DA.b .nil pass0 (pa_cons (pe_ix (r := rIxT K) ix_tup (pv 2) pe_int (fun _ _ => rfl)) pa_nil)) (pe_one (pe_call (GC.mono (by decide)) hr (by rfl) DC.g DC.k DC.b .nil pass0 (pa_cons (pe_ix (r := rIxT K) ix_tup (pv 2) pe_int (fun _ _ => rfl)) pa_nil))))))) pa_nil)))) (pss_one (ps_ret pe_bl)) pss_nil) (pss_one (ps_ret (pe_call (GS.mono (by decide)) hr (by rfl) DS.g DS.k DS.b .nil pass0 (pa_cons (pe_lc (own := [("atom", 3), ("_", 4)]) (g := gTup K 2 (gCons (gName 3) (gCons (gName 4) gNil))) (tt := tYes) (by rfl) cFo.nd (pi_tup (pv 1)) (blkOk_by (own := [("atom", 3), ("_", 4)]) (N := ["thing", "terms", "term", "atom", "_"]) (sc := defScope sFo) (by decide +kernel)) (fun _ _ _ _ _ => (pg_tup (by rfl) (pgs_cons (pg_name (i := 3) cFo.nd rfl (Or.inl rfl)) (pgs_cons (pg_name (i := 4) cFo.nd rfl (Or.inl rfl)) pgs_nil)))) (fun _ _ _ _ _ => pts_nil) (fun _ _ _ _ _ => (pv 3))) pa_nil))))))), ?_⟩
    obtain ⟨c, l⟩ := fm
    have hl9 := gf.len ou
    have en0 := en
    cases en with
    | @tup p xs _ hp es =>
    cases es with
    | @cons _ x0 _ _ e0 es =>
    cases es with
    | @cons _ x1 _ _ e1 es =>
    cases es
    cases e0
    have en1 := e1
    cases e1 with
    | @tup p1 xs1 _ hp1 es1 =>
    obtain ⟨ts, T⟩ := TmAt.of es1
    obtain ⟨_, _, _, kT⟩ := kitD (.tup (l.map tmD))
    have lx := T.len.1
    dsimp only at hl9
    refine ⟨_, rfl, .ref p, _, 2, 2, rfl, en0, _, rfl, ?_⟩
    rw [show isTu 2 2 (fmD (c, l)) = true from isTu_true (by show (2 : Int) ≤ ((2 : Nat) : Int); decide) (by show ((2 : Nat) : Int) ≤ 2; decide)]
    refine iteF ⟨_, rfl, p, _, _, _, rfl, rfl, SqT.of hp, at_of (j := 0) rfl rfl, _, _, rfl, .int c, _, rfl, iteF ?_⟩
    refine ⟨_, rfl, p, _, _, _, rfl, rfl, SqT.of hp, at_of (j := 1) rfl rfl, _, _, _, _, _, rfl, .ty "tuple", en1.ty, kit_ty kT, _, rfl, iteF ?_⟩
    refine ⟨_, rfl, p, _, _, _, rfl, rfl, SqT.of hp, at_of (j := 1) rfl rfl, ?_⟩
    refine ⟨_, rfl, p1, rfl, ⟨_, SqT.of hp1⟩, fun D hD => ?_⟩
    refine lc_tup (xs := xs1) (fun i Hc => Hc D = some (.lst ((List.replicate i true).map V.bl)) ∧ Grow H Hc) ⟨upd_same, Grow.new hD⟩ (fun i Hc _ hq => SqT.of (hq.2.tup hp1)) (fun i z Hc hz hq => ?_) (fun Hd hq => ?_)
    · obtain ⟨hacc, g⟩ := hq
      obtain ⟨e, b, t, he, rfl, _, hb, ht⟩ := T.get hz
      have he : l[i]? = some e := he
      have hm := List.mem_of_getElem? he
      have hi9 : i < 9 := by
        have := (List.getElem?_eq_some_iff.mp he).1
        omega
      refine ⟨wipe_set, ?_⟩
      unfold tYes
      refine iteT ⟨_, rfl, .ref b, tmD e, 2, 2, rfl, .tup (g.tup hb) (.cons (enc_at (g.tup ht)) (.cons (.int _) .nil)), _, rfl, ?_⟩
      rw [show isTu 2 2 (tmD e) = true from isTu_true (by show (2 : Int) ≤ ((2 : Nat) : Int); decide) (by show ((2 : Nat) : Int) ≤ 2; decide)]
      refine iteT ⟨_, rfl, b, _, _, _, rfl, rfl, SqT.of (g.tup hb), at_of (j := 0) rfl rfl, .ref t, e.1, rfl, enc_at (g.tup ht), ou.ok _ (gf.inU e hm), _, rfl, ?_⟩
      refine iteT ⟨_, rfl, b, _, _, _, rfl, rfl, SqT.of (g.tup hb), at_of (j := 1) rfl rfl, e.2, rfl, gf.nz e hm, _, hacc, ?_, ?_, g.upd' hD⟩
      · rw [List.length_map, List.length_replicate, sizeLine_eq]
        omega
      · rw [rep_push]
        exact upd_same
    · obtain ⟨hacc, g⟩ := hq
      refine ⟨D, _, rfl, SqL.of hacc, ?_⟩
      rw [rep_all]
      refine ⟨_, rfl, iteF ⟨_, rfl, p1, rfl, ⟨_, SqT.of (g.tup hp1)⟩, fun D2 hD2 => ?_⟩⟩
      refine lc_tup (xs := xs1) (fun i Hc => Hc D2 = some (.lst ((ts.take i).map V.ref)) ∧ Grow Hd Hc) ⟨upd_same, Grow.new hD2⟩ (fun i Hc _ hq => SqT.of ((g.trans hq.2).tup hp1)) (fun i z Hc hz hq => ?_) (fun He hq => ?_)
      · obtain ⟨hacc2, g2⟩ := hq
        obtain ⟨e, b, t, he, rfl, ht0, hb, ht⟩ := T.get hz
        have he : l[i]? = some e := he
        have g3 := g.trans g2
        have hi9 : i < 9 := by
          have := (List.getElem?_eq_some_iff.mp he).1
          omega
        refine ⟨b, _, rfl, SqT.of (g3.tup hb), rfl, _, _, rfl, _, _, rfl, rfl, rfl, ?_⟩
        unfold tYes
        refine iteT ⟨_, rfl, _, hacc2, ?_, ?_, g2.upd' hD2⟩
        · rw [List.length_map, List.length_take, sizeLine_eq]
          omega
        · rw [upd_same, List.take_succ, ht0, List.map_append]
          rfl
      · obtain ⟨hacc2, g2⟩ := hq
        rw [lx, ← T.len.2, List.take_length] at hacc2
        have T2 := T.grow (g.trans g2)
        obtain ⟨m1, m2⟩ := T2.tr
        refine ⟨D2, ts, gH He, rfl, hacc2, (by have q : ts.length = l.length := T.len.2; omega), m2 (fun e he => (ou.ok _ (gf.inU e he)).rg), ?_, fun H' g4 => k H' ((g.trans g2).trans g4)⟩
        rw [m1]
        exact gf.asc
theorem ok_orig {f fB fT : Addr} {fd fdB fdT : FuncData} (F : Fun K "_is_origin" "_is_origin" sOr f fd) (G : Gk mg) (GB : FnOk P w K mg base CX0 2 fB fdB ["thing", "least", "most"] (spF3 isBet)) (DB : Df K mg "is_between" ["thing", "least", "most"] fB fdB)
    (GT : FnOk P w K mg base CX0 1 fT fdT ["thing", "least", "most"] (spF3 isTu)) (DT : Df K mg "is_tuple" ["thing", "least", "most"] fT fdT) : FnOk P w K mg base CX0 3 f fd ["thing"] spOr := by
  obtain ⟨tR, hR⟩ := G.orow
  obtain ⟨tC, hC⟩ := G.ocl
  refine F.ok (k := 2) cOr (fun vs H Q E h => ?_) (fun cdv A outer s H vs Q E hr h => ?_)
  · obtain ⟨x, p, rfl, _⟩ := h
    rfl
  · obtain ⟨x, ⟨a, b⟩, rfl, en, hk, k⟩ := h
    refine ⟨_, (pss_cons (ps_if (pt_not (pt_val (pe_call (GT.mono (by decide)) hr (by rfl) DT.g DT.k DT.b .nil pass0 (pa_cons (pv 0) (pa_cons pe_int (pa_cons pe_int pa_nil)))))) (pss_one (ps_ret pe_bl)) pss_nil) (pss_one (ps_ret (pe_and (pe_call (GB.mono (by decide)) hr (by rfl) DB.g DB.k DB.b .nil pass0 (pa_cons (pe_ix ix_tup (pv 0) pe_int (fun _ _ => rfl)) (pa_cons pe_int (pa_cons (pe_glob (v := .int 239) (by rfl) hR ⟨tR, rfl⟩) pa_nil)))) (pe_one (pe_call (GB.mono (by decide)) hr (by rfl) DB.g DB.k DB.b .nil pass0 (pa_cons (pe_ix ix_tup (pv 0) pe_int (fun _ _ => rfl)) (pa_cons pe_int (pa_cons (pe_glob (v := .int 29) (by rfl) hC ⟨tC, rfl⟩) pa_nil))))))))), ?_⟩
    dsimp only at hk
    have en0 := en
    cases en with
    | @tup p xs _ hp es =>
    have := ints_vals (l := [a, b]) es
    subst this
    refine ⟨_, rfl, .ref p, _, 2, 2, rfl, en0, _, rfl, ?_⟩
    rw [show isTu 2 2 (ogD (some (a, b))) = true from isTu_true (by show (2 : Int) ≤ ((2 : Nat) : Int); decide) (by show ((2 : Nat) : Int) ≤ 2; decide)]
    refine iteF ⟨_, rfl, p, _, _, _, rfl, rfl, SqT.of hp, at_of (j := 0) rfl rfl, _, _, _, _, rfl, .int a, _, rfl, ?_⟩
    rw [isBet_true (by omega) (by omega)]
    refine iteT ⟨_, rfl, p, _, _, _, rfl, rfl, SqT.of hp, at_of (j := 1) rfl rfl, _, _, _, _, rfl, .int b, ?_⟩
    rw [isBet_true (by omega) (by omega)]
    exact k
theorem ok_hint {f fT fF fO : Addr} {fd fdT fdF fdO : FuncData} (F : Fun K "_is_hint" "_is_hint" sHi f fd) (N : Gn K mg)
    (GT : FnOk P w K mg base CX0 1 fT fdT ["thing", "least", "most"] (spF3 isTu)) (DT : Df K mg "is_tuple" ["thing", "least", "most"] fT fdT)
    (GF : FnOk P w K mg base CX0 4 fF fdF ["thing"] spFo) (DF : Df K mg "is_form" ["thing"] fF fdF)
    (GO : FnOk P w K mg base CX0 3 fO fdO ["thing"] spOr) (DO : Df K mg "_is_origin" ["thing"] fO fdO) : FnOk P w K mg base CX0 5 f fd ["thing"] spHi := by
  refine F.ok (k := 4) cHi (fun vs H Q E h => ?_) (fun cdv A outer s H vs Q E hr h => ?_)
  · obtain ⟨x, U, h, rfl, _⟩ := h
    rfl
  · obtain ⟨x, U, ht, rfl, en, ou, gh, k⟩ := h
    refine ⟨_, (pss_cons (ps_if (PW.pt (pw_or (pt_not (pt_val (pe_call (GT.mono (by decide)) hr (by rfl) DT.g DT.k DT.b .nil pass0 (pa_cons (pv 0) (pa_cons pe_int (pa_cons pe_int pa_nil)))))) (pw_or (pt_not (pt_val (pe_call (GF.mono (by decide)) hr (by rfl) DF.g DF.k DF.b .nil pass0 (pa_cons (pe_ix ix_tup (pv 0) pe_int (fun _ _ => rfl)) pa_nil)))) (pw_or1 (pt_not (pt_val (pe_callB call_isi (by rfl) N.nI boot_isinstance (pa_cons (pe_ix ix_tup (pv 0) pe_int (fun _ _ => rfl)) (pa_cons (pe_bltn (v := .ty "bool") rfl N.nb (by decide +kernel) rfl) pa_nil))))))))) (pss_one (ps_ret pe_bl)) pss_nil) (pss_one (ps_ret (pe_or (pe_cmpR op_isN (pe_ix ix_tup (pv 0) pe_int (fun _ _ => rfl)) pe_non (nomark _)) (pe_one (pe_call (GO.mono (by decide)) hr (by rfl) DO.g DO.k DO.b .nil pass0 (pa_cons (pe_ix ix_tup (pv 0) pe_int (fun _ _ => rfl)) pa_nil))))))), ?_⟩
    have en0 := en
    cases en with
    | @tup p xs _ hp es =>
    cases es with
    | @cons _ x0 _ _ e0 es =>
    cases es with
    | @cons _ x1 _ _ e1 es =>
    cases es with
    | @cons _ x2 _ _ e2 es =>
    cases es
    cases e1
    obtain ⟨_, kB, _, _⟩ := kitD (.bl ht.ex)
    refine ⟨_, rfl, .ref p, _, 3, 3, rfl, en0, _, rfl, ?_⟩
    rw [show isTu 3 3 (htD ht) = true from isTu_true (by show (3 : Int) ≤ ((3 : Nat) : Int); decide) (by show ((3 : Nat) : Int) ≤ 3; decide)]
    refine iteF ⟨_, rfl, p, _, _, _, rfl, rfl, SqT.of hp, at_of (j := 0) rfl rfl, x0, U, ht.f, rfl, e0, ou, gh.f, fun H1 g => ⟨_, rfl, iteF ?_⟩⟩
    refine ⟨_, rfl, p, _, _, _, rfl, rfl, SqT.of (g.tup hp), at_of (j := 1) rfl rfl, _, _, _, _, _, rfl, .ty "bool", (EncB.bl (B := fun _ => True) (H := H1) ht.ex).ty, kit_ty kB, _, rfl, iteF ?_⟩
    have e2 := e2.grow g
    cases ho : ht.og with
    | none =>
      rw [ho] at e2
      cases e2
      refine ⟨_, rfl, p, _, _, _, rfl, rfl, SqT.of (g.tup hp), at_of (j := 2) rfl rfl, ?_⟩
      exact ⟨rfl, _, rfl, ifT rfl (k _ g)⟩
    | some q =>
      rw [ho] at e2
      have e3 := e2
      cases e2 with
      | @tup p2 xs2 _ hp2 es2 =>
      refine ⟨_, rfl, p, _, _, _, rfl, rfl, SqT.of (g.tup hp), at_of (j := 2) rfl rfl, ?_⟩
      refine ⟨rfl, _, rfl, ifF (fun z => by cases z) ⟨_, rfl, p, _, _, _, rfl, rfl, SqT.of (g.tup hp), at_of (j := 2) rfl rfl, _, q, rfl, e3, gh.og q ho, k _ g⟩⟩
end
end J1
set_option Elab.async false
set_option linter.all false
set_option maxRecDepth 100000
set_option maxHeartbeats 4000000
namespace J1
open PySem PySem.Spec PyProof.Rows L2 GxR GA RA
abbrev sNe : Stmt := top 23
theorem cNe : FnScope ["never", "goal", "hints", "number", "hint"] ["never", "goal", "hints"] (defScope sNe) := ⟨rfl, rfl, rfl, by decide +kernel, rfl, by decide +kernel, by decide +kernel⟩
/-- what is handed in: never, the goal, the hints -/
structure GoodIn (U : List A3) (ns : List Int) (goal : Fm) (hs : List Ht) : Prop where
  u : OkU U
  n : GoodN ns
  g : GoodF U goal
  h : ∀ h ∈ hs, GoodH U h
  l : hs.length ≤ 100
def spNe : Sp := fun vs H Q _ => ∃ (xn xg xh : V) (U : List A3) (ns : List Int) (goal : Fm) (hs : List Ht), vs = [xn, xg, xh] ∧ Enc H (nvD ns) xn ∧ Enc H (fmD goal) xg ∧ Enc H (.tup (hs.map htD)) xh ∧ GoodIn U ns goal hs ∧ ∀ H', Grow H H' → Q .non H'
section
variable {P : Program} {w : World} {K : PySem.W.Frag} {mg : Str → Option Value} {base : Heap}
theorem ok_need {f fT fB fS fF fH : Addr} {fd fdT fdB fdS fdF fdH : FuncData} (F : Fun K "need_parts" "need_parts" sNe f fd) (N : Gn K mg) (G : Gk mg)
    (GT : FnOk P w K mg base CX0 1 fT fdT ["thing", "least", "most"] (spF3 isTu)) (DT : Df K mg "is_tuple" ["thing", "least", "most"] fT fdT)
    (GB : FnOk P w K mg base CX0 2 fB fdB ["thing", "least", "most"] (spF3 isBet)) (DB : Df K mg "is_between" ["thing", "least", "most"] fB fdB)
    (GS : FnOk P w K mg base CX0 1 fS fdS ["keys"] spAsT) (DS : Df K mg "is_ascending" ["keys"] fS fdS)
    (GF : FnOk P w K mg base CX0 4 fF fdF ["thing"] spFo) (DF : Df K mg "is_form" ["thing"] fF fdF)
    (GH : FnOk P w K mg base CX0 5 fH fdH ["thing"] spHi) (DH : Df K mg "_is_hint" ["thing"] fH fdH) : FnOk P w K mg base CX0 6 f fd ["never", "goal", "hints"] spNe := by
  obtain ⟨tN, hN⟩ := G.never
  obtain ⟨tH, hH⟩ := G.hints
  refine F.ok (k := 5) cNe (fun vs H Q E h => ?_) (fun cdv A outer s H vs Q E hr h => ?_)
  · obtain ⟨_, _, _, _, _, _, _, rfl, _⟩ := h
    rfl
  · obtain ⟨xn, xg, xh, U, ns, goal, hs, rfl, en, eg, eh, gi, k⟩ := h
    refine ⟨_, (pss_cons (ps_if (PW.pt (pw_or (pt_not (pt_val (pe_call (GT.mono (by decide)) hr (by rfl) DT.g DT.k DT.b .nil pass0 (pa_cons (pv 0) (pa_cons pe_int (pa_cons (pe_glob (v := .int 12) (by rfl) hN ⟨tN, rfl⟩) pa_nil)))))) (pw_or1 (pt_not (pt_val (pe_callB (cr_all (by rfl)) (by rfl) N.na (by decide +kernel) (pa_cons (pe_lc (own := [("number", 3)]) (g := gName 3) (tt := tYes) (by rfl) cNe.nd (pi_tup (pv 0)) (blkOk_by (own := [("number", 3)]) (N := ["never", "goal", "hints", "number", "hint"]) (sc := defScope sNe) (by decide +kernel)) (fun _ _ _ _ _ => (pg_name (i := 3) cNe.nd rfl (Or.inl rfl))) (fun _ _ _ _ _ => pts_nil) (fun _ _ _ _ _ => (pe_call (GB.mono (by decide)) hr (by rfl) DB.g DB.k DB.b .nil pass0 (pa_cons (pv 3) (pa_cons pe_int (pa_cons (pe_glob (v := .int 12) (by rfl) hN ⟨tN, rfl⟩) pa_nil)))))) pa_nil))))))) (pss_one ps_no) pss_nil) (pss_cons (ps_if (pt_not (pt_val (pe_call (GS.mono (by decide)) hr (by rfl) DS.g DS.k DS.b .nil pass0 (pa_cons (pv 0) pa_nil)))) (pss_one ps_no) pss_nil) (pss_cons (ps_if (pt_not (pt_val (pe_call (GF.mono (by decide)) hr (by rfl) DF.g DF.k DF.b .nil pass0 (pa_cons (pv 1) pa_nil)))) (pss_one ps_no) pss_nil) (pss_one (ps_if (PW.pt (pw_or (pt_not (pt_val (pe_call (GT.mono (by decide)) hr (by rfl) DT.g DT.k DT.b .nil pass0 (pa_cons (pv 2) (pa_cons pe_int (pa_cons (pe_glob (v := .int 8000) (by rfl) hH ⟨tH, rfl⟩) pa_nil)))))) (pw_or1 (pt_not (pt_val (pe_callB (cr_all (by rfl)) (by rfl) N.na (by decide +kernel) (pa_cons (pe_lc (own := [("hint", 4)]) (g := gName 4) (tt := tYes) (by rfl) cNe.nd (pi_tup (pv 2)) (blkOk_by (own := [("hint", 4)]) (N := ["never", "goal", "hints", "number", "hint"]) (sc := defScope sNe) (by decide +kernel)) (fun _ _ _ _ _ => (pg_name (i := 4) cNe.nd rfl (Or.inl rfl))) (fun _ _ _ _ _ => pts_nil) (fun _ _ _ _ _ => (pe_call (GH.mono (by decide)) hr (by rfl) DH.g DH.k DH.b .nil pass0 (pa_cons (pv 4) pa_nil)))) pa_nil))))))) (pss_one ps_no) pss_nil))))), ?_⟩
    have nl := gi.n.len
    have hl := gi.l
    have en0 := en
    have eh0 := eh
    cases en with
    | @tup p xs _ hp es =>
    cases eh with
    | @tup q ys _ hq eys =>
    have ex := ints_vals es
    have ly := eys.length
    rw [List.length_map] at ly
    subst ex
    refine ⟨_, rfl, .ref p, _, 0, 12, rfl, en0, _, rfl, ?_⟩
    rw [show isTu 0 12 (nvD ns) = true from isTu_true (by omega) (by rw [List.length_map]; omega)]
    refine iteF ⟨_, rfl, p, rfl, ⟨_, SqT.of hp⟩, fun D hD => ?_⟩
    refine lc_tup (xs := ns.map V.int) (fun i Hc => Hc D = some (.lst ((List.replicate i true).map V.bl)) ∧ Grow H Hc) ⟨upd_same, Grow.new hD⟩ (fun i Hc _ hz => SqT.of (hz.2.tup hp)) (fun i z Hc hz hy => ?_) (fun H1 hy => ?_)
    · obtain ⟨hacc, g⟩ := hy
      rw [List.getElem?_map] at hz
      cases hn : ns[i]? with
      | none => rw [hn] at hz; cases hz
      | some n =>
      rw [hn] at hz
      cases hz
      obtain ⟨n1, n2⟩ := gi.n.ok n (List.mem_of_getElem? hn)
      have il := (List.getElem?_eq_some_iff.mp hn).1
      refine ⟨wipe_set, ?_⟩
      unfold tYes
      refine iteT ⟨_, rfl, _, _, _, _, rfl, .int n, _, hacc, ?_, ?_, g.upd' hD⟩
      · rw [List.length_map, List.length_replicate, sizeLine_eq]
        omega
      · rw [isBet_true n1 n2, rep_push]
        exact upd_same
    · obtain ⟨hacc, g1⟩ := hy
      refine ⟨D, _, rfl, SqL.of hacc, ?_⟩
      rw [rep_all]
      refine ⟨_, rfl, iteF ?_⟩
      refine ⟨_, rfl, .ref p, ns, rfl, en0.grow g1, nl, gi.n.asc, fun H2 g2 => ⟨_, rfl, iteF ?_⟩⟩
      have g12 := g1.trans g2
      refine ⟨_, rfl, xg, U, goal, rfl, eg.grow g12, gi.u, gi.g, fun H3 g3 => ⟨_, rfl, iteF ?_⟩⟩
      have g13 := g12.trans g3
      refine ⟨_, rfl, .ref q, _, 0, 8000, rfl, eh0.grow g13, _, rfl, ?_⟩
      rw [isTu_true (by omega) (by rw [List.length_map]; omega)]
      refine iteF ⟨_, rfl, q, rfl, ⟨_, SqT.of (g13.tup hq)⟩, fun D2 hD2 => ?_⟩
      refine lc_tup (xs := ys) (fun i Hc => Hc D2 = some (.lst ((List.replicate i true).map V.bl)) ∧ Grow H3 Hc) ⟨upd_same, Grow.new hD2⟩ (fun i Hc _ hz => SqT.of ((g13.trans hz.2).tup hq)) (fun i z Hc hz hy => ?_) (fun H4 hy => ?_)
      · obtain ⟨hacc2, g⟩ := hy
        obtain ⟨d, hd, ez⟩ := eys.get hz
        obtain ⟨ht, hm, rfl⟩ := map_get hd
        have il := (List.getElem?_eq_some_iff.mp hm).1
        refine ⟨wipe_set, ?_⟩
        unfold tYes
        refine iteT ⟨_, rfl, z, U, ht, rfl, ez.grow (g13.trans g), gi.u, gi.h ht (List.mem_of_getElem? hm), fun H5 g5 => ⟨_, g5.lst hacc2, ?_, ?_, (g.trans g5).upd' hD2⟩⟩
        · rw [List.length_map, List.length_replicate, sizeLine_eq]
          omega
        · rw [rep_push]
          exact upd_same
      · obtain ⟨hacc2, g⟩ := hy
        refine ⟨D2, _, rfl, SqL.of hacc2, ?_⟩
        rw [rep_all]
        exact ⟨_, rfl, iteF (k _ (g13.trans g))⟩
end
end J1
set_option Elab.async false
set_option linter.all false
set_option maxRecDepth 100000
set_option maxHeartbeats 4000000
namespace J1
open PySem PySem.Spec PyProof.Rows L2 GxR GA RA
/-! ### tables of atoms -/
def dLk : List Tm → A3 → Option Int
  | [], _ => none
  | e :: r, a => if e.1 = a then some e.2 else dLk r a
def dPut : List Tm → A3 → Int → List Tm
  | [], a, n => [(a, n)]
  | e :: r, a, n => if e.1 = a then (a, n) :: r else e :: dPut r a n
theorem dA_get (es : List Tm) (a : A3) : valV (dA es) (kA a) = (dLk es a).map V.int := by
  induction es with
  | nil => rfl
  | cons e r ih =>
    by_cases h : e.1 = a
    · rw [show dLk (e :: r) a = some e.2 by unfold dLk; rw [if_pos h]]
      exact valV_pos (show kA e.1 = kA a by rw [h])
    · rw [show dLk (e :: r) a = dLk r a by conv => lhs; unfold dLk; rw [if_neg h], ← ih]
      exact valV_neg (fun z => h (kA_inj z))
theorem dLk_none {es : List Tm} {a : A3} : dLk es a = none ↔ a ∉ es.map (·.1) := by
  induction es with
  | nil => exact ⟨fun _ z => absurd z List.not_mem_nil, fun _ => rfl⟩
  | cons e r ih =>
    unfold dLk
    by_cases h : e.1 = a
    · rw [if_pos h]
      exact ⟨fun z => (nomatch z), fun z => absurd (by rw [List.map_cons, h]; exact List.mem_cons_self) z⟩
    · rw [if_neg h, ih, List.map_cons, List.mem_cons, not_or]
      exact ⟨fun z => ⟨fun q => h q.symm, z⟩, fun z => z.2⟩
theorem dLk_some {es : List Tm} {a : A3} {n : Int} (h : dLk es a = some n) : (a, n) ∈ es := by
  induction es with
  | nil => cases h
  | cons e r ih =>
    unfold dLk at h
    by_cases q : e.1 = a
    · rw [if_pos q] at h
      rw [← q, ← Option.some.inj h]
      exact List.mem_cons_self
    · rw [if_neg q] at h
      exact List.mem_cons_of_mem _ (ih h)
theorem dLk_mem {es : List Tm} {a : A3} {n : Int} (nd : (es.map (·.1)).Nodup) (h : (a, n) ∈ es) : dLk es a = some n := by
  induction es with
  | nil => cases h
  | cons e r ih =>
    rw [List.map_cons, List.nodup_cons] at nd
    unfold dLk
    rcases List.mem_cons.mp h with q | q
    · rw [← q, if_pos rfl]
    · have ne : e.1 ≠ a := fun z => nd.1 (by rw [z]; exact List.mem_map.mpr ⟨_, q, rfl⟩)
      rw [if_neg ne]
      exact ih nd.2 q
theorem dA_put (es : List Tm) (a : A3) (n : Int) (nd : (es.map (·.1)).Nodup) : putK (dA es) (kA a) (V.int n) = dA (dPut es a n) := by
  have key : ∀ es : List Tm, (es.map (·.1)).Nodup → (if (valV (dA es) (kA a)).isSome = true then (dA es).map (fun kv => if kv.1 = kA a then (kv.1, V.int n) else kv) else dA es ++ [(kA a, V.int n)]) = dA (dPut es a n) := by
    intro es
    induction es with
    | nil => intro _; rfl
    | cons e r ih =>
      intro nd
      rw [List.map_cons, List.nodup_cons] at nd
      have ih := ih nd.2
      rw [dA_get] at ih ⊢
      unfold dLk dPut
      by_cases h : e.1 = a
      · rw [if_pos h, if_pos h]
        have hn : dLk r a = none := dLk_none.mpr (by rw [← h]; exact nd.1)
        rw [if_pos (by rfl)]
        show (if kA e.1 = kA a then (kA e.1, V.int n) else (kA e.1, V.int e.2)) :: (dA r).map _ = (kA a, V.int n) :: dA r
        rw [if_pos (by rw [h]), h]
        congr 1
        have z : ∀ kv ∈ dA r, (if kv.1 = kA a then (kv.1, V.int n) else kv) = kv := fun kv hk => by
          obtain ⟨e', he', rfl⟩ := List.mem_map.mp hk
          refine if_neg fun q => ?_
          have q := kA_inj q
          exact nd.1 (by rw [h, ← q]; exact List.mem_map.mpr ⟨e', he', rfl⟩)
        exact (List.map_congr_left z).trans (List.map_id _)
      · rw [if_neg h, if_neg h]
        have n1 : ¬ kA e.1 = kA a := fun z => h (kA_inj z)
        show (if ((dLk r a).map V.int).isSome = true then (if kA e.1 = kA a then (kA e.1, V.int n) else (kA e.1, V.int e.2)) :: (dA r).map (fun kv => if kv.1 = kA a then (kv.1, V.int n) else kv) else (kA e.1, V.int e.2) :: (dA r ++ [(kA a, V.int n)])) = (kA e.1, V.int e.2) :: dA (dPut r a n)
        rw [if_neg n1, ← ih]
        by_cases q : ((dLk r a).map V.int).isSome = true
        · rw [if_pos q, if_pos q]
        · rw [if_neg q, if_neg q]
  rw [← key es nd]
  unfold putK
  rw [valV_any]
theorem dPut_get (es : List Tm) (a b : A3) (n : Int) : dLk (dPut es a n) b = if a = b then some n else dLk es b := by
  induction es with
  | nil => rfl
  | cons e r ih =>
    unfold dPut
    by_cases h : e.1 = a
    · rw [if_pos h]
      unfold dLk
      by_cases q : a = b
      · rw [if_pos q, if_pos q]
      · rw [if_neg q, if_neg q, if_neg (fun z => q (h.symm.trans z))]
    · rw [if_neg h]
      unfold dLk
      rw [ih]
      by_cases q : e.1 = b
      · rw [if_pos q, if_pos q, if_neg (fun z => h (q.trans z.symm))]
      · rw [if_neg q, if_neg q]
theorem dPut_keys (es : List Tm) (a : A3) (n : Int) : ∀ b, b ∈ (dPut es a n).map (·.1) ↔ b = a ∨ b ∈ es.map (·.1) := by
  induction es with
  | nil => intro b; show b ∈ [a] ↔ _; simp
  | cons e r ih =>
    intro b
    unfold dPut
    by_cases h : e.1 = a
    · rw [if_pos h, List.map_cons, List.map_cons, List.mem_cons, List.mem_cons, h]
      dsimp only
      exact ⟨fun z => z.imp id .inr, fun z => z.elim .inl id⟩
    · rw [if_neg h, List.map_cons, List.map_cons, List.mem_cons, List.mem_cons, ih b]
      exact ⟨fun z => z.elim (fun q => .inr (.inl q)) (fun q => q.imp id .inr), fun z => z.elim (fun q => .inr (.inl q)) (fun q => q.imp id .inr)⟩
theorem dPut_nd {es : List Tm} {a : A3} {n : Int} (nd : (es.map (·.1)).Nodup) : ((dPut es a n).map (·.1)).Nodup := by
  induction es with
  | nil => show [a].Nodup; simp
  | cons e r ih =>
    rw [List.map_cons, List.nodup_cons] at nd
    unfold dPut
    by_cases h : e.1 = a
    · rw [if_pos h, List.map_cons, List.nodup_cons]
      dsimp only
      exact ⟨by rw [← h]; exact nd.1, nd.2⟩
    · rw [if_neg h, List.map_cons, List.nodup_cons]
      refine ⟨fun z => ?_, ih nd.2⟩
      rcases (dPut_keys r a n e.1).mp z with q | q
      · exact h q
      · exact nd.1 q
/-- a table over U -/
structure TbU (U : List A3) (es : List Tm) : Prop where
  nd : (es.map (·.1)).Nodup
  sub : ∀ e ∈ es, e.1 ∈ U
theorem TbU.nil (U : List A3) : TbU U [] := ⟨List.nodup_nil, fun _ z => absurd z List.not_mem_nil⟩
theorem TbU.put {U : List A3} {es : List Tm} {a : A3} {n : Int} (t : TbU U es) (h : a ∈ U) : TbU U (dPut es a n) := by
  refine ⟨dPut_nd t.nd, fun e he => ?_⟩
  rcases (dPut_keys es a n e.1).mp (List.mem_map.mpr ⟨e, he, rfl⟩) with q | q
  · rw [q]; exact h
  · obtain ⟨e', h1, h2⟩ := List.mem_map.mp q
    rw [← h2]
    exact t.sub e' h1
theorem TbU.len {U : List A3} {es : List Tm} (u : OkU U) (t : TbU U es) : es.length ≤ 9 := by
  have q := t.nd.length_le_of_subset (l₂ := U) fun a ha => by
    obtain ⟨e, he, rfl⟩ := List.mem_map.mp ha
    exact t.sub e he
  rw [List.length_map] at q
  exact Nat.le_trans q u.len
def dV (es : List Tm) (a : A3) : Int := (dLk es a).getD 0
theorem dV_put (es : List Tm) (a b : A3) (n : Int) : dV (dPut es a n) b = if a = b then n else dV es b := by
  unfold dV
  rw [dPut_get]
  split <;> rfl
/-! ### sums of forms -/
def coef : List Tm → A3 → Int
  | [], _ => 0
  | e :: r, a => (if e.1 = a then e.2 else 0) + coef r a
theorem coef_app (l r : List Tm) (a : A3) : coef (l ++ r) a = coef l a + coef r a := by
  induction l with
  | nil => show _ = 0 + _; rw [Int.zero_add]; rfl
  | cons e l ih => show _ + coef (l ++ r) a = _ + coef l a + _; rw [ih, Int.add_assoc]
def cst : List (Int × Fm) → Int
  | [] => 0
  | p :: r => p.1 * p.2.1 + cst r
def vl : List (Int × Fm) → A3 → Int
  | [], _ => 0
  | p :: r, a => p.1 * coef p.2.2 a + vl r a
theorem cst_app (l r : List (Int × Fm)) : cst (l ++ r) = cst l + cst r := by
  induction l with
  | nil => show _ = 0 + _; rw [Int.zero_add]; rfl
  | cons e l ih => show _ + cst (l ++ r) = _ + cst l + _; rw [ih, Int.add_assoc]
theorem vl_app (l r : List (Int × Fm)) (a : A3) : vl (l ++ r) a = vl l a + vl r a := by
  induction l with
  | nil => show _ = 0 + _; rw [Int.zero_add]; rfl
  | cons e l ih => show _ + vl (l ++ r) a = _ + vl l a + _; rw [ih, Int.add_assoc]
end J1
set_option Elab.async false
set_option linter.all false
set_option maxRecDepth 100000
set_option maxHeartbeats 4000000
namespace J1
open PySem PySem.Spec PyProof.Rows L2 GxR GA RA
abbrev sCb : Stmt := top 17
theorem cCb : FnScope ["parts", "const", "found", "times", "more", "terms", "atom", "coefficient"] ["parts"] (defScope sCb) := ⟨rfl, rfl, rfl, by decide +kernel, rfl, by decide +kernel, by decide +kernel⟩
def ptD (p : Int × Fm) : Da := .tup [.int p.1, fmD p.2]
structure GoodP (U : List A3) (p : Int × Fm) : Prop where
  s : Sm p.1
  f : GoodF U p.2
def spCb : Sp := fun vs H Q _ => ∃ (pp : Addr) (xs : List V) (U : List A3) (ps : List (Int × Fm)), vs = [.ref pp] ∧ H pp = some (.lst xs) ∧ Encs H (ps.map ptD) xs ∧ OkU U ∧ (∀ p ∈ ps, GoodP U p) ∧
  ∀ (H' : Hp) (r r2 : Addr) (ys : List V) (es : List Tm) (ts : List Addr), Grow H H' → H' r = some (.tup [.int (cst ps), .ref r2]) → H' r2 = some (.tup ys) → TmAt H' es ys ts → es.length ≤ 9 →
    (∀ e ∈ es, e.1 ∈ U ∧ e.2 = vl ps e.1 ∧ e.2 ≠ 0) → (∀ a ∈ U, vl ps a ≠ 0 → (a, vl ps a) ∈ es) → Q (.ref r) H'
theorem vl_off {U : List A3} {a : A3} (h : a ∉ U) : ∀ ps : List (Int × Fm), (∀ p ∈ ps, GoodP U p) → vl ps a = 0
  | [], _ => rfl
  | p :: r, g => by
    have c : ∀ l : List Tm, (∀ e ∈ l, e.1 ∈ U) → coef l a = 0 := by
      intro l
      induction l with
      | nil => intro _; rfl
      | cons e l ih =>
        intro q
        show (if e.1 = a then e.2 else 0) + coef l a = 0
        rw [if_neg (fun z => h (by rw [← z]; exact q e List.mem_cons_self)), ih (fun e he => q e (List.mem_cons_of_mem _ he)), Int.zero_add]
    show p.1 * coef p.2.2 a + vl r a = 0
    rw [c _ (g p List.mem_cons_self).f.inU, vl_off h r (fun q hq => g q (List.mem_cons_of_mem _ hq)), Int.mul_zero, Int.zero_add]
theorem two34 {a b : V} : [a, b].length ≤ sizeLine := by
  rw [sizeLine_eq]
  show 2 ≤ _
  omega
theorem none_of {H H' : Hp} (g : Grow H H') {a : Addr} (h : H' a = none) : H a = none := g.none' h
theorem TmAt.keep {H H' : Hp} (k : ∀ a xs, H a = some (.tup xs) → H' a = some (.tup xs)) {l : List Tm} {xs : List V} {ts : List Addr} (h : TmAt H l xs ts) : TmAt H' l xs ts := by
  induction h with
  | nil => exact .nil
  | cons hb ht r ih => exact .cons (k _ _ hb) (k _ _ ht) ih
theorem TmAt.snoc {H : Hp} {l : List Tm} {xs : List V} {ts : List Addr} {e : Tm} {b t : Addr} (h : TmAt H l xs ts) (hb : H b = some (.tup [.ref t, .int e.2])) (ht : H t = some (.tup ((il e.1).map V.int))) : TmAt H (l ++ [e]) (xs ++ [.ref b]) (ts ++ [t]) := by
  induction h with
  | nil => exact .cons hb ht .nil
  | cons hb' ht' r ih => exact .cons hb' ht' ih
theorem keep_lst {H : Hp} {D : Addr} {ys : List V} {o : HO} (h : H D = some (.lst ys)) : ∀ a xs, H a = some (.tup xs) → L2.upd H D o a = some (.tup xs) := fun a xs e => by
  rw [upd_ne (fun z => by rw [z, h] at e; cases e)]
  exact e
theorem keep_new {H : Hp} {D : Addr} {o : HO} (h : H D = none) : ∀ a xs, H a = some (.tup xs) → L2.upd H D o a = some (.tup xs) := fun a xs e => by
  rw [upd_ne (fun z => by rw [z, h] at e; cases e)]
  exact e
/-- the entries that are kept -/
def esT (eT : List Tm) (l : List A3) : List Tm := (l.map fun a => (a, dV eT a)).filter fun e => !decide (V.int e.2 = V.int 0)
theorem esT_snoc (eT : List Tm) (l : List A3) (a : A3) : esT eT (l ++ [a]) = esT eT l ++ (if (!decide (V.int (dV eT a) = V.int 0)) = true then [(a, dV eT a)] else []) := by
  unfold esT
  rw [List.map_append, List.filter_append]
  congr 1
  show List.filter _ [(a, dV eT a)] = _
  rw [List.filter_cons]
  rfl
section
variable {P : Program} {w : World} {K : PySem.W.Frag} {mg : Str → Option Value} {base : Heap}
theorem ok_comb {f : Addr} {fd : FuncData} (F : Fun K "combined" "combined" sCb f fd) (N : Gn K mg) (G : Gk mg) : FnOk P w K mg base CX0 1 f fd ["parts"] spCb := by
  refine F.ok cCb (fun vs H Q E h => ?_) (fun cdv A outer s H vs Q E hr h => ?_)
  · obtain ⟨_, _, _, _, rfl, _⟩ := h
    rfl
  · obtain ⟨pp, xs, U, ps, rfl, hp, es, ou, gp, k⟩ := h
    have hu := hu_of hr
    refine ⟨_, (pss_cons (ps_set (i := 1) cCb.nd rfl (Or.inl rfl) pe_int) (pss_cons (ps_set (i := 2) cCb.nd rfl (Or.inr rfl) pe_dnewT) (pss_cons (ps_for PassesOwn.never rfl (pi_list (pv 0)) (pg_tup (by rfl) (pgs_cons (pg_name (i := 3) cCb.nd rfl (Or.inl rfl)) (pgs_cons (pg_tup (by rfl) (pgs_cons (pg_name (i := 4) cCb.nd rfl (Or.inl rfl)) (pgs_cons (pg_name (i := 5) cCb.nd rfl (Or.inl rfl)) pgs_nil))) pgs_nil))) (pss_cons (ps_aug (i := 1) cCb.nd rfl (.inl rfl) (pe_op op_mulW (pv 3) (pv 4)) ip_add) (pss_one (ps_for PassesOwn.never rfl (pi_tup (pv 5)) (pg_tup (by rfl) (pgs_cons (pg_name (i := 6) cCb.nd rfl (Or.inl rfl)) (pgs_cons (pg_name (i := 7) cCb.nd rfl (Or.inl rfl)) pgs_nil))) (pss_one (ps_dput hu (pv 2) (pv 6) (pe_op op_add (pe_dget2 hu (pv 2) (pv 6) pe_int ⟨rfl, rfl, rfl, rfl⟩) (pe_op op_mulW (pv 3) (pv 7))) rfl)))))) (pss_one (ps_ret (pe_tup (pa_cons (pv 1) (pa_cons (pe_callTy call_tuple_of (by rfl) N.nt (by decide +kernel) (pa_cons (pe_lc (own := [("atom", 6)]) (g := gName 6) (by rfl) cCb.nd (pi_list (pe_callB cr_sorted3 (by rfl) G.sorted (by decide +kernel) (pa_cons (pe_callTy (call_list_dT rfl) (by rfl) G.list (by decide +kernel) (pa_cons (pv 2) pa_nil)) pa_nil))) (blkOk_by (own := [("atom", 6)]) (N := ["parts", "const", "found", "times", "more", "terms", "atom", "coefficient"]) (sc := defScope sCb) (by decide +kernel)) (fun _ _ _ _ _ => (pg_name (i := 6) cCb.nd rfl (Or.inl rfl))) (fun _ _ _ _ _ => (pts_one (pt_cmpR op_ne (pe_dget hu (pv 2) (pv 6) (fun _ _ => rfl)) pe_int (nomark _)))) (fun _ _ _ _ _ => (pe_tup (pa_cons (pv 6) (pa_cons (pe_dget hu (pv 2) (pv 6) (fun _ _ => rfl)) pa_nil))))) pa_nil)) pa_nil)))))))), ?_⟩
    have ly := es.length
    rw [List.length_map] at ly
    refine fun d hd => ⟨_, rfl, pp, rfl, ⟨_, SqL.of ((Grow.new hd).lst hp)⟩, ?_⟩
    refine for_list (xs := xs) (fun i σ' Hc => ∃ (c : Int) (eT : List Tm) (v3 v4 v5 v6 v7 : Option V), σ' = [some (.ref pp), some (.int c), some (.ref d), v3, v4, v5, v6, v7] ∧ c = cst (ps.take i) ∧ Hc d = some (.dT (dA eT)) ∧ TbU U eT ∧ (∀ a, dV eT a = vl (ps.take i) a) ∧ Grow H Hc)
      ⟨0, [], _, _, _, _, _, rfl, rfl, upd_same, TbU.nil U, fun _ => rfl, Grow.new hd⟩ (fun i σ' Hc _ hq => ?_) (fun i z σ' Hc hz hq => ?_) (fun σ' Hc hq => ?_)
    · obtain ⟨_, _, _, _, _, _, _, _, _, _, _, _, g⟩ := hq
      exact SqL.of (g.lst hp)
    · obtain ⟨c, eT, v3, v4, v5, v6, v7, rfl, ec, hdT, tb, hv, g⟩ := hq
      obtain ⟨d1, hd1, ez⟩ := es.get hz
      obtain ⟨p, hpi, rfl⟩ := map_get hd1
      have gpp := gp p (List.mem_of_getElem? hpi)
      cases ez with
      | @tup b ws _ hb eb =>
      cases eb with
      | @cons _ x0 _ _ e0 eb =>
      cases eb with
      | @cons _ x1 _ _ e1 eb =>
      cases eb
      cases e0
      cases e1 with
      | @tup b1 ws1 _ hb1 eb1 =>
      cases eb1 with
      | @cons _ x2 _ _ e2 eb1 =>
      cases eb1 with
      | @cons _ x3 _ _ e3 eb1 =>
      cases eb1
      cases e2
      cases e3 with
      | @tup b2 ws2 _ hb2 eb2 =>
      obtain ⟨ts, T⟩ := TmAt.of eb2
      refine ⟨b, _, rfl, SqT.of (g.tup hb), rfl, _, _, rfl, _, _, rfl, b1, _, rfl, SqT.of (g.tup hb1), rfl, _, _, rfl, _, _, rfl, rfl, rfl, ?_⟩
      obtain ⟨pt, pc, pl⟩ := p
      refine ⟨_, rfl, _, rfl, _, rfl, _, _, rfl, rfl, Sm.mul gpp.s gpp.f.sm.1, _, _, rfl, rfl, ?_⟩
      have etk : ps.take (i + 1) = ps.take i ++ [(pt, pc, pl)] := by
        rw [List.take_succ, hpi]
        rfl
      refine ⟨_, rfl, b2, rfl, ⟨_, SqT.of (g.tup hb2)⟩, ?_⟩
      refine for_tup (xs := ws2) (fun j σ' Hd => ∃ (eT : List Tm) (v6 v7 : Option V), σ' = [some (.ref pp), some (.int (c + pt * pc)), some (.ref d), some (.int pt), some (.int pc), some (.ref b2), v6, v7] ∧ Hd d = some (.dT (dA eT)) ∧ TbU U eT ∧ (∀ a, dV eT a = vl (ps.take i) a + pt * coef (pl.take j) a) ∧ Grow H Hd)
        ⟨eT, _, _, rfl, hdT, tb, fun a => by rw [hv a, List.take_zero]; show _ = _ + pt * 0; rw [Int.mul_zero, Int.add_zero], g⟩ (fun j σ' Hd _ hq => ?_) (fun j z σ' Hd hz hq => ?_) (fun σ' Hd hq => ?_)
      · obtain ⟨_, _, _, _, _, _, _, g2⟩ := hq
        exact SqT.of (g2.tup hb2)
      · obtain ⟨e2T, v6, v7, rfl, hdT2, tb2, hv2, g2⟩ := hq
        obtain ⟨e, bt, t, he, rfl, _, hbt, ht⟩ := T.get hz
        have he : pl[j]? = some e := he
        have hm := List.mem_of_getElem? he
        have eU := gpp.f.inU e hm
        have lT := tb2.len ou
        have ho : (valV (dA e2T) (kA e.1)).getD (V.int 0) = V.int (dV e2T e.1) := by
          rw [dA_get]
          unfold dV
          cases dLk e2T e.1 <;> rfl
        have hk : Hd t = some (.tup ((kA e.1).map kV)) := g2.tup ht
        refine ⟨bt, _, rfl, SqT.of (g2.tup hbt), rfl, _, _, rfl, _, _, rfl, rfl, ?_⟩
        refine ⟨_, rfl, d, rfl, .inr ⟨_, .inl hdT2⟩, _, rfl, _, DGet.t (k := kA e.1) hdT2 hk, _, rfl, _, rfl, _, _, rfl, rfl, Sm.mul gpp.s (gpp.f.sm.2 e hm), _, _, ho, rfl, ?_⟩
        refine ⟨_, rfl, _, rfl, d, _, rfl, DPut.t (k := kA e.1) hdT2 hk (by unfold dA; rw [List.length_map, sizeLine_eq]; omega), ?_⟩
        rw [dA_put _ _ _ tb2.nd]
        refine ⟨_, _, _, rfl, upd_same, tb2.put eU, fun a => ?_, g2.upd' hd⟩
        have etj : pl.take (j + 1) = pl.take j ++ [e] := by
          rw [List.take_succ, he]
          rfl
        rw [dV_put, etj, coef_app, hv2 a]
        show (if e.1 = a then dV e2T e.1 + pt * e.2 else _) = _ + pt * (_ + ((if e.1 = a then e.2 else 0) + 0))
        by_cases q : e.1 = a
        · rw [if_pos q, if_pos q, hv2, q, Int.mul_add, Int.add_zero, Int.add_assoc]
        · rw [if_neg q, if_neg q, Int.add_zero, Int.add_zero]
      · obtain ⟨e2T, v6, v7, rfl, hdT2, tb2, hv2, g2⟩ := hq
        rw [T.len.1] at hv2
        have ept : pl.take (List.length (pt, pc, pl).2.2) = pl := List.take_length
        rw [ept] at hv2
        refine ⟨_, e2T, _, _, _, _, _, rfl, ?_, hdT2, tb2, fun a => ?_, g2⟩
        · rw [etk, cst_app, ec]
          show _ = _ + (pt * pc + 0)
          rw [Int.add_zero]
        · rw [etk, vl_app, hv2 a]
          show _ = _ + (pt * coef pl a + 0)
          rw [Int.add_zero]
    · obtain ⟨c, eT, v3, v4, v5, v6, v7, rfl, ec, hdT, tb, hv, g⟩ := hq
      have etk : ps.take xs.length = ps := List.take_of_length_le (by omega)
      rw [etk] at ec hv
      subst ec
      have lT := tb.len ou
      refine ⟨_, rfl, _, rfl, d, dA eT, rfl, .inl hdT, fun p1 bs hp1 isk => ?_⟩
      obtain ⟨k1, k2⟩ := keys34 isk
      have lb : bs.length = eT.length := by
        have z := congrArg List.length k2
        rw [List.length_map, List.length_map] at z
        exact z
      have g1 := g.upd' (none_of g hp1) (o := .lst (bs.map V.ref))
      have trs : ∀ t ∈ bs, Hc t = some (.tup ((il (gH Hc t)).map V.int)) ∧ Rg (gH Hc t) ∧ dLk eT (gH Hc t) = some (dV eT (gH Hc t)) := fun t ht => by
        obtain ⟨a, q1, q2⟩ := k1 t ht
        rw [gH_of q1]
        obtain ⟨e, e1, e2⟩ := List.mem_map.mp q2
        refine ⟨q1, ?_, ?_⟩
        · rw [← e2]
          exact (ou.ok _ (tb.sub e e1)).rg
        · unfold dV
          cases z : dLk eT a with
          | none => exact absurd q2 (dLk_none.mp z)
          | some n => rfl
      refine ⟨p1, bs, gH Hc, rfl, SqL.of upd_same, by omega, fun t ht => ⟨keep_new hp1 _ _ (trs t ht).1, (trs t ht).2.1⟩, fun us q hperm _ hq => ?_⟩
      have hqc : Hc q = none := none_upd hq
      have np : q ≠ p1 := fun z => by rw [z, upd_same] at hq; cases hq
      refine ⟨q, rfl, ⟨_, SqL.of upd_same⟩, fun D hD => ?_⟩
      have hDc : Hc D = none := none_upd (none_upd hD)
      have nq : D ≠ q := fun z => by rw [z, upd_same] at hD; cases hD
      have lu : us.length = bs.length := hperm.length_eq
      refine lc_list (xs := us.map V.ref) (fun i Hx => ∃ (ys : List V) (ts : List Addr), Hx D = some (.lst ys) ∧ TmAt Hx (esT eT ((us.take i).map (gH Hc))) ys ts ∧ ys.length ≤ i ∧ Hx q = some (.lst (us.map V.ref)) ∧ Grow Hc Hx)
        ⟨[], [], upd_same, .nil, Nat.le_refl _, by rw [upd_ne nq.symm, upd_same], ((Grow.new hp1).upd' hqc).upd' hDc⟩ (fun i Hx _ hx => ?_) (fun i z Hx hz hx => ?_) (fun Hx hx => ?_)
      · obtain ⟨_, _, _, _, _, h5, _⟩ := hx
        exact SqL.of h5
      · obtain ⟨ys, ts, hDx, T, hly, hqx, g2⟩ := hx
        rw [List.getElem?_map] at hz
        cases hu1 : us[i]? with
        | none => rw [hu1] at hz; cases hz
        | some t =>
        rw [hu1] at hz
        cases hz
        have il := (List.getElem?_eq_some_iff.mp hu1).1
        obtain ⟨ht, hrg, hlk⟩ := trs t (hperm.mem_iff.mp (List.mem_of_getElem? hu1))
        have htx := g2.tup ht
        have hdx : Hx d = some (.dT (dA eT)) := by
          rcases g2 _ _ hdT with z | ⟨⟨_, z⟩, _⟩
          · exact z
          · cases z
        have hg : DGet Hx d (.ref t) (some (V.int (dV eT (gH Hc t)))) := by
          have z := DGet.t (k := kA (gH Hc t)) hdx htx
          rw [dA_get, hlk] at z
          exact z
        have etk : (us.take (i + 1)).map (gH Hc) = (us.take i).map (gH Hc) ++ [gH Hc t] := by
          rw [List.take_succ, hu1, List.map_append]
          rfl
        refine ⟨wipe_set, ?_⟩
        refine ⟨_, rfl, _, rfl, d, _, rfl, hg, rfl, _, rfl, ite2 (fun hne => ?_) (fun hne => ?_)⟩
        · refine ⟨_, rfl, _, rfl, _, rfl, d, _, rfl, hg, two34, fun b hb => ?_⟩
          have nD : D ≠ b := fun z => by rw [← z, hDx] at hb; cases hb
          refine ⟨ys, by rw [upd_ne nD]; exact hDx, by rw [sizeLine_eq]; omega, ?_⟩
          have hD2 : (L2.upd Hx b (.tup [.ref t, .int (dV eT (gH Hc t))])) D = some (.lst ys) := by rw [upd_ne nD]; exact hDx
          refine ⟨ys ++ [.ref b], ts ++ [t], upd_same, ?_, by rw [List.length_append]; exact Nat.add_le_add_right hly 1, ?_, (g2.upd' (none_of g2 hb)).upd' hDc⟩
          · rw [etk, esT_snoc, if_pos hne]
            refine TmAt.keep (keep_lst hD2) (TmAt.snoc (e := (gH Hc t, dV eT (gH Hc t))) (T.keep (keep_new hb)) upd_same (keep_new hb _ _ htx))
          · rw [upd_ne nq.symm, upd_ne (fun z => by rw [← z, hqx] at hb; cases hb)]
            exact hqx
        · refine ⟨ys, ts, hDx, ?_, Nat.le_succ_of_le hly, hqx, g2⟩
          rw [etk, esT_snoc, if_neg hne, List.append_nil]
          exact T
      · obtain ⟨ys, ts, hDx, T, hly, hqx, g2⟩ := hx
        rw [List.length_map, List.take_length] at T
        refine ⟨D, ys, rfl, .inl ⟨SqL.of hDx, fun r2 hr2 => ⟨two34, fun r hr => ?_⟩⟩⟩
        have g3 := g.trans g2
        have nr2 : r2 ≠ r := fun z => by rw [← z, upd_same] at hr; cases hr
        refine k _ r r2 ys _ ts ((g3.upd' (none_of g3 hr2)).upd' (none_of g3 (none_upd hr))) upd_same (by rw [upd_ne nr2, upd_same]) ((T.keep (keep_new hr2)).keep (keep_new hr)) (by rw [← T.len.1]; rw [List.length_map] at hly; omega) (fun e he => ?_) (fun a ha hne => ?_)
        · obtain ⟨h1, h2⟩ := List.mem_filter.mp he
          obtain ⟨a, h3, h4⟩ := List.mem_map.mp h1
          obtain ⟨t, h5, h6⟩ := List.mem_map.mp h3
          subst h4
          have hk := (k2 ▸ List.mem_map.mpr ⟨t, hperm.mem_iff.mp h5, rfl⟩ : gH Hc t ∈ eT.map (·.1))
          obtain ⟨e', h7, h8⟩ := List.mem_map.mp hk
          refine ⟨?_, hv a, fun z => ?_⟩
          · rw [← h6, ← h8]
            exact tb.sub e' h7
          · dsimp only at z
            have h2 : (!decide (V.int (dV eT a) = V.int 0)) = true := h2
            rw [z, decide_eq_true rfl] at h2
            cases h2
        · have hne2 : dV eT a ≠ 0 := by rw [hv]; exact hne
          have hmem : a ∈ eT.map (·.1) := by
            refine Classical.byContradiction fun z => hne2 ?_
            unfold dV
            rw [dLk_none.mpr z]
            rfl
          rw [← k2] at hmem
          obtain ⟨t, h1, h2⟩ := List.mem_map.mp hmem
          refine List.mem_filter.mpr ⟨List.mem_map.mpr ⟨a, List.mem_map.mpr ⟨t, hperm.mem_iff.mpr h1, h2⟩, by rw [hv]⟩, ?_⟩
          dsimp only
          rw [decide_eq_false (fun z => hne (V.int.inj z))]
          rfl
end
end J1
set_option Elab.async false
set_option linter.all false
set_option maxRecDepth 100000
set_option maxHeartbeats 4000000
namespace J1
open PySem PySem.Spec PyProof.Rows L2 GxR GA RA RZ
abbrev sSh : Stmt := top 28
theorem cSh : FnScope ["thing", "hints", "multipliers", "part", "_", "exact"] ["thing", "hints"] (defScope sSh) := ⟨rfl, rfl, rfl, by decide +kernel, rfl, by decide +kernel, by decide +kernel⟩
def kids : Da → List Da
  | .tup l => l
  | _ => []
def kid (d : Da) (i : Nat) : Da := (kids d).getD i .non
def nOf : Da → Int
  | .int i => i
  | _ => 0
def okM (hs : List Ht) (l : List Da) : Bool := (hs.zip l).all fun p => p.1.ex || decide (0 ≤ nOf p.2)
/-- what makes a thing a showing for so many hints -/
def isSh (hs : List Ht) (d : Da) : Bool :=
  isTu 2 2 d && (isInt (kid d 0) && (decide (0 ≤ nOf (kid d 0)) && (isTu hs.length hs.length (kid d 1) && ((kids (kid d 1)).all isInt && okM hs (kids (kid d 1))))))
theorem tu2 {d : Da} (h : isTu 2 2 d = true) : ∃ a b, d = .tup [a, b] := by
  cases d with
  | tup l =>
    have h : (decide ((2 : Int) ≤ (l.length : Int)) && decide ((l.length : Int) ≤ 2)) = true := h
    rw [Bool.and_eq_true, decide_eq_true_iff, decide_eq_true_iff] at h
    match l, h with
    | [a, b], _ => exact ⟨a, b, rfl⟩
    | [], h => exact absurd h.1 (by decide)
    | [_], h =>
      have z := h.1
      simp only [List.length_cons, List.length_nil] at z
      omega
    | _ :: _ :: _ :: _, h =>
      have z := h.2
      simp only [List.length_cons] at z
      omega
  | _ => cases h
theorem isInt_int {d : Da} (h : isInt d = true) : d = .int (nOf d) := by
  cases d with
  | int i => rfl
  | bl b => cases h
  | _ => cases h
theorem tuN {n : Nat} {d : Da} (h : isTu n n d = true) : ∃ l, d = .tup l ∧ l.length = n := by
  cases d with
  | tup l =>
    have h : (decide ((n : Int) ≤ (l.length : Int)) && decide ((l.length : Int) ≤ n)) = true := h
    rw [Bool.and_eq_true, decide_eq_true_iff, decide_eq_true_iff] at h
    exact ⟨l, rfl, by omega⟩
  | _ => cases h
theorem okM_cons (h : Ht) (hs : List Ht) (d : Da) (l : List Da) : okM (h :: hs) (d :: l) = ((h.ex || decide (0 ≤ nOf d)) && okM hs l) := rfl
theorem map_all {α : Type} (f : α → Bool) : ∀ l : List α, (l.map f).all id = l.all f
  | [] => rfl
  | x :: r => by rw [List.map_cons, List.all_cons, List.all_cons, map_all f r]; rfl
def spSh : Sp := fun vs H Q _ => ∃ (x xh : V) (hs : List Ht) (d : Da), vs = [x, xh] ∧ Enc H d x ∧ Enc H (.tup (hs.map htD)) xh ∧ hs.length ≤ 100 ∧ ∀ H', Grow H H' → Q (.bl (isSh hs d)) H'
section
variable {P : Program} {w : World} {K : PySem.W.Frag} {mg : Str → Option Value} {base : Heap}
theorem ok_showing {f fT fI : Addr} {fd fdT fdI : FuncData} (F : Fun K "_is_showing" "_is_showing" sSh f fd) (N : Gn K mg) (G : Gk mg)
    (GT : FnOk P w K mg base CX0 1 fT fdT ["thing", "least", "most"] (spF3 isTu)) (DT : Df K mg "is_tuple" ["thing", "least", "most"] fT fdT)
    (GI : FnOk P w K mg base CX0 1 fI fdI ["thing"] (spF isInt)) (DI : Df K mg "is_integer" ["thing"] fI fdI) : FnOk P w K mg base CX0 2 f fd ["thing", "hints"] spSh := by
  refine F.ok (k := 1) cSh (fun vs H Q E h => ?_) (fun cdv A outer s H vs Q E hr h => ?_)
  · obtain ⟨_, _, _, _, rfl, _⟩ := h
    rfl
  · obtain ⟨x, xh, hs, d, rfl, en, eh, hl, k⟩ := h
    refine ⟨_, (pss_cons (ps_if (PW.pt (pw_or (pt_not (pt_val (pe_call (GT.mono (by decide)) hr (by rfl) DT.g DT.k DT.b .nil pass0 (pa_cons (pv 0) (pa_cons pe_int (pa_cons pe_int pa_nil)))))) (pw_or (pt_not (pt_val (pe_call (GI.mono (by decide)) hr (by rfl) DI.g DI.k DI.b .nil pass0 (pa_cons (pe_ix ix_tup (pv 0) pe_int (fun _ _ => rfl)) pa_nil)))) (pw_or1 (pt_cmpR op_lt (pe_ix ix_tup (pv 0) pe_int (fun _ _ => rfl)) pe_int (nomark _)))))) (pss_one (ps_ret pe_bl)) pss_nil) (pss_cons (ps_set (i := 2) cSh.nd rfl (Or.inl rfl) (pe_ix ix_tup (pv 0) pe_int (fun _ _ => rfl))) (pss_cons (ps_if (PW.pt (pw_or (pt_not (pt_val (pe_call (GT.mono (by decide)) hr (by rfl) DT.g DT.k DT.b .nil pass0 (pa_cons (pv 2) (pa_cons (pe_callB call_len_seq (by rfl) N.nl PySem.boot_len (pa_cons (pv 1) pa_nil)) (pa_cons (pe_callB call_len_seq (by rfl) N.nl PySem.boot_len (pa_cons (pv 1) pa_nil)) pa_nil)))))) (pw_or1 (pt_not (pt_val (pe_callB (cr_all (by rfl)) (by rfl) N.na (by decide +kernel) (pa_cons (pe_lc (own := [("part", 3)]) (g := gName 3) (tt := tYes) (by rfl) cSh.nd (pi_tup (pv 2)) (blkOk_by (own := [("part", 3)]) (N := ["thing", "hints", "multipliers", "part", "_", "exact"]) (sc := defScope sSh) (by decide +kernel)) (fun _ _ _ _ _ => (pg_name (i := 3) cSh.nd rfl (Or.inl rfl))) (fun _ _ _ _ _ => pts_nil) (fun _ _ _ _ _ => (pe_call (GI.mono (by decide)) hr (by rfl) DI.g DI.k DI.b .nil pass0 (pa_cons (pv 3) pa_nil)))) pa_nil))))))) (pss_one (ps_ret pe_bl)) pss_nil) (pss_one (ps_ret (pe_callB (cr_all (by rfl)) (by rfl) N.na (by decide +kernel) (pa_cons (pe_lc (own := [("part", 3), ("_", 4), ("exact", 5)]) (g := gTup K 2 (gCons (gTup K 3 (gCons (gName 4) (gCons (gName 5) (gCons (gName 4) gNil)))) (gCons (gName 3) gNil))) (tt := tYes) (by rfl) cSh.nd (pi_zipA (by rfl) G.zip (pa_cons (pv 1) (pa_cons (pv 2) pa_nil))) (blkOk_by (own := [("part", 3), ("_", 4), ("exact", 5)]) (N := ["thing", "hints", "multipliers", "part", "_", "exact"]) (sc := defScope sSh) (by decide +kernel)) (fun _ _ _ _ _ => (pg_tup (by rfl) (pgs_cons (pg_tup (by rfl) (pgs_cons (pg_name (i := 4) cSh.nd rfl (Or.inl rfl)) (pgs_cons (pg_name (i := 5) cSh.nd rfl (Or.inl rfl)) (pgs_cons (pg_name (i := 4) cSh.nd rfl (Or.inl rfl)) pgs_nil)))) (pgs_cons (pg_name (i := 3) cSh.nd rfl (Or.inl rfl)) pgs_nil)))) (fun _ _ _ _ _ => pts_nil) (fun _ _ _ _ _ => (pe_or (pv 5) (pe_one (pe_cmpR op_ge (pv 3) pe_int (nomark _)))))) pa_nil))))))), ?_⟩
    refine ⟨_, rfl, x, d, 2, 2, rfl, en, _, rfl, ?_⟩
    unfold isSh at k
    cases h1 : isTu 2 2 d with
    | false =>
      rw [h1] at k
      exact iteT (k H (Grow.refl H))
    | true =>
    rw [h1, Bool.true_and] at k
    obtain ⟨a, b, rfl⟩ := tu2 h1
    cases en with
    | @tup p xs _ hp es =>
    cases es with
    | @cons _ x0 _ _ e0 es =>
    cases es with
    | @cons _ x1 _ _ e1 es =>
    cases es
    rw [show kid (Da.tup [a, b]) 0 = a from rfl, show kid (Da.tup [a, b]) 1 = b from rfl] at k
    refine iteF ⟨_, rfl, p, _, _, _, rfl, rfl, SqT.of hp, at_of (j := 0) rfl rfl, x0, a, rfl, e0, _, rfl, ?_⟩
    cases h2 : isInt a with
    | false =>
      rw [h2] at k
      exact iteT (k H (Grow.refl H))
    | true =>
    rw [h2, Bool.true_and] at k
    have ea := isInt_int h2
    rw [ea] at e0
    have ex0 : x0 = .int (nOf a) := by cases e0; rfl
    subst ex0
    refine iteF ⟨_, rfl, p, _, _, _, rfl, rfl, SqT.of hp, at_of (j := 0) rfl rfl, _, _, rfl, rfl, _, rfl, ?_⟩
    by_cases h3 : nOf a < 0
    · rw [decide_eq_false (show ¬ 0 ≤ nOf a by omega)] at k
      exact ifT h3 (k H (Grow.refl H))
    rw [decide_eq_true (show 0 ≤ nOf a by omega), Bool.true_and] at k
    refine ifF h3 ⟨_, rfl, p, _, _, _, rfl, rfl, SqT.of hp, at_of (j := 1) rfl rfl, ?_⟩
    cases eh with
    | @tup q ys _ hq eys =>
    have ly := eys.length
    rw [List.length_map] at ly
    refine ⟨_, rfl, _, rfl, q, ys, rfl, .inr (SqT.of hq), _, rfl, q, ys, rfl, .inr (SqT.of hq), x1, b, (ys.length : Nat), (ys.length : Nat), rfl, e1, _, rfl, ?_⟩
    rw [ly] at k
    cases h4 : isTu ys.length ys.length b with
    | false =>
      rw [h4] at k
      exact iteT (k H (Grow.refl H))
    | true =>
    rw [h4, Bool.true_and] at k
    obtain ⟨l, rfl, hll⟩ := tuN h4
    rw [show kids (Da.tup l) = l from rfl] at k
    cases e1 with
    | @tup r zs _ hrr ezs =>
    have lz := ezs.length
    refine iteF ⟨_, rfl, r, rfl, ⟨_, SqT.of hrr⟩, fun D hD => ?_⟩
    refine lc_tup (xs := zs) (fun i Hc => Hc D = some (.lst (((l.take i).map isInt).map V.bl)) ∧ Grow H Hc) ⟨upd_same, Grow.new hD⟩ (fun i Hc _ hz => SqT.of (hz.2.tup hrr)) (fun i z Hc hz hy => ?_) (fun H1 hy => ?_)
    · obtain ⟨hacc, g⟩ := hy
      obtain ⟨dd, hdd, ez⟩ := ezs.get hz
      refine ⟨wipe_set, ?_⟩
      unfold tYes
      refine iteT ⟨_, rfl, z, dd, rfl, ez.grow g, _, hacc, ?_, ?_, g.upd' hD⟩
      · rw [List.length_map, List.length_map, List.length_take, sizeLine_eq]
        omega
      · rw [upd_same, List.take_succ, hdd, List.map_append, List.map_append]
        rfl
    · obtain ⟨hacc, g⟩ := hy
      rw [← lz, List.take_length] at hacc
      refine ⟨D, _, rfl, SqL.of hacc, ?_⟩
      rw [map_all]
      cases h5 : l.all isInt with
      | false =>
        rw [h5] at k
        exact ⟨_, rfl, iteT (k _ g)⟩
      | true =>
      rw [h5, Bool.true_and] at k
      refine ⟨_, rfl, iteF ?_⟩
      refine ⟨_, rfl, _, rfl, q, r, ys, zs, rfl, .inr ⟨SqT.of (g.tup hq), SqT.of (g.tup hrr), fun D2 hD2 => ?_⟩⟩
      have tk : ∀ i h dd, hs[i]? = some h → l[i]? = some dd → ((hs.zip l).take (i + 1)).map (fun p => p.1.ex || decide (0 ≤ nOf p.2)) = ((hs.zip l).take i).map (fun p => p.1.ex || decide (0 ≤ nOf p.2)) ++ [h.ex || decide (0 ≤ nOf dd)] := fun i h dd h6 h7 => by
        have h8 : (hs.zip l)[i]? = some (h, dd) := List.getElem?_zip_eq_some.mpr ⟨h6, h7⟩
        rw [List.take_succ, h8, List.map_append]
        rfl
      refine lc_it (walk34 (xs := ys) (ys := zs) (n := hs.length) (by omega) (by omega) (by omega)) (fun i Hc => Hc D2 = some (.lst ((((hs.zip l).take i).map (fun p => p.1.ex || decide (0 ≤ nOf p.2))).map V.bl)) ∧ Grow H1 Hc)
        ⟨upd_same, Grow.new hD2⟩ (fun i Hc _ hz => ⟨SqT.of ((g.trans hz.2).tup hq), SqT.of ((g.trans hz.2).tup hrr)⟩) (fun i z Hc H' hi hz y => ?_) (fun Hc hz => ?_)
      · obtain ⟨T, y1, y2, rfl, hT, rfl, f1, f2⟩ := y
        obtain ⟨hacc2, g2⟩ := hz
        have f1 : ys[i]? = some y1 := f1
        have f2 : zs[i]? = some y2 := f2
        obtain ⟨dh, hdh, ey⟩ := eys.get f1
        obtain ⟨h, hh, rfl⟩ := map_get hdh
        obtain ⟨dd, hdd, ez⟩ := ezs.get f2
        have hi5 := isInt_int (List.all_eq_true.mp h5 dd (List.mem_of_getElem? hdd))
        have tkk := tk i h dd hh hdd
        rw [hi5] at ez
        cases ez
        cases ey with
        | @tup b1 ws _ hb1 eb1 =>
        cases eb1 with
        | @cons _ w0 _ _ k0 eb1 =>
        cases eb1 with
        | @cons _ w1 _ _ k1 eb1 =>
        cases eb1 with
        | @cons _ w2 _ _ k2 eb1 =>
        cases eb1
        cases k1
        have nT : T ≠ D2 := fun z => by rw [z, hacc2] at hT; cases hT
        have g3 := g2.upd' (none_of g2 hT) (o := .tup [.ref b1, .int (nOf dd)])
        have hD3 := hD2
        refine ⟨T, _, rfl, SqT.of upd_same, rfl, _, _, rfl, b1, _, rfl, SqT.of ((g.trans g3).tup hb1), rfl, _, _, rfl, _, _, rfl, _, _, rfl, rfl, _, _, rfl, rfl, rfl, ?_⟩
        unfold tYes
        have step : ∀ c : Bool, c = (h.ex || decide (0 ≤ nOf dd)) → L2.upd (L2.upd Hc T (.tup [.ref b1, .int (nOf dd)])) D2 (.lst ((((hs.zip l).take i).map (fun p => p.1.ex || decide (0 ≤ nOf p.2))).map V.bl ++ [V.bl c])) D2 = some (.lst ((((hs.zip l).take (i + 1)).map (fun p => p.1.ex || decide (0 ≤ nOf p.2))).map V.bl)) := fun c ec => by
          rw [tkk, ec, List.map_append]
          exact upd_same
        have hsz : ((((hs.zip l).take i).map (fun p => p.1.ex || decide (0 ≤ nOf p.2))).map V.bl).length < sizeLine := by
          rw [List.length_map, List.length_map, List.length_take, sizeLine_eq]
          omega
        have hac3 : L2.upd Hc T (.tup [.ref b1, .int (nOf dd)]) D2 = some (.lst ((((hs.zip l).take i).map (fun p => p.1.ex || decide (0 ≤ nOf p.2))).map V.bl)) := by
          rw [upd_ne (Ne.symm nT)]
          exact hacc2
        refine iteT ⟨_, rfl, _, rfl, ite2 (fun hx => ?_) (fun hx => ?_)⟩
        · exact ⟨_, hac3, hsz, step _ (by rw [hx, Bool.true_or]), g3.upd' hD2⟩
        · refine ⟨_, rfl, _, _, rfl, rfl, _, hac3, hsz, step _ ?_, g3.upd' hD2⟩
          rw [Bool.eq_false_iff.mpr hx, Bool.false_or]
      · obtain ⟨hacc2, g2⟩ := hz
        rw [List.take_of_length_le (by rw [List.length_zip]; omega)] at hacc2
        refine ⟨D2, _, rfl, SqL.of hacc2, ?_⟩
        rw [map_all]
        exact k _ (g.trans g2)
end
end J1
set_option Elab.async false
set_option linter.all false
set_option maxRecDepth 100000
set_option maxHeartbeats 4000000
namespace J1
open PySem PySem.Spec PyProof.Rows L2 GxR GA RA RZ
abbrev sNb : Stmt := top 26
theorem cNb : FnScope ["never", "atom"] ["never", "atom"] (defScope sNb) := ⟨rfl, rfl, rfl, by decide +kernel, rfl, by decide +kernel, by decide +kernel⟩
abbrev sSw : Stmt := top 27
theorem cSw : FnScope ["never", "goal", "hints", "thing", "scale", "multipliers", "taken", "multiplier", "hint", "const", "terms", "atom", "coefficient"] ["never", "goal", "hints", "thing"] (defScope sSw) := ⟨rfl, rfl, rfl, by decide +kernel, rfl, by decide +kernel, by decide +kernel⟩
/-- never below 0, whatever the run is -/
def flo (ns : List Int) (a : A3) : Bool := decide (V.int a.1 = V.int 1) || inV (.int a.2.2) (ns.map V.int)
theorem ints_flat (ns : List Int) : (ns.map V.int).all flatV = true := by
  rw [List.all_eq_true]
  intro x hx
  obtain ⟨n, _, rfl⟩ := List.mem_map.mp hx
  rfl
def spNb : Sp := fun vs H Q _ => ∃ (p t : Addr) (ns : List Int) (a : A3), vs = [.ref p, .ref t] ∧ H p = some (.tup (ns.map V.int)) ∧ H t = some (.tup ((il a).map V.int)) ∧ Q (.bl (flo ns a)) H
/-- what is taken of the hints -/
def tkn : List Da → List Ht → List (Int × Fm)
  | d :: l, h :: hs => (if (!decide (V.int (nOf d) = V.int 0)) = true then [(-(nOf d), h.f)] else []) ++ tkn l hs
  | _, _ => []
theorem tkn_snoc : ∀ (l : List Da) (hs : List Ht) (d : Da) (h : Ht), l.length = hs.length → tkn (l ++ [d]) (hs ++ [h]) = tkn l hs ++ (if (!decide (V.int (nOf d) = V.int 0)) = true then [(-(nOf d), h.f)] else [])
  | [], [], d, h, _ => by
    show (if _ then _ else _) ++ [] = _
    rw [List.append_nil]
    rfl
  | d' :: l, h' :: hs, d, h, e => by
    show _ ++ tkn (l ++ [d]) (hs ++ [h]) = (_ ++ tkn l hs) ++ _
    rw [tkn_snoc l hs d h (Nat.succ.inj e), List.append_assoc]
theorem tkn_mem {p : Int × Fm} : ∀ {l : List Da} {hs : List Ht}, p ∈ tkn l hs → ∃ d h, d ∈ l ∧ h ∈ hs ∧ p = (-(nOf d), h.f)
  | d :: l, h :: hs, m => by
    rcases List.mem_append.mp (show p ∈ _ ++ tkn l hs from m) with q | q
    · by_cases c : (!decide (V.int (nOf d) = V.int 0)) = true
      · rw [if_pos c] at q
        exact ⟨d, h, List.mem_cons_self, List.mem_cons_self, List.mem_singleton.mp q⟩
      · rw [if_neg c] at q
        exact absurd q List.not_mem_nil
    · obtain ⟨d', h', q1, q2, q3⟩ := tkn_mem q
      exact ⟨d', h', List.mem_cons_of_mem _ q1, List.mem_cons_of_mem _ q2, q3⟩
theorem tkn_len : ∀ (l : List Da) (hs : List Ht), (tkn l hs).length ≤ l.length
  | [], _ => Nat.zero_le _
  | _ :: _, [] => Nat.zero_le _
  | d :: l, h :: hs => by
    show ((if _ then _ else _) ++ tkn l hs).length ≤ _
    have q := tkn_len l hs
    rw [List.length_append, List.length_cons]
    split
    · show 1 + _ ≤ _; omega
    · show 0 + _ ≤ _; omega
def okV (ns : List Int) (a : A3) (v : Int) : Bool := decide (v = 0) || (decide (0 < v) && flo ns a)
def sOf (d : Da) : Int := nOf (kid d 0)
def mOf (d : Da) : List Da := kids (kid d 1)
def psOf (goal : Fm) (hs : List Ht) (d : Da) : List (Int × Fm) := (sOf d, goal) :: tkn (mOf d) hs
/-- what both say of a thing -/
def showsB (U : List A3) (ns : List Int) (goal : Fm) (hs : List Ht) (d : Da) : Bool :=
  isSh hs d && (decide (¬ cst (psOf goal hs d) < (if sOf d = 0 then 1 else 0)) && U.all fun a => okV ns a (vl (psOf goal hs d) a))
def SmD (d : Da) : Prop := Sm (sOf d) ∧ ∀ e ∈ mOf d, Sm (nOf e)
theorem Sm.neg {i : Int} (h : Sm i) : Sm (-i) := by
  unfold Sm at *
  rw [Int.natAbs_neg]
  exact h
theorem es_all {U : List A3} {ns : List Int} {v : A3 → Int} {es : List Tm} (h1 : ∀ e ∈ es, e.1 ∈ U ∧ e.2 = v e.1 ∧ e.2 ≠ 0) (h2 : ∀ a ∈ U, v a ≠ 0 → (a, v a) ∈ es) : (es.all fun e => decide (0 < e.2) && flo ns e.1) = U.all fun a => okV ns a (v a) := by
  rw [Bool.eq_iff_iff, List.all_eq_true, List.all_eq_true]
  constructor
  · intro h a ha
    unfold okV
    by_cases z : v a = 0
    · rw [decide_eq_true z, Bool.true_or]
    · have q := h _ (h2 a ha z)
      rw [q, Bool.or_true]
  · intro h e he
    obtain ⟨q1, q2, q3⟩ := h1 e he
    have q := h e.1 q1
    unfold okV at q
    rw [← q2, decide_eq_false q3, Bool.false_or] at q
    exact q
def spSw : Sp := fun vs H Q _ => ∃ (xn xg xh xd : V) (U : List A3) (ns : List Int) (goal : Fm) (hs : List Ht) (d : Da), vs = [xn, xg, xh, xd] ∧ Enc H (nvD ns) xn ∧ Enc H (fmD goal) xg ∧ Enc H (.tup (hs.map htD)) xh ∧ Enc H d xd ∧ GoodIn U ns goal hs ∧ SmD d ∧
  ∀ H', Grow H H' → Q (.bl (showsB U ns goal hs d)) H'
section
variable {P : Program} {w : World} {K : PySem.W.Frag} {mg : Str → Option Value} {base : Heap}
theorem ok_nb {f : Addr} {fd : FuncData} (F : Fun K "is_never_below" "is_never_below" sNb f fd) : FnOk P w K mg base CX0 1 f fd ["never", "atom"] spNb := by
  refine F.ok cNb (fun vs H Q E h => ?_) (fun cdv A outer s H vs Q E hr h => ?_)
  · obtain ⟨_, _, _, _, rfl, _⟩ := h
    rfl
  · obtain ⟨p, t, ns, a, rfl, hp, ht, k⟩ := h
    refine ⟨_, (pss_one (ps_ret (pe_or (pe_cmpR op_eq (pe_ix ix_tup (pv 1) pe_int (fun _ _ => rfl)) pe_int (nomark _)) (pe_one (pe_cmpR op_in_seq (pe_ix ix_tup (pv 1) pe_int (fun _ _ => rfl)) (pv 0) (by rfl)))))), ?_⟩
    refine ⟨_, rfl, t, _, _, _, rfl, rfl, SqT.of ht, at_of (j := 0) rfl rfl, rfl, _, rfl, ite2 (fun hx => ?_) (fun hx => ?_)⟩
    · unfold flo at k
      have hx : decide (V.int a.1 = V.int 1) = true := hx
      rw [hx, Bool.true_or] at k
      exact k
    · unfold flo at k
      have hx : ¬ decide (V.int a.1 = V.int 1) = true := hx
      rw [Bool.eq_false_iff.mpr hx, Bool.false_or] at k
      exact ⟨_, rfl, t, _, _, _, rfl, rfl, SqT.of ht, at_of (j := 2) rfl rfl, _, rfl, p, _, rfl, .inr (SqT.of hp), rfl, ints_flat ns, k⟩
end
end J1
set_option Elab.async false
set_option linter.all false
set_option maxRecDepth 100000
set_option maxHeartbeats 4000000
namespace J1
open PySem PySem.Spec PyProof.Rows L2 GxR GA RA RZ
theorem fm_any {B : Addr → Prop} {H : Hp} {f : Fm} {x : V} (h : Enc H (fmD f) x) : EncB B H (fmD f) x := by
  cases h with
  | @tup p xs _ hp es =>
  cases es with
  | @cons _ x0 _ _ e0 es =>
  cases es with
  | @cons _ x1 _ _ e1 es =>
  cases es
  cases e0
  cases e1 with
  | @tup p1 xs1 _ hp1 es1 =>
  obtain ⟨ts, T⟩ := TmAt.of es1
  exact .tup hp (.cons (.int _) (.cons (.tup hp1 T.enc) .nil))
theorem one34 {a : V} : [a].length ≤ sizeLine := by
  rw [sizeLine_eq]
  show 1 ≤ _
  omega
/-- parts as they are laid: forms that stood, pairs that are new -/
inductive PtAt (H0 Hx : Hp) : List (Int × Fm) → List V → Prop
  | nil : PtAt H0 Hx [] []
  | cons {p : Int × Fm} {b : Addr} {y : V} {ps : List (Int × Fm)} {xs : List V} (hb : Hx b = some (.tup [.int p.1, y])) (e : Enc H0 (fmD p.2) y) (r : PtAt H0 Hx ps xs) : PtAt H0 Hx (p :: ps) (.ref b :: xs)
theorem PtAt.keep {H0 H H' : Hp} (k : ∀ a xs, H a = some (.tup xs) → H' a = some (.tup xs)) {ps : List (Int × Fm)} {xs : List V} (h : PtAt H0 H ps xs) : PtAt H0 H' ps xs := by
  induction h with
  | nil => exact .nil
  | cons hb e r ih => exact .cons (k _ _ hb) e ih
theorem PtAt.snoc {H0 Hx : Hp} {ps : List (Int × Fm)} {xs : List V} {p : Int × Fm} {b : Addr} {y : V} (h : PtAt H0 Hx ps xs) (hb : Hx b = some (.tup [.int p.1, y])) (e : Enc H0 (fmD p.2) y) : PtAt H0 Hx (ps ++ [p]) (xs ++ [.ref b]) := by
  induction h with
  | nil => exact .cons hb e .nil
  | cons hb' e' r ih => exact .cons hb' e' ih
theorem PtAt.encs {H0 Hx : Hp} (g : Grow H0 Hx) {ps : List (Int × Fm)} {xs : List V} (h : PtAt H0 Hx ps xs) : Encs Hx (ps.map ptD) xs := by
  induction h with
  | nil => exact .nil
  | cons hb e r ih => exact .cons (.tup hb (.cons (.int _) (.cons (e.grow g) .nil))) ih
theorem PtAt.len {H0 Hx : Hp} {ps : List (Int × Fm)} {xs : List V} (h : PtAt H0 Hx ps xs) : xs.length = ps.length := by
  induction h with
  | nil => rfl
  | cons hb e r ih => rw [List.length_cons, List.length_cons, ih]
theorem isSh_form {hs : List Ht} {d : Da} (h : isSh hs d = true) : ∃ s l, d = .tup [.int s, .tup l] ∧ l.length = hs.length ∧ l.all isInt = true := by
  unfold isSh at h
  rw [Bool.and_eq_true, Bool.and_eq_true, Bool.and_eq_true, Bool.and_eq_true, Bool.and_eq_true] at h
  obtain ⟨h1, h2, h3, h4, h5, _⟩ := h
  obtain ⟨a, b, rfl⟩ := tu2 h1
  obtain ⟨l, e, hl⟩ := tuN h4
  have e : b = .tup l := e
  subst e
  have ea := isInt_int (d := a) h2
  exact ⟨nOf a, l, by rw [← ea], hl, h5⟩
theorem SmD.good {U : List A3} {ns : List Int} {goal : Fm} {hs : List Ht} {d : Da} (m : SmD d) (gi : GoodIn U ns goal hs) : ∀ p ∈ psOf goal hs d, GoodP U p := by
  intro p hp
  rcases List.mem_cons.mp hp with q | q
  · rw [q]
    exact ⟨m.1, gi.g⟩
  · obtain ⟨e, h, h1, h2, rfl⟩ := tkn_mem q
    exact ⟨(m.2 e h1).neg, (gi.h h h2).f⟩
section
variable {P : Program} {w : World} {K : PySem.W.Frag} {mg : Str → Option Value} {base : Heap}
theorem ok_shows {f fW fC fN : Addr} {fd fdW fdC fdN : FuncData} (F : Fun K "shows" "shows" sSw f fd) (N : Gn K mg) (G : Gk mg)
    (GW : FnOk P w K mg base CX0 2 fW fdW ["thing", "hints"] spSh) (DW : Df K mg "_is_showing" ["thing", "hints"] fW fdW)
    (GC : FnOk P w K mg base CX0 1 fC fdC ["parts"] spCb) (DC : Df K mg "combined" ["parts"] fC fdC)
    (GN : FnOk P w K mg base CX0 1 fN fdN ["never", "atom"] spNb) (DN : Df K mg "is_never_below" ["never", "atom"] fN fdN) : FnOk P w K mg base CX0 3 f fd ["never", "goal", "hints", "thing"] spSw := by
  refine F.ok (k := 2) cSw (fun vs H Q E h => ?_) (fun cdv A outer s H vs Q E hr h => ?_)
  · obtain ⟨_, _, _, _, _, _, _, _, _, rfl, _⟩ := h
    rfl
  · obtain ⟨xn, xg, xh, xd, U, ns, goal, hs, d, rfl, en, eg, eh, ed, gi, sm, k⟩ := h
    refine ⟨_, (pss_cons (ps_if (pt_not (pt_val (pe_call (GW.mono (by decide)) hr (by rfl) DW.g DW.k DW.b .nil pass0 (pa_cons (pv 3) (pa_cons (pv 2) pa_nil))))) (pss_one (ps_ret pe_bl)) pss_nil) (pss_cons (ps_asg (pv 3) (pg_tup (by rfl) (pgs_cons (pg_name (i := 4) cSw.nd rfl (Or.inl rfl)) (pgs_cons (pg_name (i := 5) cSw.nd rfl (Or.inl rfl)) pgs_nil)))) (pss_cons (ps_setLc (i := 6) (own := [("multiplier", 7), ("hint", 8)]) (g := gTup K 2 (gCons (gName 7) (gCons (gName 8) gNil))) (by rfl) cSw.nd rfl rfl (sw_true rfl rfl rfl (by decide +kernel)) (pi_zipA (by rfl) G.zip (pa_cons (pv 5) (pa_cons (pv 2) pa_nil))) (blkOk_by (own := [("multiplier", 7), ("hint", 8)]) (N := ["never", "goal", "hints", "thing", "scale", "multipliers", "taken", "multiplier", "hint", "const", "terms", "atom", "coefficient"]) (sc := defScope sSw) (by decide +kernel)) (fun _ _ _ _ _ => (pg_tup (by rfl) (pgs_cons (pg_name (i := 7) cSw.nd rfl (Or.inl rfl)) (pgs_cons (pg_name (i := 8) cSw.nd rfl (Or.inl rfl)) pgs_nil)))) (fun _ _ _ _ _ => (pts_one (pt_cmpR op_ne (pv 7) pe_int (nomark _)))) (fun _ _ _ _ _ => (pe_tup (pa_cons (pe_un un_neg (pv 7)) (pa_cons (pe_ix (r := rIxT K) ix_tup (pv 8) pe_int (fun _ _ => rfl)) pa_nil))))) (pss_cons (ps_asg (pe_call (GC.mono (by decide)) hr (by rfl) DC.g DC.k DC.b .nil pass0 (pa_cons (pe_op op_cat (pe_lst (pa_cons (pe_tup (pa_cons (pv 4) (pa_cons (pv 1) pa_nil))) pa_nil)) (pv 6)) pa_nil)) (pg_tup (by rfl) (pgs_cons (pg_name (i := 9) cSw.nd rfl (Or.inl rfl)) (pgs_cons (pg_name (i := 10) cSw.nd rfl (Or.inl rfl)) pgs_nil)))) (pss_cons (ps_if (pt_cmpR op_lt (pv 9) (pe_ifExp (pt_cmpR op_eq (pv 4) pe_int (nomark _)) pe_int pe_int) (nomark _)) (pss_one (ps_ret pe_bl)) pss_nil) (pss_one (ps_ret (pe_callB (cr_all (by rfl)) (by rfl) N.na (by decide +kernel) (pa_cons (pe_lc (own := [("atom", 11), ("coefficient", 12)]) (g := gTup K 2 (gCons (gName 11) (gCons (gName 12) gNil))) (tt := tYes) (by rfl) cSw.nd (pi_tup (pv 10)) (blkOk_by (own := [("atom", 11), ("coefficient", 12)]) (N := ["never", "goal", "hints", "thing", "scale", "multipliers", "taken", "multiplier", "hint", "const", "terms", "atom", "coefficient"]) (sc := defScope sSw) (by decide +kernel)) (fun _ _ _ _ _ => (pg_tup (by rfl) (pgs_cons (pg_name (i := 11) cSw.nd rfl (Or.inl rfl)) (pgs_cons (pg_name (i := 12) cSw.nd rfl (Or.inl rfl)) pgs_nil)))) (fun _ _ _ _ _ => pts_nil) (fun _ _ _ _ _ => (pe_and (pe_cmpR op_gt (pv 12) pe_int (nomark _)) (pe_one (pe_call (GN.mono (by decide)) hr (by rfl) DN.g DN.k DN.b .nil pass0 (pa_cons (pv 0) (pa_cons (pv 11) pa_nil))))))) pa_nil))))))))), ?_⟩
    have hl := gi.l
    refine ⟨_, rfl, _, rfl, xd, xh, hs, d, rfl, ed, eh, hl, fun H1 g1 => ⟨_, rfl, ?_⟩⟩
    have k0 := k
    unfold showsB at k
    cases hsh : isSh hs d with
    | false =>
      rw [hsh] at k
      exact iteT (k _ g1)
    | true =>
    rw [hsh] at k
    obtain ⟨s, l, rfl, hll, hli⟩ := isSh_form hsh
    have hgp := sm.good gi
    cases ed with
    | @tup p xs _ hp es =>
    cases es with
    | @cons _ x0 _ _ e0 es =>
    cases es with
    | @cons _ x1 _ _ e1 es =>
    cases es
    cases e0
    cases e1 with
    | @tup r zs _ hz ezs =>
    cases en with
    | @tup p0 nv _ hp0 ens =>
    have env := ints_vals ens
    subst env
    cases eh with
    | @tup q ys _ hq eys =>
    have lz := ezs.length
    have ly := eys.length
    rw [List.length_map] at ly
    refine iteF ⟨_, rfl, p, _, rfl, SqT.of (g1.tup hp), rfl, _, _, rfl, _, _, rfl, rfl, ?_⟩
    refine ⟨_, rfl, _, rfl, r, q, zs, ys, rfl, .inr ⟨SqT.of (g1.tup hz), SqT.of (g1.tup hq), fun D hD => ?_⟩⟩
    have hD0 := none_of g1 hD
    refine lc_it (walk34 (xs := zs) (ys := ys) (n := hs.length) (by omega) (by omega) (by omega)) (fun i Hc => ∃ acc, Hc D = some (.lst acc) ∧ PtAt H Hc (tkn (l.take i) (hs.take i)) acc ∧ Grow H Hc)
      ⟨[], upd_same, .nil, g1.trans (Grow.new hD)⟩ (fun i Hc _ hv => by
        obtain ⟨_, _, _, g2⟩ := hv
        exact ⟨SqT.of (g2.tup hz), SqT.of (g2.tup hq)⟩) (fun i z Hc H' hi hv y => ?_) (fun H2 hv => ?_)
    · obtain ⟨T, y1, y2, rfl, hT, rfl, f1, f2⟩ := y
      obtain ⟨acc, hacc, pt, g2⟩ := hv
      have f1 : zs[i]? = some y1 := f1
      have f2 : ys[i]? = some y2 := f2
      obtain ⟨dh, hdh, ey⟩ := eys.get f2
      obtain ⟨h, hh, rfl⟩ := map_get hdh
      obtain ⟨dd, hdd, ez⟩ := ezs.get f1
      have hi5 := isInt_int (List.all_eq_true.mp hli dd (List.mem_of_getElem? hdd))
      rw [hi5] at ez
      cases ez
      have eh0 := ey
      cases ey with
      | @tup b1 ws _ hb1 eb1 =>
      cases eb1 with
      | @cons _ w0 _ _ k0' eb1 =>
      cases eb1 with
      | @cons _ w1 _ _ k1 eb1 =>
      cases eb1 with
      | @cons _ w2 _ _ k2 eb1 =>
      cases eb1
      have nT : T ≠ D := fun z => by rw [z, hacc] at hT; cases hT
      have g3 := g2.upd' (none_of g2 hT) (o := .tup [.int (nOf dd), .ref b1])
      have hac3 : L2.upd Hc T (.tup [.int (nOf dd), .ref b1]) D = some (.lst acc) := by
        rw [upd_ne (Ne.symm nT)]
        exact hacc
      have etk : tkn (l.take (i + 1)) (hs.take (i + 1)) = tkn (l.take i) (hs.take i) ++ (if (!decide (V.int (nOf dd) = V.int 0)) = true then [(-(nOf dd), h.f)] else []) := by
        rw [List.take_succ, List.take_succ, hdd, hh]
        exact tkn_snoc _ _ dd h (by rw [List.length_take, List.length_take, hll])
      have pt3 := pt.keep (keep_new hT (o := .tup [.int (nOf dd), .ref b1]))
      refine ⟨T, _, rfl, SqT.of upd_same, rfl, _, _, rfl, _, _, rfl, rfl, rfl, ?_⟩
      refine ⟨_, rfl, rfl, _, rfl, ite2 (fun hne => ?_) (fun hne => ?_)⟩
      · refine ⟨_, rfl, _, rfl, _, rfl, b1, _, _, _, rfl, rfl, SqT.of (g3.tup hb1), at_of (j := 0) rfl rfl, two34, fun b hb => ?_⟩
        have nD : D ≠ b := fun z => by rw [← z, hac3] at hb; cases hb
        have hacl := pt.len
        have htl := tkn_len (l.take i) (hs.take i)
        rw [List.length_take] at htl
        refine ⟨acc, by rw [upd_ne nD]; exact hac3, by rw [sizeLine_eq]; omega, acc ++ [.ref b], upd_same, ?_, (g3.upd' (none_of g3 hb)).upd' hD0⟩
        rw [etk, if_pos hne]
        refine PtAt.keep (keep_lst (by rw [upd_ne nD]; exact hac3)) ((pt3.keep (keep_new hb)).snoc (p := (-(nOf dd), h.f)) upd_same k0')
      · refine ⟨acc, hac3, ?_, g3⟩
        rw [etk, if_neg hne, List.append_nil]
        exact pt3
    · obtain ⟨acc, hacc, pt, g2⟩ := hv
      rw [← hll, List.take_length, hll, List.take_length] at pt
      have hacl := pt.len
      have htl := tkn_len l hs
      refine ⟨_, rfl, _, rfl, two34, fun T0 hT0 => ⟨one34, fun L0 hL0 => ?_⟩⟩
      have nTD : D ≠ T0 := fun z => by rw [← z, hacc] at hT0; cases hT0
      have nLD : D ≠ L0 := fun z => by rw [← z, upd_ne nTD, hacc] at hL0; cases hL0
      have nLT : L0 ≠ T0 := fun z => by rw [z, upd_same] at hL0; cases hL0
      refine ⟨_, rfl, L0, D, [.ref T0], acc, rfl, rfl, upd_same, by rw [upd_ne nLD, upd_ne nTD]; exact hacc, by rw [sizeLine_eq]; show 1 + _ ≤ _; omega, fun pp hpp => ?_⟩
      have hTn := none_of g2 hT0
      have hLn := none_of g2 (none_upd hL0)
      have hPn := none_of g2 (none_upd (none_upd hpp))
      have g5 := ((g2.upd' hTn (o := .tup [.int s, xg])).upd' hLn (o := .lst [.ref T0])).upd' hPn (o := .lst ([.ref T0] ++ acc))
      have pt5 : PtAt H (L2.upd (L2.upd (L2.upd H2 T0 (.tup [.int s, xg])) L0 (.lst [.ref T0])) pp (.lst ([.ref T0] ++ acc))) (psOf goal hs (.tup [.int s, .tup l])) (.ref T0 :: acc) := PtAt.cons (p := (s, goal)) (keep_new hpp _ _ (keep_new hL0 _ _ upd_same)) eg (((pt.keep (keep_new hT0)).keep (keep_new hL0)).keep (keep_new hpp))
      refine ⟨pp, _, U, psOf goal hs (.tup [.int s, .tup l]), rfl, upd_same, pt5.encs g5, gi.u, hgp, fun H7 rr r2 cs es ts g6 hrr hr2 T7 le9 q1 q2 => ?_⟩
      generalize hdd : Da.tup [.int s, .tup l] = d at *
      have hs0 : sOf d = s := by rw [← hdd]; rfl
      rw [hs0] at k
      have g7 := g5.trans g6
      refine ⟨rr, _, rfl, SqT.of hrr, rfl, _, _, rfl, _, _, rfl, rfl, ?_⟩
      refine ⟨_, rfl, _, rfl, rfl, _, rfl, ?_⟩
      by_cases hz0 : s = 0
      · refine ifT (by rw [hz0]) ⟨_, _, rfl, rfl, _, rfl, ?_⟩
        rw [if_pos hz0] at k
        by_cases hlt : cst (psOf goal hs d) < 1
        · rw [decide_eq_false (show ¬ ¬ cst (psOf goal hs d) < 1 from fun z => z hlt), Bool.false_and, Bool.and_false] at k
          exact ifT hlt (k _ g7)
        rw [decide_eq_true hlt, Bool.true_and, Bool.true_and] at k
        refine ifF hlt ⟨_, rfl, r2, rfl, ⟨_, SqT.of hr2⟩, fun D3 hD3 => ?_⟩
        refine lc_tup (xs := cs) (fun i Hc => Hc D3 = some (.lst (((es.take i).map fun e => decide (0 < e.2) && flo ns e.1).map V.bl)) ∧ Grow H7 Hc) ⟨upd_same, Grow.new hD3⟩ (fun i Hc _ hz => SqT.of (hz.2.tup hr2)) (fun i z Hc hz hy => ?_) (fun H8 hy => ?_)
        · obtain ⟨hacc, g8⟩ := hy
          obtain ⟨e, b, t, he, rfl, _, hb, ht⟩ := T7.get hz
          have il := (List.getElem?_eq_some_iff.mp he).1
          have step : ∀ (Hd : Hp) (c : Bool), c = (decide (0 < e.2) && flo ns e.1) → L2.upd Hd D3 (.lst (((es.take i).map fun e => decide (0 < e.2) && flo ns e.1).map V.bl ++ [V.bl c])) D3 = some (.lst (((es.take (i + 1)).map fun e => decide (0 < e.2) && flo ns e.1).map V.bl)) := fun Hd c ec => by
            rw [upd_same, List.take_succ, he, List.map_append, List.map_append, ec]
            rfl
          have lz := T7.len.1
          have hz9 : i < 9 := by
            omega
          have hsz : (((es.take i).map fun e => decide (0 < e.2) && flo ns e.1).map V.bl).length < sizeLine := by
            rw [List.length_map, List.length_map, List.length_take, sizeLine_eq]
            omega
          refine ⟨b, _, rfl, SqT.of (g8.tup hb), rfl, _, _, rfl, _, _, rfl, rfl, rfl, ?_⟩
          unfold tYes
          refine iteT ⟨_, rfl, _, _, rfl, rfl, _, rfl, ite2 (fun hx => ?_) (fun hx => ?_)⟩
          · refine ⟨_, rfl, _, rfl, p0, t, ns, e.1, rfl, (g7.trans g8).tup hp0, g8.tup ht, _, hacc, hsz, step _ _ ?_, g8.upd' hD3⟩
            rw [show decide (0 < e.2) = true from hx, Bool.true_and]
          · refine ⟨_, hacc, hsz, step _ _ ?_, g8.upd' hD3⟩
            rw [show decide (0 < e.2) = false from Bool.eq_false_iff.mpr hx, Bool.false_and]
        · obtain ⟨hacc, g8⟩ := hy
          have lz : cs.length = es.length := T7.len.1
          rw [lz, List.take_length] at hacc
          refine ⟨D3, _, rfl, SqL.of hacc, ?_⟩
          rw [map_all, es_all q1 q2]
          exact k _ (g7.trans g8)
      · refine ifF (fun z => hz0 (V.int.inj z)) ⟨_, _, rfl, rfl, _, rfl, ?_⟩
        rw [if_neg hz0] at k
        by_cases hlt : cst (psOf goal hs d) < 0
        · rw [decide_eq_false (show ¬ ¬ cst (psOf goal hs d) < 0 from fun z => z hlt), Bool.false_and, Bool.and_false] at k
          exact ifT hlt (k _ g7)
        rw [decide_eq_true hlt, Bool.true_and, Bool.true_and] at k
        refine ifF hlt ⟨_, rfl, r2, rfl, ⟨_, SqT.of hr2⟩, fun D3 hD3 => ?_⟩
        refine lc_tup (xs := cs) (fun i Hc => Hc D3 = some (.lst (((es.take i).map fun e => decide (0 < e.2) && flo ns e.1).map V.bl)) ∧ Grow H7 Hc) ⟨upd_same, Grow.new hD3⟩ (fun i Hc _ hz => SqT.of (hz.2.tup hr2)) (fun i z Hc hz hy => ?_) (fun H8 hy => ?_)
        · obtain ⟨hacc, g8⟩ := hy
          obtain ⟨e, b, t, he, rfl, _, hb, ht⟩ := T7.get hz
          have il := (List.getElem?_eq_some_iff.mp he).1
          have step : ∀ (Hd : Hp) (c : Bool), c = (decide (0 < e.2) && flo ns e.1) → L2.upd Hd D3 (.lst (((es.take i).map fun e => decide (0 < e.2) && flo ns e.1).map V.bl ++ [V.bl c])) D3 = some (.lst (((es.take (i + 1)).map fun e => decide (0 < e.2) && flo ns e.1).map V.bl)) := fun Hd c ec => by
            rw [upd_same, List.take_succ, he, List.map_append, List.map_append, ec]
            rfl
          have lz := T7.len.1
          have hz9 : i < 9 := by
            omega
          have hsz : (((es.take i).map fun e => decide (0 < e.2) && flo ns e.1).map V.bl).length < sizeLine := by
            rw [List.length_map, List.length_map, List.length_take, sizeLine_eq]
            omega
          refine ⟨b, _, rfl, SqT.of (g8.tup hb), rfl, _, _, rfl, _, _, rfl, rfl, rfl, ?_⟩
          unfold tYes
          refine iteT ⟨_, rfl, _, _, rfl, rfl, _, rfl, ite2 (fun hx => ?_) (fun hx => ?_)⟩
          · refine ⟨_, rfl, _, rfl, p0, t, ns, e.1, rfl, (g7.trans g8).tup hp0, g8.tup ht, _, hacc, hsz, step _ _ ?_, g8.upd' hD3⟩
            rw [show decide (0 < e.2) = true from hx, Bool.true_and]
          · refine ⟨_, hacc, hsz, step _ _ ?_, g8.upd' hD3⟩
            rw [show decide (0 < e.2) = false from Bool.eq_false_iff.mpr hx, Bool.false_and]
        · obtain ⟨hacc, g8⟩ := hy
          have lz : cs.length = es.length := T7.len.1
          rw [lz, List.take_length] at hacc
          refine ⟨D3, _, rfl, SqL.of hacc, ?_⟩
          rw [map_all, es_all q1 q2]
          exact k _ (g7.trans g8)
end
end J1
set_option Elab.async false
set_option linter.all false
set_option maxRecDepth 100000
set_option maxHeartbeats 4000000
namespace J1
open PySem PySem.Spec PyProof.Rows L2 GxR GA RA RZ
abbrev sIs : Stmt := top 30
theorem cIs : FnScope ["never", "goal", "hints", "thing"] ["never", "goal", "hints", "thing"] (defScope sIs) := ⟨rfl, rfl, rfl, by decide +kernel, rfl, by decide +kernel, by decide +kernel⟩
abbrev sLi : Stmt := top 34
theorem cLi : FnScope ["_law_x"] ["_law_x"] (defScope sLi) := ⟨rfl, rfl, rfl, by decide +kernel, rfl, by decide +kernel, by decide +kernel⟩
section
variable {P : Program} {w : World} {K : PySem.W.Frag} {mg : Str → Option Value} {base : Heap}
theorem ok_shown {f fP fW : Addr} {fd fdP fdW : FuncData} (F : Fun K "is_shown" "is_shown" sIs f fd)
    (GP : FnOk P w K mg base CX0 6 fP fdP ["never", "goal", "hints"] spNe) (DP : Df K mg "need_parts" ["never", "goal", "hints"] fP fdP)
    (GW : FnOk P w K mg base CX0 3 fW fdW ["never", "goal", "hints", "thing"] spSw) (DW : Df K mg "shows" ["never", "goal", "hints", "thing"] fW fdW) : FnOk P w K mg base CX0 7 f fd ["never", "goal", "hints", "thing"] spSw := by
  refine F.ok (k := 6) cIs (fun vs H Q E h => ?_) (fun cdv A outer s H vs Q E hr h => ?_)
  · obtain ⟨_, _, _, _, _, _, _, _, _, rfl, _⟩ := h
    rfl
  · obtain ⟨xn, xg, xh, xd, U, ns, goal, hs, d, rfl, en, eg, eh, ed, gi, sm, k⟩ := h
    refine ⟨_, (pss_cons (ps_expr (pe_call (GP.mono (by decide)) hr (by rfl) DP.g DP.k DP.b .nil pass0 (pa_cons (pv 0) (pa_cons (pv 1) (pa_cons (pv 2) pa_nil))))) (pss_one (ps_ret (pe_call (GW.mono (by decide)) hr (by rfl) DW.g DW.k DW.b .nil pass0 (pa_cons (pv 0) (pa_cons (pv 1) (pa_cons (pv 2) (pa_cons (pv 3) pa_nil)))))))), ?_⟩
    refine ⟨_, rfl, _, rfl, _, rfl, xn, xg, xh, U, ns, goal, hs, rfl, en, eg, eh, gi, fun H1 g1 => ?_⟩
    exact ⟨_, rfl, _, rfl, _, rfl, _, rfl, xn, xg, xh, xd, U, ns, goal, hs, d, rfl, en.grow g1, eg.grow g1, eh.grow g1, ed.grow g1, gi, sm, fun H2 g2 => k H2 (g1.trans g2)⟩
theorem ok_lint {f : Addr} {fd : FuncData} (F : Fun K "_law_int" "_law_int" sLi f fd) (N : Gn K mg) : FnOk P w K mg base CX0 1 f fd ["_law_x"] (spF isInt) := by
  refine F.ok cLi (fun vs H Q E h => ?_) (fun cdv A outer s H vs Q E h => ?_)
  · obtain ⟨x, d, rfl, _⟩ := h
    rfl
  · intro h
    obtain ⟨x, d, rfl, en, k⟩ := h
    obtain ⟨kI, kB, _, _⟩ := kitD d
    refine ⟨_, (pss_one (ps_ret (pe_and (pe_callB call_isi (by rfl) N.nI boot_isinstance (pa_cons (pv 0) (pa_cons (pe_bltn (v := .ty "int") rfl N.ni (by decide +kernel) rfl) pa_nil))) (pe_one (pe_not (pe_callB call_isi (by rfl) N.nI boot_isinstance (pa_cons (pv 0) (pa_cons (pe_bltn (v := .ty "bool") rfl N.nb (by decide +kernel) rfl) pa_nil)))))))), ?_⟩
    refine ⟨_, rfl, _, _, _, _, _, rfl, .ty "int", en.ty, kit_ty kI, _, rfl, ite2 (fun e => ?_) (fun e => ?_)⟩
    · refine ⟨_, rfl, _, _, _, _, _, rfl, .ty "bool", en.ty, kit_ty kB, _, rfl, ?_⟩
      unfold isInt at k
      rw [e, Bool.true_and] at k
      exact k
    · unfold isInt at k
      rw [Bool.eq_false_iff.mpr e, Bool.false_and] at k
      exact k
end
end J1
set_option Elab.async false
set_option linter.all false
set_option maxRecDepth 100000
set_option maxHeartbeats 4000000
namespace J1
open PySem PySem.Spec PyProof.Rows L2 GxR GA RA RZ
abbrev sRe : Stmt := top 35
theorem cRe : FnScope ["_law_goal", "_law_hints", "_law_scale", "_law_multipliers", "_law_const", "_law_sums", "_law_atom", "_law_times", "_law_hint", "_law_by_here"] ["_law_goal", "_law_hints", "_law_scale", "_law_multipliers"] (defScope sRe) := ⟨rfl, rfl, rfl, by decide +kernel, rfl, by decide +kernel, by decide +kernel⟩
/-! ### the sums of hints by their multipliers -/
def cS : List Ht → List Int → Int
  | h :: hs, m :: ms => m * h.f.1 + cS hs ms
  | _, _ => 0
def vS : List Ht → List Int → A3 → Int
  | h :: hs, m :: ms, a => m * coef h.f.2 a + vS hs ms a
  | _, _, _ => 0
theorem cS_snoc : ∀ (hs : List Ht) (ms : List Int) (h : Ht) (m : Int), hs.length = ms.length → cS (hs ++ [h]) (ms ++ [m]) = cS hs ms + m * h.f.1
  | [], [], h, m, _ => by
    show _ + 0 = 0 + _
    omega
  | h' :: hs, m' :: ms, h, m, e => by
    show _ + cS (hs ++ [h]) (ms ++ [m]) = _ + cS hs ms + _
    rw [cS_snoc hs ms h m (Nat.succ.inj e)]
    omega
theorem vS_snoc : ∀ (hs : List Ht) (ms : List Int) (h : Ht) (m : Int) (a : A3), hs.length = ms.length → vS (hs ++ [h]) (ms ++ [m]) a = vS hs ms a + m * coef h.f.2 a
  | [], [], h, m, a, _ => by
    show _ + 0 = 0 + _
    omega
  | h' :: hs, m' :: ms, h, m, a, e => by
    show _ + vS (hs ++ [h]) (ms ++ [m]) a = _ + vS hs ms a + _
    rw [vS_snoc hs ms h m a (Nat.succ.inj e)]
    omega
theorem get34 (eT : List Tm) (a : A3) : (valV (dA eT) (kA a)).getD (V.int 0) = V.int (dV eT a) := by
  rw [dA_get]
  unfold dV
  cases dLk eT a <;> rfl
theorem coef_zero {l : List Tm} {a : A3} (h : a ∉ l.map (·.1)) : coef l a = 0 := by
  induction l with
  | nil => rfl
  | cons e l ih =>
    rw [List.map_cons, List.mem_cons, not_or] at h
    show (if e.1 = a then e.2 else 0) + coef l a = 0
    rw [if_neg (fun z => h.1 z.symm), ih h.2, Int.zero_add]
/-- the hints and their multipliers stand in two tuples or in two lists -/
def Both (H : Hp) (ph pm : Addr) (ys zs : List V) : Prop := (H ph = some (.tup ys) ∧ H pm = some (.tup zs)) ∨ (H ph = some (.lst ys) ∧ H pm = some (.lst zs))
def spRe : Sp := fun vs H Q _ => ∃ (xg : V) (ph pm : Addr) (s : Int) (ys : List V) (U : List A3) (goal : Fm) (hs : List Ht) (ms : List Int), vs = [xg, .ref ph, .int s, .ref pm] ∧ Enc H (fmD goal) xg ∧ Both H ph pm ys (ms.map V.int) ∧ Encs H (hs.map htD) ys ∧ OkU U ∧ GoodF U goal ∧ (∀ h ∈ hs, GoodH U h) ∧
  hs.length = ms.length ∧ Sm s ∧ (∀ m ∈ ms, Sm m) ∧
  ∀ (H' : Hp) (r d : Addr) (eT : List Tm), Grow H H' → H' r = some (.lst [.int (s * goal.1 - cS hs ms), .ref d]) → H' d = some (.dT (dA eT)) → H d = none → H r = none → d ≠ r → TbU U eT → (∀ a, dV eT a = s * coef goal.2 a - vS hs ms a) → Q (.ref r) H'
section
variable {P : Program} {w : World} {K : PySem.W.Frag} {mg : Str → Option Value} {base : Heap}
theorem ok_rest {f : Addr} {fd : FuncData} (F : Fun K "_law_rest" "_law_rest" sRe f fd) (G : Gk mg) : FnOk P w K mg base CX0 1 f fd ["_law_goal", "_law_hints", "_law_scale", "_law_multipliers"] spRe := by
  refine F.ok cRe (fun vs H Q E h => ?_) (fun cdv A outer s H vs Q E hr h => ?_)
  · obtain ⟨_, _, _, _, _, _, _, _, _, rfl, _⟩ := h
    rfl
  · obtain ⟨xg, ph, pm, s, ys, U, goal, hs, ms, rfl, eg, hb, eys, ou, gg, gi, hml, hss, hsm, k⟩ := h
    have hu := hu_of hr
    refine ⟨_, (pss_cons (ps_set (i := 4) cRe.nd rfl (Or.inl rfl) (pe_op op_mulW (pv 2) (pe_ix ix_tup (pv 0) pe_int (fun _ _ => rfl)))) (pss_cons (ps_set (i := 5) cRe.nd rfl (Or.inl rfl) pe_dnewT) (pss_cons (ps_for PassesOwn.never rfl (pi_tup (pe_ix ix_tup (pv 0) pe_int (fun _ _ => rfl))) (pg_tup (by rfl) (pgs_cons (pg_name (i := 6) cRe.nd rfl (Or.inl rfl)) (pgs_cons (pg_name (i := 7) cRe.nd rfl (Or.inl rfl)) pgs_nil))) (pss_one (ps_dput hu (pv 5) (pv 6) (pe_op op_mulW (pv 2) (pv 7)) rfl))) (pss_cons (ps_for PassesOwn.never rfl (pi_zipA (by rfl) G.zip (pa_cons (pv 1) (pa_cons (pv 3) pa_nil))) (pg_tup (by rfl) (pgs_cons (pg_name (i := 8) cRe.nd rfl (Or.inl rfl)) (pgs_cons (pg_name (i := 9) cRe.nd rfl (Or.inl rfl)) pgs_nil))) (pss_cons (ps_set (i := 4) cRe.nd rfl (Or.inl rfl) (pe_op op_sub (pv 4) (pe_op op_mulW (pv 9) (pe_ix ix_tup (pe_ix ix_tup (pv 8) pe_int (fun _ _ => rfl)) pe_int (fun _ _ => rfl))))) (pss_one (ps_for PassesOwn.never rfl (pi_tup (pe_ix ix_tup (pe_ix ix_tup (pv 8) pe_int (fun _ _ => rfl)) pe_int (fun _ _ => rfl))) (pg_tup (by rfl) (pgs_cons (pg_name (i := 6) cRe.nd rfl (Or.inl rfl)) (pgs_cons (pg_name (i := 7) cRe.nd rfl (Or.inl rfl)) pgs_nil))) (pss_one (ps_dput hu (pv 5) (pv 6) (pe_op op_sub (pe_dget2 hu (pv 5) (pv 6) pe_int ⟨rfl, rfl, rfl, rfl⟩) (pe_op op_mulW (pv 9) (pv 7))) rfl)))))) (pss_one (ps_ret (pe_lst (pa_cons (pv 4) (pa_cons (pv 5) pa_nil))))))))), ?_⟩
    have ly := eys.length
    rw [List.length_map] at ly
    have eg0 := eg
    cases eg with
    | @tup p xs _ hp es =>
    cases es with
    | @cons _ x0 _ _ e0 es =>
    cases es with
    | @cons _ x1 _ _ e1 es =>
    cases es
    cases e0
    cases e1 with
    | @tup p1 xs1 _ hp1 es1 =>
    obtain ⟨tg, Tg⟩ := TmAt.of es1
    refine ⟨_, rfl, _, rfl, p, _, _, _, rfl, rfl, SqT.of hp, at_of (j := 0) rfl rfl, _, _, rfl, rfl, Sm.mul hss gg.sm.1, fun d hd => ?_⟩
    have gd := Grow.new hd (o := .dT [])
    refine ⟨_, rfl, p, _, _, _, rfl, rfl, SqT.of (gd.tup hp), at_of (j := 1) rfl rfl, p1, rfl, ⟨_, SqT.of (gd.tup hp1)⟩, ?_⟩
    generalize hxg : V.ref p = xg at *
    refine for_tup (xs := xs1) (fun j σ' Hc => ∃ (eT : List Tm) (v6 v7 : Option V), σ' = [some xg, some (.ref ph), some (.int s), some (.ref pm), some (.int (s * goal.1)), some (.ref d), v6, v7, none, none] ∧ Hc d = some (.dT (dA eT)) ∧ TbU U eT ∧ (∀ a, dV eT a = s * coef (goal.2.take j) a) ∧ Grow H Hc)
      ⟨[], _, _, rfl, upd_same, TbU.nil U, fun a => by show 0 = s * 0; rw [Int.mul_zero], gd⟩ (fun j σ' Hc _ hq => ?_) (fun j z σ' Hc hz hq => ?_) (fun σ' Hc hq => ?_)
    · obtain ⟨_, _, _, _, _, _, _, g⟩ := hq
      exact SqT.of (g.tup hp1)
    · obtain ⟨eT, v6, v7, rfl, hdT, tb, hv, g⟩ := hq
      obtain ⟨e, bt, t, he, rfl, _, hbt, ht⟩ := Tg.get hz
      have he : goal.2[j]? = some e := he
      have hme := List.mem_of_getElem? he
      have eU := gg.inU e hme
      have lT := tb.len ou
      have hk : Hc t = some (.tup ((kA e.1).map kV)) := g.tup ht
      refine ⟨bt, _, rfl, SqT.of (g.tup hbt), rfl, _, _, rfl, _, _, rfl, rfl, ?_⟩
      refine ⟨_, rfl, _, rfl, _, _, rfl, rfl, Sm.mul hss (gg.sm.2 e hme), _, rfl, _, rfl, d, _, rfl, DPut.t (k := kA e.1) hdT hk (by unfold dA; rw [List.length_map, sizeLine_eq]; omega), ?_⟩
      rw [dA_put _ _ _ tb.nd]
      refine ⟨_, _, _, rfl, upd_same, tb.put eU, fun a => ?_, g.upd' hd⟩
      have etj : goal.2.take (j + 1) = goal.2.take j ++ [e] := by
        rw [List.take_succ, he]
        rfl
      rw [dV_put, etj, coef_app, hv a]
      show (if e.1 = a then s * e.2 else _) = s * (_ + ((if e.1 = a then e.2 else 0) + 0))
      by_cases q : e.1 = a
      · have nz : coef (goal.2.take j) a = 0 := coef_zero fun hmem => by
          have as := gg.asc
          have el : goal.2 = goal.2.take j ++ e :: goal.2.drop (j + 1) := by
            have jl := (List.getElem?_eq_some_iff.mp he).1
            have q2 := List.getElem_cons_drop jl
            rw [(List.getElem?_eq_some_iff.mp he).2] at q2
            rw [q2, List.take_append_drop]
          rw [el, List.map_append, List.pairwise_append] at as
          have z := as.2.2 a hmem e.1 (by rw [List.map_cons]; exact List.mem_cons_self)
          rw [q] at z
          exact absurd z (Int.lt_irrefl _)
        rw [if_pos q, if_pos q, nz, Int.zero_add, Int.add_zero]
      · rw [if_neg q, if_neg q, Int.add_zero, Int.add_zero]
    · obtain ⟨eT, v6, v7, rfl, hdT, tb, hv, g⟩ := hq
      have elg : xs1.length = goal.2.length := Tg.len.1
      rw [elg, List.take_length] at hv
      rcases hb with ⟨hph, hpm⟩ | ⟨hph, hpm⟩
      · refine ⟨_, rfl, _, rfl, ph, pm, ys, ms.map V.int, rfl, .inr ⟨SqT.of (g.tup hph), SqT.of (g.tup hpm), ?_⟩⟩
        refine for_it (walk34 (xs := ys) (ys := ms.map V.int) (n := hs.length) (by omega) (by rw [List.length_map]; omega) (by omega)) (fun i σ' Hc => ∃ (c : Int) (eT : List Tm) (v6 v7 v8 v9 : Option V), σ' = [some xg, some (.ref ph), some (.int s), some (.ref pm), some (.int c), some (.ref d), v6, v7, v8, v9] ∧ c = s * goal.1 - cS (hs.take i) (ms.take i) ∧ Hc d = some (.dT (dA eT)) ∧ TbU U eT ∧ (∀ a, dV eT a = s * coef goal.2 a - vS (hs.take i) (ms.take i) a) ∧ Grow H Hc)
          ⟨_, eT, _, _, _, _, rfl, by show _ = _ - 0; rw [Int.sub_zero], hdT, tb, fun a => by rw [hv a]; show _ = _ - 0; rw [Int.sub_zero], g⟩ (fun i σ' Hc _ hq => ?_) (fun i z σ' Hc H' hi hq y => ?_) (fun σ' Hc hq => ?_)
        · obtain ⟨_, _, _, _, _, _, _, _, _, _, _, g2⟩ := hq
          exact ⟨SqT.of (g2.tup hph), SqT.of (g2.tup hpm)⟩
        · obtain ⟨T, y1, y2, rfl, hT, rfl, f1, f2⟩ := y
          obtain ⟨c, eT2, v6, v7, v8, v9, rfl, ec, hdT2, tb2, hv2, g2⟩ := hq
          have f1 : ys[i]? = some y1 := f1
          have f2 : (ms.map V.int)[i]? = some y2 := f2
          rw [List.getElem?_map] at f2
          cases hm : ms[i]? with
          | none => rw [hm] at f2; cases f2
          | some m =>
          rw [hm] at f2
          cases f2
          obtain ⟨dh, hdh, ey⟩ := eys.get f1
          obtain ⟨h, hh, rfl⟩ := map_get hdh
          have gh := gi h (List.mem_of_getElem? hh)
          have sm := hsm m (List.mem_of_getElem? hm)
          cases ey with
          | @tup b1 ws _ hb1 eb1 =>
          cases eb1 with
          | @cons _ w0 _ _ k0 eb1 =>
          cases eb1 with
          | @cons _ w1 _ _ k1 eb1 =>
          cases eb1 with
          | @cons _ w2 _ _ k2 eb1 =>
          cases eb1
          cases k0 with
          | @tup b2 us _ hb2 eb2 =>
          cases eb2 with
          | @cons _ u0 _ _ l0 eb2 =>
          cases eb2 with
          | @cons _ u1 _ _ l1 eb2 =>
          cases eb2
          cases l0
          cases l1 with
          | @tup b3 ws3 _ hb3 eb3 =>
          obtain ⟨ts, Tm3⟩ := TmAt.of eb3
          have nd : d ≠ T := fun z => by rw [← z, hdT2] at hT; cases hT
          have g3 := g2.upd' (none_of g2 hT) (o := .tup [.ref b1, .int m])
          have hd3 : L2.upd Hc T (.tup [.ref b1, .int m]) d = some (.dT (dA eT2)) := by rw [upd_ne nd]; exact hdT2
          have e1 : cS (hs.take (i + 1)) (ms.take (i + 1)) = cS (hs.take i) (ms.take i) + m * h.f.1 := by
            rw [List.take_succ, List.take_succ, hh, hm]
            exact cS_snoc _ _ _ _ (by rw [List.length_take, List.length_take, hml])
          have e2 : ∀ a, vS (hs.take (i + 1)) (ms.take (i + 1)) a = vS (hs.take i) (ms.take i) a + m * coef h.f.2 a := fun a => by
            rw [List.take_succ, List.take_succ, hh, hm]
            exact vS_snoc _ _ _ _ a (by rw [List.length_take, List.length_take, hml])
          refine ⟨T, _, rfl, SqT.of upd_same, rfl, _, _, rfl, _, _, rfl, rfl, ?_⟩
          refine ⟨_, rfl, _, rfl, _, rfl, b1, _, _, _, rfl, rfl, SqT.of (g3.tup hb1), at_of (j := 0) rfl rfl, b2, _, _, _, rfl, rfl, SqT.of (g3.tup hb2), at_of (j := 0) rfl rfl, _, _, rfl, rfl, Sm.mul sm gh.f.sm.1, _, _, rfl, rfl, ?_⟩
          refine ⟨_, rfl, b1, _, _, _, rfl, rfl, SqT.of (g3.tup hb1), at_of (j := 0) rfl rfl, b2, _, _, _, rfl, rfl, SqT.of (g3.tup hb2), at_of (j := 1) rfl rfl, b3, rfl, ⟨_, SqT.of (g3.tup hb3)⟩, ?_⟩
          refine for_tup (xs := ws3) (fun j σ' Hd => ∃ (eT : List Tm) (v6 v7 : Option V), σ' = [some xg, some (.ref ph), some (.int s), some (.ref pm), some (.int (c - m * h.f.1)), some (.ref d), v6, v7, some (.ref b1), some (.int m)] ∧ Hd d = some (.dT (dA eT)) ∧ TbU U eT ∧ (∀ a, dV eT a = dV eT2 a - m * coef (h.f.2.take j) a) ∧ Grow H Hd)
            ⟨eT2, _, _, rfl, hd3, tb2, fun a => by show _ = _ - m * 0; rw [Int.mul_zero, Int.sub_zero], g3⟩ (fun j σ' Hd _ hq => ?_) (fun j z σ' Hd hz hq => ?_) (fun σ' Hd hq => ?_)
          · obtain ⟨_, _, _, _, _, _, _, g4⟩ := hq
            exact SqT.of (g4.tup hb3)
          · obtain ⟨eT3, v6, v7, rfl, hdT3, tb3, hv3, g4⟩ := hq
            obtain ⟨e, bt, t, he, rfl, _, hbt, ht⟩ := Tm3.get hz
            have he : h.f.2[j]? = some e := he
            have hme := List.mem_of_getElem? he
            have eU := gh.f.inU e hme
            have lT := tb3.len ou
            have hk : Hd t = some (.tup ((kA e.1).map kV)) := g4.tup ht
            refine ⟨bt, _, rfl, SqT.of (g4.tup hbt), rfl, _, _, rfl, _, _, rfl, rfl, ?_⟩
            refine ⟨_, rfl, d, rfl, .inr ⟨_, .inl hdT3⟩, _, rfl, _, DGet.t (k := kA e.1) hdT3 hk, _, rfl, _, rfl, _, _, rfl, rfl, Sm.mul sm (gh.f.sm.2 e hme), _, _, get34 _ _, rfl, ?_⟩
            refine ⟨_, rfl, _, rfl, d, _, rfl, DPut.t (k := kA e.1) hdT3 hk (by unfold dA; rw [List.length_map, sizeLine_eq]; omega), ?_⟩
            rw [dA_put _ _ _ tb3.nd]
            refine ⟨_, _, _, rfl, upd_same, tb3.put eU, fun a => ?_, g4.upd' hd⟩
            have etj : h.f.2.take (j + 1) = h.f.2.take j ++ [e] := by
              rw [List.take_succ, he]
              rfl
            rw [dV_put, etj, coef_app, hv3 a]
            show (if e.1 = a then dV eT3 e.1 - m * e.2 else _) = _ - m * (_ + ((if e.1 = a then e.2 else 0) + 0))
            by_cases q : e.1 = a
            · rw [if_pos q, if_pos q, hv3, q, Int.mul_add, Int.add_zero]
              omega
            · rw [if_neg q, if_neg q, Int.add_zero, Int.add_zero]
          · obtain ⟨eT3, v6, v7, rfl, hdT3, tb3, hv3, g4⟩ := hq
            have el3 : ws3.length = h.f.2.length := Tm3.len.1
            rw [el3, List.take_length] at hv3
            refine ⟨_, eT3, _, _, _, _, rfl, ?_, hdT3, tb3, fun a => ?_, g4⟩
            · rw [e1, ec]
              omega
            · rw [e2 a, hv3 a, hv2 a]
              omega
        · obtain ⟨c, eT2, v6, v7, v8, v9, rfl, ec, hdT2, tb2, hv2, g2⟩ := hq
          rw [List.take_length, List.take_of_length_le (l := ms) (i := hs.length) (by omega)] at ec hv2
          subst ec
          refine ⟨_, rfl, _, rfl, two34, fun r hr => ?_⟩
          have nr : d ≠ r := fun z => by rw [← z, hdT2] at hr; cases hr
          exact k _ r d eT2 (g2.upd' (none_of g2 hr)) upd_same (by rw [upd_ne nr]; exact hdT2) hd (none_of g2 hr) nr tb2 hv2
      · refine ⟨_, rfl, _, rfl, ph, pm, ys, ms.map V.int, rfl, .inl ⟨SqL.of (g.lst hph), SqL.of (g.lst hpm), ?_⟩⟩
        refine for_it (walk_zip (xs := ys) (ys := ms.map V.int) (n := hs.length) (by rw [List.length_map]; omega)) (fun i σ' Hc => ∃ (c : Int) (eT : List Tm) (v6 v7 v8 v9 : Option V), σ' = [some xg, some (.ref ph), some (.int s), some (.ref pm), some (.int c), some (.ref d), v6, v7, v8, v9] ∧ c = s * goal.1 - cS (hs.take i) (ms.take i) ∧ Hc d = some (.dT (dA eT)) ∧ TbU U eT ∧ (∀ a, dV eT a = s * coef goal.2 a - vS (hs.take i) (ms.take i) a) ∧ Grow H Hc)
          ⟨_, eT, _, _, _, _, rfl, by show _ = _ - 0; rw [Int.sub_zero], hdT, tb, fun a => by rw [hv a]; show _ = _ - 0; rw [Int.sub_zero], g⟩ (fun i σ' Hc _ hq => ?_) (fun i z σ' Hc H' hi hq y => ?_) (fun σ' Hc hq => ?_)
        · obtain ⟨_, _, _, _, _, _, _, _, _, _, _, g2⟩ := hq
          exact ⟨SqL.of (g2.lst hph), SqL.of (g2.lst hpm)⟩
        · obtain ⟨T, y1, y2, rfl, hT, rfl, f1, f2⟩ := y
          obtain ⟨c, eT2, v6, v7, v8, v9, rfl, ec, hdT2, tb2, hv2, g2⟩ := hq
          have f1 : ys[i]? = some y1 := f1
          have f2 : (ms.map V.int)[i]? = some y2 := f2
          rw [List.getElem?_map] at f2
          cases hm : ms[i]? with
          | none => rw [hm] at f2; cases f2
          | some m =>
          rw [hm] at f2
          cases f2
          obtain ⟨dh, hdh, ey⟩ := eys.get f1
          obtain ⟨h, hh, rfl⟩ := map_get hdh
          have gh := gi h (List.mem_of_getElem? hh)
          have sm := hsm m (List.mem_of_getElem? hm)
          cases ey with
          | @tup b1 ws _ hb1 eb1 =>
          cases eb1 with
          | @cons _ w0 _ _ k0 eb1 =>
          cases eb1 with
          | @cons _ w1 _ _ k1 eb1 =>
          cases eb1 with
          | @cons _ w2 _ _ k2 eb1 =>
          cases eb1
          cases k0 with
          | @tup b2 us _ hb2 eb2 =>
          cases eb2 with
          | @cons _ u0 _ _ l0 eb2 =>
          cases eb2 with
          | @cons _ u1 _ _ l1 eb2 =>
          cases eb2
          cases l0
          cases l1 with
          | @tup b3 ws3 _ hb3 eb3 =>
          obtain ⟨ts, Tm3⟩ := TmAt.of eb3
          have nd : d ≠ T := fun z => by rw [← z, hdT2] at hT; cases hT
          have g3 := g2.upd' (none_of g2 hT) (o := .tup [.ref b1, .int m])
          have hd3 : L2.upd Hc T (.tup [.ref b1, .int m]) d = some (.dT (dA eT2)) := by rw [upd_ne nd]; exact hdT2
          have e1 : cS (hs.take (i + 1)) (ms.take (i + 1)) = cS (hs.take i) (ms.take i) + m * h.f.1 := by
            rw [List.take_succ, List.take_succ, hh, hm]
            exact cS_snoc _ _ _ _ (by rw [List.length_take, List.length_take, hml])
          have e2 : ∀ a, vS (hs.take (i + 1)) (ms.take (i + 1)) a = vS (hs.take i) (ms.take i) a + m * coef h.f.2 a := fun a => by
            rw [List.take_succ, List.take_succ, hh, hm]
            exact vS_snoc _ _ _ _ a (by rw [List.length_take, List.length_take, hml])
          refine ⟨T, _, rfl, SqT.of upd_same, rfl, _, _, rfl, _, _, rfl, rfl, ?_⟩
          refine ⟨_, rfl, _, rfl, _, rfl, b1, _, _, _, rfl, rfl, SqT.of (g3.tup hb1), at_of (j := 0) rfl rfl, b2, _, _, _, rfl, rfl, SqT.of (g3.tup hb2), at_of (j := 0) rfl rfl, _, _, rfl, rfl, Sm.mul sm gh.f.sm.1, _, _, rfl, rfl, ?_⟩
          refine ⟨_, rfl, b1, _, _, _, rfl, rfl, SqT.of (g3.tup hb1), at_of (j := 0) rfl rfl, b2, _, _, _, rfl, rfl, SqT.of (g3.tup hb2), at_of (j := 1) rfl rfl, b3, rfl, ⟨_, SqT.of (g3.tup hb3)⟩, ?_⟩
          refine for_tup (xs := ws3) (fun j σ' Hd => ∃ (eT : List Tm) (v6 v7 : Option V), σ' = [some xg, some (.ref ph), some (.int s), some (.ref pm), some (.int (c - m * h.f.1)), some (.ref d), v6, v7, some (.ref b1), some (.int m)] ∧ Hd d = some (.dT (dA eT)) ∧ TbU U eT ∧ (∀ a, dV eT a = dV eT2 a - m * coef (h.f.2.take j) a) ∧ Grow H Hd)
            ⟨eT2, _, _, rfl, hd3, tb2, fun a => by show _ = _ - m * 0; rw [Int.mul_zero, Int.sub_zero], g3⟩ (fun j σ' Hd _ hq => ?_) (fun j z σ' Hd hz hq => ?_) (fun σ' Hd hq => ?_)
          · obtain ⟨_, _, _, _, _, _, _, g4⟩ := hq
            exact SqT.of (g4.tup hb3)
          · obtain ⟨eT3, v6, v7, rfl, hdT3, tb3, hv3, g4⟩ := hq
            obtain ⟨e, bt, t, he, rfl, _, hbt, ht⟩ := Tm3.get hz
            have he : h.f.2[j]? = some e := he
            have hme := List.mem_of_getElem? he
            have eU := gh.f.inU e hme
            have lT := tb3.len ou
            have hk : Hd t = some (.tup ((kA e.1).map kV)) := g4.tup ht
            refine ⟨bt, _, rfl, SqT.of (g4.tup hbt), rfl, _, _, rfl, _, _, rfl, rfl, ?_⟩
            refine ⟨_, rfl, d, rfl, .inr ⟨_, .inl hdT3⟩, _, rfl, _, DGet.t (k := kA e.1) hdT3 hk, _, rfl, _, rfl, _, _, rfl, rfl, Sm.mul sm (gh.f.sm.2 e hme), _, _, get34 _ _, rfl, ?_⟩
            refine ⟨_, rfl, _, rfl, d, _, rfl, DPut.t (k := kA e.1) hdT3 hk (by unfold dA; rw [List.length_map, sizeLine_eq]; omega), ?_⟩
            rw [dA_put _ _ _ tb3.nd]
            refine ⟨_, _, _, rfl, upd_same, tb3.put eU, fun a => ?_, g4.upd' hd⟩
            have etj : h.f.2.take (j + 1) = h.f.2.take j ++ [e] := by
              rw [List.take_succ, he]
              rfl
            rw [dV_put, etj, coef_app, hv3 a]
            show (if e.1 = a then dV eT3 e.1 - m * e.2 else _) = _ - m * (_ + ((if e.1 = a then e.2 else 0) + 0))
            by_cases q : e.1 = a
            · rw [if_pos q, if_pos q, hv3, q, Int.mul_add, Int.add_zero]
              omega
            · rw [if_neg q, if_neg q, Int.add_zero, Int.add_zero]
          · obtain ⟨eT3, v6, v7, rfl, hdT3, tb3, hv3, g4⟩ := hq
            have el3 : ws3.length = h.f.2.length := Tm3.len.1
            rw [el3, List.take_length] at hv3
            refine ⟨_, eT3, _, _, _, _, rfl, ?_, hdT3, tb3, fun a => ?_, g4⟩
            · rw [e1, ec]
              omega
            · rw [e2 a, hv3 a, hv2 a]
              omega
        · obtain ⟨c, eT2, v6, v7, v8, v9, rfl, ec, hdT2, tb2, hv2, g2⟩ := hq
          rw [List.take_length, List.take_of_length_le (l := ms) (i := hs.length) (by omega)] at ec hv2
          subst ec
          refine ⟨_, rfl, _, rfl, two34, fun r hr => ?_⟩
          have nr : d ≠ r := fun z => by rw [← z, hdT2] at hr; cases hr
          exact k _ r d eT2 (g2.upd' (none_of g2 hr)) upd_same (by rw [upd_ne nr]; exact hdT2) hd (none_of g2 hr) nr tb2 hv2
end
end J1
set_option Elab.async false
set_option linter.all false
set_option maxRecDepth 100000
set_option maxHeartbeats 4000000
namespace J1
open PySem PySem.Spec PyProof.Rows L2 GxR GA RA RZ
abbrev sLs : Stmt := top 36
theorem cLs : FnScope ["_law_never", "_law_goal", "_law_hints", "_law_thing", "_law_by_here", "_law_hint", "_law_const", "_law_sums", "_law_atom", "_law_times"] ["_law_never", "_law_goal", "_law_hints", "_law_thing"] (defScope sLs) := ⟨rfl, rfl, rfl, by decide +kernel, rfl, by decide +kernel, by decide +kernel⟩
/-- xs != [] -/
def rNil34 (K : PySem.W.Frag) : R2 := fun x y H Q => ∃ a b xs, x = .ref a ∧ y = .ref b ∧ SqL K H a xs ∧ SqL K H b [] ∧ Q (.bl (!xs.isEmpty)) H
theorem op_neNil {X : Cx} (hu : X.A.units < cLine) : OpR X (compareOp .NotEq) (rNil34 X.K) := by
  intro pins s σ H x y v u Q I rx ry h
  obtain ⟨a, b, xs, rfl, rfl, ha, hb, q⟩ := h
  obtain rfl : v = .ref a := rx
  obtain rfl : u = .ref b := ry
  obtain ⟨ia, ra, pa, _⟩ := I.list ha
  obtain ⟨ib, rb, pb, _⟩ := I.list hb
  cases rb
  cases ra with
  | nil => exact SeqAt.RcNeAt.lists (e := fun _ => true) pa.isList pb.isList rfl hu (fun j h1 _ => absurd h1 (by simp)) X.prog X.w X.xe _ ⟨.bl false, H, I, rfl, q⟩
  | cons r t => exact SeqAt.RcNeAt.lists_lengths pa.isList pb.isList (by simp) hu X.prog X.w X.xe _ ⟨.bl true, H, I, rfl, q⟩
theorem okM_snoc {hs : List Ht} {l : List Da} (h : Ht) (d : Da) (e : hs.length = l.length) : okM (hs ++ [h]) (l ++ [d]) = (okM hs l && (h.ex || decide (0 ≤ nOf d))) := by
  unfold okM
  rw [List.zip_append e, List.all_append]
  congr 1
  show (_ && true) = _
  rw [Bool.and_true]
theorem cS_tkn : ∀ (l : List Da) (hs : List Ht), cst (tkn l hs) = -cS hs (l.map nOf)
  | [], [] => rfl
  | [], _ :: _ => rfl
  | _ :: _, [] => rfl
  | d :: l, h :: hs => by
    show cst ((if _ then _ else _) ++ tkn l hs) = -(nOf d * h.f.1 + cS hs (l.map nOf))
    rw [cst_app, cS_tkn l hs]
    by_cases z : nOf d = 0
    · rw [z, if_neg (by decide)]
      show 0 + _ = -(0 * _ + _)
      rw [Int.zero_mul, Int.zero_add, Int.zero_add]
    · rw [if_pos (by rw [decide_eq_false (fun q => z (V.int.inj q))]; rfl)]
      show (-(nOf d) * h.f.1 + 0) + _ = _
      rw [Int.neg_mul]
      omega
theorem vS_tkn (a : A3) : ∀ (l : List Da) (hs : List Ht), vl (tkn l hs) a = -vS hs (l.map nOf) a
  | [], [] => rfl
  | [], _ :: _ => rfl
  | _ :: _, [] => rfl
  | d :: l, h :: hs => by
    show vl ((if _ then _ else _) ++ tkn l hs) a = -(nOf d * coef h.f.2 a + vS hs (l.map nOf) a)
    rw [vl_app, vS_tkn a l hs]
    by_cases z : nOf d = 0
    · rw [z, if_neg (by decide)]
      show 0 + _ = -(0 * _ + _)
      rw [Int.zero_mul, Int.zero_add, Int.zero_add]
    · rw [if_pos (by rw [decide_eq_false (fun q => z (V.int.inj q))]; rfl)]
      show (-(nOf d) * coef h.f.2 a + 0) + _ = _
      rw [Int.neg_mul]
      omega
theorem vals34 {B : Addr → Prop} {H : Hp} : ∀ {l : List Da} {zs : List V}, EncsB B H l zs → l.all isInt = true → zs = (l.map nOf).map V.int
  | [], _, .nil, _ => rfl
  | d :: l, _, .cons e t, h => by
    rw [List.all_cons, Bool.and_eq_true] at h
    have q := isInt_int h.1
    rw [q] at e
    rw [List.map_cons, List.map_cons, ← vals34 t h.2]
    cases e
    rfl
theorem walkIt {d : Addr} {o : Obj} {kvs : List (List Key × V)} : Walk (Itit d o kvs) kvs.length (fun H => H d = some (.frz o (.dT kvs)))
    (fun i H x H' => ∃ T k v q, kvs[i]? = some (k, v) ∧ x = .ref T ∧ H T = none ∧ H q = some (.tup (k.map kV)) ∧ H' = L2.upd H T (.tup [.ref q, v])) :=
  ⟨fun _ _ hi q => ⟨q, hi⟩, fun _ q => ⟨q, Nat.le_refl _⟩, fun _ _ _ _ _ _ y => y⟩
theorem okV_bad {ns : List Int} {a : A3} {v : Int} (o : OkA a) : okV ns a v = !(decide (v < 0) || (decide (0 < v) && (decide (V.int a.1 = V.int 0) && !inV (.int a.2.2) (ns.map V.int)))) := by
  unfold okV flo
  have e0 : decide (V.int a.1 = V.int 0) = !decide (V.int a.1 = V.int 1) := by
    rcases o.k with ⟨h, _⟩ | ⟨h, _⟩ <;> rw [h] <;> decide
  rw [e0]
  rcases Int.lt_trichotomy v 0 with h | h | h
  · rw [decide_eq_true h, decide_eq_false (show ¬ v = 0 by omega), decide_eq_false (show ¬ 0 < v by omega)]
    rfl
  · rw [h]
    rfl
  · rw [decide_eq_false (show ¬ v < 0 by omega), decide_eq_false (show ¬ v = 0 by omega), decide_eq_true h]
    cases decide (V.int a.1 = V.int 1) <;> cases inV (.int a.2.2) (ns.map V.int) <;> rfl
theorem nil34 : ([] : List V).length ≤ sizeLine := Nat.zero_le _
section
variable {P : Program} {w : World} {K : PySem.W.Frag} {mg : Str → Option Value} {base : Heap}
theorem ok_lshows {f fI fR : Addr} {fd fdI fdR : FuncData} (F : Fun K "_law_shows" "_law_shows" sLs f fd) (N : Gn K mg) (G : Gk mg)
    (GI : FnOk P w K mg base CX0 1 fI fdI ["_law_x"] (spF isInt)) (DI : Df K mg "_law_int" ["_law_x"] fI fdI)
    (GR : FnOk P w K mg base CX0 1 fR fdR ["_law_goal", "_law_hints", "_law_scale", "_law_multipliers"] spRe) (DR : Df K mg "_law_rest" ["_law_goal", "_law_hints", "_law_scale", "_law_multipliers"] fR fdR) :
    FnOk P w K mg base CX0 2 f fd ["_law_never", "_law_goal", "_law_hints", "_law_thing"] spSw := by
  refine F.ok (k := 1) cLs (fun vs H Q E h => ?_) (fun cdv A outer s H vs Q E hr h => ?_)
  · obtain ⟨_, _, _, _, _, _, _, _, _, rfl, _⟩ := h
    rfl
  · obtain ⟨xn, xg, xh, xd, U, ns, goal, hs, d, rfl, en, eg, eh, ed, gi, sm, k⟩ := h
    have hu1 := Nat.lt_of_succ_lt (hu_of hr)
    refine ⟨_, (pss_cons (ps_if (PW.pt (pw_or (pt_not (pt_val (pe_callB call_isi (by rfl) N.nI boot_isinstance (pa_cons (pv 3) (pa_cons (pe_bltn (v := .ty "tuple") rfl N.nt (by decide +kernel) rfl) pa_nil))))) (pw_or (pt_cmpR op_ne (pe_callB call_len_seq (by rfl) N.nl PySem.boot_len (pa_cons (pv 3) pa_nil)) pe_int (nomark _)) (pw_or (pt_not (pt_val (pe_call (GI.mono (by decide)) hr (by rfl) DI.g DI.k DI.b .nil pass0 (pa_cons (pe_ix ix_tup (pv 3) pe_int (fun _ _ => rfl)) pa_nil)))) (pw_or1 (pt_cmpR op_lt (pe_ix ix_tup (pv 3) pe_int (fun _ _ => rfl)) pe_int (nomark _))))))) (pss_one (ps_ret pe_bl)) pss_nil) (pss_cons (ps_if (PW.pt (pw_or (pt_not (pt_val (pe_callB call_isi (by rfl) N.nI boot_isinstance (pa_cons (pe_ix ix_tup (pv 3) pe_int (fun _ _ => rfl)) (pa_cons (pe_bltn (v := .ty "tuple") rfl N.nt (by decide +kernel) rfl) pa_nil))))) (pw_or (pt_cmpR op_ne (pe_callB call_len_seq (by rfl) N.nl PySem.boot_len (pa_cons (pe_ix ix_tup (pv 3) pe_int (fun _ _ => rfl)) pa_nil)) (pe_callB call_len_seq (by rfl) N.nl PySem.boot_len (pa_cons (pv 2) pa_nil)) (nomark _)) (pw_or1 (pt_not (pt_val (pe_callB (cr_all (by rfl)) (by rfl) N.na (by decide +kernel) (pa_cons (pe_lc (own := [("_law_by_here", 4)]) (g := gName 4) (tt := tYes) (by rfl) cLs.nd (pi_tup (pe_ix ix_tup (pv 3) pe_int (fun _ _ => rfl))) (blkOk_by (own := [("_law_by_here", 4)]) (N := ["_law_never", "_law_goal", "_law_hints", "_law_thing", "_law_by_here", "_law_hint", "_law_const", "_law_sums", "_law_atom", "_law_times"]) (sc := defScope sLs) (by decide +kernel)) (fun _ _ _ _ _ => (pg_name (i := 4) cLs.nd rfl (Or.inl rfl))) (fun _ _ _ _ _ => pts_nil) (fun _ _ _ _ _ => (pe_call (GI.mono (by decide)) hr (by rfl) DI.g DI.k DI.b .nil pass0 (pa_cons (pv 4) pa_nil)))) pa_nil)))))))) (pss_one (ps_ret pe_bl)) pss_nil) (pss_cons (ps_if (pt_cmpR (op_neNil hu1) (pe_lc (own := [("_law_by_here", 4), ("_law_hint", 5)]) (g := gTup K 2 (gCons (gName 5) (gCons (gName 4) gNil))) (by rfl) cLs.nd (pi_zipA (by rfl) G.zip (pa_cons (pv 2) (pa_cons (pe_ix ix_tup (pv 3) pe_int (fun _ _ => rfl)) pa_nil))) (blkOk_by (own := [("_law_by_here", 4), ("_law_hint", 5)]) (N := ["_law_never", "_law_goal", "_law_hints", "_law_thing", "_law_by_here", "_law_hint", "_law_const", "_law_sums", "_law_atom", "_law_times"]) (sc := defScope sLs) (by decide +kernel)) (fun _ _ _ _ _ => (pg_tup (by rfl) (pgs_cons (pg_name (i := 5) cLs.nd rfl (Or.inl rfl)) (pgs_cons (pg_name (i := 4) cLs.nd rfl (Or.inl rfl)) pgs_nil)))) (fun _ _ _ _ _ => (pts_one (PW.pt (pw_and (pt_cmpR op_lt (pv 4) pe_int (nomark _)) (pw_and1 (pt_not (pt_val (pe_ix (r := rIxT K) ix_tup (pv 5) pe_int (fun _ _ => rfl))))))))) (fun _ _ _ _ _ => (pv 5))) (pe_lst pa_nil) (nomark _)) (pss_one (ps_ret pe_bl)) pss_nil) (pss_cons (ps_asg (pe_call (GR.mono (by decide)) hr (by rfl) DR.g DR.k DR.b .nil pass0 (pa_cons (pv 1) (pa_cons (pv 2) (pa_cons (pe_ix ix_tup (pv 3) pe_int (fun _ _ => rfl)) (pa_cons (pe_ix ix_tup (pv 3) pe_int (fun _ _ => rfl)) pa_nil))))) (pg_unl (by rfl) (pgs_cons (pg_name (i := 6) cLs.nd rfl (Or.inl rfl)) (pgs_cons (pg_name (i := 7) cLs.nd rfl (Or.inl rfl)) pgs_nil)))) (pss_cons (ps_if (pt_cmpR op_lt (pv 6) (pe_callTy call_int1 (by rfl) N.ni (by decide +kernel) (pa_cons (pe_cmpR op_eq (pe_ix ix_tup (pv 3) pe_int (fun _ _ => rfl)) pe_int (nomark _)) pa_nil)) (nomark _)) (pss_one (ps_ret pe_bl)) pss_nil) (pss_cons (ps_lock (ps_for PassesOwn.never rfl (pi_itemsT (pv 7)) (pg_tup (by rfl) (pgs_cons (pg_name (i := 8) cLs.nd rfl (Or.inl rfl)) (pgs_cons (pg_name (i := 9) cLs.nd rfl (Or.inl rfl)) pgs_nil))) (pss_one (ps_if (PW.pt (pw_or (pt_cmpR op_lt (pv 9) pe_int (nomark _)) (pw_or1 (PW.pt (pw_and (pt_cmpR op_gt (pv 9) pe_int (nomark _)) (pw_and (pt_cmpR op_eq (pe_ix ix_tup (pv 8) pe_int (fun _ _ => rfl)) pe_int (nomark _)) (pw_and1 (pt_cmpR op_notIn_seq (pe_ix ix_tup (pv 8) pe_int (fun _ _ => rfl)) (pv 0) (by rfl))))))))) (pss_one (ps_ret pe_bl)) pss_nil)))) (pss_one (ps_ret pe_bl)))))))), ?_⟩
    have hl := gi.l
    have kF : isSh hs d = false → Q (.bl false) H := fun e => by
      have z := k H (Grow.refl H)
      unfold showsB at z
      rw [e] at z
      exact z
    obtain ⟨_, _, _, kT⟩ := kitD d
    refine ⟨_, rfl, _, _, _, _, _, rfl, .ty "tuple", ed.ty, kit_ty kT, _, rfl, ?_⟩
    cases ed with
    | non => exact iteT (kF rfl)
    | bl b => exact iteT (kF rfl)
    | int i => exact iteT (kF rfl)
    | str s hs => exact iteT (kF rfl)
    | lst h e => exact iteT (kF rfl)
    | @tup p xs l0 hp es =>
    have lx := es.length
    refine iteF ⟨_, rfl, p, xs, rfl, .inr (SqT.of hp), rfl, _, rfl, ?_⟩
    by_cases h2 : l0.length = 2
    case neg =>
      have z : isSh hs (.tup l0) = false := by
        unfold isSh
        rw [show isTu 2 2 (.tup l0) = false by
          show (decide ((2 : Int) ≤ (l0.length : Int)) && decide ((l0.length : Int) ≤ 2)) = false
          by_cases q : (2 : Int) ≤ (l0.length : Int)
          · rw [decide_eq_false (show ¬ (l0.length : Int) ≤ 2 by omega), Bool.and_false]
          · rw [decide_eq_false q, Bool.false_and], Bool.false_and]
      rw [decide_eq_false (fun q => h2 (by have q := V.int.inj q; omega))]
      exact iteT (kF z)
    rw [decide_eq_true (show V.int ((xs.length : Nat) : Int) = V.int 2 by rw [← lx, h2]; rfl)]
    match l0, h2, es with
    | [a, b], _, .cons (x := x0) e0 (.cons (x := x1) e1 .nil) =>
    have tu : isTu 2 2 (Da.tup [a, b]) = true := rfl
    refine iteF ⟨_, rfl, p, _, _, _, rfl, rfl, SqT.of hp, at_of (j := 0) rfl rfl, x0, a, rfl, e0, _, rfl, ?_⟩
    cases h3 : isInt a with
    | false => exact iteT (kF (by unfold isSh; rw [tu, show kid (Da.tup [a, b]) 0 = a from rfl, h3]; rfl))
    | true =>
    have ea := isInt_int h3
    rw [ea] at e0
    have ex0 : x0 = .int (nOf a) := by cases e0; rfl
    subst ex0
    refine iteF ⟨_, rfl, p, _, _, _, rfl, rfl, SqT.of hp, at_of (j := 0) rfl rfl, _, _, rfl, rfl, _, rfl, ?_⟩
    by_cases h4 : nOf a < 0
    · exact ifT h4 (kF (by unfold isSh; rw [tu, show kid (Da.tup [a, b]) 0 = a from rfl, h3, decide_eq_false (show ¬ 0 ≤ nOf a by omega)]; rfl))
    refine ifF h4 ?_
    obtain ⟨_, _, _, kT1⟩ := kitD b
    refine ⟨_, rfl, p, _, _, _, rfl, rfl, SqT.of hp, at_of (j := 1) rfl rfl, _, _, _, _, _, rfl, .ty "tuple", e1.ty, kit_ty kT1, _, rfl, ?_⟩
    have kG : (isTu hs.length hs.length b && ((kids b).all isInt && okM hs (kids b))) = false → ∀ H', Grow H H' → Q (.bl false) H' := fun e H' g => by
      have z := k H' g
      unfold showsB isSh at z
      rw [show kid (Da.tup [a, b]) 1 = b from rfl, e, Bool.and_false, Bool.and_false, Bool.and_false, Bool.false_and] at z
      exact z
    cases e1 with
    | non => exact iteT (kG rfl _ (Grow.refl H))
    | bl b => exact iteT (kG rfl _ (Grow.refl H))
    | int i => exact iteT (kG rfl _ (Grow.refl H))
    | str s hs => exact iteT (kG rfl _ (Grow.refl H))
    | lst h e => exact iteT (kG rfl _ (Grow.refl H))
    | @tup r zs l hz ezs =>
    have lz := ezs.length
    cases eh with
    | @tup q ys _ hq eys =>
    have ly := eys.length
    rw [List.length_map] at ly
    refine iteF ⟨_, rfl, p, _, _, _, rfl, rfl, SqT.of hp, at_of (j := 1) rfl rfl, r, zs, rfl, .inr (SqT.of hz), _, rfl, q, ys, rfl, .inr (SqT.of hq), rfl, _, rfl, ?_⟩
    by_cases h5 : l.length = hs.length
    case neg =>
      rw [decide_eq_false (fun q => h5 (by have q := V.int.inj q; omega))]
      refine iteT (kG ?_ _ (Grow.refl H))
      rw [show isTu hs.length hs.length (.tup l) = false by
        show (decide ((hs.length : Int) ≤ (l.length : Int)) && decide ((l.length : Int) ≤ (hs.length : Int))) = false
        by_cases q : (hs.length : Int) ≤ (l.length : Int)
        · rw [decide_eq_false (show ¬ (l.length : Int) ≤ (hs.length : Int) by omega), Bool.and_false]
        · rw [decide_eq_false q, Bool.false_and], Bool.false_and]
    rw [decide_eq_true (show V.int ((zs.length : Nat) : Int) = V.int ((ys.length : Nat) : Int) by rw [← lz, ← ly, h5])]
    have tn : isTu hs.length hs.length (.tup l) = true := isTu_true (by omega) (by omega)
    rw [tn, Bool.true_and] at kG
    refine iteF ⟨_, rfl, p, _, _, _, rfl, rfl, SqT.of hp, at_of (j := 1) rfl rfl, r, rfl, ⟨_, SqT.of hz⟩, fun D hD => ?_⟩
    refine lc_tup (xs := zs) (fun i Hc => Hc D = some (.lst (((l.take i).map isInt).map V.bl)) ∧ Grow H Hc) ⟨upd_same, Grow.new hD⟩ (fun i Hc _ hv => SqT.of (hv.2.tup hz)) (fun i z Hc hzz hy => ?_) (fun H1 hy => ?_)
    · obtain ⟨hacc, g⟩ := hy
      obtain ⟨dd, hdd, ez⟩ := ezs.get hzz
      refine ⟨wipe_set, ?_⟩
      unfold tYes
      refine iteT ⟨_, rfl, z, dd, rfl, ez.grow g, _, hacc, ?_, ?_, g.upd' hD⟩
      · rw [List.length_map, List.length_map, List.length_take, sizeLine_eq]
        omega
      · rw [upd_same, List.take_succ, hdd, List.map_append, List.map_append]
        rfl
    · obtain ⟨hacc, g1⟩ := hy
      rw [← lz, List.take_length] at hacc
      refine ⟨D, _, rfl, SqL.of hacc, ?_⟩
      rw [map_all]
      cases h6 : l.all isInt with
      | false => exact ⟨_, rfl, iteT (kG (by rw [show (kids (Da.tup l)).all isInt = false from h6]; rfl) _ g1)⟩
      | true =>
      rw [show (kids (Da.tup l)).all isInt = true from h6, Bool.true_and, show kids (Da.tup l) = l from rfl] at kG
      refine ⟨_, rfl, iteF ?_⟩
      refine ⟨_, rfl, _, rfl, p, _, _, _, rfl, rfl, SqT.of (g1.tup hp), at_of (j := 1) rfl rfl, q, r, ys, zs, rfl, .inr ⟨SqT.of (g1.tup hq), SqT.of (g1.tup hz), fun D2 hD2 => ?_⟩⟩
      refine lc_it (walk34 (xs := ys) (ys := zs) (n := hs.length) (by omega) (by omega) (by omega)) (fun i Hc => ∃ acc, Hc D2 = some (.lst acc) ∧ acc.isEmpty = okM (hs.take i) (l.take i) ∧ acc.length ≤ i ∧ Grow H1 Hc)
        ⟨[], upd_same, rfl, Nat.le_refl _, Grow.new hD2⟩ (fun i Hc _ hv => by
          obtain ⟨_, _, _, _, g2⟩ := hv
          exact ⟨SqT.of ((g1.trans g2).tup hq), SqT.of ((g1.trans g2).tup hz)⟩) (fun i z Hc H' hi hv y => ?_) (fun H2 hv => ?_)
      · obtain ⟨T, y1, y2, rfl, hT, rfl, f1, f2⟩ := y
        obtain ⟨acc, hacc2, hemp, hlen, g2⟩ := hv
        have f1 : ys[i]? = some y1 := f1
        have f2 : zs[i]? = some y2 := f2
        obtain ⟨dh, hdh, ey⟩ := eys.get f1
        obtain ⟨h, hh, rfl⟩ := map_get hdh
        obtain ⟨dd, hdd, ez⟩ := ezs.get f2
        have hi5 := isInt_int (List.all_eq_true.mp h6 dd (List.mem_of_getElem? hdd))
        have etk : okM (hs.take (i + 1)) (l.take (i + 1)) = (okM (hs.take i) (l.take i) && (h.ex || decide (0 ≤ nOf dd))) := by
          rw [List.take_succ, List.take_succ, hh, hdd]
          exact okM_snoc h dd (by rw [List.length_take, List.length_take, h5])
        rw [hi5] at ez
        cases ez
        cases ey with
        | @tup b1 ws _ hb1 eb1 =>
        cases eb1 with
        | @cons _ w0 _ _ k0 eb1 =>
        cases eb1 with
        | @cons _ w1 _ _ k1 eb1 =>
        cases eb1 with
        | @cons _ w2 _ _ k2 eb1 =>
        cases eb1
        cases k1
        have nT : T ≠ D2 := fun z => by rw [z, hacc2] at hT; cases hT
        have g3 := g2.upd' (none_of g2 hT) (o := .tup [.ref b1, .int (nOf dd)])
        have hac3 : L2.upd Hc T (.tup [.ref b1, .int (nOf dd)]) D2 = some (.lst acc) := by
          rw [upd_ne (Ne.symm nT)]
          exact hacc2
        have same : (h.ex || decide (0 ≤ nOf dd)) = true → ∃ acc, L2.upd Hc T (.tup [.ref b1, .int (nOf dd)]) D2 = some (.lst acc) ∧ acc.isEmpty = okM (hs.take (i + 1)) (l.take (i + 1)) ∧ acc.length ≤ i + 1 ∧ Grow H1 (L2.upd Hc T (.tup [.ref b1, .int (nOf dd)])) := fun e =>
          ⟨acc, hac3, by rw [etk, e, Bool.and_true]; exact hemp, Nat.le_succ_of_le hlen, g3⟩
        refine ⟨T, _, rfl, SqT.of upd_same, rfl, _, _, rfl, _, _, rfl, rfl, rfl, ?_⟩
        refine ⟨_, rfl, _, _, rfl, rfl, _, rfl, ?_⟩
        by_cases hx : nOf dd < 0
        · refine ifT hx ⟨_, rfl, b1, _, _, _, rfl, rfl, SqT.of ((g1.trans g3).tup hb1), at_of (j := 1) rfl rfl, _, rfl, ?_⟩
          cases hex : h.ex with
          | true => exact iteF (same (by rw [hex]; rfl))
          | false =>
            refine iteT ⟨_, rfl, acc, hac3, by rw [sizeLine_eq]; omega, acc ++ [.ref b1], upd_same, ?_, by rw [List.length_append]; exact Nat.add_le_add_right hlen 1, g3.upd' hD2⟩
            rw [etk, hex, decide_eq_false (show ¬ 0 ≤ nOf dd by omega)]
            show (acc ++ [V.ref b1]).isEmpty = (_ && false)
            rw [Bool.and_false]
            cases acc <;> rfl
        · exact ifF hx (same (by rw [decide_eq_true (show 0 ≤ nOf dd by omega), Bool.or_true]))
      · obtain ⟨acc, hacc2, hemp, hlen, g2⟩ := hv
        rw [List.take_length, List.take_of_length_le (l := l) (i := hs.length) (by omega)] at hemp
        have g12 := g1.trans g2
        refine ⟨nil34, fun q2 hq2 => ?_⟩
        have nD2 : D2 ≠ q2 := fun z => by rw [← z, hacc2] at hq2; cases hq2
        have g3 := g12.upd' (none_of g12 hq2) (o := .lst [])
        refine ⟨D2, q2, acc, rfl, rfl, SqL.of (by rw [upd_ne nD2]; exact hacc2), SqL.of upd_same, _, rfl, ?_⟩
        cases h7 : okM hs l with
        | false =>
          rw [hemp, h7]
          exact iteT (kG h7 _ g3)
        | true =>
        rw [hemp, h7]
        refine iteF ?_
        have ezv := vals34 ezs h6
        have hz' : H r = some (.tup ((l.map nOf).map V.int)) := by rw [hz, ezv]
        have sm1 : Sm (nOf a) := sm.1
        have sm2 : ∀ e ∈ l, Sm (nOf e) := sm.2
        refine ⟨_, rfl, _, rfl, _, rfl, p, _, _, _, rfl, rfl, SqT.of (g3.tup hp), at_of (j := 0) rfl rfl, _, rfl, p, _, _, _, rfl, rfl, SqT.of (g3.tup hp), at_of (j := 1) rfl rfl, ?_⟩
        refine ⟨xg, q, r, nOf a, ys, U, goal, hs, l.map nOf, rfl, eg.grow g3, .inl ⟨g3.tup hq, g3.tup hz'⟩, EncsB.grow g3 eys, gi.u, gi.g, gi.h, by rw [List.length_map, h5], sm1, fun m hm => ?_, fun H4 rr d2 eT g4 hrr hd2 hdn3 hrn ndr tb hv => ?_⟩
        · obtain ⟨e, he, rfl⟩ := List.mem_map.mp hm
          exact sm2 e he
        have g4' := g3.trans g4
        have hdn := none_of g3 hdn3
        have eC : cst (psOf goal hs (.tup [a, .tup l])) = nOf a * goal.1 - cS hs (l.map nOf) := by
          show nOf a * goal.1 + cst (tkn l hs) = _
          rw [cS_tkn]
          omega
        have eV : ∀ a', vl (psOf goal hs (.tup [a, .tup l])) a' = dV eT a' := fun a' => by
          show nOf a * coef goal.2 a' + vl (tkn l hs) a' = _
          rw [vS_tkn, hv a']
          omega
        have hshow : isSh hs (.tup [a, .tup l]) = true := by
          unfold isSh
          rw [tu, show kid (Da.tup [a, .tup l]) 0 = a from rfl, show kid (Da.tup [a, .tup l]) 1 = .tup l from rfl, h3, decide_eq_true (show 0 ≤ nOf a by omega), tn, show kids (Da.tup l) = l from rfl, h6, h7]
          rfl
        have k0 : ∀ H', Grow H H' → Q (.bl (decide (¬ cst (psOf goal hs (.tup [a, .tup l])) < (if nOf a = 0 then 1 else 0)) && U.all fun a' => okV ns a' (vl (psOf goal hs (.tup [a, .tup l])) a'))) H' := fun H' g => by
          have z := k H' g
          unfold showsB at z
          rw [hshow, Bool.true_and] at z
          exact z
        cases en with
        | @tup pn nv _ hpn ens =>
        have env := ints_vals ens
        subst env
        have hxn : True := trivial
        refine ⟨rr, _, rfl, SqL.of hrr, rfl, _, _, rfl, _, _, rfl, rfl, ?_⟩
        refine ⟨_, rfl, _, rfl, p, _, _, _, rfl, rfl, SqT.of (g4'.tup hp), at_of (j := 0) rfl rfl, rfl, .inr ⟨_, rfl, _, _, rfl, rfl, _, rfl, ?_⟩⟩
        by_cases hz0 : nOf a = 0
        · rw [if_pos hz0] at k0
          rw [if_pos (show decide (V.int (nOf a) = V.int 0) = true by rw [hz0]; rfl)]
          by_cases hlt : nOf a * goal.1 - cS hs (l.map nOf) < 1
          · refine ifT hlt ?_
            have z := k0 H4 g4'
            rw [eC, decide_eq_false (show ¬ ¬ nOf a * goal.1 - cS hs (l.map nOf) < 1 from fun w => w hlt), Bool.false_and] at z
            exact z
          refine ifF hlt ⟨d2, .dT (dA eT), hd2, trivial, fun od => ⟨_, rfl, d2, od, dA eT, rfl, upd_same, ?_⟩⟩
          have hlenA : (dA eT).length = eT.length := List.length_map ..
          refine for_it (walkIt (d := d2) (o := od) (kvs := dA eT)) (fun i σ' Hc => ∃ v8 v9, σ' = [some (.ref pn), some xg, some (.ref q), some (.ref p), none, none, some (.int (nOf a * goal.1 - cS hs (l.map nOf))), some (.ref d2), v8, v9] ∧ Hc d2 = some (.frz od (.dT (dA eT))) ∧ (∀ e ∈ eT.take i, okV ns e.1 e.2 = true) ∧ Grow H Hc)
            ⟨_, _, rfl, upd_same, fun _ z => absurd z List.not_mem_nil, g4'.upd' hdn⟩ (fun i σ' Hc _ hv2 => by
              obtain ⟨_, _, _, h1, _⟩ := hv2
              exact h1) (fun i z σ' Hc H' hi hv2 y => ?_) (fun σ' Hc hv2 => ?_)
          · obtain ⟨T, kk, v, tq, hkv, rfl, hT, htq, rfl⟩ := y
            obtain ⟨v8, v9, rfl, hdz, hok, g5⟩ := hv2
            rw [show (dA eT)[i]? = (eT[i]?).map fun e => (kA e.1, V.int e.2) from List.getElem?_map ..] at hkv
            cases he : eT[i]? with
            | none => rw [he] at hkv; cases hkv
            | some e =>
            rw [he] at hkv
            cases hkv
            have hme := List.mem_of_getElem? he
            have eU := tb.sub e hme
            have nTd : d2 ≠ T := fun z => by rw [← z, hdz] at hT; cases hT
            have g6 := g5.upd' (none_of g5 hT) (o := .tup [.ref tq, .int e.2])
            have htq2 : L2.upd Hc T (.tup [.ref tq, .int e.2]) tq = some (.tup ((il e.1).map V.int)) := keep_new hT _ _ htq
            have hd6 : L2.upd Hc T (.tup [.ref tq, .int e.2]) d2 = some (.frz od (.dT (dA eT))) := by rw [upd_ne nTd]; exact hdz
            have ob := okV_bad (ns := ns) (v := e.2) (gi.u.ok _ eU)
            have ev : vl (psOf goal hs (.tup [a, .tup l])) e.1 = e.2 := by
              rw [eV]
              unfold dV
              rw [dLk_mem tb.nd hme]
              rfl
            have bad : okV ns e.1 e.2 = false → Q (.bl false) (L2.upd (L2.upd Hc T (.tup [.ref tq, .int e.2])) d2 (.dT (dA eT))) := fun z => by
              have w := k0 _ (g6.upd' hdn (o := .dT (dA eT)))
              have u : (U.all fun a' => okV ns a' (vl (psOf goal hs (.tup [a, .tup l])) a')) = false := by
                rw [← Bool.not_eq_true, List.all_eq_true]
                intro w
                have w := w _ eU
                rw [ev, z] at w
                cases w
              rw [u, Bool.and_false] at w
              exact w
            have good : okV ns e.1 e.2 = true → ∃ v8 v9, ([some (.ref pn), some xg, some (.ref q), some (.ref p), none, none, some (.int (nOf a * goal.1 - cS hs (l.map nOf))), some (.ref d2), some (.ref tq), some (.int e.2)] : L2.St) = [some (.ref pn), some xg, some (.ref q), some (.ref p), none, none, some (.int (nOf a * goal.1 - cS hs (l.map nOf))), some (.ref d2), v8, v9] ∧ (L2.upd Hc T (.tup [.ref tq, .int e.2])) d2 = some (.frz od (.dT (dA eT))) ∧ (∀ e ∈ eT.take (i + 1), okV ns e.1 e.2 = true) ∧ Grow H (L2.upd Hc T (.tup [.ref tq, .int e.2])) := fun z =>
              ⟨_, _, rfl, hd6, fun e' he' => by
                rw [List.take_succ, he] at he'
                rcases List.mem_append.mp he' with w | w
                · exact hok e' w
                · rw [List.mem_singleton.mp w]
                  exact z, g6⟩
            refine ⟨T, _, rfl, SqT.of upd_same, rfl, _, _, rfl, _, _, rfl, rfl, ?_⟩
            refine ⟨_, rfl, _, _, rfl, rfl, _, rfl, ?_⟩
            by_cases c1 : e.2 < 0
            · refine ifT c1 ⟨hd6, bad ?_⟩
              rw [ob, decide_eq_true c1]
              rfl
            rw [decide_eq_false c1, Bool.false_or] at ob
            refine ifF c1 ⟨_, rfl, _, _, rfl, rfl, _, rfl, ?_⟩
            by_cases c2 : 0 < e.2
            case neg =>
              rw [decide_eq_false c2, Bool.false_and] at ob
              exact ifF c2 (good ob)
            rw [decide_eq_true c2, Bool.true_and] at ob
            refine ifT c2 ⟨_, rfl, tq, _, _, _, rfl, rfl, SqT.of htq2, at_of (j := 0) rfl rfl, rfl, _, rfl, ?_⟩
            by_cases c3 : V.int e.1.1 = V.int 0
            case neg =>
              rw [decide_eq_false c3, Bool.false_and] at ob
              exact ifF c3 (good ob)
            rw [decide_eq_true c3, Bool.true_and] at ob
            refine ifT c3 ⟨_, rfl, tq, _, _, _, rfl, rfl, SqT.of htq2, at_of (j := 2) rfl rfl, _, rfl, pn, _, rfl, .inr (SqT.of (g6.tup hpn)), rfl, ints_flat ns, _, rfl, ?_⟩
            cases c4 : inV (.int e.1.2.2) (ns.map V.int) with
            | true =>
              rw [c4] at ob
              exact iteF (good ob)
            | false =>
              rw [c4] at ob
              exact iteT ⟨hd6, bad ob⟩
          · obtain ⟨v8, v9, rfl, hdz, hok, g5⟩ := hv2
            rw [hlenA, List.take_length] at hok
            refine ⟨hdz, ?_⟩
            have w := k0 _ (g5.upd' hdn (o := .dT (dA eT)))
            have u : (U.all fun a' => okV ns a' (vl (psOf goal hs (.tup [a, .tup l])) a')) = true := by
              rw [List.all_eq_true]
              intro a' ha'
              rw [eV]
              unfold dV
              cases hk : dLk eT a' with
              | none => rfl
              | some n => exact hok _ (dLk_some hk)
            rw [eC, decide_eq_true (show ¬ nOf a * goal.1 - cS hs (l.map nOf) < 1 from hlt), u] at w
            exact w
        · rw [if_neg hz0] at k0
          rw [if_neg (show ¬ decide (V.int (nOf a) = V.int 0) = true from fun z => hz0 (V.int.inj (of_decide_eq_true z)))]
          by_cases hlt : nOf a * goal.1 - cS hs (l.map nOf) < 0
          · refine ifT hlt ?_
            have z := k0 H4 g4'
            rw [eC, decide_eq_false (show ¬ ¬ nOf a * goal.1 - cS hs (l.map nOf) < 0 from fun w => w hlt), Bool.false_and] at z
            exact z
          refine ifF hlt ⟨d2, .dT (dA eT), hd2, trivial, fun od => ⟨_, rfl, d2, od, dA eT, rfl, upd_same, ?_⟩⟩
          have hlenA : (dA eT).length = eT.length := List.length_map ..
          refine for_it (walkIt (d := d2) (o := od) (kvs := dA eT)) (fun i σ' Hc => ∃ v8 v9, σ' = [some (.ref pn), some xg, some (.ref q), some (.ref p), none, none, some (.int (nOf a * goal.1 - cS hs (l.map nOf))), some (.ref d2), v8, v9] ∧ Hc d2 = some (.frz od (.dT (dA eT))) ∧ (∀ e ∈ eT.take i, okV ns e.1 e.2 = true) ∧ Grow H Hc)
            ⟨_, _, rfl, upd_same, fun _ z => absurd z List.not_mem_nil, g4'.upd' hdn⟩ (fun i σ' Hc _ hv2 => by
              obtain ⟨_, _, _, h1, _⟩ := hv2
              exact h1) (fun i z σ' Hc H' hi hv2 y => ?_) (fun σ' Hc hv2 => ?_)
          · obtain ⟨T, kk, v, tq, hkv, rfl, hT, htq, rfl⟩ := y
            obtain ⟨v8, v9, rfl, hdz, hok, g5⟩ := hv2
            rw [show (dA eT)[i]? = (eT[i]?).map fun e => (kA e.1, V.int e.2) from List.getElem?_map ..] at hkv
            cases he : eT[i]? with
            | none => rw [he] at hkv; cases hkv
            | some e =>
            rw [he] at hkv
            cases hkv
            have hme := List.mem_of_getElem? he
            have eU := tb.sub e hme
            have nTd : d2 ≠ T := fun z => by rw [← z, hdz] at hT; cases hT
            have g6 := g5.upd' (none_of g5 hT) (o := .tup [.ref tq, .int e.2])
            have htq2 : L2.upd Hc T (.tup [.ref tq, .int e.2]) tq = some (.tup ((il e.1).map V.int)) := keep_new hT _ _ htq
            have hd6 : L2.upd Hc T (.tup [.ref tq, .int e.2]) d2 = some (.frz od (.dT (dA eT))) := by rw [upd_ne nTd]; exact hdz
            have ob := okV_bad (ns := ns) (v := e.2) (gi.u.ok _ eU)
            have ev : vl (psOf goal hs (.tup [a, .tup l])) e.1 = e.2 := by
              rw [eV]
              unfold dV
              rw [dLk_mem tb.nd hme]
              rfl
            have bad : okV ns e.1 e.2 = false → Q (.bl false) (L2.upd (L2.upd Hc T (.tup [.ref tq, .int e.2])) d2 (.dT (dA eT))) := fun z => by
              have w := k0 _ (g6.upd' hdn (o := .dT (dA eT)))
              have u : (U.all fun a' => okV ns a' (vl (psOf goal hs (.tup [a, .tup l])) a')) = false := by
                rw [← Bool.not_eq_true, List.all_eq_true]
                intro w
                have w := w _ eU
                rw [ev, z] at w
                cases w
              rw [u, Bool.and_false] at w
              exact w
            have good : okV ns e.1 e.2 = true → ∃ v8 v9, ([some (.ref pn), some xg, some (.ref q), some (.ref p), none, none, some (.int (nOf a * goal.1 - cS hs (l.map nOf))), some (.ref d2), some (.ref tq), some (.int e.2)] : L2.St) = [some (.ref pn), some xg, some (.ref q), some (.ref p), none, none, some (.int (nOf a * goal.1 - cS hs (l.map nOf))), some (.ref d2), v8, v9] ∧ (L2.upd Hc T (.tup [.ref tq, .int e.2])) d2 = some (.frz od (.dT (dA eT))) ∧ (∀ e ∈ eT.take (i + 1), okV ns e.1 e.2 = true) ∧ Grow H (L2.upd Hc T (.tup [.ref tq, .int e.2])) := fun z =>
              ⟨_, _, rfl, hd6, fun e' he' => by
                rw [List.take_succ, he] at he'
                rcases List.mem_append.mp he' with w | w
                · exact hok e' w
                · rw [List.mem_singleton.mp w]
                  exact z, g6⟩
            refine ⟨T, _, rfl, SqT.of upd_same, rfl, _, _, rfl, _, _, rfl, rfl, ?_⟩
            refine ⟨_, rfl, _, _, rfl, rfl, _, rfl, ?_⟩
            by_cases c1 : e.2 < 0
            · refine ifT c1 ⟨hd6, bad ?_⟩
              rw [ob, decide_eq_true c1]
              rfl
            rw [decide_eq_false c1, Bool.false_or] at ob
            refine ifF c1 ⟨_, rfl, _, _, rfl, rfl, _, rfl, ?_⟩
            by_cases c2 : 0 < e.2
            case neg =>
              rw [decide_eq_false c2, Bool.false_and] at ob
              exact ifF c2 (good ob)
            rw [decide_eq_true c2, Bool.true_and] at ob
            refine ifT c2 ⟨_, rfl, tq, _, _, _, rfl, rfl, SqT.of htq2, at_of (j := 0) rfl rfl, rfl, _, rfl, ?_⟩
            by_cases c3 : V.int e.1.1 = V.int 0
            case neg =>
              rw [decide_eq_false c3, Bool.false_and] at ob
              exact ifF c3 (good ob)
            rw [decide_eq_true c3, Bool.true_and] at ob
            refine ifT c3 ⟨_, rfl, tq, _, _, _, rfl, rfl, SqT.of htq2, at_of (j := 2) rfl rfl, _, rfl, pn, _, rfl, .inr (SqT.of (g6.tup hpn)), rfl, ints_flat ns, _, rfl, ?_⟩
            cases c4 : inV (.int e.1.2.2) (ns.map V.int) with
            | true =>
              rw [c4] at ob
              exact iteF (good ob)
            | false =>
              rw [c4] at ob
              exact iteT ⟨hd6, bad ob⟩
          · obtain ⟨v8, v9, rfl, hdz, hok, g5⟩ := hv2
            rw [hlenA, List.take_length] at hok
            refine ⟨hdz, ?_⟩
            have w := k0 _ (g5.upd' hdn (o := .dT (dA eT)))
            have u : (U.all fun a' => okV ns a' (vl (psOf goal hs (.tup [a, .tup l])) a')) = true := by
              rw [List.all_eq_true]
              intro a' ha'
              rw [eV]
              unfold dV
              cases hk : dLk eT a' with
              | none => rfl
              | some n => exact hok _ (dLk_some hk)
            rw [eC, decide_eq_true (show ¬ nOf a * goal.1 - cS hs (l.map nOf) < 0 from hlt), u] at w
            exact w
end
end J1
set_option Elab.async false
set_option linter.all false
set_option maxRecDepth 100000
set_option maxHeartbeats 4000000
namespace J1
open PySem PySem.Spec PyProof.Rows L2 GxR GA RA RZ
abbrev lDr : Stmt := top 33
theorem cDr : FnScope ["_law_well_here", "_law_many", "_law_cell", "_law_one", "_law_two", "_law_got"] ["_law_well_here", "_law_many"] (defScope lDr) := ⟨rfl, rfl, rfl, by decide +kernel, rfl, by decide +kernel, by decide +kernel⟩
/-- the well at p: what is left of a cell, how many cells were taken, the cells at l; n: how many there were at most -/
structure Wl (H : Hp) (p l : Addr) (ns : List Int) (n : Nat) : Prop where
  ex : ∃ c a : Int, H p = some (.lst [.int c, .int a, .ref l]) ∧ 0 ≤ c ∧ 0 ≤ a ∧ a ≤ n
  cells : H l = some (.lst (ns.map V.int))
/-- what a draw promises: only the well changes -/
def spDr : Sp := fun vs H Q _ => ∃ (p l : Addr) (ns : List Int) (n : Nat) (m : Int), vs = [.ref p, .int m] ∧ 0 < m ∧ CDivW 0 m ∧ Wl H p l ns n ∧ n ≤ 1000000000000000000000000000000 ∧ p ≠ l ∧
  ∀ (r : Int) (H' : Hp), 0 ≤ r → r < m → Wl H' p l ns (n + 1) → GrowW p H H' → Q (.int r) H'
structure Gd (mg : Str → Option Value) : Prop where
  len : mg "len" = none
  abs : mg "abs" = none
  int : mg "int" = none
  list : mg "list" = none
  range : mg "range" = none
  tuple : mg "tuple" = none
theorem GrowW.upd {w : Addr} {H : Hp} {o : HO} : GrowW w H (L2.upd H w o) := fun a u n h => .inl (by rw [upd_ne n]; exact h)
theorem GrowW.trans' {w : Addr} {H H1 H2 : Hp} (x : GrowW w H H1) (y : GrowW w H1 H2) : GrowW w H H2 := fun a o n h => by
  rcases x a o n h with h1 | ⟨h1, ps, q, z⟩
  · exact y a o n h1
  · rcases y a _ n q with q2 | ⟨_, q2⟩
    · exact .inr ⟨h1, ps, q2, z⟩
    · exact .inr ⟨h1, q2⟩
theorem GrowW.refl' (w : Addr) (H : Hp) : GrowW w H H := fun _ _ _ h => .inl h
theorem cdw {m : Int} (h : 0 < m) (h2 : m.natAbs < 2 ^ 1000) : CDivW 0 m := wide_div h h2 (by decide) (by decide)
theorem nb34 {x : Int} (h0 : 0 ≤ x) (h1 : x < 10000000000000000000000000000000000000000) : x.natAbs < 2 ^ 300 :=
  Nat.lt_of_lt_of_le (show x.natAbs < 10000000000000000000000000000000000000000 by omega) (by decide)
theorem mw34 {x y : Int} (h0 : 0 ≤ x) (h1 : x < 10000000000000000000000000000000000000000) (k0 : 0 ≤ y) (k1 : y < 10000000000000000000000000000000000000000) : CMulW x y :=
  wide_mul (nb34 h0 h1) (nb34 k0 k1) (by decide) (by decide) (by decide)
section
variable {P : Program} {w : World} {K : PySem.W.Frag} {mg : Str → Option Value} {base : Heap}
theorem ok_draw {f : Addr} {fd : FuncData} (F : Fun K "_law_draw" "_law_draw" lDr f fd) (N : Gd mg) : FnOk P w K mg base CX0 1 f fd ["_law_well_here", "_law_many"] spDr := by
  refine F.ok cDr (fun vs H Q E h => ?_) (fun cdv A outer s H vs Q E hr h => ?_)
  · obtain ⟨p, l, ns, n, m, rfl, _⟩ := h
    rfl
  · obtain ⟨p, l, ns, n, m, rfl, hm, hm9, ⟨⟨c, a, hp, hc, ha, han⟩, hl⟩, hn, npl, kq⟩ := h
    refine ⟨_, (C8.pss_cut (ps_if (pt_cmpR op_eq (pe_ix ix_list (pv 0) pe_int (fun _ _ => rfl)) pe_int (nomark _)) (pss_cons (ps_set (i := 2) cDr.nd rfl (Or.inl rfl) pe_int) (C8.pss_cut (ps_if (pt_cmpR op_lt (pe_ix ix_list (pv 0) pe_int (fun _ _ => rfl)) (pe_callB call_len_seq (by rfl) N.len PySem.boot_len (pa_cons (pe_ix ix_list (pv 0) pe_int (fun _ _ => rfl)) pa_nil)) (nomark _)) (pss_one (ps_set (i := 2) cDr.nd rfl (Or.inl rfl) (pe_callB call_abs (by rfl) N.abs (by decide +kernel) (pa_cons (pe_ix ix_list (pe_ix ix_list (pv 0) pe_int (fun _ _ => rfl)) (pe_ix ix_list (pv 0) pe_int (fun _ _ => rfl)) (fun _ _ => rfl)) pa_nil)))) pss_nil) (C8.pss_cut (ps_if (pt_cmpR op_lt (pv 2) (pe_op op_pow pe_int pe_int) (nomark _)) (pss_cons (ps_set (i := 3) cDr.nd rfl (Or.inl rfl) (pe_op op_mod (pe_op op_mulW (pe_op op_add (pe_op op_add (pe_op op_mod (pv 2) pe_int) (pe_op op_mul pe_int (pe_ix ix_list (pv 0) pe_int (fun _ _ => rfl)))) pe_int) (pe_op op_add (pe_op op_mul pe_int (pe_ix ix_list (pv 0) pe_int (fun _ _ => rfl))) pe_int)) pe_int)) (pss_cons (ps_set (i := 4) cDr.nd rfl (Or.inl rfl) (pe_op op_mod (pe_op op_mulW (pe_op op_add (pv 3) pe_int) (pe_op op_add (pe_op op_add (pv 3) (pe_ix ix_list (pv 0) pe_int (fun _ _ => rfl))) pe_int)) pe_int)) (pss_one (ps_set (i := 2) cDr.nd rfl (Or.inl rfl) (pe_op op_add (pe_op op_fdiv (pe_op op_add (pe_op op_mulW (pv 4) pe_int) (pe_op op_mod (pe_op op_mulW (pv 3) (pv 3)) pe_int)) pe_int) pe_int))))) pss_nil) (pss_cons (ps_asg (pv 2) (pg_sub (pv 0) pe_int set_list)) (pss_one (ps_asg (pe_op op_add (pe_ix ix_list (pv 0) pe_int (fun _ _ => rfl)) pe_int) (pg_sub (pv 0) pe_int set_list))))))) pss_nil) (pss_cons (ps_set (i := 5) cDr.nd rfl (Or.inl rfl) (pe_op op_mod (pe_callTy call_int1 (by rfl) N.int (by decide +kernel) (pa_cons (pe_ix ix_list (pv 0) pe_int (fun _ _ => rfl)) pa_nil)) (pv 1))) (pss_cons (ps_asg (pe_op op_fdivW (pe_callTy call_int1 (by rfl) N.int (by decide +kernel) (pa_cons (pe_ix ix_list (pv 0) pe_int (fun _ _ => rfl)) pa_nil)) (pv 1)) (pg_sub (pv 0) pe_int set_list)) (pss_one (ps_ret (pv 5)))))), ?_⟩
    refine ⟨fun σ' H' => ∃ (c' a' : Int) (v2 v3 v4 : Option V), σ' = [some (.ref p), some (.int m), v2, v3, v4, none] ∧ H' p = some (.lst [.int c', .int a', .ref l]) ∧ 0 ≤ c' ∧ 0 ≤ a' ∧ a' ≤ n + 1 ∧ GrowW p H H', ?_, ?_⟩
    · refine ⟨_, rfl, p, _, _, _, rfl, rfl, SqL.of hp, at_of (j := 0) rfl rfl, rfl, _, rfl, ?_⟩
      refine ite2 (fun _ => ?_) (fun _ => ?_)
      · refine ⟨fun σ' H' => ∃ c1 : Int, 0 ≤ c1 ∧ σ' = [some (.ref p), some (.int m), some (.int c1), none, none, none] ∧ H' = H, ?_, ?_⟩
        · refine ⟨_, rfl, p, _, _, _, rfl, rfl, SqL.of hp, at_of (j := 1) rfl rfl, _, rfl, p, _, _, _, rfl, rfl, SqL.of hp, at_of (j := 2) rfl rfl, l, _, rfl, .inl (SqL.of hl), _, _, rfl, rfl, _, rfl, ?_⟩
          refine ite2 (fun hlt => ?_) (fun _ => ?_)
          · have hlt := of_decide_eq_true hlt
            rw [List.length_map] at hlt
            have hj : a.toNat < ns.length := by omega
            refine ⟨_, rfl, p, _, _, _, rfl, rfl, SqL.of hp, at_of (j := 2) rfl rfl, _, rfl, p, _, _, _, rfl, rfl, SqL.of hp, at_of (j := 1) rfl rfl, l, _, _, _, rfl, rfl, SqL.of hl, at_of (j := a.toNat) (v := V.int ns[a.toNat]) (by omega) (by rw [List.getElem?_map, List.getElem?_eq_getElem hj]; rfl), _, rfl, ?_⟩
            refine ⟨if ns[a.toNat] < 0 then -ns[a.toNat] else ns[a.toNat], ?_, rfl, rfl⟩
            split <;> omega
          · exact ⟨7, by decide, rfl, rfl⟩
        · intro σ' H1 hh
          obtain ⟨c1, hc1, e1, e2⟩ := hh
          subst e1
          subst e2
          refine ⟨fun σ' H' => ∃ (c2 : Int) (v3 v4 : Option V), 0 ≤ c2 ∧ σ' = [some (.ref p), some (.int m), some (.int c2), v3, v4, none] ∧ H' = H1, ?_, ?_⟩
          · refine ⟨_, rfl, _, _, rfl, rfl, ⟨by decide, by decide, by decide⟩, _, _, rfl, rfl, _, rfl, ?_⟩
            refine ite2 (fun hlt => ?_) (fun _ => ?_)
            · have b1 : 0 ≤ c1 % 2147483629 ∧ c1 % 2147483629 < 2147483629 := ⟨Int.emod_nonneg _ (by decide), Int.emod_lt_of_pos _ (by decide)⟩
              have X0 : 0 ≤ (c1 % 2147483629 + 3 * a + 11) * (2 * a + 48271) % 99999999977 := Int.emod_nonneg _ (by decide)
              have X1 : (c1 % 2147483629 + 3 * a + 11) * (2 * a + 48271) % 99999999977 < 99999999977 := Int.emod_lt_of_pos _ (by decide)
              refine ⟨_, rfl, _, _, rfl, rfl, (show (0 : Int) < 2147483629 by decide), _, rfl, p, _, _, _, rfl, rfl, SqL.of hp, at_of (j := 1) rfl rfl, _, _, rfl, rfl, .inl ⟨by decide, by decide⟩, _, _, rfl, rfl, _, _, rfl, rfl, _, rfl, p, _, _, _, rfl, rfl, SqL.of hp, at_of (j := 1) rfl rfl, _, _, rfl, rfl, .inl ⟨by decide, by decide⟩, _, _, rfl, rfl, _, _, rfl, rfl, mw34 (by omega) (by omega) (by omega) (by omega), _, _, rfl, rfl, (show (0 : Int) < 99999999977 by decide), ?_⟩
              dsimp only
              generalize (c1 % 2147483629 + 3 * a + 11) * (2 * a + 48271) % 99999999977 = X at X0 X1 ⊢
              have Y0 : 0 ≤ (X + 7919) * (X + a + 12347) % 99999999943 := Int.emod_nonneg _ (by decide)
              have Y1 : (X + 7919) * (X + a + 12347) % 99999999943 < 99999999943 := Int.emod_lt_of_pos _ (by decide)
              refine ⟨_, rfl, _, _, rfl, rfl, _, rfl, _, rfl, p, _, _, _, rfl, rfl, SqL.of hp, at_of (j := 1) rfl rfl, _, _, rfl, rfl, _, _, rfl, rfl, _, _, rfl, rfl, mw34 (by omega) (by omega) (by omega) (by omega), _, _, rfl, rfl, (show (0 : Int) < 99999999943 by decide), ?_⟩
              dsimp only
              generalize (X + 7919) * (X + a + 12347) % 99999999943 = Y at Y0 Y1 ⊢
              refine ⟨_, rfl, _, _, rfl, rfl, mw34 (by omega) (by omega) (by omega) (by omega), _, rfl, _, rfl, _, _, rfl, rfl, mw34 (by omega) (by omega) (by omega) (by omega), _, _, rfl, rfl, (show (0 : Int) < 99999999907 by decide), _, _, rfl, rfl, _, _, rfl, rfl, ⟨by decide, by decide⟩, _, _, rfl, rfl, ?_⟩
              dsimp only
              have Z0 : 0 ≤ X * X % 99999999907 := Int.emod_nonneg _ (by decide)
              have W0 : 0 ≤ (Y * 99999999977 + X * X % 99999999907) / 13 := Int.ediv_nonneg (by omega) (by decide)
              exact ⟨_, _, _, Int.add_nonneg W0 (show (0 : Int) ≤ 1 by decide), rfl, rfl⟩
            · exact ⟨c1, _, _, hc1, rfl, rfl⟩
          · intro σ2 H2 hh
            obtain ⟨c2, v3, v4, hc2, e1, e2⟩ := hh
            subst e1
            subst e2
            refine ⟨_, rfl, _, rfl, p, _, _, 0, rfl, rfl, hp, rfl, ?_⟩
            refine ⟨_, rfl, p, _, 1, _, rfl, rfl, SqL.of upd_same, rfl, _, _, rfl, rfl, _, rfl, p, _, _, 1, rfl, rfl, upd_same, rfl, ?_⟩
            exact ⟨c2, a + 1, _, _, _, rfl, upd_same, hc2, by omega, by omega, GrowW.upd.trans' GrowW.upd⟩
      · exact ⟨c, a, none, none, none, rfl, hp, hc, ha, by omega, GrowW.refl' p H⟩
    · rintro σ' H' ⟨c', a', v2, v3, v4, rfl, hp', hc', ha', han', kp⟩
      refine ⟨_, rfl, p, _, _, _, rfl, rfl, SqL.of hp', at_of (j := 0) rfl rfl, .inl ⟨_, rfl, _, rfl, _, _, rfl, rfl, hm, ?_⟩⟩
      refine ⟨_, rfl, p, _, _, _, rfl, rfl, SqL.of hp', at_of (j := 0) rfl rfl, .inl ⟨_, rfl, _, rfl, _, _, rfl, rfl, hm9, _, rfl, p, _, _, 0, rfl, rfl, hp', rfl, ?_⟩⟩
      refine ⟨_, rfl, kq _ _ (Int.emod_nonneg _ (by omega)) (Int.emod_lt_of_pos _ hm) ⟨⟨c' / m, a', upd_same, Int.ediv_nonneg hc' (by omega), ha', by omega⟩, ?_⟩ (kp.trans' GrowW.upd)⟩
      rw [upd_ne npl.symm]
      rcases kp l _ npl.symm hl with q | ⟨⟨ps, q⟩, _⟩
      · exact q
      · cases q
end
end J1
set_option Elab.async false
set_option linter.all false
set_option maxRecDepth 100000
set_option maxHeartbeats 4000000
namespace J1
open PySem PySem.Spec PyProof.Rows L2 GxR GA RA RZ
abbrev lBy : Stmt := top 37
theorem cBy : FnScope ["_law_well_here", "_law_by_here"] ["_law_well_here"] (defScope lBy) := ⟨rfl, rfl, rfl, by decide +kernel, rfl, by decide +kernel, by decide +kernel⟩
abbrev lOg : Stmt := top 40
theorem cOg : FnScope ["_law_well_here"] ["_law_well_here"] (defScope lOg) := ⟨rfl, rfl, rfl, by decide +kernel, rfl, by decide +kernel, by decide +kernel⟩
theorem Wl.grow {H H' : Hp} {p l : Addr} {ns : List Int} {n : Nat} (W : Wl H p l ns n) (g : Grow H H') : Wl H' p l ns n := by
  obtain ⟨⟨c, a, h, r⟩, hl⟩ := W
  exact ⟨⟨c, a, g.lst h, r⟩, g.lst hl⟩
theorem Wl.more {H : Hp} {p l : Addr} {ns : List Int} {n m : Nat} (W : Wl H p l ns n) (h : n ≤ m) : Wl H p l ns m := by
  obtain ⟨⟨c, a, h0, h1, h2, h3⟩, hl⟩ := W
  exact ⟨⟨c, a, h0, h1, h2, by omega⟩, hl⟩
theorem Wl.pl {H : Hp} {p l : Addr} {ns : List Int} {n : Nat} (W : Wl H p l ns n) : ∃ ys, H p = some (.lst ys) := by
  obtain ⟨⟨c, a, h, _⟩, _⟩ := W
  exact ⟨_, h⟩
theorem Wl.np {H : Hp} {p l q : Addr} {ns : List Int} {n : Nat} (W : Wl H p l ns n) (h : H q = Option.none) : q ≠ p ∧ q ≠ l := by
  obtain ⟨⟨c, a, h1, _⟩, h2⟩ := W
  exact ⟨fun z => (by rw [z, h1] at h; cases h), fun z => (by rw [z, h2] at h; cases h)⟩
theorem GrowW.lst {w : Addr} {H H' : Hp} (g : GrowW w H H') {a : Addr} {xs : List V} (n : a ≠ w) (h : H a = some (.lst xs)) : H' a = some (.lst xs) := by
  rcases g a _ n h with q | ⟨⟨ps, q⟩, _⟩
  · exact q
  · cases q
theorem GrowW.dt {w : Addr} {H H' : Hp} (g : GrowW w H H') {a : Addr} {xs : List (List Key × V)} (n : a ≠ w) (h : H a = some (.dT xs)) : H' a = some (.dT xs) := by
  rcases g a _ n h with q | ⟨⟨ps, q⟩, _⟩
  · exact q
  · cases q
theorem GrowW.tup {w : Addr} {H H' : Hp} (g : GrowW w H H') {a : Addr} {xs ys : List V} (hw : H w = some (.lst ys)) (h : H a = some (.tup xs)) : H' a = some (.tup xs) := by
  have n : a ≠ w := fun z => by rw [z, hw] at h; cases h
  rcases g a _ n h with q | ⟨⟨ps, q⟩, _⟩
  · exact q
  · cases q
theorem Grow.w {w : Addr} {H H' : Hp} (g : Grow H H') : GrowW w H H' := fun a o _ h => g a o h
theorem GrowW.but {p q : Addr} {H0 H : Hp} {o : HO} (g : GrowW p H0 H) (hq : H0 q = Option.none) : GrowW p H0 (L2.upd H q o) := fun a u n h => by
  have m : a ≠ q := fun z => by rw [z, hq] at h; cases h
  rcases g a u n h with r | ⟨r1, ps, r2, r3⟩
  · exact .inl (by rw [upd_ne m]; exact r)
  · exact .inr ⟨r1, ps, by rw [upd_ne m]; exact r2, r3⟩
theorem GrowW.new {p q : Addr} {H : Hp} {o : HO} (hq : H q = Option.none) : GrowW p H (L2.upd H q o) := (Grow.new hq).w
theorem GrowW.none' {p : Addr} {H H' : Hp} {ys : List V} (g : GrowW p H H') (hp' : H' p = some (.lst ys)) {a : Addr} (h : H' a = Option.none) : H a = Option.none := by
  have n : a ≠ p := fun z => by rw [z, hp'] at h; cases h
  cases e : H a with
  | none => rfl
  | some o =>
    rcases g a o n e with q | ⟨_, ps, q, _⟩
    · rw [h] at q; cases q
    · rw [h] at q; cases q
theorem mwA {x y : Int} (h : x.natAbs < 10000000000000000000000000000000000000000) (k : y.natAbs < 10000000000000000000000000000000000000000) : CMulW x y :=
  wide_mul (a := 300) (b := 300) (Nat.lt_of_lt_of_le h (by decide)) (Nat.lt_of_lt_of_le k (by decide)) (by decide) (by decide) (by decide)
/-- a number that is drawn -/
def Small (i : Int) : Prop := -10000000000000000000000000000000000 < i ∧ i < 10000000000000000000000000000000000
def spBy : Sp := fun vs H Q _ => ∃ (p l : Addr) (ns : List Int) (n : Nat), vs = [.ref p] ∧ Wl H p l ns n ∧ n ≤ 100000000 ∧ p ≠ l ∧ ∀ (r : Int) (H' : Hp), Small r → Wl H' p l ns (n + 3) → GrowW p H H' → Q (.int r) H'
def ogV (H : Hp) (o : Option (Int × Int)) (x : V) : Prop := match o with
  | none => x = .non
  | some q => ∃ b, x = .ref b ∧ H b = some (.tup [.int q.1, .int q.2])
def spOg : Sp := fun vs H Q _ => ∃ (p l : Addr) (ns : List Int) (n : Nat), vs = [.ref p] ∧ Wl H p l ns n ∧ n ≤ 100000000 ∧ p ≠ l ∧ ∀ (o : Option (Int × Int)) (x : V) (H' : Hp), ogV H' o x → (∀ q, o = some q → 0 ≤ q.1 ∧ q.1 ≤ 239 ∧ 0 ≤ q.2 ∧ q.2 ≤ 29) → Wl H' p l ns (n + 3) → GrowW p H H' → Q x H'
section
variable {P : Program} {w : World} {K : PySem.W.Frag} {mg : Str → Option Value} {base : Heap}
theorem ok_by {f fD : Addr} {fd fdD : FuncData} (F : Fun K "_law_by" "_law_by" lBy f fd) (GD : FnOk P w K mg base CX0 1 fD fdD ["_law_well_here", "_law_many"] spDr) (DD : Df K mg "_law_draw" ["_law_well_here", "_law_many"] fD fdD) : FnOk P w K mg base CX0 2 f fd ["_law_well_here"] spBy := by
  refine F.ok (k := 1) cBy (fun vs H Q E h => ?_) (fun cdv A outer s H vs Q E hr h => ?_)
  · obtain ⟨_, _, _, _, rfl, _⟩ := h
    rfl
  · obtain ⟨p, l, ns, n, rfl, W, hn, npl, k⟩ := h
    refine ⟨_, (pss_cons (ps_set (i := 1) cBy.nd rfl (Or.inl rfl) (pe_op op_sub (pe_call (GD.mono (by decide)) hr (by rfl) DD.g DD.k DD.b .nil pass0 (pa_cons (pv 0) (pa_cons pe_int pa_nil))) pe_int)) (C8.pss_cut (ps_if (pt_cmpR op_eq (pe_call (GD.mono (by decide)) hr (by rfl) DD.g DD.k DD.b .nil pass0 (pa_cons (pv 0) (pa_cons pe_int pa_nil))) pe_int (nomark _)) (pss_one (ps_set (i := 1) cBy.nd rfl (Or.inl rfl) (pe_op op_add (pe_op op_mulW (pv 1) (pe_op op_pow pe_int pe_int)) (pe_call (GD.mono (by decide)) hr (by rfl) DD.g DD.k DD.b .nil pass0 (pa_cons (pv 0) (pa_cons (pe_op op_pow pe_int pe_int) pa_nil)))))) pss_nil) (pss_one (ps_ret (pv 1))))), ?_⟩
    refine ⟨_, rfl, p, l, ns, n, 11, rfl, by decide, cdw (by decide) (by decide), W, by omega, npl, fun r H1 r0 r1 W1 g1 => ⟨_, _, rfl, rfl, ?_⟩⟩
    refine ⟨fun σ' H' => ∃ r' : Int, σ' = [some (.ref p), some (.int r')] ∧ Small r' ∧ Wl H' p l ns (n + 3) ∧ GrowW p H H', ?_, ?_⟩
    · refine ⟨_, rfl, p, l, ns, n + 1, 6, rfl, by decide, cdw (by decide) (by decide), W1, by omega, npl, fun r2 H2 _ _ W2 g2 => ⟨rfl, _, rfl, ?_⟩⟩
      refine ite2 (fun _ => ?_) (fun _ => ?_)
      · refine ⟨_, rfl, _, _, rfl, rfl, ⟨by decide, by decide, by decide⟩, _, _, rfl, rfl, ?_⟩
        have e30 : (10 : Int) ^ (Int.toNat 30) = 1000000000000000000000000000000 := by decide
        have e9 : (10 : Int) ^ (Int.toNat 9) = 1000000000 := by decide
        refine ⟨by show CMulW (r - 5) ((10 : Int) ^ (Int.toNat 30)); rw [e30]; exact mwA (by omega) (by decide), _, rfl, _, _, rfl, rfl, ⟨by decide, by decide, by decide⟩, p, l, ns, n + 2, _, rfl, by show (0 : Int) < 10 ^ (Int.toNat 9); rw [e9]; decide, by show CDivW 0 (10 ^ (Int.toNat 9)); rw [e9]; exact cdw (by decide) (by decide), W2, by omega, npl, fun r3 H3 s0 s1 W3 g3 => ⟨_, _, rfl, rfl, ?_⟩⟩
        have s1 : r3 < (10 : Int) ^ (Int.toNat 9) := s1
        rw [e9] at s1
        refine ⟨_, rfl, ?_, W3, (g1.trans' g2).trans' g3⟩
        show Small ((r - 5) * 10 ^ (Int.toNat 30) + r3)
        rw [e30]
        exact ⟨by omega, by omega⟩
      · exact ⟨_, rfl, ⟨by omega, by omega⟩, W2.more (by omega), g1.trans' g2⟩
    · rintro σ' H' ⟨r', rfl, sm, W', g⟩
      exact ⟨_, rfl, k r' H' sm W' g⟩
theorem ok_og {f fD : Addr} {fd fdD : FuncData} (F : Fun K "_law_origin" "_law_origin" lOg f fd) (GD : FnOk P w K mg base CX0 1 fD fdD ["_law_well_here", "_law_many"] spDr) (DD : Df K mg "_law_draw" ["_law_well_here", "_law_many"] fD fdD) : FnOk P w K mg base CX0 2 f fd ["_law_well_here"] spOg := by
  refine F.ok (k := 1) cOg (fun vs H Q E h => ?_) (fun cdv A outer s H vs Q E hr h => ?_)
  · obtain ⟨_, _, _, _, rfl, _⟩ := h
    rfl
  · obtain ⟨p, l, ns, n, rfl, W, hn, npl, k⟩ := h
    refine ⟨_, (pss_cons (ps_if (pt_cmpR op_eq (pe_call (GD.mono (by decide)) hr (by rfl) DD.g DD.k DD.b .nil pass0 (pa_cons (pv 0) (pa_cons pe_int pa_nil))) pe_int (nomark _)) (pss_one (ps_ret pe_non)) pss_nil) (pss_one (ps_ret (pe_tup (pa_cons (pe_call (GD.mono (by decide)) hr (by rfl) DD.g DD.k DD.b .nil pass0 (pa_cons (pv 0) (pa_cons pe_int pa_nil))) (pa_cons (pe_call (GD.mono (by decide)) hr (by rfl) DD.g DD.k DD.b .nil pass0 (pa_cons (pv 0) (pa_cons pe_int pa_nil))) pa_nil)))))), ?_⟩
    refine ⟨_, rfl, p, l, ns, n, 2, rfl, by decide, cdw (by decide) (by decide), W, by omega, npl, fun r H1 r0 r1 W1 g1 => ⟨rfl, _, rfl, ?_⟩⟩
    refine ite2 (fun _ => ?_) (fun _ => ?_)
    · exact k none .non H1 rfl (fun _ z => nomatch z) (W1.more (by omega)) g1
    · refine ⟨_, rfl, p, l, ns, n + 1, 240, rfl, by decide, cdw (by decide) (by decide), W1, by omega, npl, fun a H2 a0 a1 W2 g2 => ?_⟩
      refine ⟨_, rfl, p, l, ns, n + 2, 30, rfl, by decide, cdw (by decide) (by decide), W2, by omega, npl, fun b H3 b0 b1 W3 g3 => ⟨two34, fun t ht => ?_⟩⟩
      exact k (some (a, b)) (.ref t) _ ⟨t, rfl, upd_same⟩ (fun q e => by cases e; exact ⟨a0, by dsimp only; omega, b0, by dsimp only; omega⟩) (W3.grow (Grow.new ht)) (((g1.trans' g2).trans' g3).trans' (GrowW.new ht))
end
end J1
set_option Elab.async false
set_option linter.all false
set_option maxRecDepth 100000
set_option maxHeartbeats 4000000
namespace J1
open PySem PySem.Spec PyProof.Rows L2 GxR GA RA RZ
abbrev lSo : Stmt := top 41
theorem cSo : FnScope ["_law_const", "_law_sums", "_law_atom"] ["_law_const", "_law_sums"] (defScope lSo) := ⟨rfl, rfl, rfl, by decide +kernel, rfl, by decide +kernel, by decide +kernel⟩
def spSo : Sp := fun vs H Q _ => ∃ (d : Addr) (c : Int) (U : List A3) (eT : List Tm), vs = [.int c, .ref d] ∧ H d = some (.dT (dA eT)) ∧ OkU U ∧ TbU U eT ∧ Sm c ∧ (∀ a, Sm (dV eT a)) ∧
  ∀ (x : V) (H' : Hp) (f : Fm), Enc H' (fmD f) x → f.1 = c → GoodF U f → (∀ a, coef f.2 a = dV eT a) → Grow H H' → Q x H'
theorem esT_mem {eT : List Tm} {l : List A3} {e : Tm} (h : e ∈ esT eT l) : e.1 ∈ l ∧ e.2 = dV eT e.1 ∧ e.2 ≠ 0 := by
  obtain ⟨h1, h2⟩ := List.mem_filter.mp h
  obtain ⟨a, h3, h4⟩ := List.mem_map.mp h1
  subst h4
  refine ⟨h3, rfl, fun z => ?_⟩
  have h2 : (!decide (V.int (dV eT a) = V.int 0)) = true := h2
  have z : dV eT a = 0 := z
  rw [z, decide_eq_true rfl] at h2
  cases h2
theorem esT_pw {eT : List Tm} : ∀ {l : List A3}, l.Pairwise (fun a b => rk a < rk b) → ((esT eT l).map (·.1)).Pairwise (fun a b => rk a < rk b) := by
  intro l h
  rw [List.pairwise_map]
  unfold esT
  refine List.Pairwise.filter _ ?_
  rw [List.pairwise_map]
  exact h
theorem coef_esT {eT : List Tm} (a : A3) : ∀ {l : List A3}, l.Nodup → coef (esT eT l) a = if a ∈ l then dV eT a else 0
  | [], _ => rfl
  | b :: l, h => by
    rw [List.nodup_cons] at h
    have ih := coef_esT (eT := eT) a h.2
    have e : esT eT (b :: l) = (if (!decide (V.int (dV eT b) = V.int 0)) = true then [(b, dV eT b)] else []) ++ esT eT l := by
      unfold esT
      rw [List.map_cons, List.filter_cons]
      by_cases q : (!decide (V.int (dV eT b) = V.int 0)) = true
      · rw [if_pos q, if_pos q]
        rfl
      · rw [if_neg q, if_neg q]
        rfl
    rw [e, coef_app, ih]
    have e2 : coef (if (!decide (V.int (dV eT b) = V.int 0)) = true then [(b, dV eT b)] else []) a = if b = a then dV eT b else 0 := by
      by_cases q : dV eT b = 0
      · rw [q, decide_eq_true rfl]
        show 0 = _
        split <;> rfl
      · rw [decide_eq_false (fun z => q (V.int.inj z))]
        show (if b = a then dV eT b else 0) + 0 = _
        rw [Int.add_zero]
    rw [e2]
    by_cases q : b = a
    · rw [if_pos q, if_neg (by rw [← q]; exact h.1), if_pos (by rw [q]; exact List.mem_cons_self), q, Int.add_zero]
    · rw [if_neg q, Int.zero_add]
      by_cases r : a ∈ l
      · rw [if_pos r, if_pos (List.mem_cons_of_mem _ r)]
      · rw [if_neg r, if_neg (fun z => (List.mem_cons.mp z).elim (fun z => q z.symm) r)]
section
variable {P : Program} {w : World} {K : PySem.W.Frag} {mg : Str → Option Value} {base : Heap}
theorem ok_so {f : Addr} {fd : FuncData} (F : Fun K "_law_sum_of" "_law_sum_of" lSo f fd) (N : Gd mg) (G : Gk mg) : FnOk P w K mg base CX0 1 f fd ["_law_const", "_law_sums"] spSo := by
  refine F.ok (k := 0) cSo (fun vs H Q E h => ?_) (fun cdv A outer s H vs Q E hr h => ?_)
  · obtain ⟨_, _, _, _, rfl, _⟩ := h
    rfl
  · obtain ⟨d, c, U, eT, rfl, hdT, ou, tb, sc, se, k⟩ := h
    have hu := hu_of hr
    refine ⟨_, (pss_one (ps_ret (pe_tup (pa_cons (pv 0) (pa_cons (pe_callTy call_tuple_of (by rfl) N.tuple (by decide +kernel) (pa_cons (pe_lc (own := [("_law_atom", 2)]) (g := gName 2) (by rfl) cSo.nd (pi_list (pe_callB (cr_sortedD3 rfl) (by rfl) G.sorted (by decide +kernel) (pa_cons (pv 1) pa_nil))) (blkOk_by (own := [("_law_atom", 2)]) (N := ["_law_const", "_law_sums", "_law_atom"]) (sc := defScope lSo) (by decide +kernel)) (fun _ _ _ _ _ => (pg_name (i := 2) cSo.nd rfl (Or.inl rfl))) (fun _ _ _ _ _ => (pts_one (pt_cmpR op_ne (pe_dget hu (pv 1) (pv 2) (fun _ _ => rfl)) pe_int (nomark _)))) (fun _ _ _ _ _ => (pe_tup (pa_cons (pv 2) (pa_cons (pe_dget hu (pv 1) (pv 2) (fun _ _ => rfl)) pa_nil))))) pa_nil)) pa_nil))))), ?_⟩
    have lT := tb.len ou
    refine ⟨_, rfl, _, rfl, d, eT, rfl, .inl hdT, by omega, fun e he => (ou.ok _ (tb.sub e he)).rg, fun us q hperm hsort htr hq => ?_⟩
    have nq : ∀ o, H q = some o → False := fun o z => by rw [hq] at z; cases z
    have lu : us.length = eT.length := by
      have z := hperm.length_eq
      rw [List.length_map, List.length_map] at z
      exact z
    have rgs : ∀ t ∈ us, Rg (gH H t) ∧ dLk eT (gH H t) = some (dV eT (gH H t)) := fun t ht => by
      have z : gH H t ∈ eT.map (·.1) := hperm.mem_iff.mp (List.mem_map.mpr ⟨t, ht, rfl⟩)
      obtain ⟨e, e1, e2⟩ := List.mem_map.mp z
      refine ⟨by rw [← e2]; exact (ou.ok _ (tb.sub e e1)).rg, ?_⟩
      unfold dV
      cases y : dLk eT (gH H t) with
      | none => exact absurd z (dLk_none.mp y)
      | some n => rfl
    have ndu : (us.map (gH H)).Nodup := hperm.nodup_iff.mpr tb.nd
    have srt : (us.map (gH H)).Pairwise (fun a b => rk a < rk b) := by
      have nd2 := List.pairwise_map.mp ndu
      rw [List.pairwise_map]
      refine List.Pairwise.imp_of_mem (fun {x y} hx hy h => ?_) (hsort.and nd2)
      rcases Int.lt_or_eq_of_le h.1 with z | z
      · exact z
      · exact absurd (rk_inj (rgs x hx).1 (rgs y hy).1 z) h.2
    refine ⟨q, rfl, ⟨_, SqL.of upd_same⟩, fun D hD => ?_⟩
    have hDc : H D = none := none_upd hD
    have nq : D ≠ q := fun z => by rw [z, upd_same] at hD; cases hD
    refine lc_list (xs := us.map V.ref) (fun i Hx => ∃ (ys : List V) (ts : List Addr), Hx D = some (.lst ys) ∧ TmAt Hx (esT eT ((us.take i).map (gH H))) ys ts ∧ ys.length ≤ i ∧ Hx q = some (.lst (us.map V.ref)) ∧ Grow H Hx)
      ⟨[], [], upd_same, .nil, Nat.le_refl _, by rw [upd_ne nq.symm, upd_same], (Grow.new hq).upd' hDc⟩ (fun i Hx _ hx => ?_) (fun i z Hx hz hx => ?_) (fun Hx hx => ?_)
    · obtain ⟨_, _, _, _, _, h5, _⟩ := hx
      exact SqL.of h5
    · obtain ⟨ys, ts, hDx, T, hly, hqx, g2⟩ := hx
      rw [List.getElem?_map] at hz
      cases hu1 : us[i]? with
      | none => rw [hu1] at hz; cases hz
      | some t =>
      rw [hu1] at hz
      cases hz
      have il := (List.getElem?_eq_some_iff.mp hu1).1
      obtain ⟨hrg, hlk⟩ := rgs t (List.mem_of_getElem? hu1)
      have htx := g2.tup (htr t (List.mem_of_getElem? hu1))
      have hdx : Hx d = some (.dT (dA eT)) := by
        rcases g2 _ _ hdT with z | ⟨⟨_, z⟩, _⟩
        · exact z
        · cases z
      have hg : DGet Hx d (.ref t) (some (V.int (dV eT (gH H t)))) := by
        have z := DGet.t (k := kA (gH H t)) hdx htx
        rw [dA_get, hlk] at z
        exact z
      have etk : (us.take (i + 1)).map (gH H) = (us.take i).map (gH H) ++ [gH H t] := by
        rw [List.take_succ, hu1, List.map_append]
        rfl
      refine ⟨wipe_set, ?_⟩
      refine ⟨_, rfl, _, rfl, d, _, rfl, hg, rfl, _, rfl, ite2 (fun hne => ?_) (fun hne => ?_)⟩
      · refine ⟨_, rfl, _, rfl, _, rfl, d, _, rfl, hg, two34, fun b hb => ?_⟩
        have nD : D ≠ b := fun z => by rw [← z, hDx] at hb; cases hb
        have hD2 : (L2.upd Hx b (.tup [.ref t, .int (dV eT (gH H t))])) D = some (.lst ys) := by rw [upd_ne nD]; exact hDx
        refine ⟨ys, hD2, by rw [sizeLine_eq]; omega, ?_⟩
        refine ⟨ys ++ [.ref b], ts ++ [t], upd_same, ?_, by rw [List.length_append]; exact Nat.add_le_add_right hly 1, ?_, (g2.upd' (none_of g2 hb)).upd' hDc⟩
        · rw [etk, esT_snoc, if_pos hne]
          exact TmAt.keep (keep_lst hD2) (TmAt.snoc (e := (gH H t, dV eT (gH H t))) (T.keep (keep_new hb)) upd_same (keep_new hb _ _ htx))
        · rw [upd_ne nq.symm, upd_ne (fun z => by rw [← z, hqx] at hb; cases hb)]
          exact hqx
      · refine ⟨ys, ts, hDx, ?_, Nat.le_succ_of_le hly, hqx, g2⟩
        rw [etk, esT_snoc, if_neg hne, List.append_nil]
        exact T
    · obtain ⟨ys, ts, hDx, T, hly, hqx, g2⟩ := hx
      rw [List.length_map, List.take_length] at T
      refine ⟨D, ys, rfl, .inl ⟨SqL.of hDx, fun r2 hr2 => ⟨two34, fun r hr => ?_⟩⟩⟩
      have nr2 : r2 ≠ r := fun z => by rw [← z, upd_same] at hr; cases hr
      refine k (.ref r) _ (c, esT eT (us.map (gH H))) ?_ rfl ⟨esT_pw srt, fun e he => ?_, fun e he => (esT_mem he).2.2, sc, fun e he => ?_⟩ (fun a => ?_) ((g2.upd' (none_of g2 hr2)).upd' (none_of g2 (none_upd hr)))
      · exact .tup upd_same (.cons (.int c) (.cons (.tup (by rw [upd_ne nr2]; exact upd_same) ((T.keep (keep_new hr2)).keep (keep_new hr)).enc) .nil))
      · obtain ⟨e', h7, h8⟩ := List.mem_map.mp (hperm.mem_iff.mp (esT_mem he).1)
        rw [← h8]
        exact tb.sub e' h7
      · rw [(esT_mem he).2.1]
        exact se _
      · show coef (esT eT (us.map (gH H))) a = _
        rw [coef_esT a ndu]
        by_cases q : a ∈ us.map (gH H)
        · rw [if_pos q]
        · rw [if_neg q]
          unfold dV
          rw [dLk_none.mpr (fun z => q (hperm.mem_iff.mpr z))]
          rfl
end
end J1
set_option Elab.async false
set_option linter.all false
set_option maxRecDepth 100000
set_option maxHeartbeats 4000000
namespace J1
open PySem PySem.Spec PyProof.Rows L2 GxR GA RA RZ
abbrev lFm : Stmt := top 39
theorem cFm : FnScope ["_law_well_here", "_law_atoms_here", "_law_terms", "_law_atom", "_law_term"] ["_law_well_here", "_law_atoms_here"] (defScope lFm) := ⟨rfl, rfl, rfl, by decide +kernel, rfl, by decide +kernel, by decide +kernel⟩
theorem Wl.upd {H : Hp} {p l q : Addr} {ns : List Int} {n : Nat} {o : HO} (W : Wl H p l ns n) (hp : q ≠ p) (hl : q ≠ l) : Wl (L2.upd H q o) p l ns n := by
  obtain ⟨⟨c, a, h, r⟩, h2⟩ := W
  exact ⟨⟨c, a, by rw [upd_ne hp.symm]; exact h, r⟩, by rw [upd_ne hl.symm]; exact h2⟩
theorem GrowW.tk {w : Addr} {H H' : Hp} {ys : List V} (g : GrowW w H H') (hw : H w = some (.lst ys)) : ∀ a xs, H a = some (.tup xs) → H' a = some (.tup xs) := fun _ _ h => g.tup hw h
/-- a list of atoms, ascending -/
structure AtL (H : Hp) (A : Addr) (L : List A3) : Prop where
  ex : ∃ ts : List Addr, H A = some (.lst (ts.map V.ref)) ∧ ts.length = L.length ∧ ∀ (i : Nat) (t : Addr) (a : A3), ts[i]? = some t → L[i]? = some a → H t = some (.tup ((il a).map V.int))
theorem AtL.keep {H H' : Hp} {A : Addr} {L : List A3} (h : AtL H A L) (k1 : ∀ xs, H A = some (.lst xs) → H' A = some (.lst xs)) (k2 : ∀ a xs, H a = some (.tup xs) → H' a = some (.tup xs)) : AtL H' A L := by
  obtain ⟨ts, h1, h2, h3⟩ := h
  exact ⟨ts, k1 _ h1, h2, fun i t a e1 e2 => k2 _ _ (h3 i t a e1 e2)⟩
theorem Small.sm {i : Int} (h : Small i) : Sm i := by
  unfold Sm
  obtain ⟨h1, h2⟩ := h
  exact Nat.lt_of_lt_of_le (show i.natAbs < 10000000000000000000000000000000000 by omega) (by decide)
/-- a form that was drawn of the atoms L -/
structure DrF (L : List A3) (f : Fm) : Prop where
  asc : (f.2.map (·.1)).Pairwise (fun a b => rk a < rk b)
  inL : ∀ e ∈ f.2, e.1 ∈ L
  nz : ∀ e ∈ f.2, e.2 ≠ 0
  c : Small f.1
  sm : ∀ e ∈ f.2, Small e.2
theorem DrF.good {L U : List A3} {f : Fm} (d : DrF L f) (h : ∀ a ∈ L, a ∈ U) : GoodF U f := ⟨d.asc, fun e he => h _ (d.inL e he), d.nz, d.c.sm, fun e he => (d.sm e he).sm⟩
def spFm : Sp := fun vs H Q _ => ∃ (p l A : Addr) (ns : List Int) (n : Nat) (L : List A3), vs = [.ref p, .ref A] ∧ Wl H p l ns n ∧ n ≤ 10000000 ∧ p ≠ l ∧ AtL H A L ∧ A ≠ p ∧ L.Pairwise (fun a b => rk a < rk b) ∧ L.length ≤ 9 ∧
  ∀ (x : V) (H' : Hp) (f : Fm), Enc H' (fmD f) x → DrF L f → Wl H' p l ns (n + 50) → GrowW p H H' → Q x H'
section
variable {P : Program} {w : World} {K : PySem.W.Frag} {mg : Str → Option Value} {base : Heap}
theorem ok_fm {f fD fB : Addr} {fd fdD fdB : FuncData} (F : Fun K "_law_form" "_law_form" lFm f fd) (N : Gd mg) (GD : FnOk P w K mg base CX0 1 fD fdD ["_law_well_here", "_law_many"] spDr) (DD : Df K mg "_law_draw" ["_law_well_here", "_law_many"] fD fdD)
    (GB : FnOk P w K mg base CX0 2 fB fdB ["_law_well_here"] spBy) (DB : Df K mg "_law_by" ["_law_well_here"] fB fdB) : FnOk P w K mg base CX0 3 f fd ["_law_well_here", "_law_atoms_here"] spFm := by
  refine F.ok (k := 2) cFm (fun vs H Q E h => ?_) (fun cdv A outer s H vs Q E hr h => ?_)
  · obtain ⟨_, _, _, _, _, _, rfl, _⟩ := h
    rfl
  · obtain ⟨p, l, A0, ns, n, L, rfl, W, hn, npl, hA, nAp, asc, hL9, k⟩ := h
    refine ⟨_, (pss_cons (ps_setLc (i := 2) (own := [("_law_atom", 3)]) (g := gName 3) (by rfl) cFm.nd rfl rfl (sw_true rfl rfl rfl (by decide +kernel)) (pi_list (pv 1)) (blkOk_by (own := [("_law_atom", 3)]) (N := ["_law_well_here", "_law_atoms_here", "_law_terms", "_law_atom", "_law_term"]) (sc := defScope lFm) (by decide +kernel)) (fun _ _ _ _ _ => (pg_name (i := 3) cFm.nd rfl (Or.inl rfl))) (fun _ _ _ _ _ => (pts_one (pt_cmpR op_eq (pe_call (GD.mono (by decide)) hr (by rfl) DD.g DD.k DD.b .nil pass0 (pa_cons (pv 0) (pa_cons pe_int pa_nil))) pe_int (nomark _)))) (fun _ _ _ _ _ => (pe_tup (pa_cons (pv 3) (pa_cons (pe_call (GB.mono (by decide)) hr (by rfl) DB.g DB.k DB.b .nil pass0 (pa_cons (pv 0) pa_nil)) pa_nil))))) (pss_one (ps_ret (pe_tup (pa_cons (pe_call (GB.mono (by decide)) hr (by rfl) DB.g DB.k DB.b .nil pass0 (pa_cons (pv 0) pa_nil)) (pa_cons (pe_callTy call_tuple_of (by rfl) N.tuple (by decide +kernel) (pa_cons (pe_lc (own := [("_law_term", 4)]) (g := gName 4) (by rfl) cFm.nd (pi_list (pv 2)) (blkOk_by (own := [("_law_term", 4)]) (N := ["_law_well_here", "_law_atoms_here", "_law_terms", "_law_atom", "_law_term"]) (sc := defScope lFm) (by decide +kernel)) (fun _ _ _ _ _ => (pg_name (i := 4) cFm.nd rfl (Or.inl rfl))) (fun _ _ _ _ _ => (pts_one (pt_cmpR op_ne (pe_ix (r := rIxT K) ix_tup (pv 4) pe_int (fun _ _ => rfl)) pe_int (nomark _)))) (fun _ _ _ _ _ => (pv 4))) pa_nil)) pa_nil)))))), ?_⟩
    obtain ⟨ts, hA1, hA2, hA3⟩ := hA
    refine ⟨_, rfl, A0, rfl, ⟨_, SqL.of hA1⟩, fun D hD => ?_⟩
    obtain ⟨nDp, nDl⟩ := W.np hD
    obtain ⟨wy, hwy⟩ := W.pl
    refine lc_list (xs := ts.map V.ref) (fun i Hx => ∃ (ys : List V) (es : List Tm) (tz : List Addr), Hx D = some (.lst ys) ∧ TmAt Hx es ys tz ∧ (es.map (·.1)).Pairwise (fun a b => rk a < rk b) ∧ (∀ e ∈ es, e.1 ∈ L.take i ∧ Small e.2) ∧ ys.length ≤ i ∧ Wl Hx p l ns (n + 4 * i) ∧ GrowW p H Hx)
      ⟨[], [], [], upd_same, .nil, .nil, fun _ z => absurd z List.not_mem_nil, Nat.le_refl _, W.grow (Grow.new hD), GrowW.new hD⟩ (fun i Hx _ hx => ?_) (fun i z Hx hz hx => ?_) (fun Hx hx => ?_)
    · obtain ⟨_, _, _, _, _, _, _, _, _, g⟩ := hx
      exact SqL.of (g.lst nAp hA1)
    · obtain ⟨ys, es, tz, hDx, T, pw, hin, hly, Wx, g⟩ := hx
      rw [List.getElem?_map] at hz
      cases ht1 : ts[i]? with
      | none => rw [ht1] at hz; cases hz
      | some t =>
      rw [ht1] at hz
      cases hz
      have il := (List.getElem?_eq_some_iff.mp ht1).1
      have hLi : L[i]? = some (L[i]'(by omega)) := List.getElem?_eq_getElem _
      generalize (L[i]'(by omega)) = a at hLi
      have hta := hA3 i t a ht1 hLi
      obtain ⟨xy, hxy⟩ := Wx.pl
      refine ⟨wipe_set, ?_⟩
      refine ⟨_, rfl, p, l, ns, n + 4 * i, 2, rfl, by decide, cdw (by decide) (by decide), Wx, by omega, npl, fun r H1 _ _ W1 g1 => ⟨rfl, _, rfl, ?_⟩⟩
      have g01 := g.trans' g1
      have T1 := T.keep (g1.tk hxy)
      have hD1 := g1.lst nDp hDx
      refine ite2 (fun _ => ?_) (fun _ => ?_)
      · obtain ⟨x1, hx1⟩ := W1.pl
        refine ⟨_, rfl, _, rfl, p, l, ns, n + 4 * i + 1, rfl, W1, by omega, npl, fun v H2 sv W2 g2 => ⟨two34, fun b hb => ?_⟩⟩
        have g02 := g01.trans' g2
        have hD2 := g2.lst nDp hD1
        have T2 := T1.keep (g2.tk hx1)
        obtain ⟨nbp, nbl⟩ := W2.np hb
        have nDb : D ≠ b := fun z => by rw [← z, hD2] at hb; cases hb
        obtain ⟨x2, hx2⟩ := W2.pl
        have hb0 : H b = none := g02.none' hx2 hb
        have hDb : (L2.upd H2 b (.tup [.ref t, .int v])) D = some (.lst ys) := by rw [upd_ne nDb]; exact hD2
        refine ⟨ys, hDb, by rw [sizeLine_eq]; omega, ?_⟩
        refine ⟨ys ++ [.ref b], es ++ [(a, v)], tz ++ [t], upd_same, ?_, ?_, fun e he => ?_, by rw [List.length_append]; exact Nat.add_le_add_right hly 1, ((W2.upd nbp nbl).upd nDp nDl).more (by omega), (g02.but hb0).but hD⟩
        · refine TmAt.keep (keep_lst hDb) (TmAt.snoc (e := (a, v)) (T2.keep (keep_new hb)) upd_same (keep_new hb _ _ (g02.tup hwy hta)))
        · rw [List.map_append, List.pairwise_append]
          refine ⟨pw, List.pairwise_singleton _ _, fun x hx y hy => ?_⟩
          obtain ⟨e, he, rfl⟩ := List.mem_map.mp hx
          rw [List.mem_singleton.mp hy]
          obtain ⟨j, hj⟩ := List.mem_iff_getElem?.mp (hin e he).1
          have hj2 := (List.getElem?_eq_some_iff.mp hj).1
          rw [List.length_take] at hj2
          rw [List.getElem?_take, if_pos (by omega)] at hj
          have q := List.pairwise_iff_getElem.mp asc j i (List.getElem?_eq_some_iff.mp hj).1 (by omega) (by omega)
          rw [(List.getElem?_eq_some_iff.mp hj).2, (List.getElem?_eq_some_iff.mp hLi).2] at q
          exact q
        · rw [List.take_succ, hLi]
          rcases List.mem_append.mp he with q | q
          · exact ⟨List.mem_append_left _ (hin e q).1, (hin e q).2⟩
          · rw [List.mem_singleton.mp q]
            exact ⟨List.mem_append_right _ (by exact List.mem_singleton.mpr rfl), sv⟩
      · refine ⟨ys, es, tz, hD1, T1, pw, fun e he => ⟨?_, (hin e he).2⟩, Nat.le_succ_of_le hly, W1.more (by omega), g01⟩
        rw [List.take_succ]
        exact List.mem_append_left _ (hin e he).1
    · obtain ⟨ys, es, tz, hDx, T, pw, hin, hly, Wx, g⟩ := hx
      rw [List.length_map] at hin hly Wx
      obtain ⟨xy, hxy⟩ := Wx.pl
      refine ⟨_, rfl, p, l, ns, _, rfl, Wx, by omega, npl, fun c H1 sc W1 g1 => ?_⟩
      have g01 := g.trans' g1
      have T1 := T.keep (g1.tk hxy)
      have hD1 := g1.lst nDp hDx
      obtain ⟨x1, hx1⟩ := W1.pl
      refine ⟨_, rfl, D, rfl, ⟨_, SqL.of hD1⟩, fun D2 hD2 => ?_⟩
      have nDD : D2 ≠ D := fun z => by rw [z, hD1] at hD2; cases hD2
      refine lc_list (xs := ys) (fun i Hx => ∃ (zs : List V) (tz2 : List Addr), Hx D2 = some (.lst zs) ∧ TmAt Hx ((es.take i).filter fun e => !decide (V.int e.2 = V.int 0)) zs tz2 ∧ zs.length ≤ i ∧ Grow H1 Hx)
        ⟨[], [], upd_same, .nil, Nat.le_refl _, Grow.new hD2⟩ (fun i Hx _ hx => by
          obtain ⟨_, _, _, _, _, g5⟩ := hx
          exact SqL.of (g5.lst hD1)) (fun i z Hx hz hx => ?_) (fun Hx hx => ?_)
      · obtain ⟨zs, tz2, hDz, T2, hlz, g5⟩ := hx
        obtain ⟨e, b, t, he, rfl, _, hb, ht⟩ := T1.get hz
        have etk : ((es.take (i + 1)).filter fun e => !decide (V.int e.2 = V.int 0)) = ((es.take i).filter fun e => !decide (V.int e.2 = V.int 0)) ++ (if (!decide (V.int e.2 = V.int 0)) = true then [e] else []) := by
          rw [List.take_succ, he, List.filter_append]
          congr 1
          show List.filter _ [e] = _
          rw [List.filter_cons]
          rfl
        have hle := (List.getElem?_eq_some_iff.mp hz).1
        refine ⟨wipe_set, ?_⟩
        refine ⟨_, rfl, b, _, _, _, rfl, rfl, SqT.of (g5.tup hb), at_of (j := 1) rfl rfl, rfl, _, rfl, ite2 (fun hne => ?_) (fun hne => ?_)⟩
        · refine ⟨_, rfl, zs, hDz, by rw [sizeLine_eq]; omega, zs ++ [.ref b], tz2 ++ [t], upd_same, ?_, by rw [List.length_append]; exact Nat.add_le_add_right hlz 1, g5.upd' hD2⟩
          rw [etk, if_pos hne]
          exact TmAt.keep (keep_lst hDz) (TmAt.snoc T2 (g5.tup hb) (g5.tup ht))
        · refine ⟨zs, tz2, hDz, ?_, Nat.le_succ_of_le hlz, g5⟩
          rw [etk, if_neg hne, List.append_nil]
          exact T2
      · obtain ⟨zs, tz2, hDz, T2, hlz, g5⟩ := hx
        rw [T1.len.1, List.take_length] at T2
        refine ⟨D2, zs, rfl, .inl ⟨SqL.of hDz, fun r2 hr2 => ⟨two34, fun r hr => ?_⟩⟩⟩
        have nr2 : r2 ≠ r := fun z => by rw [← z, upd_same] at hr; cases hr
        have g6 := (g5.upd' (none_of g5 hr2) (o := .tup zs)).upd' (none_of g5 (none_upd hr)) (o := .tup [.int c, .ref r2])
        refine k (.ref r) _ (c, es.filter fun e => !decide (V.int e.2 = V.int 0)) ?_ ⟨?_, fun e he => ?_, fun e he z => ?_, sc, fun e he => ?_⟩ ((W1.grow g6).more (by omega)) (g01.trans' g6.w)
        · exact .tup upd_same (.cons (.int c) (.cons (.tup (by rw [upd_ne nr2]; exact upd_same) ((T2.keep (keep_new hr2)).keep (keep_new hr)).enc) .nil))
        · rw [List.pairwise_map] at pw ⊢
          exact pw.filter _
        · exact List.mem_of_mem_take (hin e (List.mem_filter.mp he).1).1
        · have q := (List.mem_filter.mp he).2
          rw [z, decide_eq_true rfl] at q
          cases q
        · exact (hin e (List.mem_filter.mp he).1).2
end
end J1
set_option Elab.async false
set_option linter.all false
set_option maxRecDepth 100000
set_option maxHeartbeats 4000000
namespace J1
open PySem PySem.Spec PyProof.Rows L2 GxR GA RA RZ
abbrev lAl : Stmt := top 38
theorem cAl : FnScope ["_law_well_here", "_law_found", "_law_k", "_law_pick", "_law_atom"] ["_law_well_here"] (defScope lAl) := ⟨rfl, rfl, rfl, by decide +kernel, rfl, by decide +kernel, by decide +kernel⟩
def pyA (a : A3) : PyData := .tuple [.int a.1, .int a.2.1, .int a.2.2]
theorem eqv_A (a b : A3) : PyData.eqv (pyA a) (pyA b) = decide (a = b) := by
  obtain ⟨a1, a2, a3⟩ := a
  obtain ⟨b1, b2, b3⟩ := b
  show ((a1 == b1) && ((a2 == b2) && ((a3 == b3) && true))) = _
  rw [Bool.and_true, Bool.eq_iff_iff, Bool.and_eq_true, Bool.and_eq_true, beq_iff_eq, beq_iff_eq, beq_iff_eq, decide_eq_true_iff]
  constructor
  · rintro ⟨h1, h2, h3⟩
    rw [h1, h2, h3]
  · intro h
    injection h with h1 h2
    injection h2 with h2 h3
    exact ⟨h1, h2, h3⟩
theorem shp_A (l : List A3) : SeqAt.shaped (.list (l.map pyA)) = true := by
  have e1 : PyData.canLayAll0 (l.map pyA) = true := by
    induction l with
    | nil => rfl
    | cons a r ih =>
      show (PyData.canLay0 (pyA a) && PyData.canLayAll0 (r.map pyA)) = true
      rw [ih]
      rfl
  have e2 : PyData.depthAll (l.map pyA) ≤ 1 := by
    induction l with
    | nil => exact Nat.zero_le _
    | cons a r ih =>
      show max (PyData.depth (pyA a)) (PyData.depthAll (r.map pyA)) ≤ 1
      refine Nat.max_le.mpr ⟨Nat.le_refl 1, ih ?_⟩
      exact (show (PyData.canLay0 (pyA a) && PyData.canLayAll0 (r.map pyA)) = true from e1) |> fun z => (Bool.and_eq_true_iff.mp z).2
  show (PyData.canLayAll0 (l.map pyA) && decide (PyData.depthAll (l.map pyA) + 1 ≤ 64)) = true
  rw [e1, decide_eq_true (by omega)]
  rfl
theorem any_A (l : List A3) (a : A3) : ((l.map pyA).any fun z => PyData.eqv z (pyA a)) = decide (a ∈ l) := by
  rw [Bool.eq_iff_iff, List.any_eq_true, decide_eq_true_iff]
  constructor
  · rintro ⟨z, hz, h⟩
    obtain ⟨b, hb, rfl⟩ := List.mem_map.mp hz
    rw [eqv_A, decide_eq_true_iff] at h
    rw [← h]
    exact hb
  · intro h
    exact ⟨pyA a, List.mem_map.mpr ⟨a, h, rfl⟩, by rw [eqv_A]; exact decide_eq_true rfl⟩
/-- atoms as they stand, in a list of addresses -/
inductive AtP (H : Hp) : List A3 → List Addr → Prop
  | nil : AtP H [] []
  | cons {a : A3} {t : Addr} {l : List A3} {ts : List Addr} (h : H t = some (.tup ((il a).map V.int))) (r : AtP H l ts) : AtP H (a :: l) (t :: ts)
def sel3 (a b c r : Int) : Int := if r = 0 then a else if r = 1 then b else c
theorem at3 {a b c r : Int} (h0 : 0 ≤ r) (h1 : r < 3) : atI [V.int a, V.int b, V.int c] r = some (V.int (sel3 a b c r)) := by
  have h : r = 0 ∨ r = 1 ∨ r = 2 := by omega
  rcases h with h | h | h <;> subst h <;> rfl
theorem three34 {a b c : V} : [a, b, c].length ≤ sizeLine := by
  rw [sizeLine_eq]
  show 3 ≤ _
  omega
theorem AtP.keep {H H' : Hp} (k : ∀ a xs, H a = some (.tup xs) → H' a = some (.tup xs)) {l : List A3} {ts : List Addr} (h : AtP H l ts) : AtP H' l ts := by
  induction h with
  | nil => exact .nil
  | cons h r ih => exact .cons (k _ _ h) ih
theorem AtP.snoc {H : Hp} {l : List A3} {ts : List Addr} {a : A3} {t : Addr} (h : AtP H l ts) (ht : H t = some (.tup ((il a).map V.int))) : AtP H (l ++ [a]) (ts ++ [t]) := by
  induction h with
  | nil => exact .cons ht .nil
  | cons h r ih => exact .cons h ih
theorem AtP.dp {K : PySem.W.Frag} {H : Hp} {l : List A3} {ts : List Addr} (h : AtP H l ts) : DpAll K H (ts.map V.ref) (l.map pyA) := by
  induction h with
  | nil => exact .nil
  | cons h r ih => exact .cons (.tup (SqT.of h) (.cons (.int _) (.cons (.int _) (.cons (.int _) .nil)))) ih
theorem AtP.map {H : Hp} {l : List A3} {ts : List Addr} (h : AtP H l ts) : ts.map (gH H) = l ∧ (∀ t ∈ ts, H t = some (.tup ((il (gH H t)).map V.int))) := by
  induction h with
  | nil => exact ⟨rfl, fun _ z => absurd z List.not_mem_nil⟩
  | cons h r ih =>
    refine ⟨by rw [List.map_cons, ih.1, gH_of h], fun t m => ?_⟩
    rcases List.mem_cons.mp m with q | q
    · rw [q, gH_of h]
      exact h
    · exact ih.2 t q
def spAl : Sp := fun vs H Q _ => ∃ (p l : Addr) (ns : List Int) (n : Nat), vs = [.ref p] ∧ Wl H p l ns n ∧ n ≤ 1000000 ∧ p ≠ l ∧
  ∀ (A : Addr) (H' : Hp) (L : List A3), AtL H' A L → H A = none → L.Pairwise (fun a b => rk a < rk b) → L.length ≤ 9 → L ≠ [] → (∀ a ∈ L, OkA a) → Wl H' p l ns (n + 100) → GrowW p H H' → Q (.ref A) H'
section
variable {P : Program} {w : World} {K : PySem.W.Frag} {mg : Str → Option Value} {base : Heap}
theorem ok_al {f fD : Addr} {fd fdD : FuncData} (F : Fun K "_law_atoms" "_law_atoms" lAl f fd) (N : Gd mg) (G : Gk mg) (GD : FnOk P w K mg base CX0 1 fD fdD ["_law_well_here", "_law_many"] spDr) (DD : Df K mg "_law_draw" ["_law_well_here", "_law_many"] fD fdD) :
    FnOk P w K mg base CX0 2 f fd ["_law_well_here"] spAl := by
  refine F.ok (k := 1) cAl (fun vs H Q E h => ?_) (fun cdv A outer s H vs Q E hr h => ?_)
  · obtain ⟨_, _, _, _, rfl, _⟩ := h
    rfl
  · obtain ⟨p, l, ns, n, rfl, W, hn, npl, k⟩ := h
    have hu65 : (A.deeper (envOfC "_law_atoms" (defScope lAl) s.heap.objs.size f cdv)).units + 65 < cLine := by
      have := hr.un
      omega
    refine ⟨_, (pss_cons (ps_set (i := 1) cAl.nd rfl (Or.inl rfl) (pe_lst pa_nil)) (pss_cons (ps_for PassesOwn.never rfl (pi_range1 (by rfl) N.range (pa_cons (pe_op op_add pe_int (pe_call (GD.mono (by decide)) hr (by rfl) DD.g DD.k DD.b .nil pass0 (pa_cons (pv 0) (pa_cons pe_int pa_nil)))) pa_nil)) (pg_name (i := 2) cAl.nd rfl (Or.inl rfl)) (pss_cons (ps_set (i := 3) cAl.nd rfl (Or.inl rfl) (pe_call (GD.mono (by decide)) hr (by rfl) DD.g DD.k DD.b .nil pass0 (pa_cons (pv 0) (pa_cons pe_int pa_nil)))) (pss_cons (ps_set (i := 4) cAl.nd rfl (Or.inl rfl) (pe_tup (pa_cons pe_int (pa_cons (pe_op op_sub (pe_call (GD.mono (by decide)) hr (by rfl) DD.g DD.k DD.b .nil pass0 (pa_cons (pv 0) (pa_cons pe_int pa_nil))) pe_int) (pa_cons (pe_call (GD.mono (by decide)) hr (by rfl) DD.g DD.k DD.b .nil pass0 (pa_cons (pv 0) (pa_cons pe_int pa_nil))) pa_nil))))) (C8.pss_cut (ps_if (pt_cmpR op_eq (pv 3) pe_int (nomark _)) (pss_one (ps_set (i := 4) cAl.nd rfl (Or.inl rfl) (pe_tup (pa_cons pe_int (pa_cons (pe_call (GD.mono (by decide)) hr (by rfl) DD.g DD.k DD.b .nil pass0 (pa_cons (pv 0) (pa_cons pe_int pa_nil))) (pa_cons (pe_call (GD.mono (by decide)) hr (by rfl) DD.g DD.k DD.b .nil pass0 (pa_cons (pv 0) (pa_cons pe_int pa_nil))) pa_nil)))))) (pss_one (ps_if (pt_cmpR op_eq (pv 3) pe_int (nomark _)) (pss_one (ps_set (i := 4) cAl.nd rfl (Or.inl rfl) (pe_tup (pa_cons pe_int (pa_cons (pe_ix ix_list (pe_lst (pa_cons (pe_un un_neg pe_int) (pa_cons pe_int (pa_cons pe_int pa_nil)))) (pe_call (GD.mono (by decide)) hr (by rfl) DD.g DD.k DD.b .nil pass0 (pa_cons (pv 0) (pa_cons pe_int pa_nil))) (fun _ _ => rfl)) (pa_cons (pe_ix ix_list (pe_lst (pa_cons pe_int (pa_cons pe_int (pa_cons pe_int pa_nil)))) (pe_call (GD.mono (by decide)) hr (by rfl) DD.g DD.k DD.b .nil pass0 (pa_cons (pv 0) (pa_cons pe_int pa_nil))) (fun _ _ => rfl)) pa_nil)))))) pss_nil))) (pss_one (ps_if (pt_cmpR (op_notInD hu65) (pv 4) (pv 1) (by rfl)) (pss_one (ps_expr (pe_bm PySem.F.plainAttrs_list PySem.F.slot_list_append PySem.F.type_list_append mt_append (pv 1) (pa_cons (pv 4) pa_nil)))) pss_nil)))))) (pss_one (ps_ret (pe_callB cr_sorted3 (by rfl) G.sorted (by decide +kernel) (pa_cons (pv 1) pa_nil)))))), ?_⟩
    refine ⟨nil34, fun D hD => ?_⟩
    obtain ⟨nDp, nDl⟩ := W.np hD
    have W0 := W.grow (Grow.new hD (o := .lst []))
    refine ⟨_, rfl, p, l, ns, n, 8, rfl, by decide, cdw (by decide) (by decide), W0, by omega, npl, fun r H1 r0 r1 W1 g1 => ⟨_, _, rfl, rfl, ?_⟩⟩
    refine ⟨_, rfl, by omega, by omega, ?_⟩
    rw [show (2 + r).toNat = (2 + r.toNat) by omega]
    refine for_range (n := 2 + r.toNat) (fun i σ' Hc => ∃ (v2 v3 v4 : Option V) (es : List A3) (ts : List Addr), σ' = [some (.ref p), some (.ref D), v2, v3, v4] ∧ Hc D = some (.lst (ts.map V.ref)) ∧ AtP Hc es ts ∧ es.Nodup ∧ (∀ a ∈ es, OkA a) ∧ es.length ≤ i ∧ (1 ≤ i → es ≠ []) ∧ ts.length = es.length ∧ Wl Hc p l ns (n + 1 + 6 * i) ∧ GrowW p H Hc)
      ⟨_, _, _, [], [], rfl, g1.lst nDp upd_same, .nil, List.nodup_nil, fun _ z => absurd z List.not_mem_nil, Nat.le_refl _, fun z => absurd z (by decide), rfl, W1, (GrowW.new hD).trans' g1⟩ (fun i σ' Hc hi hq => ?_) (fun σ' Hc hq => ?_)
    · obtain ⟨v2, v3, v4, es, ts, rfl, hDc, T, nd, oa, le, nz, lt, Wc, g⟩ := hq
      refine ⟨_, rfl, p, l, ns, _, 5, rfl, by decide, cdw (by decide) (by decide), Wc, by omega, npl, fun k1 H2 _ _ W2 g2 => ?_⟩
      refine ⟨_, rfl, p, l, ns, _, 401, rfl, by decide, cdw (by decide) (by decide), W2, by omega, npl, fun b H3 b0 b1 W3 g3 => ⟨_, _, rfl, rfl, ?_⟩⟩
      refine ⟨_, rfl, p, l, ns, _, 13, rfl, by decide, cdw (by decide) (by decide), W3, by omega, npl, fun c H4 c0 c1 W4 g4 => ⟨three34, fun t ht => ?_⟩⟩
      obtain ⟨x4, hx4⟩ := W4.pl
      obtain ⟨xc, hxc⟩ := Wc.pl
      have gc4 := (g2.trans' g3).trans' g4
      have g04 := g.trans' gc4
      obtain ⟨nt1, nt2⟩ := W4.np ht
      have W5 := W4.upd (o := .tup [.int 0, .int (b - 1), .int c]) nt1 nt2
      have gc5 : GrowW p Hc (L2.upd H4 t (.tup [.int 0, .int (b - 1), .int c])) := gc4.but (gc4.none' hx4 ht)
      refine ⟨fun σ' H' => ∃ (t' : Addr) (a : A3), σ' = [some (.ref p), some (.ref D), some (.int (0 + (i : Nat))), some (.int k1), some (.ref t')] ∧ H' t' = some (.tup ((il a).map V.int)) ∧ OkA a ∧ Wl H' p l ns (n + 1 + 6 * i + 5) ∧ GrowW p Hc H', ?_, ?_⟩
      · refine ⟨_, rfl, rfl, _, rfl, ite2 (fun _ => ?_) (fun _ => ?_)⟩
        · refine ⟨_, rfl, p, l, ns, _, 240, rfl, by decide, cdw (by decide) (by decide), W5, by omega, npl, fun b2 H6 b20 b21 W6 g6 => ?_⟩
          refine ⟨_, rfl, p, l, ns, _, 2, rfl, by decide, cdw (by decide) (by decide), W6, by omega, npl, fun c2 H7 c20 c21 W7 g7 => ⟨three34, fun t2 ht2 => ?_⟩⟩
          obtain ⟨x7, hx7⟩ := W7.pl
          obtain ⟨nu1, nu2⟩ := W7.np ht2
          have gc7 := (gc5.trans' g6).trans' g7
          exact ⟨t2, (1, b2, c2), rfl, upd_same, ⟨.inr ⟨rfl, b20, by dsimp only; omega, c20, by dsimp only; omega⟩⟩, (W7.upd nu1 nu2).more (by omega), gc7.but (gc7.none' hx7 ht2)⟩
        · refine ⟨_, rfl, rfl, _, rfl, ite2 (fun _ => ?_) (fun _ => ?_)⟩
          · refine ⟨_, rfl, three34, fun q1 hq1 => ?_⟩
            have W6 := W5.grow (Grow.new hq1 (o := .lst [.int (-1), .int 0, .int 399]))
            obtain ⟨nq1, _⟩ := W5.np hq1
            refine ⟨_, rfl, p, l, ns, _, 3, rfl, by decide, cdw (by decide) (by decide), W6, by omega, npl, fun r6 H6 r60 r61 Wa ga => ?_⟩
            refine ⟨q1, _, _, _, rfl, rfl, SqL.of (ga.lst nq1 upd_same), at3 r60 r61, three34, fun q2 hq2 => ?_⟩
            have W8 := Wa.grow (Grow.new hq2 (o := .lst [.int 0, .int 1, .int 12]))
            obtain ⟨nq2, _⟩ := Wa.np hq2
            refine ⟨_, rfl, p, l, ns, _, 3, rfl, by decide, cdw (by decide) (by decide), W8, by omega, npl, fun r7 H8 r70 r71 Wb gb => ?_⟩
            refine ⟨q2, _, _, _, rfl, rfl, SqL.of (gb.lst nq2 upd_same), at3 r70 r71, three34, fun t2 ht2 => ?_⟩
            obtain ⟨x8, hx8⟩ := Wb.pl
            obtain ⟨nu1, nu2⟩ := Wb.np ht2
            have gc6 := (((gc5.trans' (GrowW.new hq1)).trans' ga).trans' (GrowW.new hq2)).trans' gb
            refine ⟨t2, (0, sel3 (-1) 0 399 r6, sel3 0 1 12 r7), rfl, upd_same, ⟨.inl ⟨rfl, ?_, ?_, ?_, ?_⟩⟩, (Wb.upd nu1 nu2).more (by omega), gc6.but (gc6.none' hx8 ht2)⟩
            all_goals
              dsimp only
              unfold sel3
              split
              · omega
              · split <;> omega
          · exact ⟨t, (0, b - 1, c), rfl, upd_same, ⟨.inl ⟨rfl, by dsimp only; omega, by dsimp only; omega, c0, by dsimp only; omega⟩⟩, W5.more (by omega), gc5⟩
      · rintro σ' H' ⟨t', a, rfl, hta, oka, W', g'⟩
        have hD' := g'.lst nDp hDc
        have T' := T.keep (g'.tk hxc)
        refine ⟨_, rfl, _, rfl, pyA a, es.map pyA, .tup (SqT.of hta) (.cons (.int _) (.cons (.int _) (.cons (.int _) .nil))), .lst (SqL.of hD') T'.dp, rfl, shp_A es, ?_⟩
        rw [any_A]
        by_cases hm : a ∈ es
        · rw [decide_eq_true hm]
          refine ⟨_, rfl, iteF ⟨_, _, _, es, ts, rfl, hD', T', nd, oa, Nat.le_succ_of_le le, fun _ z => (by rw [z] at hm; cases hm), lt, W'.more (by omega), g.trans' g'⟩⟩
        · rw [decide_eq_false hm]
          refine ⟨_, rfl, iteT ⟨_, rfl, .inl ⟨rfl, _, SqL.of hD'⟩, _, rfl, D, _, _, rfl, rfl, hD', by rw [List.length_map, sizeLine_eq]; omega, ?_⟩⟩
          refine ⟨_, _, _, es ++ [a], ts ++ [t'], rfl, ?_, (T'.snoc hta).keep (keep_lst hD'), ?_, fun b hb => ?_, by rw [List.length_append]; exact Nat.add_le_add_right le 1, fun _ z => by simp at z, by rw [List.length_append, List.length_append, lt]; rfl, (W'.upd nDp nDl).more (by omega), (g.trans' g').but hD⟩
          · rw [upd_same, List.map_append]
            rfl
          · rw [List.nodup_append]
            exact ⟨nd, by simp, fun x hx y hy z => hm (by rw [← List.mem_singleton.mp hy, ← z]; exact hx)⟩
          · rcases List.mem_append.mp hb with q | q
            · exact oa b q
            · rw [List.mem_singleton.mp q]
              exact oka
    · obtain ⟨v2, v3, v4, es, ts, rfl, hDc, T, nd, oa, le, nz, lt, Wc, g⟩ := hq
      obtain ⟨m1, m2⟩ := T.map
      obtain ⟨xc, hxc⟩ := Wc.pl
      have hall : ∀ t ∈ ts, gH Hc t ∈ es := fun t ht => by rw [← m1]; exact List.mem_map.mpr ⟨t, ht, rfl⟩
      refine ⟨_, rfl, D, ts, gH Hc, rfl, SqL.of hDc, by omega, fun t ht => ⟨m2 t ht, (oa _ (hall t ht)).rg⟩, fun us q hperm hsort hq => ?_⟩
      have lu := hperm.length_eq
      refine k q _ (us.map (gH Hc)) ⟨us, upd_same, (List.length_map _).symm, fun i t a e1 e2 => ?_⟩ (g.none' hxc hq) ?_ (by rw [List.length_map]; omega) (fun z => ?_) (fun a ha => ?_) ((Wc.grow (Grow.new hq)).more (by omega)) (g.but (g.none' hxc hq))
      · rw [List.getElem?_map, e1] at e2
        cases e2
        exact keep_new hq _ _ (m2 t (hperm.mem_iff.mp (List.mem_of_getElem? e1)))
      · have ndu : (us.map (gH Hc)).Nodup := (hperm.map (gH Hc)).nodup_iff.mpr (by rw [m1]; exact nd)
        have nd2 := List.pairwise_map.mp ndu
        rw [List.pairwise_map]
        refine List.Pairwise.imp_of_mem (fun {x y} hx hy h => ?_) (hsort.and nd2)
        rcases Int.lt_or_eq_of_le h.1 with z | z
        · exact z
        · exact absurd (rk_inj (oa _ (hall x (hperm.mem_iff.mp hx))).rg (oa _ (hall y (hperm.mem_iff.mp hy))).rg z) h.2
      · have z2 := congrArg List.length z
        rw [List.length_map, lu, lt] at z2
        exact nz (by omega) (List.eq_nil_of_length_eq_zero z2)
      · obtain ⟨t, ht, rfl⟩ := List.mem_map.mp ha
        exact oa _ (hall t (hperm.mem_iff.mp ht))
end
end J1
set_option Elab.async false
set_option linter.all false
set_option maxRecDepth 100000
set_option maxHeartbeats 4000000
namespace J1
open PySem PySem.Spec PyProof.Rows L2 GxR GA RA RZ
/-! ### what is made -/
/-- a bound of what is drawn and multiplied -/
def Big (i : Int) : Prop := -1000000000000000000000000000000000000 ≤ i ∧ i ≤ 1000000000000000000000000000000000000
theorem coef_small {l : List Tm} (a : A3) (asc : (l.map (·.1)).Pairwise (fun a b => rk a < rk b)) (sm : ∀ e ∈ l, Small e.2) : Small (coef l a) := by
  induction l with
  | nil => exact ⟨by show _ < (0 : Int); decide, by show (0 : Int) < _; decide⟩
  | cons e l ih =>
    rw [List.map_cons, List.pairwise_cons] at asc
    have ih := ih asc.2 fun e he => sm e (List.mem_cons_of_mem _ he)
    show Small ((if e.1 = a then e.2 else 0) + coef l a)
    by_cases q : e.1 = a
    · rw [if_pos q, coef_zero (fun z => by
        have w := asc.1 a z
        rw [q] at w
        exact absurd w (Int.lt_irrefl _)), Int.add_zero]
      exact sm e List.mem_cons_self
    · rw [if_neg q, Int.zero_add]
      exact ih
theorem mul_big {m c : Int} (hm : Big m) (hc : Small c) : -10000000000000000000000000000000000000000000000000000000000000000000000 ≤ m * c ∧ m * c ≤ 10000000000000000000000000000000000000000000000000000000000000000000000 := by
  obtain ⟨m1, m2⟩ := hm
  obtain ⟨c1, c2⟩ := hc
  have h : (m * c).natAbs ≤ 1000000000000000000000000000000000000 * 10000000000000000000000000000000000 := by
    rw [Int.natAbs_mul]
    exact Nat.mul_le_mul (by omega) (by omega)
  omega
theorem cS_bd : ∀ (hs : List Ht) (ms : List Int), (∀ h ∈ hs, Small h.f.1) → (∀ m ∈ ms, Big m) → (cS hs ms).natAbs ≤ hs.length * 10000000000000000000000000000000000000000000000000000000000000000000000
  | [], _, _, _ => Nat.zero_le _
  | _ :: _, [], _, _ => Nat.zero_le _
  | h :: hs, m :: ms, p, q => by
    have ih := cS_bd hs ms (fun h hh => p h (List.mem_cons_of_mem _ hh)) (fun m hm => q m (List.mem_cons_of_mem _ hm))
    have z := mul_big (q m List.mem_cons_self) (p h List.mem_cons_self)
    show (m * h.f.1 + cS hs ms).natAbs ≤ _
    rw [List.length_cons, Nat.succ_mul]
    omega
theorem vS_bd (a : A3) : ∀ (hs : List Ht) (ms : List Int), (∀ h ∈ hs, Small (coef h.f.2 a)) → (∀ m ∈ ms, Big m) → (vS hs ms a).natAbs ≤ hs.length * 10000000000000000000000000000000000000000000000000000000000000000000000
  | [], _, _, _ => Nat.zero_le _
  | _ :: _, [], _, _ => Nat.zero_le _
  | h :: hs, m :: ms, p, q => by
    have ih := vS_bd a hs ms (fun h hh => p h (List.mem_cons_of_mem _ hh)) (fun m hm => q m (List.mem_cons_of_mem _ hm))
    have z := mul_big (q m List.mem_cons_self) (p h List.mem_cons_self)
    show (m * coef h.f.2 a + vS hs ms a).natAbs ≤ _
    rw [List.length_cons, Nat.succ_mul]
    omega
theorem vS_dvd (a : A3) {s : Int} : ∀ (hs : List Ht) (ms : List Int), (∀ m ∈ ms, s ∣ m) → s ∣ vS hs ms a
  | [], _, _ => Int.dvd_zero _
  | _ :: _, [], _ => Int.dvd_zero _
  | h :: hs, m :: ms, q => Int.dvd_add (Int.dvd_mul_of_dvd_left (q m List.mem_cons_self)) (vS_dvd a hs ms fun m hm => q m (List.mem_cons_of_mem _ hm))
theorem vS_off {a : A3} : ∀ (hs : List Ht) (ms : List Int), (∀ h ∈ hs, a ∉ h.f.2.map (·.1)) → vS hs ms a = 0
  | [], _, _ => rfl
  | _ :: _, [], _ => rfl
  | h :: hs, m :: ms, q => by
    show m * coef h.f.2 a + vS hs ms a = 0
    rw [coef_zero (q h List.mem_cons_self), vS_off hs ms fun h hh => q h (List.mem_cons_of_mem _ hh), Int.mul_zero, Int.zero_add]
theorem sm_of {i : Int} (h : i.natAbs ≤ 1000000000000000000000000000000000000000000000000000000000000000000000000000000000000) : Sm i :=
  Nat.lt_of_le_of_lt h (by decide)
theorem AtL.p {H : Hp} {A : Addr} {L : List A3} (h : AtL H A L) : ∃ ts, H A = some (.lst (ts.map V.ref)) ∧ AtP H L ts := by
  obtain ⟨ts, h1, h2, h3⟩ := h
  refine ⟨ts, h1, ?_⟩
  clear h1
  induction ts generalizing L with
  | nil =>
    cases L with
    | nil => exact .nil
    | cons a L => cases h2
  | cons t ts ih =>
    cases L with
    | nil => cases h2
    | cons a L => exact .cons (h3 0 t a rfl rfl) (ih (Nat.succ.inj h2) fun i t a e1 e2 => h3 (i + 1) t a e1 e2)
theorem AtP.get {H : Hp} {l : List A3} {ts : List Addr} (h : AtP H l ts) : ts.length = l.length ∧ ∀ (i : Nat) (t : Addr) (a : A3), ts[i]? = some t → l[i]? = some a → H t = some (.tup ((il a).map V.int)) := by
  induction h with
  | nil => exact ⟨rfl, fun i t a e => by cases e⟩
  | cons h r ih =>
    refine ⟨by rw [List.length_cons, List.length_cons, ih.1], fun i t a e1 e2 => ?_⟩
    cases i with
    | zero => cases e1; cases e2; exact h
    | succ i => exact ih.2 i t a e1 e2
theorem AtP.l {H : Hp} {A : Addr} {L : List A3} {ts : List Addr} (h : AtP H L ts) (hA : H A = some (.lst (ts.map V.ref))) : AtL H A L := ⟨ts, hA, h.get.1, h.get.2⟩
/-- consts of at most B -/
def MdB (B : Nat) (goal : Fm) (hs : List Ht) : Prop := goal.1.natAbs ≤ B ∧ ∀ h ∈ hs, h.f.1.natAbs ≤ B
/-- the showing that is made is one -/
theorem made_shows {U : List A3} {ns : List Int} {goal : Fm} {hs : List Ht} {s : Int} {ms : List Int} {w : A3 → Int} (h0 : 0 ≤ s) (hl : ms.length = hs.length) (hok : ∀ (i : Nat) (h : Ht) (m : Int), hs[i]? = some h → ms[i]? = some m → h.ex = true ∨ 0 ≤ m)
    (hc : ¬ s * goal.1 - cS hs ms < (if s = 0 then 1 else 0)) (hv : ∀ a ∈ U, s * coef goal.2 a - vS hs ms a = w a ∧ 0 ≤ w a ∧ (w a ≠ 0 → flo ns a = true)) : showsB U ns goal hs (.tup [.int s, .tup (ms.map .int)]) = true := by
  have em : (ms.map Da.int).map nOf = ms := by
    rw [List.map_map]
    exact List.map_id _
  have e1 : cst (psOf goal hs (.tup [.int s, .tup (ms.map .int)])) = s * goal.1 - cS hs ms := by
    show s * goal.1 + cst (tkn (ms.map .int) hs) = _
    rw [cS_tkn, em]
    omega
  have e2 : ∀ a, vl (psOf goal hs (.tup [.int s, .tup (ms.map .int)])) a = s * coef goal.2 a - vS hs ms a := fun a => by
    show s * coef goal.2 a + vl (tkn (ms.map .int) hs) a = _
    rw [vS_tkn, em]
    omega
  have e3 : isSh hs (.tup [.int s, .tup (ms.map .int)]) = true := by
    unfold isSh
    rw [show isTu 2 2 (Da.tup [.int s, .tup (ms.map .int)]) = true from rfl, show kid (Da.tup [.int s, .tup (ms.map .int)]) 0 = .int s from rfl, show kid (Da.tup [.int s, .tup (ms.map .int)]) 1 = .tup (ms.map .int) from rfl, show isInt (.int s) = true from rfl,
      show nOf (.int s) = s from rfl, decide_eq_true h0, isTu_true (by rw [List.length_map]; omega) (by rw [List.length_map]; omega), show kids (Da.tup (ms.map .int)) = ms.map .int from rfl]
    rw [show (ms.map Da.int).all isInt = true by
      rw [List.all_eq_true]
      intro d hd
      obtain ⟨m, _, rfl⟩ := List.mem_map.mp hd
      rfl]
    show okM hs (ms.map .int) = true
    unfold okM
    rw [List.all_eq_true]
    intro p hp
    obtain ⟨i, hi⟩ := List.mem_iff_getElem?.mp hp
    obtain ⟨q1, q2⟩ := List.getElem?_zip_eq_some.mp hi
    obtain ⟨m, q3, q4⟩ := map_get q2
    rw [← q4]
    rcases hok i p.1 m q1 q3 with z | z
    · rw [z]; rfl
    · show (p.1.ex || decide (0 ≤ m)) = true
      rw [decide_eq_true z, Bool.or_true]
  unfold showsB
  rw [e3, Bool.true_and, Bool.and_eq_true]
  refine ⟨?_, ?_⟩
  · rw [e1]
    exact decide_eq_true hc
  · rw [List.all_eq_true]
    intro a ha
    obtain ⟨h1, h2, h3⟩ := hv a ha
    rw [e2, h1]
    unfold okV
    by_cases z : w a = 0
    · rw [decide_eq_true z, Bool.true_or]
    · rw [h3 z, decide_eq_true (show 0 < w a by omega)]
      cases decide (w a = 0) <;> rfl
end J1
set_option Elab.async false
set_option linter.all false
set_option maxRecDepth 100000
set_option maxHeartbeats 4000000
namespace J1
open PySem PySem.Spec PyProof.Rows L2 GxR GA RA RZ
abbrev lMa : Stmt := top 42
theorem cMa : FnScope ["_law_well_here", "_law_never", "_law_atoms_here", "_law_floors", "_law_atom", "_law_scale", "_law_free", "_law_some", "_law_many", "_law_hints", "_law_k", "_law_times", "_law_form_here", "_law_exact", "_law_origin_here", "_law_by_here", "_law_const", "_law_sums", "_law_at", "_law_inner"] ["_law_well_here", "_law_never", "_law_atoms_here"] (defScope lMa) := ⟨rfl, rfl, rfl, by decide +kernel, rfl, by decide +kernel, by decide +kernel⟩
def spMa : Sp := fun vs H Q _ => ∃ (p l N0 A0 : Addr) (ns : List Int) (n : Nat) (nv : List Int) (L : List A3), vs = [.ref p, .ref N0, .ref A0] ∧ Wl H p l ns n ∧ n ≤ 10000 ∧ p ≠ l ∧ H N0 = some (.tup (nv.map V.int)) ∧ AtL H A0 L ∧ A0 ≠ p ∧ L.Pairwise (fun a b => rk a < rk b) ∧ L.length ≤ 9 ∧ (∀ a ∈ L, OkA a) ∧ GoodN nv ∧
  ∀ (r : Addr) (H' : Hp) (xg xh xd : V) (goal : Fm) (hs : List Ht) (s : Int) (ms : List Int), H' r = some (.lst [xg, xh, xd]) → Enc H' (fmD goal) xg → Enc H' (.tup (hs.map htD)) xh → Enc H' (.tup [.int s, .tup (ms.map .int)]) xd → GoodIn L nv goal hs → 0 ≤ s → s ≤ 5 → (∀ m ∈ ms, Big m) → ms.length = hs.length → MdB 1000000000000000000000000000000000000000000000000000000000000000000000000000000000 goal hs →
    showsB L nv goal hs (.tup [.int s, .tup (ms.map .int)]) = true → Wl H' p l ns (n + 20000) → GrowW p H H' → Q (.ref r) H'
section
variable {P : Program} {w : World} {K : PySem.W.Frag} {mg : Str → Option Value} {base : Heap}
theorem noTup {H : Hp} {w : Addr} {ys : List V} (h : H w = some (.lst ys)) : ∀ xs, H w ≠ some (.tup xs) := fun xs z => by rw [h] at z; cases z
theorem encs_snoc {B : Addr → Prop} {H : Hp} : ∀ {l : List Da} {xs : List V} {d : Da} {x : V}, EncsB B H l xs → EncB B H d x → EncsB B H (l ++ [d]) (xs ++ [x])
  | [], _, _, _, .nil, e => .cons e .nil
  | _ :: _, _, _, _, .cons h t, e => .cons h (encs_snoc t e)
theorem og_enc {B : Addr → Prop} {H : Hp} {o : Option (Int × Int)} {x : V} (h : ogV H o x) : EncB B H (ogD o) x := by
  cases o with
  | none =>
    have h : x = .non := h
    rw [h]
    exact .non
  | some q =>
    obtain ⟨b, rfl, hb⟩ := h
    exact .tup hb (.cons (.int _) (.cons (.int _) .nil))
theorem encs_ints {B : Addr → Prop} {H : Hp} : ∀ ms : List Int, EncsB B H (ms.map .int) (ms.map V.int)
  | [] => .nil
  | _ :: r => .cons (.int _) (encs_ints r)
theorem ok_snoc {hs : List Ht} {ms : List Int} {h : Ht} {m : Int} (hl : hs.length = ms.length) (hok : ∀ (j : Nat) (h : Ht) (m : Int), hs[j]? = some h → ms[j]? = some m → h.ex = true ∨ 0 ≤ m) (hm : h.ex = true ∨ 0 ≤ m) :
    ∀ (j : Nat) (h' : Ht) (m' : Int), (hs ++ [h])[j]? = some h' → (ms ++ [m])[j]? = some m' → h'.ex = true ∨ 0 ≤ m' := by
  intro j h' m' h1 h2
  by_cases hj : j < hs.length
  · rw [List.getElem?_append_left hj] at h1
    rw [List.getElem?_append_left (by omega)] at h2
    exact hok j h' m' h1 h2
  · rw [List.getElem?_append_right (by omega)] at h1 h2
    have z := (List.getElem?_eq_some_iff.mp h1).1
    simp only [List.length_cons, List.length_nil] at z
    rw [show j - hs.length = 0 by omega] at h1
    rw [show j - ms.length = 0 by omega] at h2
    cases h1
    cases h2
    exact hm
theorem Grow.tk0 {H H' : Hp} (g : Grow H H') : ∀ a xs, H a = some (.tup xs) → H' a = some (.tup xs) := fun _ _ h => g.tup h
theorem ok_made {f fD fF fO fB fR fS : Addr} {fd fdD fdF fdO fdB fdR fdS : FuncData} (F : Fun K "_law_made" "_law_made" lMa f fd) (N : Gd mg)
    (GD : FnOk P w K mg base CX0 1 fD fdD ["_law_well_here", "_law_many"] spDr) (DD : Df K mg "_law_draw" ["_law_well_here", "_law_many"] fD fdD)
    (GF : FnOk P w K mg base CX0 3 fF fdF ["_law_well_here", "_law_atoms_here"] spFm) (DF : Df K mg "_law_form" ["_law_well_here", "_law_atoms_here"] fF fdF)
    (GO : FnOk P w K mg base CX0 2 fO fdO ["_law_well_here"] spOg) (DO : Df K mg "_law_origin" ["_law_well_here"] fO fdO)
    (GB : FnOk P w K mg base CX0 2 fB fdB ["_law_well_here"] spBy) (DB : Df K mg "_law_by" ["_law_well_here"] fB fdB)
    (GR : FnOk P w K mg base CX0 1 fR fdR ["_law_goal", "_law_hints", "_law_scale", "_law_multipliers"] spRe) (DR : Df K mg "_law_rest" ["_law_goal", "_law_hints", "_law_scale", "_law_multipliers"] fR fdR)
    (GS : FnOk P w K mg base CX0 1 fS fdS ["_law_const", "_law_sums"] spSo) (DS : Df K mg "_law_sum_of" ["_law_const", "_law_sums"] fS fdS) :
    FnOk P w K mg base CX0 4 f fd ["_law_well_here", "_law_never", "_law_atoms_here"] spMa := by
  refine F.ok (k := 3) cMa (fun vs H Q E h => ?_) (fun cdv A outer s H vs Q E hr h => ?_)
  · obtain ⟨_, _, _, _, _, _, _, _, rfl, _⟩ := h
    rfl
  · obtain ⟨p, l, N0, A0, ns, n, nv, L, rfl, W, hn, npl, hN0, hA, nAp, asc, hL9, okL, gN, k⟩ := h
    have hu := hu_of hr
    refine ⟨_, (pss_cons (ps_setLc (i := 3) (own := [("_law_atom", 4)]) (g := gName 4) (by rfl) cMa.nd rfl rfl (sw_true rfl rfl rfl (by decide +kernel)) (pi_list (pv 2)) (blkOk_by (own := [("_law_atom", 4)]) (N := ["_law_well_here", "_law_never", "_law_atoms_here", "_law_floors", "_law_atom", "_law_scale", "_law_free", "_law_some", "_law_many", "_law_hints", "_law_k", "_law_times", "_law_form_here", "_law_exact", "_law_origin_here", "_law_by_here", "_law_const", "_law_sums", "_law_at", "_law_inner"]) (sc := defScope lMa) (by decide +kernel)) (fun _ _ _ _ _ => (pg_name (i := 4) cMa.nd rfl (Or.inl rfl))) (fun _ _ _ _ _ => (pts_one (PW.pt (pw_or (pt_cmpR op_eq (pe_ix (r := rIxT K) ix_tup (pv 4) pe_int (fun _ _ => rfl)) pe_int (nomark _)) (pw_or1 (pt_cmpR (r := rIn K false) op_in_seq (pe_ix (r := rIxT K) ix_tup (pv 4) pe_int (fun _ _ => rfl)) (pv 1) (by rfl))))))) (fun _ _ _ _ _ => (pv 4))) (pss_cons (ps_set (i := 5) cMa.nd rfl (Or.inl rfl) (pe_call (GD.mono (by decide)) hr (by rfl) DD.g DD.k DD.b .nil pass0 (pa_cons (pv 0) (pa_cons pe_int pa_nil)))) (C8.pss_cut (ps_set (i := 6) cMa.nd rfl (Or.inl rfl) (pe_or (pe_cmpR op_eq (pv 5) pe_int (nomark _)) (pe_one (pe_cmpR op_eq (pe_call (GD.mono (by decide)) hr (by rfl) DD.g DD.k DD.b .nil pass0 (pa_cons (pv 0) (pa_cons pe_int pa_nil))) pe_int (nomark _))))) (pss_cons (ps_set (i := 7) cMa.nd rfl (Or.inr rfl) (pe_ix ix_list (pe_lst (pa_cons (pv 3) (pa_cons (pv 2) pa_nil))) (pe_callTy call_int1 (by rfl) N.int (by decide +kernel) (pa_cons (pv 6) pa_nil)) (fun _ _ => rfl))) (pss_cons (ps_set (i := 8) cMa.nd rfl (Or.inl rfl) (pe_op op_add (pe_call (GD.mono (by decide)) hr (by rfl) DD.g DD.k DD.b .nil pass0 (pa_cons (pv 0) (pa_cons pe_int pa_nil))) (pe_op op_mul pe_int (pe_callTy call_int1 (by rfl) N.int (by decide +kernel) (pa_cons (pe_cmpR op_eq (pe_call (GD.mono (by decide)) hr (by rfl) DD.g DD.k DD.b .nil pass0 (pa_cons (pv 0) (pa_cons pe_int pa_nil))) pe_int (nomark _)) pa_nil))))) (pss_cons (ps_setLc (i := 9) (own := [("_law_k", 10)]) (g := gName 10) (tt := tYes) (by rfl) cMa.nd rfl rfl (sw_true rfl rfl rfl (by decide +kernel)) (pi_range1 (by rfl) N.range (pa_cons (pv 8) pa_nil)) (blkOk_by (own := [("_law_k", 10)]) (N := ["_law_well_here", "_law_never", "_law_atoms_here", "_law_floors", "_law_atom", "_law_scale", "_law_free", "_law_some", "_law_many", "_law_hints", "_law_k", "_law_times", "_law_form_here", "_law_exact", "_law_origin_here", "_law_by_here", "_law_const", "_law_sums", "_law_at", "_law_inner"]) (sc := defScope lMa) (by decide +kernel)) (fun _ _ _ _ _ => (pg_name (i := 10) cMa.nd rfl (Or.inl rfl))) (fun _ _ _ _ _ => pts_nil) (fun _ _ _ _ _ => (pe_tup (pa_cons (pe_call (GF.mono (by decide)) hr (by rfl) DF.g DF.k DF.b .nil pass0 (pa_cons (pv 0) (pa_cons (pv 7) pa_nil))) (pa_cons (pe_cmpR op_eq (pe_call (GD.mono (by decide)) hr (by rfl) DD.g DD.k DD.b .nil pass0 (pa_cons (pv 0) (pa_cons pe_int pa_nil))) pe_int (nomark _)) (pa_cons (pe_call (GO.mono (by decide)) hr (by rfl) DO.g DO.k DO.b .nil pass0 (pa_cons (pv 0) pa_nil)) pa_nil)))))) (pss_cons (ps_set (i := 11) cMa.nd rfl (Or.inl rfl) (pe_lst pa_nil)) (pss_cons (ps_for PassesOwn.never rfl (pi_list (pv 9)) (pg_tup (by rfl) (pgs_cons (pg_name (i := 12) cMa.nd rfl (Or.inl rfl)) (pgs_cons (pg_name (i := 13) cMa.nd rfl (Or.inl rfl)) (pgs_cons (pg_name (i := 14) cMa.nd rfl (Or.inl rfl)) pgs_nil)))) (pss_cons (ps_set (i := 15) cMa.nd rfl (Or.inl rfl) (pe_op op_mulW (pe_call (GB.mono (by decide)) hr (by rfl) DB.g DB.k DB.b .nil pass0 (pa_cons (pv 0) pa_nil)) (pe_callTy call_int1 (by rfl) N.int (by decide +kernel) (pa_cons (pe_cmpR op_gt (pe_call (GD.mono (by decide)) hr (by rfl) DD.g DD.k DD.b .nil pass0 (pa_cons (pv 0) (pa_cons pe_int pa_nil))) pe_int (nomark _)) pa_nil)))) (C8.pss_cut (ps_if (PW.pt (pw_and (pt_val (pv 6)) (pw_and1 (pt_cmpR op_gt (pv 5) pe_int (nomark _))))) (pss_one (ps_set (i := 15) cMa.nd rfl (Or.inl rfl) (pe_op op_mulW (pv 15) (pv 5)))) pss_nil) (C8.pss_cut (ps_if (pt_not (pt_val (pv 13))) (pss_one (ps_set (i := 15) cMa.nd rfl (Or.inl rfl) (pe_callB call_abs (by rfl) N.abs (by decide +kernel) (pa_cons (pv 15) pa_nil)))) pss_nil) (pss_one (ps_expr (pe_bm PySem.F.plainAttrs_list PySem.F.slot_list_append PySem.F.type_list_append mt_append (pv 11) (pa_cons (pv 15) pa_nil)))))))) (pss_cons (ps_asg (pe_call (GR.mono (by decide)) hr (by rfl) DR.g DR.k DR.b .nil pass0 (pa_cons (pe_tup (pa_cons pe_int (pa_cons (pe_tup pa_nil) pa_nil))) (pa_cons (pv 9) (pa_cons pe_int (pa_cons (pv 11) pa_nil))))) (pg_unl (by rfl) (pgs_cons (pg_name (i := 16) cMa.nd rfl (Or.inl rfl)) (pgs_cons (pg_name (i := 17) cMa.nd rfl (Or.inl rfl)) pgs_nil)))) (pss_cons (ps_if (pt_cmpR op_eq (pv 5) pe_int (nomark _)) (pss_cons (ps_for PassesOwn.never rfl (pi_list (pv 3)) (pg_name (i := 4) cMa.nd rfl (Or.inl rfl)) (pss_one (ps_dput hu (pv 17) (pv 4) (pe_op op_sub (pe_dget2 hu (pv 17) (pv 4) pe_int ⟨rfl, rfl, rfl, rfl⟩) (pe_callB call_abs (by rfl) N.abs (by decide +kernel) (pa_cons (pe_call (GB.mono (by decide)) hr (by rfl) DB.g DB.k DB.b .nil pass0 (pa_cons (pv 0) pa_nil)) pa_nil))) rfl))) (pss_cons (ps_expr (pe_bm PySem.F.plainAttrs_list PySem.F.slot_list_append PySem.F.type_list_append mt_append (pv 9) (pa_cons (pe_tup (pa_cons (pe_call (GS.mono (by decide)) hr (by rfl) DS.g DS.k DS.b .nil pass0 (pa_cons (pe_op op_sub (pe_op op_sub (pv 16) pe_int) (pe_callB call_abs (by rfl) N.abs (by decide +kernel) (pa_cons (pe_call (GB.mono (by decide)) hr (by rfl) DB.g DB.k DB.b .nil pass0 (pa_cons (pv 0) pa_nil)) pa_nil))) (pa_cons (pv 17) pa_nil))) (pa_cons (pe_cmpR op_eq (pe_call (GD.mono (by decide)) hr (by rfl) DD.g DD.k DD.b .nil pass0 (pa_cons (pv 0) (pa_cons pe_int pa_nil))) pe_int (nomark _)) (pa_cons (pe_call (GO.mono (by decide)) hr (by rfl) DO.g DO.k DO.b .nil pass0 (pa_cons (pv 0) pa_nil)) pa_nil)))) pa_nil))) (pss_one (ps_ret (pe_lst (pa_cons (pe_call (GF.mono (by decide)) hr (by rfl) DF.g DF.k DF.b .nil pass0 (pa_cons (pv 0) (pa_cons (pv 2) pa_nil))) (pa_cons (pe_callTy call_tuple_of (by rfl) N.tuple (by decide +kernel) (pa_cons (pv 9) pa_nil)) (pa_cons (pe_tup (pa_cons pe_int (pa_cons (pe_callTy call_tuple_of (by rfl) N.tuple (by decide +kernel) (pa_cons (pe_op op_cat (pv 11) (pe_lst (pa_cons pe_int pa_nil))) pa_nil)) pa_nil))) pa_nil)))))))) pss_nil) (pss_cons (ps_for PassesOwn.never rfl (pi_list (pv 3)) (pg_name (i := 4) cMa.nd rfl (Or.inl rfl)) (pss_cons (ps_set (i := 18) cMa.nd rfl (Or.inl rfl) (pe_dget2 hu (pv 17) (pv 4) pe_int ⟨rfl, rfl, rfl, rfl⟩)) (pss_one (ps_dput hu (pv 17) (pv 4) (pe_op op_sub (pe_op op_sub (pv 18) (pe_op op_mod (pe_callTy call_int1 (by rfl) N.int (by decide +kernel) (pa_cons (pv 18) pa_nil)) (pv 5))) (pe_op op_mulW (pv 5) (pe_callB call_abs (by rfl) N.abs (by decide +kernel) (pa_cons (pe_call (GB.mono (by decide)) hr (by rfl) DB.g DB.k DB.b .nil pass0 (pa_cons (pv 0) pa_nil)) pa_nil)))) rfl)))) (pss_cons (ps_set (i := 16) cMa.nd rfl (Or.inl rfl) (pe_op op_sub (pe_op op_sub (pv 16) (pe_op op_mod (pe_callTy call_int1 (by rfl) N.int (by decide +kernel) (pa_cons (pv 16) pa_nil)) (pv 5))) (pe_op op_mulW (pe_op op_mulW (pv 5) (pe_callB call_abs (by rfl) N.abs (by decide +kernel) (pa_cons (pe_call (GB.mono (by decide)) hr (by rfl) DB.g DB.k DB.b .nil pass0 (pa_cons (pv 0) pa_nil)) pa_nil))) (pe_call (GD.mono (by decide)) hr (by rfl) DD.g DD.k DD.b .nil pass0 (pa_cons (pv 0) (pa_cons pe_int pa_nil)))))) (pss_cons (ps_set (i := 19) cMa.nd rfl (Or.inl rfl) pe_dnewT) (pss_cons (ps_lock (ps_for PassesOwn.never rfl (pi_keys (pv 17)) (pg_name (i := 4) cMa.nd rfl (Or.inl rfl)) (pss_one (ps_dput hu (pv 19) (pv 4) (pe_op op_fdivW (pe_un un_neg (pe_dget hu (pv 17) (pv 4) (fun _ _ => rfl))) (pv 5)) rfl)))) (pss_one (ps_ret (pe_lst (pa_cons (pe_call (GS.mono (by decide)) hr (by rfl) DS.g DS.k DS.b .nil pass0 (pa_cons (pe_op op_fdivW (pe_un un_neg (pv 16)) (pv 5)) (pa_cons (pv 19) pa_nil))) (pa_cons (pe_callTy call_tuple_of (by rfl) N.tuple (by decide +kernel) (pa_cons (pv 9) pa_nil)) (pa_cons (pe_tup (pa_cons (pv 5) (pa_cons (pe_callTy call_tuple_of (by rfl) N.tuple (by decide +kernel) (pa_cons (pv 11) pa_nil)) pa_nil))) pa_nil)))))))))))))))))))), ?_⟩
    obtain ⟨wy, hwy⟩ := W.pl
    obtain ⟨ts0, hA1, AP⟩ := hA.p
    obtain ⟨la, ga⟩ := AP.get
    refine ⟨_, rfl, A0, rfl, ⟨_, SqL.of hA1⟩, fun D hD => ?_⟩
    obtain ⟨nDp, nDl⟩ := W.np hD
    refine lc_list (xs := ts0.map V.ref) (fun i Hx => ∃ fs, Hx D = some (.lst (fs.map V.ref)) ∧ AtP Hx ((L.take i).filter (flo nv)) fs ∧ fs.length ≤ i ∧ Grow H Hx) ⟨[], upd_same, .nil, Nat.le_refl _, Grow.new hD⟩ (fun i Hx _ hx => by
      obtain ⟨_, _, _, _, g⟩ := hx
      exact SqL.of (g.lst hA1)) (fun i z Hx hz hx => ?_) (fun Hf hx => ?_)
    · obtain ⟨fs, hDx, T, le, g⟩ := hx
      rw [List.getElem?_map] at hz
      cases ht1 : ts0[i]? with
      | none => rw [ht1] at hz; cases hz
      | some t =>
      rw [ht1] at hz
      cases hz
      have il := (List.getElem?_eq_some_iff.mp ht1).1
      have hLi : L[i]? = some (L[i]'(by omega)) := List.getElem?_eq_getElem _
      generalize (L[i]'(by omega)) = a at hLi
      have hta := g.tup (ga i t a ht1 hLi)
      have etk : (L.take (i + 1)).filter (flo nv) = (L.take i).filter (flo nv) ++ (if flo nv a = true then [a] else []) := by
        rw [List.take_succ, hLi, List.filter_append]
        congr 1
        show List.filter _ [a] = _
        rw [List.filter_cons]
        rfl
      have yes : flo nv a = true → ∃ acc, Hx D = some (.lst acc) ∧ acc.length < sizeLine ∧ ∃ fs, L2.upd Hx D (.lst (acc ++ [V.ref t])) D = some (.lst (fs.map V.ref)) ∧ AtP (L2.upd Hx D (.lst (acc ++ [V.ref t]))) ((L.take (i + 1)).filter (flo nv)) fs ∧ fs.length ≤ i + 1 ∧ Grow H (L2.upd Hx D (.lst (acc ++ [V.ref t]))) := fun h =>
        ⟨_, hDx, by rw [List.length_map, sizeLine_eq]; omega, fs ++ [t], by rw [upd_same, List.map_append]; rfl, by rw [etk, if_pos h]; exact (T.snoc hta).keep (keep_lst hDx), by rw [List.length_append]; exact Nat.add_le_add_right le 1, g.upd' hD⟩
      have no : flo nv a = false → ∃ fs, Hx D = some (.lst (fs.map V.ref)) ∧ AtP Hx ((L.take (i + 1)).filter (flo nv)) fs ∧ fs.length ≤ i + 1 ∧ Grow H Hx := fun h =>
        ⟨fs, hDx, by rw [etk, if_neg (by rw [h]; exact Bool.false_ne_true), List.append_nil]; exact T, Nat.le_succ_of_le le, g⟩
      refine ⟨wipe_set, ?_⟩
      refine ⟨_, rfl, t, _, _, _, rfl, rfl, SqT.of hta, at_of (j := 0) rfl rfl, rfl, _, rfl, ?_⟩
      by_cases c1 : V.int a.1 = V.int 1
      · refine ifT c1 ?_
        obtain ⟨acc, q⟩ := yes (by unfold flo; rw [decide_eq_true c1]; rfl)
        exact iteT ⟨_, rfl, acc, q⟩
      · refine ifF c1 ⟨_, rfl, t, _, _, _, rfl, rfl, SqT.of hta, at_of (j := 2) rfl rfl, _, rfl, N0, _, rfl, .inr (SqT.of (g.tup hN0)), rfl, ints_flat nv, _, rfl, ?_⟩
        have ef : flo nv a = inV (.int a.2.2) (nv.map V.int) := by
          unfold flo
          rw [decide_eq_false c1, Bool.false_or]
        cases c2 : inV (.int a.2.2) (nv.map V.int) with
        | true =>
          obtain ⟨acc, q⟩ := yes (ef.trans c2)
          exact iteT ⟨_, rfl, acc, q⟩
        | false => exact iteF (no (ef.trans c2))
    · obtain ⟨fs, hDx, FP, le, g⟩ := hx
      rw [List.length_map, la, List.take_length] at FP
      have Wf := W.grow g
      refine ⟨_, rfl, p, l, ns, n, 6, rfl, by decide, cdw (by decide) (by decide), Wf, by omega, npl, fun sc H1 s0 s1 W1 g1 => ?_⟩
      obtain ⟨xf, hxf⟩ := Wf.pl
      refine ⟨fun σ' H' => ∃ fr : Bool, σ' = [some (.ref p), some (.ref N0), some (.ref A0), some (.ref D), none, some (.int sc), some (.bl fr), none, none, none, none, none, none, none, none, none, none, none, none, none] ∧ (sc = 0 → fr = true) ∧ Wl H' p l ns (n + 2) ∧ GrowW p Hf H', ?_, ?_⟩
      · refine ⟨_, rfl, rfl, _, rfl, ite2 (fun c => ?_) (fun c => ?_)⟩
        · exact ⟨true, rfl, fun _ => rfl, W1.more (by omega), g1⟩
        · refine ⟨_, rfl, p, l, ns, n + 1, 2, rfl, by decide, cdw (by decide) (by decide), W1, by omega, npl, fun r2 H2 _ _ W2 g2 => ⟨rfl, ?_⟩⟩
          refine ⟨_, rfl, fun z => absurd ?_ c, W2, g1.trans' g2⟩
          rw [z]
          rfl
      · rintro σ' H2 ⟨fr, rfl, hfr, W2, g2⟩
        have hD2 := g2.lst nDp hDx
        have FP2 := FP.keep (g2.tk hxf)
        have AP2 := (AP.keep (g.tk0)).keep (g2.tk hxf)
        have hA2 : H2 A0 = some (.lst (ts0.map V.ref)) := g2.lst nAp (g.lst hA1)
        refine ⟨_, rfl, _, rfl, two34, fun q hq => ⟨_, rfl, .inr ⟨_, rfl, q, _, _, _, rfl, rfl, SqL.of upd_same, (show atI [V.ref D, V.ref A0] (if fr = true then 1 else 0) = some (.ref (if fr = true then A0 else D)) by cases fr <;> rfl), ?_⟩⟩⟩
        have W3 := W2.grow (Grow.new hq (o := .lst [.ref D, .ref A0]))
        have hS : AtL (L2.upd H2 q (.lst [.ref D, .ref A0])) (if fr = true then A0 else D) (if fr = true then L else L.filter (flo nv)) := by
          cases fr with
          | true => exact (AP2.l hA2).keep (fun xs h => (Grow.new hq).lst h) (keep_new hq)
          | false => exact (FP2.l hD2).keep (fun xs h => (Grow.new hq).lst h) (keep_new hq)
        have nSp : (if fr = true then A0 else D) ≠ p := by cases fr; exact nDp; exact nAp
        have ascS : (if fr = true then L else L.filter (flo nv)).Pairwise (fun a b => rk a < rk b) := by cases fr; exact asc.filter _; exact asc
        have lenS : (if fr = true then L else L.filter (flo nv)).length ≤ 9 := by cases fr; exact Nat.le_trans (List.length_filter_le ..) hL9; exact hL9
        have subS : ∀ a ∈ (if fr = true then L else L.filter (flo nv)), a ∈ L ∧ (fr = false → flo nv a = true) := by
          cases fr
          · intro a ha
            have z := List.mem_filter.mp ha
            exact ⟨z.1, fun _ => z.2⟩
          · exact fun a ha => ⟨ha, fun z => nomatch z⟩
        generalize (if fr = true then A0 else D) = S0 at hS nSp ⊢
        generalize (if fr = true then L else L.filter (flo nv)) = LS at hS ascS lenS subS
        have gq : GrowW p Hf (L2.upd H2 q (.lst [.ref D, .ref A0])) := by
          obtain ⟨x2, hx2⟩ := W2.pl
          exact g2.but (g2.none' hx2 hq)
        generalize L2.upd H2 q (.lst [.ref D, .ref A0]) = H3 at W3 hS gq ⊢
        refine ⟨_, rfl, p, l, ns, n + 2, 8, rfl, by decide, cdw (by decide) (by decide), W3, by omega, npl, fun m1 H4 m10 m11 W4 g4 => ?_⟩
        refine ⟨_, rfl, p, l, ns, n + 3, 8, rfl, by decide, cdw (by decide) (by decide), W4, by omega, npl, fun m2 H5 _ _ W5 g5 => ⟨rfl, .inr ⟨_, rfl, _, _, rfl, rfl, .inl ⟨by decide, by decide⟩, _, _, rfl, rfl, ?_⟩⟩⟩
        have hmany : 0 ≤ m1 + 53 * (if decide (V.int m2 = V.int 0) = true then 1 else 0) ∧ m1 + 53 * (if decide (V.int m2 = V.int 0) = true then 1 else 0) ≤ 60 := by
          split <;> omega
        dsimp only
        generalize m1 + 53 * (if decide (V.int m2 = V.int 0) = true then 1 else 0) = many at hmany ⊢
        obtain ⟨x3, hx3⟩ := W3.pl
        have g35 := g4.trans' g5
        have hS5 := hS.keep (fun xs h => g35.lst nSp h) (g35.tk hx3)
        have gf5 := gq.trans' g35
        obtain ⟨x5, hx5⟩ := W5.pl
        refine ⟨_, rfl, _, rfl, by omega, by omega, fun D2 hD2n => ?_⟩
        obtain ⟨nEp, nEl⟩ := W5.np hD2n
        refine lc_range (lo := 0) (n := many.toNat) (fun i Hx => ∃ xs hs, Hx D2 = some (.lst xs) ∧ EncsB (fun _ => False) Hx (hs.map htD) xs ∧ hs.length = i ∧ (∀ h ∈ hs, DrF LS h.f ∧ ∀ q, h.og = some q → 0 ≤ q.1 ∧ q.1 ≤ 239 ∧ 0 ≤ q.2 ∧ q.2 ≤ 29) ∧ Wl Hx p l ns (n + 4 + 60 * i) ∧ GrowW p H5 Hx)
          ⟨[], [], upd_same, .nil, rfl, fun _ z => absurd z List.not_mem_nil, W5.grow (Grow.new hD2n), GrowW.new hD2n⟩ (fun i Hx hi hx => ?_) (fun Hx hx => ?_)
        · obtain ⟨xs, hs, hDh, en, ln, gd, Wx, gx⟩ := hx
          have hSx := hS5.keep (fun xs h => gx.lst nSp h) (gx.tk hx5)
          obtain ⟨xx, hxx⟩ := Wx.pl
          refine ⟨wipe_set, ?_⟩
          unfold tYes
          refine iteT ⟨_, rfl, _, rfl, p, l, S0, ns, _, LS, rfl, Wx, by omega, npl, hSx, nSp, ascS, lenS, fun x6 H6 f6 ef6 df6 W6 g6 => ?_⟩
          obtain ⟨x6', hx6⟩ := W6.pl
          refine ⟨_, rfl, p, l, ns, _, 3, rfl, by decide, cdw (by decide) (by decide), W6, by omega, npl, fun r7 H7 _ _ W7 g7 => ⟨rfl, ?_⟩⟩
          obtain ⟨x7', hx7⟩ := W7.pl
          refine ⟨_, rfl, p, l, ns, _, rfl, W7, by omega, npl, fun o8 x8 H8 ov og8 W8 g8 => ⟨three34, fun b hb => ?_⟩⟩
          have g68 := (g6.trans' g7).trans' g8
          obtain ⟨x8', hx8⟩ := W8.pl
          obtain ⟨nb1, nb2⟩ := W8.np hb
          have nDb : D2 ≠ b := fun z => by rw [← z, g68.lst nEp hDh] at hb; cases hb
          have e6 := (fm_any (B := fun _ => False) ef6).growW (g7.trans' g8) (fun z => z) (noTup hx6)
          have e8 := og_enc (B := fun _ => False) ov
          have eall := en.growW g68 (fun z => z) (noTup hxx)
          have hDb : L2.upd H8 b (.tup [x6, .bl (decide (V.int r7 = V.int 0)), x8]) D2 = some (.lst xs) := by
            rw [upd_ne nDb]
            exact g68.lst nEp hDh
          have lx := en.length
          rw [List.length_map] at lx
          refine ⟨xs, hDb, by rw [sizeLine_eq]; omega, xs ++ [.ref b], hs ++ [⟨f6, decide (V.int r7 = V.int 0), o8⟩], upd_same, ?_, by rw [List.length_append, ln]; rfl, fun h hh => ?_, ((W8.upd nb1 nb2).upd nEp nEl).more (by omega), ((gx.trans' g68).but ((gx.trans' g68).none' hx8 hb)).but hD2n⟩
          · rw [List.map_append]
            refine EncsB.growW (w := D2) GrowW.upd (fun z => z) (noTup hDb) (encs_snoc (eall.grow (Grow.new hb)) ?_)
            exact .tup upd_same (.cons (e6.grow (Grow.new hb)) (.cons (.bl _) (.cons (e8.grow (Grow.new hb)) .nil)))
          · rcases List.mem_append.mp hh with z | z
            · exact gd h z
            · rw [List.mem_singleton.mp z]
              exact ⟨df6, og8⟩
        · obtain ⟨xs, hs, hDh, en, ln, gd, Wx, gx⟩ := hx
          have lx := en.length
          rw [List.length_map] at lx
          have ln60 : hs.length ≤ 60 := by omega
          have Wx := Wx.more (m := n + 4000) (by omega)
          refine ⟨nil34, fun D3 hD3 => ?_⟩
          obtain ⟨nFp, nFl⟩ := Wx.np hD3
          have nDF : D2 ≠ D3 := fun z => by rw [← z, hDh] at hD3; cases hD3
          obtain ⟨xx, hxx⟩ := Wx.pl
          have W3' := Wx.grow (Grow.new hD3 (o := .lst []))
          refine ⟨_, rfl, D2, rfl, ⟨_, SqL.of ((Grow.new hD3).lst hDh)⟩, ?_⟩
          refine for_list (xs := xs) (fun i σ' Hz => ∃ (v12 v13 v14 v15 : Option V) (ms : List Int), σ' = [some (.ref p), some (.ref N0), some (.ref A0), some (.ref D), none, some (.int sc), some (.bl fr), some (.ref S0), some (.int many), some (.ref D2), none, some (.ref D3), v12, v13, v14, v15, none, none, none, none] ∧ Hz D3 = some (.lst (ms.map V.int)) ∧ ms.length = i ∧
              (∀ (j : Nat) (h : Ht) (m : Int), hs[j]? = some h → ms[j]? = some m → h.ex = true ∨ 0 ≤ m) ∧ (∀ m ∈ ms, Big m ∧ (fr = true → 1 ≤ sc → sc ∣ m)) ∧ Wl Hz p l ns (n + 4000 + 4 * i) ∧ GrowW p Hx Hz)
            ⟨_, _, _, _, [], rfl, upd_same, rfl, fun j h m _ z => (nomatch z), fun _ z => absurd z List.not_mem_nil, W3', GrowW.new hD3⟩ (fun i σ' Hz _ hz => ?_) (fun i z σ' Hz hzz hz => ?_) (fun σ' Hz hz => ?_)
          · obtain ⟨_, _, _, _, _, _, _, _, _, _, _, gz⟩ := hz
            exact SqL.of (gz.lst nEp hDh)
          · obtain ⟨v12, v13, v14, v15, ms, rfl, hms, lms, hok, hbig, Wz, gz⟩ := hz
            obtain ⟨dh, hdh, ez⟩ := en.get hzz
            obtain ⟨h, hh, rfl⟩ := map_get hdh
            have hi60 := (List.getElem?_eq_some_iff.mp hh).1
            cases ez with
            | @tup b ws _ hb eb =>
            cases eb with
            | @cons _ w0 _ _ k0 eb =>
            cases eb with
            | @cons _ w1 _ _ k1 eb =>
            cases eb with
            | @cons _ w2 _ _ k2 eb =>
            cases eb
            cases k1
            refine ⟨b, _, rfl, SqT.of (gz.tup hxx hb), rfl, _, _, rfl, _, _, rfl, _, _, rfl, rfl, ?_⟩
            refine ⟨_, rfl, p, l, ns, _, rfl, Wz, by omega, npl, fun v Ha sv Wa ga => ?_⟩
            refine ⟨_, rfl, p, l, ns, _, 3, rfl, by decide, cdw (by decide) (by decide), Wa, by omega, npl, fun rb Hb _ _ Wb gb => ⟨_, _, rfl, rfl, .inr ⟨_, rfl, _, _, rfl, rfl, ?_, ?_⟩⟩⟩
            · exact mwA (by obtain ⟨q1, q2⟩ := sv; omega) (by split <;> decide)
            dsimp only
            have hv0 : Small (v * (if decide (0 < rb) = true then 1 else 0)) := by
              split
              · rw [Int.mul_one]
                exact sv
              · rw [Int.mul_zero]
                exact ⟨by decide, by decide⟩
            generalize v * (if decide (0 < rb) = true then 1 else 0) = u0 at hv0 ⊢
            have gb' := (gz.trans' ga).trans' gb
            refine ⟨fun σ' H' => ∃ u : Int, σ' = [some (.ref p), some (.ref N0), some (.ref A0), some (.ref D), none, some (.int sc), some (.bl fr), some (.ref S0), some (.int many), some (.ref D2), none, some (.ref D3), some w0, some (.bl h.ex), some w2, some (.int u), none, none, none, none] ∧ Big u ∧ (fr = true → 1 ≤ sc → sc ∣ u) ∧ H' = Hb, ?_, ?_⟩
            · obtain ⟨q1, q2⟩ := hv0
              have small : Big u0 := ⟨by omega, by omega⟩
              refine ⟨_, rfl, _, rfl, ?_⟩
              cases fr with
              | false => exact iteF ⟨u0, rfl, small, fun z => (nomatch z), rfl⟩
              | true =>
                refine iteT ⟨_, rfl, _, _, rfl, rfl, _, rfl, ?_⟩
                by_cases c : 1 < sc
                · refine ifT c ⟨_, rfl, _, rfl, _, _, rfl, rfl, mwA (by omega) (by omega), ?_⟩
                  refine ⟨u0 * sc, rfl, ?_, fun _ _ => Int.dvd_mul_left _ _, rfl⟩
                  have hsc : sc = 2 ∨ sc = 3 ∨ sc = 4 ∨ sc = 5 := by omega
                  rcases hsc with z | z | z | z <;> rw [z] <;> exact ⟨by omega, by omega⟩
                · refine ifF c ⟨u0, rfl, small, fun _ h1 => ?_, rfl⟩
                  rw [show sc = 1 by omega]
                  exact Int.one_dvd _
            · rintro σ' H' ⟨u, rfl, bu, du, rfl⟩
              refine ⟨fun σ' H2 => ∃ u : Int, σ' = [some (.ref p), some (.ref N0), some (.ref A0), some (.ref D), none, some (.int sc), some (.bl fr), some (.ref S0), some (.int many), some (.ref D2), none, some (.ref D3), some w0, some (.bl h.ex), some w2, some (.int u), none, none, none, none] ∧ Big u ∧ (fr = true → 1 ≤ sc → sc ∣ u) ∧ (h.ex = true ∨ 0 ≤ u) ∧ H2 = H', ?_, ?_⟩
              · refine ⟨_, rfl, _, rfl, ?_⟩
                cases hex : h.ex with
                | true => exact iteF ⟨u, rfl, bu, du, .inl rfl, rfl⟩
                | false =>
                  refine iteT ⟨_, rfl, _, rfl, ?_⟩
                  refine ⟨if u < 0 then -u else u, rfl, ?_, fun h1 h2 => ?_, .inr ?_, rfl⟩
                  · obtain ⟨q1, q2⟩ := bu
                    split <;> exact ⟨by omega, by omega⟩
                  · split
                    · exact Int.dvd_neg.mpr (du h1 h2)
                    · exact du h1 h2
                  · split <;> omega
              · rintro σ' H2 ⟨u, rfl, bu, du, ou, rfl⟩
                have hms2 := gb.lst nFp (ga.lst nFp hms)
                refine ⟨_, rfl, .inl ⟨rfl, _, SqL.of hms2⟩, _, rfl, D3, _, _, rfl, rfl, hms2, by rw [List.length_map, sizeLine_eq]; omega, ?_⟩
                refine ⟨_, _, _, _, ms ++ [u], rfl, ?_, by rw [List.length_append, lms]; rfl, fun j h' m h1 h2 => ?_, fun m hm => ?_, (Wb.upd nFp nFl).more (by omega), gb'.but hD3⟩
                · rw [upd_same, List.map_append]
                  rfl
                · by_cases hj : j < ms.length
                  · rw [List.getElem?_append_left hj] at h2
                    exact hok j h' m h1 h2
                  · rw [List.getElem?_append_right (by omega)] at h2
                    have hj2 : j = i := by
                      have z := (List.getElem?_eq_some_iff.mp h2).1
                      simp only [List.length_cons, List.length_nil] at z
                      omega
                    rw [hj2, show i - ms.length = 0 by omega] at h2
                    rw [hj2, hh] at h1
                    cases h1
                    cases h2
                    exact ou
                · rcases List.mem_append.mp hm with z | z
                  · exact hbig m z
                  · rw [List.mem_singleton.mp z]
                    exact ⟨bu, du⟩
          · obtain ⟨v12, v13, v14, v15, ms, rfl, hms, lms, hok, hbig, Wz, gz⟩ := hz
            have Wz := Wz.more (m := n + 5000) (by omega)
            have enz := en.growW gz (fun z => z) (noTup hxx)
            have hDz := gz.lst nEp hDh
            have okUL : OkU L := ⟨okL, hL9, asc.imp fun {a b} h e => by rw [e] at h; exact absurd h (Int.lt_irrefl _)⟩
            have goodH : ∀ h ∈ hs, GoodH L h := fun h hh => ⟨(gd h hh).1.good fun a ha => (subS a ha).1, (gd h hh).2⟩
            have smM : ∀ m ∈ ms, Sm m := fun m hm => sm_of (by obtain ⟨⟨q1, q2⟩, _⟩ := hbig m hm; omega)
            have sm0 : Sm 0 := sm_of (by decide)
            refine ⟨nil34, fun e0 he0 => ⟨two34, fun e1 he1 => ⟨_, rfl, _, rfl, ?_⟩⟩⟩
            have gE := (Grow.new he0 (o := .tup [])).trans (Grow.new he1 (o := .tup [.int 0, .ref e0]))
            have n01 : e0 ≠ e1 := fun z => by rw [← z, upd_same] at he1; cases he1
            refine ⟨.ref e1, D2, D3, 0, xs, L, (0, []), hs, ms, rfl, .tup upd_same (.cons (.int 0) (.cons (.tup (by rw [upd_ne n01]; exact upd_same) .nil) .nil)), .inr ⟨gE.lst hDz, gE.lst hms⟩, (EncsB.any enz).grow gE, okUL, ⟨.nil, fun _ z => absurd z List.not_mem_nil, fun _ z => absurd z List.not_mem_nil, sm0, fun _ z => absurd z List.not_mem_nil⟩, goodH, by omega, sm0, smM, fun Ha rr d eT gA hrr hd hdn hrn ndr tb hv => ?_⟩
            have gAz := gE.trans gA
            have hdz : Hz d = none := none_of gE hdn
            have Wa := Wz.grow gAz
            have hv : ∀ a, dV eT a = -vS hs ms a := fun a => by
              rw [hv a]
              show 0 * _ - _ = _
              rw [Int.zero_mul, Int.zero_sub]
            refine ⟨rr, _, rfl, SqL.of hrr, rfl, _, _, rfl, _, _, rfl, rfl, ?_⟩
            rw [show (0 : Int) * ((0 : Int), ([] : List Tm)).1 - cS hs ms = -cS hs ms by show 0 * 0 - _ = _; rw [Int.zero_mul, Int.zero_sub]]
            obtain ⟨xz, hxz⟩ := Wz.pl
            have hDfl : Hz D = some (.lst (fs.map V.ref)) := gz.lst nDp (gx.lst nDp (g35.lst nDp (gq.lst nDp hDx)))
            have gF := ((gq.trans' g35).trans' gx).trans' gz
            have FPz := FP.keep (gF.tk hxf)
            obtain ⟨lF, gaF⟩ := FPz.get
            have lF9 : fs.length ≤ 9 := by
              have q := List.length_filter_le (flo nv) L
              omega
            have inF : ∀ a ∈ L.filter (flo nv), a ∈ L ∧ flo nv a = true := fun a ha => List.mem_filter.mp ha
            refine ⟨_, rfl, rfl, _, rfl, ite2 (fun c0 => ?_) (fun c0 => ?_)⟩
            · have hsc : sc = 0 := V.int.inj (of_decide_eq_true c0)
              have hfrT := hfr hsc
              refine ⟨_, rfl, D, rfl, ⟨_, SqL.of (gAz.lst hDfl)⟩, ?_⟩
              refine for_list (xs := fs.map V.ref) (fun i σ' Hc => ∃ (v4 v15 : Option V) (eU : List Tm) (wt : A3 → Int), σ' = [some (.ref p), some (.ref N0), some (.ref A0), some (.ref D), v4, some (.int sc), some (.bl fr), some (.ref S0), some (.int many), some (.ref D2), none, some (.ref D3), v12, v13, v14, v15, some (.int (-cS hs ms)), some (.ref d), none, none] ∧ Hc d = some (.dT (dA eU)) ∧ TbU L eU ∧
                  (∀ a, dV eU a = -vS hs ms a - wt a) ∧ (∀ a, 0 ≤ wt a ∧ wt a ≤ i * 10000000000000000000000000000000000 ∧ (wt a ≠ 0 → flo nv a = true)) ∧ Wl Hc p l ns (n + 5000 + 4 * i) ∧ GrowW p Hz Hc)
                ⟨_, _, eT, fun _ => 0, rfl, hd, tb, fun a => by rw [hv a, Int.sub_zero], fun a => ⟨Int.le_refl _, by show (0 : Int) ≤ ((0 : Nat) : Int) * 10000000000000000000000000000000000; omega, fun z => absurd rfl z⟩, Wa, gAz.w⟩ (fun i σ' Hc _ hq => ?_) (fun i z σ' Hc hzz hq => ?_) (fun σ' Hc hq => ?_)
              · obtain ⟨_, _, _, _, _, _, _, _, _, _, gc⟩ := hq
                exact SqL.of (gc.lst nDp hDfl)
              · obtain ⟨v4, v15', eU, wt, rfl, hdU, tbU, hvU, hwU, Wc, gc⟩ := hq
                rw [List.getElem?_map] at hzz
                cases ht1 : fs[i]? with
                | none => rw [ht1] at hzz; cases hzz
                | some t =>
                rw [ht1] at hzz
                cases hzz
                have il := (List.getElem?_eq_some_iff.mp ht1).1
                have hLi : (L.filter (flo nv))[i]? = some ((L.filter (flo nv))[i]'(by omega)) := List.getElem?_eq_getElem _
                generalize ((L.filter (flo nv))[i]'(by omega)) = a at hLi
                obtain ⟨aL, aF⟩ := inF a (List.mem_of_getElem? hLi)
                have hk : Hc t = some (.tup ((kA a).map kV)) := gc.tup hxz (gaF i t a ht1 hLi)
                have lU := tbU.len okUL
                refine ⟨_, rfl, d, rfl, .inr ⟨_, .inl hdU⟩, _, rfl, _, DGet.t (k := kA a) hdU hk, _, rfl, p, l, ns, _, rfl, Wc, by omega, npl, fun v Hv sv Wv gv => ⟨_, rfl, _, _, get34 _ _, rfl, ?_⟩⟩
                obtain ⟨xc, hxc⟩ := Wc.pl
                have ndp : d ≠ p := fun z => by rw [z, hxz] at hdz; cases hdz
                have hdV := gv.dt ndp hdU
                have hkV : Hv t = some (.tup ((kA a).map kV)) := gv.tup hxc hk
                refine ⟨_, rfl, _, rfl, d, _, rfl, DPut.t (k := kA a) hdV hkV (by unfold dA; rw [List.length_map, sizeLine_eq]; omega), ?_⟩
                rw [dA_put _ _ _ tbU.nd]
                have ndl : d ≠ l := fun z => by
                  have q := Wz.cells
                  rw [← z, hdz] at q
                  cases q
                refine ⟨_, _, _, fun b => if a = b then wt b + (if v < 0 then -v else v) else wt b, rfl, upd_same, tbU.put aL, fun b => ?_, fun b => ?_, (Wv.upd ndp ndl).more (by omega), (gc.trans' gv).but hdz⟩
                · rw [dV_put, hvU b, hvU a]
                  by_cases q : a = b
                  · subst q
                    rw [if_pos rfl]
                    dsimp only
                    rw [if_pos rfl]
                    omega
                  · rw [if_neg q]
                    dsimp only
                    rw [if_neg q]
                · obtain ⟨w1, w2, w3⟩ := hwU b
                  obtain ⟨q1, q2⟩ := sv
                  dsimp only
                  by_cases q : a = b
                  · subst q
                    rw [if_pos rfl]
                    refine ⟨by split <;> omega, ?_, fun _ => aF⟩
                    rw [Int.natCast_succ, Int.add_mul]
                    split <;> omega
                  · rw [if_neg q]
                    refine ⟨w1, ?_, w3⟩
                    rw [Int.natCast_succ, Int.add_mul]
                    omega
              · obtain ⟨v4, v15', eU, wt, rfl, hdU, tbU, hvU, hwU, Wc, gc⟩ := hq
                rw [List.length_map] at hwU Wc
                have Wc := Wc.more (m := n + 6000) (by omega)
                have ndp : d ≠ p := fun z => by rw [z, hxz] at hdz; cases hdz
                have hDc := gc.lst nEp hDz
                have vb : ∀ a, (vS hs ms a).natAbs ≤ hs.length * 10000000000000000000000000000000000000000000000000000000000000000000000 := fun a => vS_bd a hs ms (fun h hh => coef_small a (gd h hh).1.asc (gd h hh).1.sm) (fun m hm => (hbig m hm).1)
                have cb := cS_bd hs ms (fun h hh => (gd h hh).1.c) (fun m hm => (hbig m hm).1)
                have ub : ∀ a, Sm (dV eU a) := fun a => sm_of (by
                  have q1 := vb a
                  obtain ⟨q2, q3, _⟩ := hwU a
                  rw [hvU a]
                  omega)
                refine ⟨_, rfl, .inl ⟨rfl, _, SqL.of hDc⟩, ?_⟩
                refine ⟨_, rfl, _, _, rfl, rfl, _, rfl, p, l, ns, _, rfl, Wc, by omega, npl, fun v Hv sv Wv gv => ⟨_, rfl, _, _, rfl, rfl, ?_⟩⟩
                have sc1 : Sm (-cS hs ms - 1 - (if v < 0 then -v else v)) := sm_of (by
                  obtain ⟨q1, q2⟩ := sv
                  split <;> omega)
                refine ⟨_, rfl, d, _, L, eU, rfl, gv.dt ndp hdU, okUL, tbU, sc1, ub, fun xf Hs ff eff efc gff cf gs => ?_⟩
                have Ws := Wv.grow gs
                refine ⟨_, rfl, p, l, ns, _, 2, rfl, by decide, cdw (by decide) (by decide), Ws, by omega, npl, fun rb Hr _ _ Wr gr => ⟨rfl, ?_⟩⟩
                refine ⟨_, rfl, p, l, ns, _, rfl, Wr, by omega, npl, fun o xo Ho ov hog Wo go => ⟨three34, fun b hb => ?_⟩⟩
                obtain ⟨xo', hxo⟩ := Wo.pl
                obtain ⟨xs', hxs⟩ := Ws.pl
                obtain ⟨xc, hxc⟩ := Wc.pl
                obtain ⟨nb1, nb2⟩ := Wo.np hb
                have gro := gr.trans' go
                have gOv := (gv.trans' gs.w).trans' gro
                have hDo := gOv.lst nEp hDc
                have nDb : D2 ≠ b := fun z => by rw [← z, hDo] at hb; cases hb
                have hD0 : L2.upd Ho b (.tup [xf, .bl (decide (V.int rb = V.int 0)), xo]) D2 = some (.lst xs) := by rw [upd_ne nDb]; exact hDo
                refine ⟨D2, xs, .ref b, rfl, rfl, hD0, by rw [sizeLine_eq]; omega, ?_⟩
                have bn5 : H5 b = none := (((gx.trans' gz).trans' gc).trans' gOv).none' hxo hb
                have G5 := ((((gx.trans' gz).trans' gc).trans' gOv).but bn5 (o := .tup [xf, .bl (decide (V.int rb = V.int 0)), xo])).but hD2n (o := .lst (xs ++ [.ref b]))
                have hA5 := (hA.keep (fun xs h => g.lst h) g.tk0).keep (fun xs h => gf5.lst nAp h) (gf5.tk hxf)
                have W1 := (Wo.upd nb1 nb2 (o := .tup [xf, .bl (decide (V.int rb = V.int 0)), xo])).upd nEp nEl (o := .lst (xs ++ [.ref b]))
                refine ⟨_, rfl, _, rfl, p, l, A0, ns, _, L, rfl, W1, by omega, npl, hA5.keep (fun xs h => G5.lst nAp h) (G5.tk hx5), nAp, asc, hL9, fun xg Hg gg efg dfg Wg gfg => ?_⟩
                obtain ⟨x1', hx1⟩ := W1.pl
                have hDg := gfg.lst nEp upd_same
                refine ⟨_, rfl, D2, xs ++ [.ref b], rfl, .inl ⟨SqL.of hDg, fun th hth => ?_⟩⟩
                have hmsc : Hc D3 = some (.lst (ms.map V.int)) := gc.lst nFp hms
                have hmso := gOv.lst nFp hmsc
                have nFb : D3 ≠ b := fun z => by rw [← z, hmso] at hb; cases hb
                have hmsg : Hg D3 = some (.lst (ms.map V.int)) := gfg.lst nFp (by rw [upd_ne nDF.symm, upd_ne nFb]; exact hmso)
                have nFt : D3 ≠ th := fun z => by rw [← z, hmsg] at hth; cases hth
                refine ⟨_, rfl, one34, fun q1 hq1 => ?_⟩
                have nFq : D3 ≠ q1 := fun z => by rw [← z, upd_ne nFt, hmsg] at hq1; cases hq1
                refine ⟨D3, q1, ms.map V.int, [.int 1], rfl, rfl, by rw [upd_ne nFq, upd_ne nFt]; exact hmsg, upd_same, by rw [List.length_map, sizeLine_eq]; show _ + 1 ≤ _; omega, fun q2 hq2 => ?_⟩
                refine ⟨q2, _, rfl, .inl ⟨SqL.of upd_same, fun tt htt => ⟨two34, fun tp htp => ⟨three34, fun r hr => ?_⟩⟩⟩⟩
                have n1 : th ≠ q1 := fun z => by rw [← z, upd_same] at hq1; cases hq1
                have n2 : th ≠ q2 := fun z => by rw [← z, upd_ne n1, upd_same] at hq2; cases hq2
                have n3 : th ≠ tt := fun z => by rw [← z, upd_ne n2, upd_ne n1, upd_same] at htt; cases htt
                have n4 : th ≠ tp := fun z => by rw [← z, upd_ne n3, upd_ne n2, upd_ne n1, upd_same] at htp; cases htp
                have n5 : th ≠ r := fun z => by rw [← z, upd_ne n4, upd_ne n3, upd_ne n2, upd_ne n1, upd_same] at hr; cases hr
                have n6 : tt ≠ tp := fun z => by rw [← z, upd_same] at htp; cases htp
                have n7 : tt ≠ r := fun z => by rw [← z, upd_ne n6, upd_same] at hr; cases hr
                have n8 : tp ≠ r := fun z => by rw [← z, upd_same] at hr; cases hr
                have gN1 := (((((Grow.new hth (o := .tup (xs ++ [.ref b]))).trans (Grow.new hq1 (o := .lst [.int 1]))).trans (Grow.new hq2 (o := .lst (ms.map V.int ++ [.int 1])))).trans (Grow.new htt (o := .tup (ms.map V.int ++ [.int 1])))).trans (Grow.new htp (o := .tup [.int 0, .ref tt]))).trans (Grow.new hr (o := .lst [xg, .ref th, .ref tp]))
                have ehs : EncsB (fun _ => True) Hg ((hs ++ [(⟨ff, decide (V.int rb = V.int 0), o⟩ : Ht)]).map htD) (xs ++ [.ref b]) := by
                  rw [List.map_append]
                  refine EncsB.any (B := fun _ => False) (EncsB.growW (w := p) gfg (fun z => z) (noTup hx1) (EncsB.growW (w := D2) GrowW.upd (fun z => z) (noTup hD0) (encs_snoc (((enz.growW gc (fun z => z) (noTup hxz)).growW gOv (fun z => z) (noTup hxc)).grow (Grow.new hb)) ?_)))
                  exact .tup upd_same (.cons (((fm_any eff).growW gro (fun z => z) (noTup hxs)).grow (Grow.new hb)) (.cons (.bl _) (.cons ((og_enc ov).grow (Grow.new hb)) .nil)))
                have ems : (ms ++ [1]).map V.int = ms.map V.int ++ [.int 1] := by rw [List.map_append]; rfl
                have lms2 : ms.length = hs.length := by omega
                refine k r _ xg (.ref th) (.ref tp) gg (hs ++ [(⟨ff, decide (V.int rb = V.int 0), o⟩ : Ht)]) 0 (ms ++ [1]) upd_same (efg.grow gN1) ?_ ?_ ⟨okUL, gN, dfg.good fun a h => h, fun h hh => ?_, by rw [List.length_append]; show _ + 1 ≤ _; omega⟩ (Int.le_refl 0) (by decide) (fun m hm => ?_) (by rw [List.length_append, List.length_append, lms2]; rfl) ⟨by obtain ⟨q1, q2⟩ := dfg.c; omega, fun h hh => ?_⟩ ?_ ((Wg.grow gN1).more (by omega)) ?_
                · exact .tup (by rw [upd_ne n5, upd_ne n4, upd_ne n3, upd_ne n2, upd_ne n1]; exact upd_same) (ehs.grow gN1)
                · refine .tup (by rw [upd_ne n8]; exact upd_same) (.cons (.int 0) (.cons (.tup (xs := ms.map V.int ++ [.int 1]) (by rw [upd_ne n7, upd_ne n6]; exact upd_same) (by rw [← ems]; exact encs_ints _)) .nil))
                · rcases List.mem_append.mp hh with z | z
                  · exact goodH h z
                  · rw [List.mem_singleton.mp z]
                    exact ⟨gff, hog⟩
                · rcases List.mem_append.mp hm with z | z
                  · exact (hbig m z).1
                  · rw [List.mem_singleton.mp z]
                    exact ⟨by decide, by decide⟩
                · rcases List.mem_append.mp hh with z | z
                  · obtain ⟨q1, q2⟩ := (gd h z).1.c
                    omega
                  · rw [List.mem_singleton.mp z]
                    show ff.1.natAbs ≤ _
                    rw [efc]
                    obtain ⟨q1, q2⟩ := sv
                    split <;> omega
                · refine made_shows (w := wt) (Int.le_refl 0) (by rw [List.length_append, List.length_append, lms2]; rfl) (ok_snoc lms2.symm hok (.inr (by decide))) ?_ (fun a ha => ⟨?_, (hwU a).1, (hwU a).2.2⟩)
                  · rw [cS_snoc _ _ _ _ lms2.symm, if_pos rfl]
                    show ¬ 0 * gg.1 - (cS hs ms + 1 * ff.1) < 1
                    rw [efc, Int.zero_mul, Int.one_mul]
                    split <;> omega
                  · rw [vS_snoc _ _ _ _ a lms2.symm]
                    show 0 * coef gg.2 a - (vS hs ms a + 1 * coef ff.2 a) = wt a
                    rw [cf a, hvU a, Int.zero_mul, Int.one_mul]
                    omega
                · exact (g.w.trans' (gf5.trans' (G5.trans' gfg))).trans' gN1.w
            · have hsc : 1 ≤ sc := by
                rcases Int.lt_or_eq_of_le s0 with z | z
                · exact z
                · exact absurd (by rw [← z]; rfl) c0
              refine ⟨_, rfl, D, rfl, ⟨_, SqL.of (gAz.lst hDfl)⟩, ?_⟩
              refine for_list (xs := fs.map V.ref) (fun i σ' Hc => ∃ (v4 v15 v18 : Option V) (eU : List Tm) (wt : A3 → Int), σ' = [some (.ref p), some (.ref N0), some (.ref A0), some (.ref D), v4, some (.int sc), some (.bl fr), some (.ref S0), some (.int many), some (.ref D2), none, some (.ref D3), v12, v13, v14, v15, some (.int (-cS hs ms)), some (.ref d), v18, none] ∧ Hc d = some (.dT (dA eU)) ∧ TbU L eU ∧
                  (∀ a, dV eU a = -vS hs ms a - wt a) ∧ (∀ a, 0 ≤ wt a ∧ wt a ≤ i * 100000000000000000000000000000000000 ∧ (wt a ≠ 0 → flo nv a = true)) ∧ (∀ a ∈ (L.filter (flo nv)).take i, sc ∣ dV eU a) ∧ Wl Hc p l ns (n + 5000 + 4 * i) ∧ GrowW p Hz Hc)
                ⟨_, _, _, eT, fun _ => 0, rfl, hd, tb, fun a => by rw [hv a, Int.sub_zero], fun a => ⟨Int.le_refl _, by show (0 : Int) ≤ ((0 : Nat) : Int) * 100000000000000000000000000000000000; omega, fun z => absurd rfl z⟩, fun _ z => absurd z List.not_mem_nil, Wa, gAz.w⟩ (fun i σ' Hc _ hq => ?_) (fun i z σ' Hc hzz hq => ?_) (fun σ' Hc hq => ?_)
              · obtain ⟨_, _, _, _, _, _, _, _, _, _, _, _, gc⟩ := hq
                exact SqL.of (gc.lst nDp hDfl)
              · obtain ⟨v4, v15', v18, eU, wt, rfl, hdU, tbU, hvU, hwU, hdv, Wc, gc⟩ := hq
                rw [List.getElem?_map] at hzz
                cases ht1 : fs[i]? with
                | none => rw [ht1] at hzz; cases hzz
                | some t =>
                rw [ht1] at hzz
                cases hzz
                have il := (List.getElem?_eq_some_iff.mp ht1).1
                have hLi : (L.filter (flo nv))[i]? = some ((L.filter (flo nv))[i]'(by omega)) := List.getElem?_eq_getElem _
                generalize ((L.filter (flo nv))[i]'(by omega)) = a at hLi
                obtain ⟨aL, aF⟩ := inF a (List.mem_of_getElem? hLi)
                have hk : Hc t = some (.tup ((kA a).map kV)) := gc.tup hxz (gaF i t a ht1 hLi)
                have lU := tbU.len okUL
                refine ⟨_, rfl, d, rfl, .inr ⟨_, .inl hdU⟩, _, rfl, _, DGet.t (k := kA a) hdU hk, ?_⟩
                rw [get34]
                refine ⟨_, rfl, _, rfl, .inl ⟨_, rfl, _, rfl, _, _, rfl, rfl, hsc, _, _, rfl, rfl, _, rfl, _, rfl, p, l, ns, _, rfl, Wc, by omega, npl, fun v Hv sv Wv gv => ⟨_, rfl, _, _, rfl, rfl, ?_, _, _, rfl, rfl, ?_⟩⟩⟩
                · obtain ⟨q1, q2⟩ := sv
                  exact mwA (by omega) (by split <;> omega)
                obtain ⟨xc, hxc⟩ := Wc.pl
                have ndp : d ≠ p := fun z => by rw [z, hxz] at hdz; cases hdz
                have hdV := gv.dt ndp hdU
                have hkV : Hv t = some (.tup ((kA a).map kV)) := gv.tup hxc hk
                refine ⟨_, rfl, _, rfl, d, _, rfl, DPut.t (k := kA a) hdV hkV (by unfold dA; rw [List.length_map, sizeLine_eq]; omega), ?_⟩
                rw [dA_put _ _ _ tbU.nd]
                have ndl : d ≠ l := fun z => by
                  have q := Wz.cells
                  rw [← z, hdz] at q
                  cases q
                have hw : 0 ≤ (if v < 0 then -v else v) ∧ (if v < 0 then -v else v) ≤ 10000000000000000000000000000000000 := by
                  obtain ⟨q1, q2⟩ := sv
                  split <;> omega
                dsimp only
                generalize (if v < 0 then -v else v) = u at hw ⊢
                have hb : 0 ≤ sc * u ∧ sc * u ≤ 50000000000000000000000000000000000 := by
                  have h5 : sc = 1 ∨ sc = 2 ∨ sc = 3 ∨ sc = 4 ∨ sc = 5 := by omega
                  rcases h5 with z | z | z | z | z <;> rw [z] <;> omega
                have hmd : 0 ≤ dV eU a % sc ∧ dV eU a % sc < sc := ⟨Int.emod_nonneg _ (by omega), Int.emod_lt_of_pos _ hsc⟩
                have hdvd : sc ∣ dV eU a - dV eU a % sc - sc * u := by
                  refine ⟨dV eU a / sc - u, ?_⟩
                  rw [Int.emod_def, Int.mul_sub]
                  omega
                refine ⟨_, _, _, _, fun b => if a = b then wt b + (dV eU a % sc + sc * u) else wt b, rfl, upd_same, tbU.put aL, fun b => ?_, fun b => ?_, fun b hb2 => ?_, (Wv.upd ndp ndl).more (by omega), (gc.trans' gv).but hdz⟩
                · rw [dV_put]
                  by_cases q : a = b
                  · subst q
                    rw [if_pos rfl]
                    dsimp only
                    rw [if_pos rfl]
                    have z := hvU a
                    omega
                  · rw [if_neg q]
                    dsimp only
                    rw [if_neg q]
                    exact hvU b
                · obtain ⟨w1, w2, w3⟩ := hwU b
                  dsimp only
                  by_cases q : a = b
                  · subst q
                    rw [if_pos rfl]
                    refine ⟨by omega, ?_, fun _ => aF⟩
                    rw [Int.natCast_succ, Int.add_mul]
                    omega
                  · rw [if_neg q]
                    refine ⟨w1, ?_, w3⟩
                    rw [Int.natCast_succ, Int.add_mul]
                    omega
                · rw [dV_put]
                  by_cases q : a = b
                  · rw [if_pos q]
                    exact hdvd
                  · rw [if_neg q]
                    rw [List.take_succ, hLi] at hb2
                    rcases List.mem_append.mp hb2 with z | z
                    · exact hdv b z
                    · exact absurd (List.mem_singleton.mp z).symm q
              · obtain ⟨v4, v15', v18, eU, wt, rfl, hdU, tbU, hvU, hwU, hdv, Wc, gc⟩ := hq
                rw [List.length_map] at hwU hdv Wc
                rw [lF, List.take_length] at hdv
                have Wc := Wc.more (m := n + 6000) (by omega)
                have ndp : d ≠ p := fun z => by rw [z, hxz] at hdz; cases hdz
                have offF : ∀ a, a ∉ L.filter (flo nv) → wt a = 0 ∨ a ∉ L := fun a h => by
                  by_cases q : a ∈ L
                  · refine .inl (Classical.byContradiction fun z => h (List.mem_filter.mpr ⟨q, (hwU a).2.2 z⟩))
                  · exact .inr q
                have hdall : ∀ a, sc ∣ dV eU a := fun a => by
                  by_cases q : a ∈ L.filter (flo nv)
                  · exact hdv a q
                  · by_cases qL : a ∈ L
                    · have w0 : wt a = 0 := Classical.byContradiction fun z => q (List.mem_filter.mpr ⟨qL, (hwU a).2.2 z⟩)
                      rw [hvU a, w0, Int.sub_zero]
                      refine Int.dvd_neg.mpr ?_
                      cases hfr2 : fr with
                      | true => exact vS_dvd a hs ms fun m hm => (hbig m hm).2 hfr2 hsc
                      | false =>
                        rw [vS_off hs ms fun h hh z => by
                          obtain ⟨e, e1, e2⟩ := List.mem_map.mp z
                          have w := (subS a (by rw [← e2]; exact (gd h hh).1.inL e e1)).2 hfr2
                          exact q (List.mem_filter.mpr ⟨qL, w⟩)]
                        exact Int.dvd_zero _
                    · have z : dV eU a = 0 := by
                        unfold dV
                        rw [dLk_none.mpr fun z => by
                          obtain ⟨e, e1, e2⟩ := List.mem_map.mp z
                          exact qL (by rw [← e2]; exact tbU.sub e e1)]
                        rfl
                      rw [z]
                      exact Int.dvd_zero _
                refine ⟨_, rfl, _, rfl, .inl ⟨_, rfl, _, rfl, _, _, rfl, rfl, hsc, _, _, rfl, rfl, _, rfl, _, rfl, p, l, ns, _, rfl, Wc, by omega, npl, fun v Hv sv Wv gv => ⟨_, rfl, _, _, rfl, rfl, ?_, _, rfl, p, l, ns, _, 2, rfl, by decide, cdw (by decide) (by decide), Wv, by omega, npl, fun rd Hd d0 d1 Wd gd' => ⟨_, _, rfl, rfl, ?_, _, _, rfl, rfl, ?_⟩⟩⟩⟩
                · obtain ⟨q1, q2⟩ := sv
                  exact mwA (by omega) (by split <;> omega)
                · obtain ⟨q1, q2⟩ := sv
                  refine mwA ?_ (by omega)
                  have h5 : sc = 1 ∨ sc = 2 ∨ sc = 3 ∨ sc = 4 ∨ sc = 5 := by omega
                  rcases h5 with z | z | z | z | z <;> rw [z] <;> split <;> omega
                have hw : 0 ≤ (if v < 0 then -v else v) ∧ (if v < 0 then -v else v) ≤ 10000000000000000000000000000000000 := by
                  obtain ⟨q1, q2⟩ := sv
                  split <;> omega
                dsimp only
                generalize (if v < 0 then -v else v) = u at hw ⊢
                have hmd : 0 ≤ -cS hs ms % sc ∧ -cS hs ms % sc < sc := ⟨Int.emod_nonneg _ (by omega), Int.emod_lt_of_pos _ hsc⟩
                have hcd : sc ∣ -cS hs ms - -cS hs ms % sc - sc * u * rd := by
                  refine ⟨-cS hs ms / sc - u * rd, ?_⟩
                  rw [Int.emod_def, Int.mul_sub, Int.mul_assoc]
                  omega
                have hcb : 0 ≤ sc * u * rd ∧ sc * u * rd ≤ 50000000000000000000000000000000000 := by
                  have h5 : sc = 1 ∨ sc = 2 ∨ sc = 3 ∨ sc = 4 ∨ sc = 5 := by omega
                  have h2 : rd = 0 ∨ rd = 1 := by omega
                  rcases h2 with y | y <;> rcases h5 with z | z | z | z | z <;> rw [y, z] <;> omega
                generalize sc * u * rd = w0 at hcd hcb ⊢
                have gvd := gv.trans' gd'
                have hdD := gvd.dt ndp hdU
                obtain ⟨xc, hxc⟩ := Wc.pl
                refine fun dI hdI => ?_
                have ndI : d ≠ dI := fun z => by rw [← z, hdD] at hdI; cases hdI
                refine ⟨d, .dT (dA eU), by rw [upd_ne ndI]; exact hdD, trivial, fun od => ⟨_, rfl, d, od, rfl, .inr ⟨dA eU, upd_same, ?_⟩⟩⟩
                have sc0 : Sm sc := sm_of (by omega)
                have hdivb : ∀ x : Int, x.natAbs ≤ 1000000000000000000000000000000000000000000000000000000000000000000000000000 → (-x / sc).natAbs ≤ 1000000000000000000000000000000000000000000000000000000000000000000000000001 := fun x hx => by
                  have h5 : sc = 1 ∨ sc = 2 ∨ sc = 3 ∨ sc = 4 ∨ sc = 5 := by omega
                  rcases h5 with z | z | z | z | z <;> rw [z] <;> omega
                have cdiv : ∀ x : Int, CDivW x sc := fun x => wide_div (b := 3000) hsc sc0 (by decide) (by decide)
                have hdn2 : (L2.upd Hd d (.frz od (.dT (dA eU)))) dI = none := by rw [upd_ne ndI.symm]; exact hdI
                obtain ⟨nIp, nIl⟩ := Wd.np hdI
                have ndl : d ≠ l := fun z => by
                  have q := Wz.cells
                  rw [← z, hdz] at q
                  cases q
                have hlk : (L2.upd (L2.upd Hd dI (.dT [])) d (.frz od (.dT (dA eU)))) dI = some (.dT (dA [])) := by rw [upd_ne ndI.symm]; exact upd_same
                refine for_it walk_keysT (fun i σ' Hc2 => ∃ (v4 : Option V) (eI : List Tm), σ' = [some (.ref p), some (.ref N0), some (.ref A0), some (.ref D), v4, some (.int sc), some (.bl fr), some (.ref S0), some (.int many), some (.ref D2), none, some (.ref D3), v12, v13, v14, v15', some (.int (-cS hs ms - -cS hs ms % sc - w0)), some (.ref d), v18, some (.ref dI)] ∧ Hc2 d = some (.frz od (.dT (dA eU))) ∧ Hc2 dI = some (.dT (dA eI)) ∧ TbU L eI ∧ (∀ a, dV eI a = if a ∈ (eU.take i).map (·.1) then -dV eU a / sc else 0) ∧ Wl Hc2 p l ns (n + 6010) ∧ GrowW p (L2.upd Hd d (.frz od (.dT (dA eU)))) Hc2)
                  ⟨_, [], rfl, upd_same, hlk, TbU.nil L, fun a => by rw [List.take_zero, List.map_nil, if_neg List.not_mem_nil]; rfl, ((Wd.upd nIp nIl).upd ndp ndl).more (by omega), fun a o hap ho => ?_⟩ (fun i σ' Hc2 _ hz => by
                    obtain ⟨_, _, _, q, _⟩ := hz
                    exact q) (fun i x σ' Hc2 H' hi hz hy => ?_) (fun σ' Hc2 hz => ?_)
                · by_cases q : a = d
                  · subst q
                    rw [upd_same] at ho ⊢
                    exact .inl ho
                  · rw [upd_ne q] at ho ⊢
                    exact .inl (by rw [upd_ne (fun z => by rw [z, hdI] at ho; cases ho)]; exact ho)
                · obtain ⟨v4, eI, rfl, hdU2, hI, tbI, hvI, Wx, gx2⟩ := hz
                  obtain ⟨rfl, kk, v, q, hk, rfl, hq⟩ := hy
                  unfold dA at hk
                  rw [List.getElem?_map] at hk
                  cases hei : eU[i]? with
                  | none => rw [hei] at hk; cases hk
                  | some e =>
                  rw [hei] at hk
                  cases hk
                  have hem : e ∈ eU := List.mem_of_getElem? hei
                  have heL := tbU.sub e hem
                  have lI := tbI.len okUL
                  have hev : dLk eU e.1 = some e.2 := dLk_mem tbU.nd hem
                  have hev2 : dV eU e.1 = e.2 := by unfold dV; rw [hev]; rfl
                  refine ⟨_, rfl, _, rfl, d, V.int e.2, rfl, .inr ⟨dA eU, kA e.1, q, .inr ⟨od, hdU2⟩, rfl, hq, by rw [dA_get, hev]; rfl⟩, _, rfl, _, rfl, _, _, rfl, rfl, cdiv _, _, rfl, _, rfl, dI, _, rfl, DPut.t (k := kA e.1) hI hq (by unfold dA; rw [List.length_map, sizeLine_eq]; omega), ?_⟩
                  rw [dA_put _ _ _ tbI.nd]
                  refine ⟨_, _, rfl, by rw [upd_ne ndI]; exact hdU2, upd_same, tbI.put heL, fun a => ?_, Wx.upd nIp nIl, gx2.but hdn2⟩
                  have etk : (eU.take (i + 1)).map (·.1) = (eU.take i).map (·.1) ++ [e.1] := by
                    rw [List.take_succ, hei, List.map_append]
                    rfl
                  rw [dV_put, etk]
                  by_cases c : e.1 = a
                  · subst c
                    rw [if_pos rfl, if_pos (List.mem_append_right _ (List.mem_singleton.mpr rfl)), hev2]
                  · rw [if_neg c, hvI a]
                    by_cases c2 : a ∈ (eU.take i).map (·.1)
                    · rw [if_pos c2, if_pos (List.mem_append_left _ c2)]
                    · rw [if_neg c2, if_neg fun z => (List.mem_append.mp z).elim c2 (fun z => c (List.mem_singleton.mp z).symm)]
                · obtain ⟨v4, eI, rfl, hdU2, hI, tbI, hvI, Wx, gx2⟩ := hz
                  have hvI2 : ∀ a, dV eI a = -dV eU a / sc := fun a => by
                    rw [hvI a]
                    have el : (dA eU).length = eU.length := by unfold dA; rw [List.length_map]
                    rw [el, List.take_length]
                    by_cases c : a ∈ eU.map (·.1)
                    · rw [if_pos c]
                    · rw [if_neg c]
                      have z : dV eU a = 0 := by unfold dV; rw [dLk_none.mpr c]; rfl
                      rw [z]
                      exact (Int.zero_ediv sc).symm
                  have vb : ∀ a, (vS hs ms a).natAbs ≤ hs.length * 10000000000000000000000000000000000000000000000000000000000000000000000 := fun a => vS_bd a hs ms (fun h hh => coef_small a (gd h hh).1.asc (gd h hh).1.sm) (fun m hm => (hbig m hm).1)
                  have cb := cS_bd hs ms (fun h hh => (gd h hh).1.c) (fun m hm => (hbig m hm).1)
                  have gHf : GrowW p Hd (L2.upd Hc2 d (.dT (dA eU))) := fun a o hap ho => by
                    by_cases q : a = d
                    · subst q
                      rw [hdD] at ho
                      cases ho
                      exact .inl upd_same
                    · rcases gx2 a o hap (by rw [upd_ne q]; exact ho) with r | ⟨r1, ps, r2, r3⟩
                      · exact .inl (by rw [upd_ne q]; exact r)
                      · exact .inr ⟨r1, ps, by rw [upd_ne q]; exact r2, r3⟩
                  have GT := (gc.trans' gvd).trans' gHf
                  have WT := Wx.upd ndp ndl (o := .dT (dA eU))
                  have hIf : (L2.upd Hc2 d (.dT (dA eU))) dI = some (.dT (dA eI)) := by rw [upd_ne ndI.symm]; exact hI
                  refine ⟨hdU2, ?_⟩
                  have hDT := GT.lst nEp hDz
                  have hFT := GT.lst nFp hms
                  generalize L2.upd Hc2 d (.dT (dA eU)) = HT at GT WT hIf hDT hFT ⊢
                  refine ⟨_, rfl, _, rfl, _, rfl, _, _, rfl, rfl, cdiv _, _, rfl, dI, _, L, eI, rfl, hIf, okUL, tbI, sm_of ?_, fun a => sm_of ?_, fun xf Hs ff eff efc gff cf gs => ?_⟩
                  · exact Nat.le_trans (hdivb _ (by omega)) (by decide)
                  · rw [hvI2 a]
                    refine Nat.le_trans (hdivb _ ?_) (by decide)
                    have q1 := vb a
                    obtain ⟨q2, q3, _⟩ := hwU a
                    rw [hvU a]
                    omega
                  · have hDs := gs.lst hDT
                    have hFs := gs.lst hFT
                    refine ⟨_, rfl, D2, xs, rfl, .inl ⟨SqL.of hDs, fun th hth => ?_⟩⟩
                    have nFt : D3 ≠ th := fun z => by rw [← z, hFs] at hth; cases hth
                    refine ⟨_, rfl, _, rfl, D3, ms.map V.int, rfl, .inl ⟨SqL.of (by rw [upd_ne nFt]; exact hFs), fun tt htt => ⟨two34, fun tp htp => ⟨three34, fun r hr => ?_⟩⟩⟩⟩
                    have n3 : th ≠ tt := fun z => by rw [← z, upd_same] at htt; cases htt
                    have n4 : th ≠ tp := fun z => by rw [← z, upd_ne n3, upd_same] at htp; cases htp
                    have n5 : th ≠ r := fun z => by rw [← z, upd_ne n4, upd_ne n3, upd_same] at hr; cases hr
                    have n6 : tt ≠ tp := fun z => by rw [← z, upd_same] at htp; cases htp
                    have n7 : tt ≠ r := fun z => by rw [← z, upd_ne n6, upd_same] at hr; cases hr
                    have n8 : tp ≠ r := fun z => by rw [← z, upd_same] at hr; cases hr
                    have gN1 := (((Grow.new hth (o := .tup xs)).trans (Grow.new htt (o := .tup (ms.map V.int)))).trans (Grow.new htp (o := .tup [.int sc, .ref tt]))).trans (Grow.new hr (o := .lst [xf, .ref th, .ref tp]))
                    have ehs : EncsB (fun _ => True) Hs (hs.map htD) xs := EncsB.any (B := fun _ => False) ((enz.growW GT (fun z => z) (noTup hxz)).grow gs)
                    have lms2 : ms.length = hs.length := by omega
                    refine k r _ xf (.ref th) (.ref tp) ff hs sc ms upd_same (eff.grow gN1) ?_ ?_ ⟨okUL, gN, gff, goodH, by omega⟩ (by omega) (by omega) (fun m hm => (hbig m hm).1) lms2 ⟨by rw [efc]; exact Nat.le_trans (hdivb _ (by omega)) (by decide), fun h hh => by obtain ⟨q1, q2⟩ := (gd h hh).1.c; omega⟩ ?_ (((WT.grow gs).grow gN1).more (by omega)) ?_
                    · exact .tup (by rw [upd_ne n5, upd_ne n4, upd_ne n3]; exact upd_same) (ehs.grow gN1)
                    · exact .tup (by rw [upd_ne n8]; exact upd_same) (.cons (.int sc) (.cons (.tup (xs := ms.map V.int) (by rw [upd_ne n7, upd_ne n6]; exact upd_same) (encs_ints _)) .nil))
                    · refine made_shows (w := wt) (by omega) lms2 hok ?_ (fun a ha => ⟨?_, (hwU a).1, (hwU a).2.2⟩)
                      · rw [if_neg (show ¬ sc = 0 by omega), efc]
                        obtain ⟨y, hy⟩ := hcd
                        rw [hy, show -(sc * y) / sc = -y by rw [← Int.mul_neg]; exact Int.mul_ediv_cancel_left _ (by omega), Int.mul_neg]
                        omega
                      · rw [cf a, hvI2 a]
                        obtain ⟨y, hy⟩ := hdall a
                        have hva := hvU a
                        rw [hy] at hva ⊢
                        rw [show -(sc * y) / sc = -y by rw [← Int.mul_neg]; exact Int.mul_ediv_cancel_left _ (by omega), Int.mul_neg]
                        omega
                    · exact ((g.w.trans' (gf5.trans' ((gx.trans' gz).trans' GT))).trans' gs.w).trans' gN1.w
end
end J1
set_option Elab.async false
set_option linter.all false
set_option maxRecDepth 100000
set_option maxHeartbeats 4000000
namespace J1
open PySem PySem.Spec PyProof.Rows L2 GxR GA RA RZ
/-! ### things as data that == compares -/
mutual
def pyD : Da → PyData
  | .non => .none
  | .bl b => .bool b
  | .int i => .int i
  | .str s => .str s
  | .tup l => .tuple (pyDs l)
  | .lst l => .list (pyDs l)
def pyDs : List Da → List PyData
  | [] => []
  | d :: l => pyD d :: pyDs l
end
mutual
theorem EncB.dp {B : Addr → Prop} {K : PySem.W.Frag} {H : Hp} : ∀ {d : Da} {x : V}, EncB B H d x → Dp K H x (pyD d)
  | _, _, .non => .non
  | _, _, .bl b => .bl b
  | _, _, .int i => .int i
  | _, _, .str s h => .str s
  | _, _, .tup h e => .tup (SqT.of h) (EncsB.dp e)
  | _, _, .lst h e _ => .lst (SqL.of h) (EncsB.dp e)
theorem EncsB.dp {B : Addr → Prop} {K : PySem.W.Frag} {H : Hp} : ∀ {l : List Da} {xs : List V}, EncsB B H l xs → DpAll K H xs (pyDs l)
  | _, _, .nil => .nil
  | _, _, .cons h t => .cons (EncB.dp h) (EncsB.dp t)
end
def Shp (k : Nat) (d : Da) : Prop := (pyD d).canLay0 = true ∧ (pyD d).depth ≤ k
theorem Shp.non {k : Nat} : Shp k .non := ⟨rfl, Nat.zero_le _⟩
theorem Shp.bl {k : Nat} {b : Bool} : Shp k (.bl b) := ⟨rfl, Nat.zero_le _⟩
theorem Shp.int {k : Nat} {i : Int} : Shp k (.int i) := ⟨rfl, Nat.zero_le _⟩
theorem Shp.one {k : Nat} : Shp k (.str "1") := ⟨by show PyData.strOk "1" = true; decide +kernel, Nat.zero_le _⟩
theorem shps {k : Nat} : ∀ {l : List Da}, (∀ d ∈ l, Shp k d) → PyData.canLayAll0 (pyDs l) = true ∧ PyData.depthAll (pyDs l) ≤ k
  | [], _ => ⟨rfl, Nat.zero_le _⟩
  | d :: l, h => by
    obtain ⟨a, b⟩ := shps (l := l) fun d hd => h d (List.mem_cons_of_mem _ hd)
    obtain ⟨c, e⟩ := h d List.mem_cons_self
    refine ⟨?_, Nat.max_le.mpr ⟨e, b⟩⟩
    show ((pyD d).canLay0 && PyData.canLayAll0 (pyDs l)) = true
    rw [a, c]
    rfl
theorem Shp.tup {k : Nat} {l : List Da} (h : ∀ d ∈ l, Shp k d) : Shp (k + 1) (.tup l) := ⟨(shps h).1, Nat.succ_le_succ (shps h).2⟩
theorem Shp.lst {k : Nat} {l : List Da} (h : ∀ d ∈ l, Shp k d) : Shp (k + 1) (.lst l) := ⟨(shps h).1, Nat.succ_le_succ (shps h).2⟩
theorem Shp.up {k m : Nat} {d : Da} (h : Shp k d) (hk : k ≤ m) : Shp m d := ⟨h.1, Nat.le_trans h.2 hk⟩
theorem Shp.ok {k : Nat} {d : Da} (h : Shp k d) (hk : k ≤ 64) : SeqAt.shaped (pyD d) = true := by
  show ((pyD d).canLay0 && decide ((pyD d).depth ≤ 64)) = true
  rw [h.1, decide_eq_true (Nat.le_trans h.2 hk)]
  rfl
theorem shps_inv {k : Nat} : ∀ {l : List Da}, PyData.canLayAll0 (pyDs l) = true → PyData.depthAll (pyDs l) ≤ k → ∀ d ∈ l, Shp k d
  | [], _, _, _, h => absurd h List.not_mem_nil
  | d :: l, h1, h2, d', hd => by
    have h1 : ((pyD d).canLay0 && PyData.canLayAll0 (pyDs l)) = true := h1
    rw [Bool.and_eq_true] at h1
    have h2 : max (pyD d).depth (PyData.depthAll (pyDs l)) ≤ k := h2
    rcases List.mem_cons.mp hd with z | z
    · rw [z]
      exact ⟨h1.1, Nat.le_trans (Nat.le_max_left _ _) h2⟩
    · exact shps_inv h1.2 (Nat.le_trans (Nat.le_max_right _ _) h2) d' z
theorem Shp.inv {k : Nat} {l : List Da} (h : Shp (k + 1) (.tup l)) : ∀ d ∈ l, Shp k d := shps_inv h.1 (Nat.le_of_succ_le_succ h.2)
theorem Shp.ints {ms : List Int} : Shp 1 (.tup (ms.map .int)) := .tup fun d hd => by
  obtain ⟨m, _, rfl⟩ := List.mem_map.mp hd
  exact .int
theorem all1 {α : Type} {P : α → Prop} {a : α} (h : P a) : ∀ x ∈ [a], P x := fun x hx => by rw [List.mem_singleton.mp hx]; exact h
theorem allc {α : Type} {P : α → Prop} {a : α} {l : List α} (h : P a) (t : ∀ x ∈ l, P x) : ∀ x ∈ a :: l, P x := fun x hx => (List.mem_cons.mp hx).elim (fun e => by rw [e]; exact h) (t x)
theorem alln {α : Type} {P : α → Prop} : ∀ x ∈ ([] : List α), P x := fun _ z => absurd z List.not_mem_nil
/-! ### where lists stand -/
mutual
theorem EncB.mono {B B' : Addr → Prop} {H : Hp} (b : ∀ a, B a → B' a) : ∀ {d : Da} {x : V}, EncB B H d x → EncB B' H d x
  | _, _, .non => .non
  | _, _, .bl b => .bl b
  | _, _, .int i => .int i
  | _, _, .str s h => .str s h
  | _, _, .tup h e => .tup h (EncsB.mono b e)
  | _, _, .lst h e q => .lst h (EncsB.mono b e) (b _ q)
theorem EncsB.mono {B B' : Addr → Prop} {H : Hp} (b : ∀ a, B a → B' a) : ∀ {l : List Da} {xs : List V}, EncsB B H l xs → EncsB B' H l xs
  | _, _, .nil => .nil
  | _, _, .cons h t => .cons (EncB.mono b h) (EncsB.mono b t)
end
theorem og_any {B : Addr → Prop} {H : Hp} {o : Option (Int × Int)} {x : V} (h : Enc H (ogD o) x) : EncB B H (ogD o) x := by
  cases o with
  | none => cases h; exact .non
  | some p =>
    cases h with
    | @tup b xs _ hb es =>
    cases es with
    | @cons _ x0 _ _ e0 es =>
    cases es with
    | @cons _ x1 _ _ e1 es =>
    cases es
    cases e0
    cases e1
    exact .tup hb (.cons (.int _) (.cons (.int _) .nil))
theorem ht_any {B : Addr → Prop} {H : Hp} {h : Ht} {x : V} (e : Enc H (htD h) x) : EncB B H (htD h) x := by
  cases e with
  | @tup b xs _ hb es =>
  cases es with
  | @cons _ x0 _ _ e0 es =>
  cases es with
  | @cons _ x1 _ _ e1 es =>
  cases es with
  | @cons _ x2 _ _ e2 es =>
  cases es
  cases e1
  exact .tup hb (.cons (fm_any e0) (.cons (.bl _) (.cons (og_any e2) .nil)))
theorem hts_any {B : Addr → Prop} {H : Hp} : ∀ {hs : List Ht} {xs : List V}, Encs H (hs.map htD) xs → EncsB B H (hs.map htD) xs
  | [], _, .nil => .nil
  | _ :: _, _, .cons h t => .cons (ht_any h) (hts_any t)
theorem hs_any {B : Addr → Prop} {H : Hp} {hs : List Ht} {x : V} (e : Enc H (.tup (hs.map htD)) x) : EncB B H (.tup (hs.map htD)) x := by
  cases e with
  | tup h es => exact .tup h (hts_any es)
theorem fm_at {B : Addr → Prop} {H : Hp} {f : Fm} {x : V} (e : Enc H (fmD f) x) : ∃ b t xs, x = .ref b ∧ H b = some (.tup [.int f.1, .ref t]) ∧ H t = some (.tup xs) ∧ EncsB B H (f.2.map tmD) xs := by
  have e := fm_any (B := B) e
  cases e with
  | @tup b xs _ hb es =>
  cases es with
  | @cons _ x0 _ _ e0 es =>
  cases es with
  | @cons _ x1 _ _ e1 es =>
  cases es
  cases e0
  cases e1 with
  | @tup t ys _ ht et => exact ⟨b, t, ys, rfl, hb, ht, et⟩
theorem ht_at {B : Addr → Prop} {H : Hp} {h : Ht} {x : V} (e : EncB B H (htD h) x) : ∃ b x0 x2, x = .ref b ∧ H b = some (.tup [x0, .bl h.ex, x2]) ∧ EncB B H (fmD h.f) x0 ∧ EncB B H (ogD h.og) x2 := by
  cases e with
  | @tup b xs _ hb es =>
  cases es with
  | @cons _ x0 _ _ e0 es =>
  cases es with
  | @cons _ x1 _ _ e1 es =>
  cases es with
  | @cons _ x2 _ _ e2 es =>
  cases es
  cases e1
  exact ⟨b, x0, x2, rfl, hb, e0, e2⟩
/-- a showing as it stands -/
theorem sh_at {H : Hp} {s : Int} {ms : List Int} {x : V} (e : Enc H (.tup [.int s, .tup (ms.map .int)]) x) : ∃ b t, x = .ref b ∧ H b = some (.tup [.int s, .ref t]) ∧ H t = some (.tup (ms.map V.int)) := by
  cases e with
  | @tup b xs _ hb es =>
  cases es with
  | @cons _ x0 _ _ e0 es =>
  cases es with
  | @cons _ x1 _ _ e1 es =>
  cases es
  cases e0
  cases e1 with
  | @tup t ys _ ht et =>
  have := ints_vals et
  subst this
  exact ⟨b, t, rfl, hb, ht⟩
theorem sh_enc {B : Addr → Prop} {H : Hp} {s : Int} {ms : List Int} {b t : Addr} (hb : H b = some (.tup [.int s, .ref t])) (ht : H t = some (.tup (ms.map V.int))) : EncB B H (.tup [.int s, .tup (ms.map .int)]) (.ref b) :=
  .tup hb (.cons (.int _) (.cons (.tup ht (encs_ints ms)) .nil))
theorem encs_app' {B : Addr → Prop} {H : Hp} : ∀ {l m : List Da} {xs ys : List V}, EncsB B H l xs → EncsB B H m ys → EncsB B H (l ++ m) (xs ++ ys)
  | [], _, _, _, .nil, e => e
  | _ :: _, _, _, _, .cons h t, e => .cons h (encs_app' t e)
theorem encs_take' {B : Addr → Prop} {H : Hp} : ∀ (k : Nat) {l : List Da} {xs : List V}, EncsB B H l xs → EncsB B H (l.take k) (xs.take k)
  | 0, _, _, _ => .nil
  | _ + 1, _, _, .nil => .nil
  | k + 1, _, _, .cons h t => .cons h (encs_take' k t)
theorem encs_drop' {B : Addr → Prop} {H : Hp} : ∀ (k : Nat) {l : List Da} {xs : List V}, EncsB B H l xs → EncsB B H (l.drop k) (xs.drop k)
  | 0, _, _, e => e
  | _ + 1, _, _, .nil => .nil
  | k + 1, _, _, .cons h t => encs_drop' k t
/-- t[:k] -/
theorem rd_take {K : PySem.W.Frag} {H : Hp} {a : Addr} {xs : List V} {k : Nat} {Q : VK} (ha : H a = some (.tup xs)) (hk : k ≤ xs.length)
    (q : ∀ b H', Grow H H' → H' b = some (.tup (xs.take k)) → Q (.ref b) H') : rSlA K (.ref a) none (some (k : Int)) H Q := by
  refine ⟨a, xs, rfl, SqT.of ha, fun h => q a H (Grow.refl H) ?_, fun _ p hp => q p _ (Grow.new hp) ?_⟩
  · obtain ⟨_, h⟩ := h
    rw [HT.sIx_nat, Nat.min_eq_left hk] at h
    rw [h, List.take_length]
    exact ha
  · rw [upd_same]
    unfold cutV
    rw [HT.sIx_nat, HT.sIx_none, Nat.min_eq_left hk]
    rfl
/-- t[k:] -/
theorem rd_drop {K : PySem.W.Frag} {H : Hp} {a : Addr} {xs : List V} {k : Nat} {i : Int} {Q : VK} (ha : H a = some (.tup xs)) (ei : i = (k : Int)) (hk : k ≤ xs.length)
    (q : ∀ b H', Grow H H' → H' b = some (.tup (xs.drop k)) → Q (.ref b) H') : rSlA K (.ref a) (some i) none H Q := by
  subst ei
  refine ⟨a, xs, rfl, SqT.of ha, fun h => q a H (Grow.refl H) ?_, fun _ p hp => q p _ (Grow.new hp) ?_⟩
  · obtain ⟨h, _⟩ := h
    rw [HT.sIx_nat, Nat.min_eq_left hk] at h
    rw [h]
    exact ha
  · rw [upd_same]
    unfold cutV
    rw [HT.sIx_nat, HT.sIx_none, Nat.min_eq_left hk, show xs.length - k = (xs.drop k).length by rw [List.length_drop], List.take_length]
/-- t + u -/
theorem rd_add {K : PySem.W.Frag} {H : Hp} {a b : Addr} {xs ys : List V} {Q : VK} (ha : H a = some (.tup xs)) (hb : H b = some (.tup ys)) (hz : xs.length + ys.length ≤ 10000)
    (q : ∀ c H', Grow H H' → H' c = some (.tup (xs ++ ys)) → Q (.ref c) H') : rCatA K (.ref a) (.ref b) H Q := by
  refine ⟨a, b, xs, ys, rfl, rfl, SqT.of ha, SqT.of hb, by rw [sizeLine_eq]; omega, fun e => ?_, fun _ e => ?_, fun _ _ p hp => q p _ (Grow.new hp) upd_same⟩
  · subst e
    exact q b H (Grow.refl H) hb
  · subst e
    exact q a H (Grow.refl H) (by rw [List.append_nil]; exact ha)
theorem at_any {xs : List V} {r : Int} (h0 : 0 ≤ r) (h1 : r < (xs.length : Int)) : ∃ x, atI xs r = some x ∧ xs[r.toNat]? = some x := by
  have hj : r.toNat < xs.length := by omega
  exact ⟨xs[r.toNat], at_of (j := r.toNat) (by omega) (List.getElem?_eq_getElem hj), List.getElem?_eq_getElem hj⟩
/-- t[:-1] -/
theorem rd_init {K : PySem.W.Frag} {H : Hp} {a : Addr} {xs : List V} {Q : VK} (ha : H a = some (.tup xs))
    (q : ∀ b H', Grow H H' → H' b = some (.tup (xs.take (xs.length - 1))) → Q (.ref b) H') : rSlA K (.ref a) none (some (-1)) H Q := by
  have e : HT.sIx xs.length xs.length (some (-1)) = xs.length - 1 := by
    show (if (-1 : Int) < 0 then ((-1 : Int) + (xs.length : Int)).toNat else min (-1 : Int).toNat xs.length) = _
    rw [if_pos (by decide)]
    omega
  refine ⟨a, xs, rfl, SqT.of ha, fun h => q a H (Grow.refl H) ?_, fun _ p hp => q p _ (Grow.new hp) ?_⟩
  · obtain ⟨_, h⟩ := h
    rw [e] at h
    rw [h, List.take_length]
    exact ha
  · rw [upd_same]
    unfold cutV
    rw [e, HT.sIx_none]
    rfl
theorem six34 {a b c d e f : V} : [a, b, c, d, e, f].length ≤ sizeLine := by
  rw [sizeLine_eq]
  show 6 ≤ _
  omega
theorem five34 {a b c d e : V} : [a, b, c, d, e].length ≤ sizeLine := by
  rw [sizeLine_eq]
  show 5 ≤ _
  omega
theorem four34 {a b c d : V} : [a, b, c, d].length ≤ sizeLine := by
  rw [sizeLine_eq]
  show 4 ≤ _
  omega
/-! ### what is asked of a turned thing -/
theorem shp_int {k : Nat} {ms : List Int} : ∀ d ∈ ms.map Da.int, Shp k d := fun d hd => by
  obtain ⟨m, _, rfl⟩ := List.mem_map.mp hd
  exact .int
theorem smd_of {d : Da} (h1 : Sm (sOf d)) (h2 : ∀ e ∈ mOf d, Sm (nOf e)) : SmD d := ⟨h1, h2⟩
theorem sm_of2 {i : Int} (h : i.natAbs ≤ 100000000000000000000000000000000000000000000000000000000000000000000000000000000000000000000000000000) : Sm i :=
  Nat.lt_of_le_of_lt h (by decide)
theorem sm00 : Sm 0 := sm_of (by decide)
theorem smd_pair {a : Da} {l r : List Da} (h : Sm (nOf a)) (hl : ∀ e ∈ l, Sm (nOf e)) : SmD (.tup (a :: .tup l :: r)) := ⟨h, hl⟩
theorem sm_ints {ms : List Int} (h : ∀ m ∈ ms, Sm m) : ∀ e ∈ ms.map Da.int, Sm (nOf e) := fun e he => by
  obtain ⟨m, hm, rfl⟩ := List.mem_map.mp he
  exact h m hm
/-- l with another thing at k -/
def putAt {α : Type} (l : List α) (k : Nat) (x : α) : List α := l.take k ++ [x] ++ l.drop (k + 1)
theorem putAt_mem {α : Type} {l : List α} {k : Nat} {x y : α} (h : y ∈ putAt l k x) : y = x ∨ y ∈ l := by
  rcases List.mem_append.mp h with h | h
  · rcases List.mem_append.mp h with h | h
    · exact .inr (List.mem_of_mem_take h)
    · exact .inl (List.mem_singleton.mp h)
  · exact .inr (List.mem_of_mem_drop h)
theorem putAt_len {α : Type} {l : List α} {k : Nat} {x : α} (h : k < l.length) : (putAt l k x).length = l.length := by
  unfold putAt
  rw [List.length_append, List.length_append, List.length_take, List.length_drop, List.length_cons, List.length_nil]
  omega
theorem putAt_map {α β : Type} {f : α → β} {l : List α} {k : Nat} {x : α} : (putAt l k x).map f = putAt (l.map f) k (f x) := by
  unfold putAt
  rw [List.map_append, List.map_append, List.map_take, List.map_drop]
  rfl
theorem encs_put {B : Addr → Prop} {H : Hp} {l : List Da} {xs : List V} {k : Nat} {d : Da} {x : V} (e : EncsB B H l xs) (h : EncB B H d x) : EncsB B H (putAt l k d) (putAt xs k x) :=
  encs_app' (encs_app' (encs_take' k e) (.cons h .nil)) (encs_drop' (k + 1) e)
theorem newAt {H : Hp} {a : Addr} {o : HO} (h : H a = none) : Grow H (L2.upd H a o) ∧ (L2.upd H a o) a = some o := ⟨Grow.new h, upd_same⟩
/-- the term at an address -/
def gP (H : Hp) (b : Addr) : Tm :=
  match H b with
  | some (.tup [.ref t, .int m]) => (gH H t, m)
  | _ => ((0, 0, 0), 0)
theorem gP_of {H : Hp} {b t : Addr} {e : Tm} (hb : H b = some (.tup [.ref t, .int e.2])) (ht : H t = some (.tup ((il e.1).map V.int))) : gP H b = e := by
  unfold gP
  rw [hb]
  show (gH H t, e.2) = e
  rw [gH_of ht]
theorem TmAt.bs {H : Hp} {es : List Tm} {ts : List Addr} : ∀ {bs : List Addr}, TmAt H es (bs.map V.ref) ts → bs.map (gP H) = es ∧ ∀ b ∈ bs, ∃ t, H b = some (.tup [.ref t, .int (gP H b).2]) ∧ H t = some (.tup ((il (gP H b).1).map V.int)) := by
  intro bs h
  generalize hx : bs.map V.ref = xs at h
  induction h generalizing bs with
  | nil =>
    have e : bs = [] := List.map_eq_nil_iff.mp hx
    subst e
    exact ⟨rfl, fun _ z => absurd z List.not_mem_nil⟩
  | @cons e b t l xs ts hb ht r ih =>
    cases bs with
    | nil => cases hx
    | cons b' bs =>
      rw [List.map_cons] at hx
      injection hx with h1 h2
      injection h1 with h1
      subst h1
      obtain ⟨i1, i2⟩ := ih h2
      have e0 := gP_of hb ht
      refine ⟨by rw [List.map_cons, e0, i1], fun c hc => ?_⟩
      rcases List.mem_cons.mp hc with z | z
      · rw [z, e0]
        exact ⟨t, hb, ht⟩
      · exact i2 c z
theorem gP_enc {B : Addr → Prop} {H : Hp} : ∀ {us : List Addr}, (∀ b ∈ us, ∃ t, H b = some (.tup [.ref t, .int (gP H b).2]) ∧ H t = some (.tup ((il (gP H b).1).map V.int))) → EncsB B H ((us.map (gP H)).map tmD) (us.map V.ref)
  | [], _ => .nil
  | b :: us, h => by
    obtain ⟨t, h1, h2⟩ := h b List.mem_cons_self
    exact .cons (.tup h1 (.cons (enc_at h2) (.cons (.int _) .nil))) (gP_enc fun c hc => h c (List.mem_cons_of_mem _ hc))
theorem nd_inj {es : List Tm} (nd : (es.map (·.1)).Nodup) {e f : Tm} (h1 : e ∈ es) (h2 : f ∈ es) (h : e.1 = f.1) : e.2 = f.2 := by
  have q1 := dLk_mem nd (a := e.1) (n := e.2) h1
  have q2 := dLk_mem nd (a := f.1) (n := f.2) h2
  rw [h, q2] at q1
  exact (Option.some.inj q1).symm
/-- terms that may be those of a form -/
structure TsOk (L : List A3) (es : List Tm) : Prop where
  nd : (es.map (·.1)).Nodup
  inU : ∀ e ∈ es, e.1 ∈ L
  nz : ∀ e ∈ es, e.2 ≠ 0
  sm : ∀ e ∈ es, Sm e.2
end J1
set_option Elab.async false
set_option linter.all false
set_option maxRecDepth 100000
set_option maxHeartbeats 4000000
namespace J1
open PySem PySem.Spec PyProof.Rows L2 GxR GA RA RZ
abbrev lTd : Stmt := top 43
theorem cTd : FnScope ["_law_well_here", "_law_never", "_law_goal", "_law_hints", "_law_showing", "_law_atoms_here", "_law_scale", "_law_times", "_law_pick", "_law_k", "_law_by_here", "_law_n", "_law_form_here", "_law_exact", "_law_origin_here", "_law_some", "_law_atom", "_law_terms", "_law_term"] ["_law_well_here", "_law_never", "_law_goal", "_law_hints", "_law_showing", "_law_atoms_here"] (defScope lTd) := ⟨rfl, rfl, rfl, by decide +kernel, rfl, by decide +kernel, by decide +kernel⟩
def spTd : Sp := fun vs H Q _ => ∃ (p l N0 A0 : Addr) (ns : List Int) (n : Nat) (nv : List Int) (L : List A3) (xg xh xs : V) (goal : Fm) (hs : List Ht) (s : Int) (ms : List Int) (B : Nat), vs = [.ref p, .ref N0, xg, xh, xs, .ref A0] ∧ Wl H p l ns n ∧ n ≤ 10000000 ∧ p ≠ l ∧ H N0 = some (.tup (nv.map V.int)) ∧ AtL H A0 L ∧ A0 ≠ p ∧ L.Pairwise (fun a b => rk a < rk b) ∧ L ≠ [] ∧
  Enc H (fmD goal) xg ∧ Enc H (.tup (hs.map htD)) xh ∧ Enc H (.tup [.int s, .tup (ms.map .int)]) xs ∧ GoodIn L nv goal hs ∧ 0 ≤ s ∧ s ≤ 5 ∧ (∀ m ∈ ms, Big m) ∧ ms.length = hs.length ∧ MdB B goal hs ∧ B ≤ 10000000000000000000000000000000000000000000000000000000000000000000000000000000000000000000000000000 ∧
  ∀ (r N1 : Addr) (H' : Hp) (xg' xh' xd : V) (nv' : List Int) (goal' : Fm) (hs' : List Ht) (d : Da), H' r = some (.lst [.ref N1, xg', xh', xd]) → H' N1 = some (.tup (nv'.map V.int)) → Enc H' (fmD goal') xg' → Enc H' (.tup (hs'.map htD)) xh' → EncB (fun a => a ≠ p) H' d xd → GoodIn L nv' goal' hs' → hs'.length = hs.length →
    MdB (B + 1000000000000000000000000000000000000) goal' hs' → SmD d → Shp 3 d → Wl H' p l ns (n + 100) → GrowW p H H' → Q (.ref r) H'
theorem mid_of {R : L2.St → Hp → Prop} {σ1 : L2.St} {H1 : Hp} (h : R σ1 H1) : ∀ σ' H', (σ' = σ1 ∧ H' = H1) → R σ' H' := fun _ _ e => by
  rw [e.1, e.2]
  exact h
section
variable {P : Program} {w : World} {K : PySem.W.Frag} {mg : Str → Option Value} {base : Heap}
theorem ok_turned {f fD fB : Addr} {fd fdD fdB : FuncData} (F : Fun K "_law_turned" "_law_turned" lTd f fd) (N : Gd mg) (G : Gk mg)
    (GD : FnOk P w K mg base CX0 1 fD fdD ["_law_well_here", "_law_many"] spDr) (DD : Df K mg "_law_draw" ["_law_well_here", "_law_many"] fD fdD)
    (GB : FnOk P w K mg base CX0 2 fB fdB ["_law_well_here"] spBy) (DB : Df K mg "_law_by" ["_law_well_here"] fB fdB) :
    FnOk P w K mg base CX0 3 f fd ["_law_well_here", "_law_never", "_law_goal", "_law_hints", "_law_showing", "_law_atoms_here"] spTd := by
  refine F.ok (k := 2) cTd (fun vs H Q E h => ?_) (fun cdv A outer sh0 H vs Q E hr h => ?_)
  · obtain ⟨_, _, _, _, _, _, _, _, _, _, _, _, _, _, _, _, rfl, _⟩ := h
    rfl
  · obtain ⟨p, l, N0, A0, ns, n, nv, L, xg, xh, xs, goal, hs, s, ms, B, rfl, W, hn, npl, hN0, hA, nAp, asc, neL, eg, eh, es, gi, s0, s5, big, lms, md, hB, k⟩ := h
    have hu := hu_of hr
    have hu64 : (A.deeper (envOfC "_law_turned" (defScope lTd) sh0.heap.objs.size f cdv)).units + 64 < cLine := by
      have := hr.un
      omega
    refine ⟨_, (pss_cons (ps_asg (pv 4) (pg_tup (by rfl) (pgs_cons (pg_name (i := 6) cTd.nd rfl (Or.inl rfl)) (pgs_cons (pg_name (i := 7) cTd.nd rfl (Or.inl rfl)) pgs_nil)))) (pss_cons (ps_set (i := 8) cTd.nd rfl (Or.inl rfl) (pe_call (GD.mono (by decide)) hr (by rfl) DD.g DD.k DD.b .nil pass0 (pa_cons (pv 0) (pa_cons pe_int pa_nil)))) (pss_cons (ps_set (i := 9) cTd.nd rfl (Or.inl rfl) (pe_call (GD.mono (by decide)) hr (by rfl) DD.g DD.k DD.b .nil pass0 (pa_cons (pv 0) (pa_cons (pe_op op_add (pe_callB call_len_seq (by rfl) N.len PySem.boot_len (pa_cons (pv 7) pa_nil)) pe_int) pa_nil)))) (C8.pss_cut (ps_if (PW.pt (pw_and (pt_cmpR op_lt (pv 8) pe_int (nomark _)) (pw_and1 (pt_cmpR op_lt (pv 9) (pe_callB call_len_seq (by rfl) N.len PySem.boot_len (pa_cons (pv 7) pa_nil)) (nomark _))))) (pss_cons (ps_set (i := 10) cTd.nd rfl (Or.inl rfl) (pe_op op_add (pe_ix ix_tup (pv 7) (pv 9) (fun _ _ => rfl)) (pe_ix ix_list (pe_lst (pa_cons pe_int (pa_cons (pe_un un_neg pe_int) (pa_cons (pe_op op_mulW (pe_un un_neg pe_int) (pe_ix ix_tup (pv 7) (pv 9) (fun _ _ => rfl))) pa_nil)))) (pv 8) (fun _ _ => rfl)))) (pss_one (ps_ret (pe_lst (pa_cons (pv 1) (pa_cons (pv 2) (pa_cons (pv 3) (pa_cons (pe_tup (pa_cons (pv 6) (pa_cons (pe_op op_catA (pe_op op_catA (pe_slice sl_tupA (pv 7) po_none (po_some (pv 9))) (pe_tup (pa_cons (pv 10) pa_nil))) (pe_slice sl_tupA (pv 7) (po_some (pe_op op_add (pv 9) pe_int)) po_none)) pa_nil))) pa_nil)))))))) pss_nil) (C8.pss_cut (ps_if (pt_cmpR op_eq (pv 8) pe_int (nomark _)) (pss_one (ps_ret (pe_lst (pa_cons (pv 1) (pa_cons (pe_tup (pa_cons (pe_op op_sub (pe_op op_sub (pe_ix ix_tup (pv 2) pe_int (fun _ _ => rfl)) pe_int) (pe_op op_mulW (pe_call (GD.mono (by decide)) hr (by rfl) DD.g DD.k DD.b .nil pass0 (pa_cons (pv 0) (pa_cons pe_int pa_nil))) (pe_callB call_abs (by rfl) N.abs (by decide +kernel) (pa_cons (pe_call (GB.mono (by decide)) hr (by rfl) DB.g DB.k DB.b .nil pass0 (pa_cons (pv 0) pa_nil)) pa_nil)))) (pa_cons (pe_ix ix_tup (pv 2) pe_int (fun _ _ => rfl)) pa_nil))) (pa_cons (pv 3) (pa_cons (pv 4) pa_nil))))))) pss_nil) (C8.pss_cut (ps_if (pt_cmpR op_eq (pv 8) pe_int (nomark _)) (pss_one (ps_ret (pe_lst (pa_cons (pe_callTy call_tuple_of (by rfl) N.tuple (by decide +kernel) (pa_cons (pe_lc (own := [("_law_n", 11)]) (g := gName 11) (by rfl) cTd.nd (pi_tup (pv 1)) (blkOk_by (own := [("_law_n", 11)]) (N := ["_law_well_here", "_law_never", "_law_goal", "_law_hints", "_law_showing", "_law_atoms_here", "_law_scale", "_law_times", "_law_pick", "_law_k", "_law_by_here", "_law_n", "_law_form_here", "_law_exact", "_law_origin_here", "_law_some", "_law_atom", "_law_terms", "_law_term"]) (sc := defScope lTd) (by decide +kernel)) (fun _ _ _ _ _ => (pg_name (i := 11) cTd.nd rfl (Or.inl rfl))) (fun _ _ _ _ _ => (pts_one (pt_cmpR op_gt (pe_call (GD.mono (by decide)) hr (by rfl) DD.g DD.k DD.b .nil pass0 (pa_cons (pv 0) (pa_cons pe_int pa_nil))) pe_int (nomark _)))) (fun _ _ _ _ _ => (pv 11))) pa_nil)) (pa_cons (pv 2) (pa_cons (pv 3) (pa_cons (pv 4) pa_nil))))))) pss_nil) (C8.pss_cut (ps_if (PW.pt (pw_and (pt_cmpR op_eq (pv 8) pe_int (nomark _)) (pw_and1 (pt_cmpR op_lt (pv 9) (pe_callB call_len_seq (by rfl) N.len PySem.boot_len (pa_cons (pv 7) pa_nil)) (nomark _))))) (pss_cons (ps_asg (pe_ix ix_tup (pv 3) (pv 9) (fun _ _ => rfl)) (pg_tup (by rfl) (pgs_cons (pg_name (i := 12) cTd.nd rfl (Or.inl rfl)) (pgs_cons (pg_name (i := 13) cTd.nd rfl (Or.inl rfl)) (pgs_cons (pg_name (i := 14) cTd.nd rfl (Or.inl rfl)) pgs_nil))))) (pss_one (ps_ret (pe_lst (pa_cons (pv 1) (pa_cons (pv 2) (pa_cons (pe_op op_catA (pe_op op_catA (pe_slice sl_tupA (pv 3) po_none (po_some (pv 9))) (pe_tup (pa_cons (pe_tup (pa_cons (pv 12) (pa_cons (pe_not (pv 13)) (pa_cons (pv 14) pa_nil)))) pa_nil))) (pe_slice sl_tupA (pv 3) (po_some (pe_op op_add (pv 9) pe_int)) po_none)) (pa_cons (pv 4) pa_nil)))))))) pss_nil) (C8.pss_cut (ps_if (pt_cmpR op_eq (pv 8) pe_int (nomark _)) (pss_cons (ps_set (i := 15) cTd.nd rfl (Or.inl rfl) (pe_lst (pa_cons (pe_tup (pa_cons (pe_op op_add (pv 6) pe_int) (pa_cons (pv 7) pa_nil))) (pa_cons (pe_tup (pa_cons (pe_op op_sub (pv 6) pe_int) (pa_cons (pv 7) pa_nil))) (pa_cons (pe_tup (pa_cons (pe_op op_mulW (pv 6) pe_int) (pa_cons (pe_callTy call_tuple_of (by rfl) N.tuple (by decide +kernel) (pa_cons (pe_lc (own := [("_law_by_here", 10)]) (g := gName 10) (tt := tYes) (by rfl) cTd.nd (pi_tup (pv 7)) (blkOk_by (own := [("_law_by_here", 10)]) (N := ["_law_well_here", "_law_never", "_law_goal", "_law_hints", "_law_showing", "_law_atoms_here", "_law_scale", "_law_times", "_law_pick", "_law_k", "_law_by_here", "_law_n", "_law_form_here", "_law_exact", "_law_origin_here", "_law_some", "_law_atom", "_law_terms", "_law_term"]) (sc := defScope lTd) (by decide +kernel)) (fun _ _ _ _ _ => (pg_name (i := 10) cTd.nd rfl (Or.inl rfl))) (fun _ _ _ _ _ => pts_nil) (fun _ _ _ _ _ => (pe_op op_mulW pe_int (pv 10)))) pa_nil)) pa_nil))) (pa_cons (pe_tup (pa_cons pe_int (pa_cons (pv 7) pa_nil))) pa_nil)))))) (pss_one (ps_ret (pe_lst (pa_cons (pv 1) (pa_cons (pv 2) (pa_cons (pv 3) (pa_cons (pe_ix ix_list (pv 15) (pe_call (GD.mono (by decide)) hr (by rfl) DD.g DD.k DD.b .nil pass0 (pa_cons (pv 0) (pa_cons pe_int pa_nil))) (fun _ _ => rfl)) pa_nil)))))))) pss_nil) (C8.pss_cut (ps_if (pt_cmpR op_eq (pv 8) pe_int (nomark _)) (pss_cons (ps_set (i := 15) cTd.nd rfl (Or.inl rfl) (pe_lst (pa_cons (pe_callTy call_list_of (by rfl) N.list (by decide +kernel) (pa_cons (pv 4) pa_nil)) (pa_cons (pe_tup (pa_cons (pv 6) (pa_cons (pe_callTy call_list_of (by rfl) N.list (by decide +kernel) (pa_cons (pv 7) pa_nil)) pa_nil))) (pa_cons (pe_tup (pa_cons (pv 6) (pa_cons (pe_op op_catA (pv 7) (pe_tup (pa_cons pe_int pa_nil))) pa_nil))) (pa_cons (pe_tup (pa_cons (pv 6) (pa_cons (pe_slice sl_tupA (pv 7) po_none (po_some (pe_un un_neg pe_int))) pa_nil))) (pa_cons (pe_tup (pa_cons (pv 7) (pa_cons (pv 6) pa_nil))) (pa_cons pe_non pa_nil)))))))) (pss_one (ps_ret (pe_lst (pa_cons (pv 1) (pa_cons (pv 2) (pa_cons (pv 3) (pa_cons (pe_ix ix_list (pe_op op_cat (pv 15) (pe_lst (pa_cons (pe_tup (pa_cons (pv 6) pa_nil)) (pa_cons (pe_tup (pa_cons (pv 6) (pa_cons (pv 7) (pa_cons pe_int pa_nil)))) (pa_cons (pe_tup (pa_cons pe_bl (pa_cons (pv 7) pa_nil))) (pa_cons pe_int (pa_cons (pe_tup pa_nil) pa_nil))))))) (pe_call (GD.mono (by decide)) hr (by rfl) DD.g DD.k DD.b .nil pass0 (pa_cons (pv 0) (pa_cons pe_int pa_nil))) (fun _ _ => rfl)) pa_nil)))))))) pss_nil) (C8.pss_cut (ps_if (pt_cmpR op_eq (pv 8) pe_int (nomark _)) (pss_cons (ps_set (i := 16) cTd.nd rfl (Or.inr rfl) (pe_ix ix_list (pv 5) (pe_call (GD.mono (by decide)) hr (by rfl) DD.g DD.k DD.b .nil pass0 (pa_cons (pv 0) (pa_cons (pe_callB call_len_seq (by rfl) N.len PySem.boot_len (pa_cons (pv 5) pa_nil)) pa_nil))) (fun _ _ => rfl))) (pss_cons (ps_setLc (i := 17) (own := [("_law_term", 18)]) (g := gName 18) (by rfl) cTd.nd rfl rfl (sw_true rfl rfl rfl (by decide +kernel)) (pi_tup (pe_ix ix_tup (pv 2) pe_int (fun _ _ => rfl))) (blkOk_by (own := [("_law_term", 18)]) (N := ["_law_well_here", "_law_never", "_law_goal", "_law_hints", "_law_showing", "_law_atoms_here", "_law_scale", "_law_times", "_law_pick", "_law_k", "_law_by_here", "_law_n", "_law_form_here", "_law_exact", "_law_origin_here", "_law_some", "_law_atom", "_law_terms", "_law_term"]) (sc := defScope lTd) (by decide +kernel)) (fun _ _ _ _ _ => (pg_name (i := 18) cTd.nd rfl (Or.inl rfl))) (fun _ _ _ _ _ => (pts_one (pt_cmpR (r := rNeD K) (op_neD hu64) (pe_ix (r := rIxT K) ix_tup (pv 18) pe_int (fun _ _ => rfl)) (pv 16) (nomark _)))) (fun _ _ _ _ _ => (pv 18))) (pss_cons (ps_set (i := 10) cTd.nd rfl (Or.inl rfl) (pe_call (GB.mono (by decide)) hr (by rfl) DB.g DB.k DB.b .nil pass0 (pa_cons (pv 0) pa_nil))) (C8.pss_cut (ps_if (pt_cmpR op_ne (pv 10) pe_int (nomark _)) (pss_one (ps_expr (pe_bm PySem.F.plainAttrs_list PySem.F.slot_list_append PySem.F.type_list_append mt_append (pv 17) (pa_cons (pe_tup (pa_cons (pv 16) (pa_cons (pv 10) pa_nil))) pa_nil)))) pss_nil) (pss_one (ps_ret (pe_lst (pa_cons (pv 1) (pa_cons (pe_tup (pa_cons (pe_ix ix_tup (pv 2) pe_int (fun _ _ => rfl)) (pa_cons (pe_callTy call_tuple_of (by rfl) N.tuple (by decide +kernel) (pa_cons (pe_callB (cr_sortedP3 hu64) (by rfl) G.sorted (by decide +kernel) (pa_cons (pv 17) pa_nil)) pa_nil)) pa_nil))) (pa_cons (pv 3) (pa_cons (pv 4) pa_nil))))))))))) pss_nil) (C8.pss_cut (ps_if (PW.pt (pw_and (pt_cmpR op_eq (pv 8) pe_int (nomark _)) (pw_and1 (pt_cmpR op_lt (pv 9) (pe_callB call_len_seq (by rfl) N.len PySem.boot_len (pa_cons (pv 7) pa_nil)) (nomark _))))) (pss_one (ps_ret (pe_lst (pa_cons (pv 1) (pa_cons (pv 2) (pa_cons (pv 3) (pa_cons (pe_tup (pa_cons (pv 6) (pa_cons (pe_op op_catA (pe_op op_catA (pe_slice sl_tupA (pv 7) po_none (po_some (pv 9))) (pe_tup (pa_cons (pe_ix ix_list (pe_lst (pa_cons pe_bl (pa_cons pe_non (pa_cons pe_str (pa_cons (pe_tup (pa_cons pe_int pa_nil)) pa_nil))))) (pe_call (GD.mono (by decide)) hr (by rfl) DD.g DD.k DD.b .nil pass0 (pa_cons (pv 0) (pa_cons pe_int pa_nil))) (fun _ _ => rfl)) pa_nil))) (pe_slice sl_tupA (pv 7) (po_some (pe_op op_add (pv 9) pe_int)) po_none)) pa_nil))) pa_nil))))))) pss_nil) (C8.pss_cut (ps_if (PW.pt (pw_and (pt_cmpR op_eq (pv 8) pe_int (nomark _)) (pw_and1 (pt_cmpR op_lt (pv 9) (pe_callB call_len_seq (by rfl) N.len PySem.boot_len (pa_cons (pv 7) pa_nil)) (nomark _))))) (pss_cons (ps_asg (pe_ix ix_tup (pv 3) (pv 9) (fun _ _ => rfl)) (pg_tup (by rfl) (pgs_cons (pg_name (i := 12) cTd.nd rfl (Or.inl rfl)) (pgs_cons (pg_name (i := 13) cTd.nd rfl (Or.inl rfl)) (pgs_cons (pg_name (i := 14) cTd.nd rfl (Or.inl rfl)) pgs_nil))))) (pss_one (ps_ret (pe_lst (pa_cons (pv 1) (pa_cons (pv 2) (pa_cons (pe_op op_catA (pe_op op_catA (pe_slice sl_tupA (pv 3) po_none (po_some (pv 9))) (pe_tup (pa_cons (pe_tup (pa_cons (pe_tup (pa_cons (pe_op op_add (pe_ix ix_tup (pv 12) pe_int (fun _ _ => rfl)) pe_int) (pa_cons (pe_ix ix_tup (pv 12) pe_int (fun _ _ => rfl)) pa_nil))) (pa_cons (pv 13) (pa_cons (pv 14) pa_nil)))) pa_nil))) (pe_slice sl_tupA (pv 3) (po_some (pe_op op_add (pv 9) pe_int)) po_none)) (pa_cons (pv 4) pa_nil)))))))) pss_nil) (pss_one (ps_ret (pe_lst (pa_cons (pv 1) (pa_cons (pv 2) (pa_cons (pv 3) (pa_cons (pe_tup (pa_cons (pv 6) (pa_cons (pe_callTy call_tuple_of (by rfl) N.tuple (by decide +kernel) (pa_cons (pe_lc (own := [("_law_by_here", 10)]) (g := gName 10) (tt := tYes) (by rfl) cTd.nd (pi_tup (pv 7)) (blkOk_by (own := [("_law_by_here", 10)]) (N := ["_law_well_here", "_law_never", "_law_goal", "_law_hints", "_law_showing", "_law_atoms_here", "_law_scale", "_law_times", "_law_pick", "_law_k", "_law_by_here", "_law_n", "_law_form_here", "_law_exact", "_law_origin_here", "_law_some", "_law_atom", "_law_terms", "_law_term"]) (sc := defScope lTd) (by decide +kernel)) (fun _ _ _ _ _ => (pg_name (i := 10) cTd.nd rfl (Or.inl rfl))) (fun _ _ _ _ _ => pts_nil) (fun _ _ _ _ _ => pe_int)) pa_nil)) pa_nil))) pa_nil))))))))))))))))))), ?_⟩
    obtain ⟨wy, hwy⟩ := W.pl
    obtain ⟨bG, tG, xsG, rfl, hG, hGt, eGt⟩ := fm_at (B := fun _ => False) eg
    have egF := fm_any (B := fun _ => False) eg
    obtain ⟨bH, xsH, rfl, hH, eHs⟩ : ∃ b ys, xh = .ref b ∧ H b = some (.tup ys) ∧ EncsB (fun _ => False) H (hs.map htD) ys := by
      have q := hs_any (B := fun _ => False) eh
      cases q with
      | tup h e => exact ⟨_, _, rfl, h, e⟩
    have ehF := hs_any (B := fun _ => False) eh
    have lH := eHs.length
    rw [List.length_map] at lH
    obtain ⟨xsb, tM, rfl, hSb, hM⟩ := sh_at es
    have lms100 : ms.length ≤ 100 := by rw [lms]; exact gi.l
    have smM : ∀ m ∈ ms, Sm m := fun m hm => sm_of (by obtain ⟨q1, q2⟩ := big m hm; omega)
    have smS : Sm s := sm_of (by omega)
    have lM : (ms.map V.int).length = ms.length := List.length_map _
    have fin : ∀ (H2 : Hp) (x : V) (d : Da), Wl H2 p l ns (n + 100) → GrowW p H H2 → EncB (fun a => a ≠ p) H2 d x → SmD d → Shp 3 d → ∀ r, H2 r = none → Q (.ref r) (L2.upd H2 r (.lst [.ref N0, .ref bG, .ref bH, x])) := fun H2 x d W2 g2 ed sd pd r hr => by
      have gr := Grow.new hr (o := .lst [.ref N0, .ref bG, .ref bH, x])
      exact k r N0 _ (.ref bG) (.ref bH) x nv goal hs d upd_same (gr.tup (g2.tup hwy hN0)) ((egF.growW g2 (fun z => z) (noTup hwy)).any.grow gr) ((ehF.growW g2 (fun z => z) (noTup hwy)).any.grow gr) (ed.grow gr) gi rfl ⟨Nat.le_trans md.1 (Nat.le_add_right _ _), fun h hh => Nat.le_trans (md.2 h hh) (Nat.le_add_right _ _)⟩ sd pd (W2.grow gr) (g2.trans' gr.w)
    refine ⟨_, rfl, xsb, _, rfl, SqT.of hSb, rfl, _, _, rfl, _, _, rfl, rfl, ?_⟩
    refine ⟨_, rfl, p, l, ns, n, 12, rfl, by decide, cdw (by decide) (by decide), W, by omega, npl, fun pick H1 p0 p1 W1 g1 => ?_⟩
    refine ⟨_, rfl, _, rfl, tM, _, rfl, .inr (SqT.of (g1.tup hwy hM)), _, _, rfl, rfl, p, l, ns, n + 1, _, rfl, ?_, cdw ?_ ?_, W1, by omega, npl, fun kk H2 k0 k1 W2 g2 => ?_⟩
    · rw [lM]; omega
    · rw [lM]; omega
    · rw [lM]; exact Nat.lt_of_le_of_lt (show _ ≤ 101 by omega) (by decide)
    rw [lM] at k1
    obtain ⟨w2, hw2⟩ := W2.pl
    have g12 := g1.trans' g2
    have hM2 := g12.tup hwy hM
    have el : ((ms.map V.int).length : Int) = ms.length := by rw [lM]
    obtain ⟨j, hj⟩ : ∃ j : Nat, kk = (j : Int) := ⟨kk.toNat, by omega⟩
    subst hj
    have W2 := W2.more (m := n + 10) (by omega)
    -- a multiplier more or less
    refine ⟨fun σ' H' => σ' = [some (.ref p), some (.ref N0), some (.ref bG), some (.ref bH), some (.ref xsb), some (.ref A0), some (.int s), some (.ref tM), some (.int pick), some (.int j), none, none, none, none, none, none, none, none, none] ∧ H' = H2, ?_, mid_of ?_⟩
    · refine ⟨_, rfl, _, _, rfl, rfl, _, rfl, ?_⟩
      by_cases c : pick < 3
      · refine ifT c ⟨_, rfl, _, rfl, tM, _, rfl, .inr (SqT.of hM2), _, _, rfl, rfl, _, rfl, ?_⟩
        by_cases c2 : (j : Int) < ((ms.map V.int).length : Int)
        · refine ifT c2 ?_
          have hj : j < ms.length := by omega
          obtain ⟨m, hm⟩ : ∃ m, ms[j]? = some m := ⟨ms[j], List.getElem?_eq_getElem hj⟩
          have hmv : (ms.map V.int)[j]? = some (V.int m) := by rw [List.getElem?_map, hm]; rfl
          obtain ⟨b1, b2⟩ := big m (List.mem_of_getElem? hm)
          refine ⟨_, rfl, _, rfl, tM, _, _, _, rfl, rfl, SqT.of hM2, at_of (j := j) rfl hmv, _, rfl, _, rfl, _, rfl, _, rfl, tM, _, _, _, rfl, rfl, SqT.of hM2, at_of (j := j) rfl hmv, _, _, rfl, rfl, mwA (by omega) (by omega), three34, fun q hq => ?_⟩
          have G3 := Grow.new hq (o := .lst [.int 1, .int (-1), .int (-2 * m)])
          refine ⟨_, rfl, q, _, _, _, rfl, rfl, SqL.of upd_same, at3 p0 c, _, _, rfl, rfl, ?_⟩
          dsimp only
          generalize hv : m + sel3 1 (-1) (-2 * m) pick = v
          have bv : Sm v := by
            refine sm_of ?_
            rw [← hv]
            unfold sel3
            split
            · omega
            · split <;> omega
          have hM3 := G3.tup hM2
          have W3 := W2.grow G3
          have g3 := g12.trans' G3.w
          generalize L2.upd H2 q (.lst [.int 1, .int (-1), .int (-2 * m)]) = H3 at hM3 W3 g3 ⊢
          refine ⟨_, rfl, _, rfl, _, rfl, _, rfl, _, rfl, _, rfl, _, rfl, ?_⟩
          dsimp only [tNoPart]
          refine rd_take hM3 (by omega) fun b Hb gb hb => ⟨_, rfl, one34, fun t ht => ?_⟩
          have gt := Grow.new ht (o := .tup [.int v])
          refine rd_add (gt.tup hb) upd_same (by rw [List.length_take]; show _ + 1 ≤ _; omega) fun c1 Hc gc hc => ⟨_, rfl, _, rfl, _, _, rfl, rfl, _, rfl, ?_⟩
          have gM := (gb.trans gt).trans gc
          dsimp only [tNoPart]
          refine rd_drop (gM.tup hM3) (k := j + 1) rfl (by omega) fun d1 Hd gd hd => ?_
          refine rd_add (gd.tup hc) hd (by rw [List.length_append, List.length_take, List.length_drop]; show _ + 1 + _ ≤ _; omega) fun e1 He ge he => ⟨two34, fun t2 ht2 => ⟨four34, fun r hr => ?_⟩⟩
          have gT := ((gM.trans gd).trans ge).trans (Grow.new ht2 (o := .tup [.int s, .ref e1]))
          refine fin _ _ (.tup [.int s, .tup (putAt (ms.map .int) j (.int v))]) ((W3.grow gT).more (by omega)) (g3.trans' gT.w) (.tup upd_same (.cons (.int s) (.cons (.tup ((Grow.new ht2).tup he) (encs_put (encs_ints ms) (.int v))) .nil))) ?_ ?_ r hr
          · exact smd_pair smS fun e he => (putAt_mem he).elim (fun z => by rw [z]; exact bv) (sm_ints smM e)
          · exact .tup (allc .int (all1 (.tup fun d hd => (putAt_mem hd).elim (fun z => by rw [z]; exact .int) (shp_int d))))
        · exact ifF c2 ⟨rfl, rfl⟩
      · exact ifF c ⟨rfl, rfl⟩
    have two : ∀ H' : Hp, GrowW p H H' → EncB (fun a => a ≠ p) H' (.tup [.int s, .tup (ms.map .int)]) (.ref xsb) := fun H' g => sh_enc (g.tup hwy hSb) (g.tup hwy hM)
    have smd0 : SmD (.tup [.int s, .tup (ms.map .int)]) := smd_pair smS (sm_ints smM)
    have shp0 : Shp 3 (.tup [.int s, .tup (ms.map .int)]) := .tup (allc .int (all1 (.tup shp_int)))
    -- the goal's const less
    refine ⟨fun σ' H' => σ' = [some (.ref p), some (.ref N0), some (.ref bG), some (.ref bH), some (.ref xsb), some (.ref A0), some (.int s), some (.ref tM), some (.int pick), some (.int j), none, none, none, none, none, none, none, none, none] ∧ H' = H2, ?_, mid_of ?_⟩
    · refine ⟨_, rfl, rfl, _, rfl, ite2 (fun _ => ?_) (fun _ => ⟨rfl, rfl⟩)⟩
      refine ⟨_, rfl, _, rfl, bG, _, _, _, rfl, rfl, SqT.of (g12.tup hwy hG), at_of (j := 0) rfl rfl, _, _, rfl, rfl, _, rfl, p, l, ns, _, 2, rfl, by decide, cdw (by decide) (by decide), W2, by omega, npl, fun r3 H3 r30 r31 W3 g3 => ?_⟩
      refine ⟨_, rfl, p, l, ns, _, rfl, W3, by omega, npl, fun v H4 sv W4 g4 => ⟨_, rfl, _, _, rfl, rfl, ?_, _, _, rfl, rfl, ?_⟩⟩
      · obtain ⟨q1, q2⟩ := sv
        exact mwA (by omega) (by split <;> omega)
      have g14 := g12.trans' (g3.trans' g4)
      refine ⟨_, rfl, bG, _, _, _, rfl, rfl, SqT.of (g14.tup hwy hG), at_of (j := 1) rfl rfl, two34, fun t ht => ⟨_, rfl, _, rfl, four34, fun r hr => ?_⟩⟩
      dsimp only at hr ⊢
      have hc : (goal.1 - 1 - r3 * (if v < 0 then -v else v)).natAbs ≤ goal.1.natAbs + 100000000000000000000000000000000000 := by
        obtain ⟨q1, q2⟩ := sv
        have h2 : r3 = 0 ∨ r3 = 1 := by omega
        rcases h2 with y | y <;> rw [y] <;> split <;> omega
      generalize goal.1 - 1 - r3 * (if v < 0 then -v else v) = c at hc hr ⊢
      have gN := (Grow.new ht (o := .tup [.int c, .ref tG])).trans (Grow.new hr (o := .lst [.ref N0, .ref t, .ref bH, .ref xsb]))
      have gT := g14.trans' gN.w
      have hm1 := md.1
      refine k r N0 _ (.ref t) (.ref bH) (.ref xsb) nv (c, goal.2) hs (.tup [.int s, .tup (ms.map .int)]) upd_same (gT.tup hwy hN0) ?_ (ehF.growW gT (fun z => z) (noTup hwy)).any (two _ gT) ⟨gi.u, gi.n, ⟨gi.g.asc, gi.g.inU, gi.g.nz, sm_of2 (by omega), gi.g.sm.2⟩, gi.h, gi.l⟩ rfl
        ⟨by show c.natAbs ≤ _; omega, fun h hh => Nat.le_trans (md.2 h hh) (Nat.le_add_right _ _)⟩ smd0 shp0 ((W4.grow gN).more (by omega)) gT
      have ntr : t ≠ r := fun z => by rw [← z, upd_same] at hr; cases hr
      exact .tup (by rw [upd_ne ntr]; exact upd_same) (.cons (.int c) (.cons (.tup (gT.tup hwy hGt) (eGt.growW gT (fun z => z) (noTup hwy)).any) .nil))
    -- never with less numbers
    refine ⟨fun σ' H' => σ' = [some (.ref p), some (.ref N0), some (.ref bG), some (.ref bH), some (.ref xsb), some (.ref A0), some (.int s), some (.ref tM), some (.int pick), some (.int j), none, none, none, none, none, none, none, none, none] ∧ H' = H2, ?_, mid_of ?_⟩
    · refine ⟨_, rfl, rfl, _, rfl, ite2 (fun _ => ?_) (fun _ => ⟨rfl, rfl⟩)⟩
      have hN2 := g12.tup hwy hN0
      refine ⟨_, rfl, N0, rfl, ⟨_, SqT.of hN2⟩, fun D hD => ?_⟩
      obtain ⟨nDp, nDl⟩ := W2.np hD
      have l12 := gi.n.len
      refine lc_tup (xs := nv.map V.int) (fun i Hx => ∃ l' : List Int, Hx D = some (.lst (l'.map V.int)) ∧ l'.Sublist (nv.take i) ∧ Wl Hx p l ns (n + 10 + i) ∧ GrowW p H2 Hx)
        ⟨[], upd_same, List.nil_sublist _, W2.grow (Grow.new hD), GrowW.new hD⟩ (fun i Hx _ hx => by
          obtain ⟨_, _, _, _, gx⟩ := hx
          exact SqT.of (gx.tup hw2 hN2)) (fun i z Hx hz hx => ?_) (fun Hx hx => ?_)
      · obtain ⟨l', hDx, sub, Wx, gx⟩ := hx
        rw [List.getElem?_map] at hz
        cases ht1 : nv[i]? with
        | none => rw [ht1] at hz; cases hz
        | some c =>
        rw [ht1] at hz
        cases hz
        have il := (List.getElem?_eq_some_iff.mp ht1).1
        have etk : nv.take (i + 1) = nv.take i ++ [c] := by rw [List.take_succ, ht1]; rfl
        refine ⟨wipe_set, ?_⟩
        refine ⟨_, rfl, p, l, ns, _, 4, rfl, by decide, cdw (by decide) (by decide), Wx, by omega, npl, fun r Hr _ _ Wr gr => ⟨_, _, rfl, rfl, _, rfl, ?_⟩⟩
        have hDr := gr.lst nDp hDx
        have sl := sub.length_le
        rw [List.length_take] at sl
        by_cases c2 : 0 < r
        · refine ifT c2 ⟨_, rfl, _, hDr, by rw [List.length_map, sizeLine_eq]; omega, l' ++ [c], by rw [upd_same, List.map_append]; rfl, by rw [etk]; exact List.Sublist.append sub (List.Sublist.refl _), (Wr.upd nDp nDl).more (by omega), (gx.trans' gr).but hD⟩
        · exact ifF c2 ⟨l', hDr, by rw [etk]; exact sub.trans (List.sublist_append_left _ _), Wr.more (by omega), gx.trans' gr⟩
      · obtain ⟨l', hDx, sub, Wx, gx⟩ := hx
        rw [List.length_map] at sub Wx
        rw [List.take_length] at sub
        refine ⟨D, _, rfl, .inl ⟨SqL.of hDx, fun t ht => ⟨_, rfl, _, rfl, _, rfl, four34, fun r hr => ?_⟩⟩⟩
        have gN := (Grow.new ht (o := .tup (l'.map V.int))).trans (Grow.new hr (o := .lst [.ref t, .ref bG, .ref bH, .ref xsb]))
        have gT := (g12.trans' gx).trans' gN.w
        have ntr : t ≠ r := fun z => by rw [← z, upd_same] at hr; cases hr
        exact k r t _ (.ref bG) (.ref bH) (.ref xsb) l' goal hs (.tup [.int s, .tup (ms.map .int)]) upd_same (by rw [upd_ne ntr]; exact upd_same) (egF.growW gT (fun z => z) (noTup hwy)).any (ehF.growW gT (fun z => z) (noTup hwy)).any (two _ gT)
          ⟨gi.u, ⟨Nat.le_trans sub.length_le l12, fun m hm => gi.n.ok m (sub.subset hm), gi.n.asc.sublist sub⟩, gi.g, gi.h, gi.l⟩ rfl ⟨Nat.le_trans md.1 (Nat.le_add_right _ _), fun h hh => Nat.le_trans (md.2 h hh) (Nat.le_add_right _ _)⟩ smd0 shp0 ((Wx.grow gN).more (by omega)) gT
    -- a hint's exactness turned
    refine ⟨fun σ' H' => σ' = [some (.ref p), some (.ref N0), some (.ref bG), some (.ref bH), some (.ref xsb), some (.ref A0), some (.int s), some (.ref tM), some (.int pick), some (.int j), none, none, none, none, none, none, none, none, none] ∧ H' = H2, ?_, mid_of ?_⟩
    · refine ⟨_, rfl, rfl, _, rfl, ?_⟩
      by_cases c : V.int pick = V.int 5
      · refine ifT c ⟨_, rfl, _, rfl, tM, _, rfl, .inr (SqT.of hM2), _, _, rfl, rfl, _, rfl, ?_⟩
        by_cases c2 : (j : Int) < ((ms.map V.int).length : Int)
        · refine ifT c2 ?_
          have hj : j < xsH.length := by omega
          have hjh : j < hs.length := by omega
          have hH2 := g12.tup hwy hH
          have eHs2 := eHs.growW g12 (fun z => z) (noTup hwy)
          obtain ⟨x, hx⟩ : ∃ x, xsH[j]? = some x := ⟨xsH[j], List.getElem?_eq_getElem hj⟩
          obtain ⟨dh, hdh, ex⟩ := eHs2.get hx
          obtain ⟨h0, hh0, rfl⟩ := map_get hdh
          obtain ⟨b, x0, x2, rfl, hb, e0, e2⟩ := ht_at ex
          have hm0 := List.mem_of_getElem? hh0
          refine ⟨_, rfl, _, rfl, bH, _, _, _, rfl, rfl, SqT.of hH2, at_of (j := j) rfl hx, b, _, rfl, SqT.of hb, rfl, _, _, rfl, _, _, rfl, _, _, rfl, rfl, ?_⟩
          refine ⟨_, rfl, _, rfl, _, rfl, _, rfl, _, rfl, ?_⟩
          dsimp only [tNoPart]
          refine rd_take hH2 (by omega) fun b1 Hb gb hb1 => ⟨_, rfl, _, rfl, _, rfl, _, rfl, three34, fun t ht => ⟨one34, fun u hu => ?_⟩⟩
          have gt := (Grow.new ht (o := .tup [x0, .bl (!h0.ex), x2])).trans (Grow.new hu (o := .tup [.ref t]))
          refine rd_add (gt.tup hb1) upd_same (by rw [List.length_take]; show _ + 1 ≤ _; omega) fun c1 Hc gc hc => ⟨_, rfl, _, rfl, _, _, rfl, rfl, _, rfl, ?_⟩
          have gM := (gb.trans gt).trans gc
          dsimp only [tNoPart]
          refine rd_drop (gM.tup hH2) (k := j + 1) rfl (by omega) fun d1 Hd gd hd => ?_
          refine rd_add (gd.tup hc) hd (by rw [List.length_append, List.length_take, List.length_drop]; show _ + 1 + _ ≤ _; omega) fun e1 He ge he => ⟨_, rfl, four34, fun r hr => ?_⟩
          have gr := Grow.new hr (o := .lst [.ref N0, .ref bG, .ref e1, .ref xsb])
          have gE := (gM.trans gd).trans ge
          have gN := gE.trans gr
          have gT := g12.trans' gN.w
          have ht3 := (((gc.trans gd).trans ge).trans gr).tup ((Grow.new hu (o := .tup [.ref t])).tup (upd_same (H := Hb) (a := t) (o := .tup [x0, .bl (!h0.ex), x2])))
          have e0' := (e0.grow gN)
          have e2' := (e2.grow gN)
          have g0 := gi.h h0 hm0
          refine k r N0 _ (.ref bG) (.ref e1) (.ref xsb) nv goal (putAt hs j ⟨h0.f, !h0.ex, h0.og⟩) (.tup [.int s, .tup (ms.map .int)]) upd_same (gT.tup hwy hN0) (egF.growW gT (fun z => z) (noTup hwy)).any ?_ (two _ gT) ⟨gi.u, gi.n, gi.g, fun h hh => ?_, by rw [putAt_len hjh]; exact gi.l⟩ (putAt_len hjh) ⟨Nat.le_trans md.1 (Nat.le_add_right _ _), fun h hh => ?_⟩ smd0 shp0 ((W2.grow gN).more (by omega)) gT
          · rw [putAt_map]
            exact .tup (gr.tup he) (encs_put (eHs2.grow gN).any (.tup ht3 (.cons e0'.any (.cons (.bl _) (.cons e2'.any .nil)))))
          · rcases putAt_mem hh with z | z
            · rw [z]; exact ⟨g0.f, g0.og⟩
            · exact gi.h h z
          · rcases putAt_mem hh with z | z
            · rw [z]; exact Nat.le_trans (md.2 h0 hm0) (Nat.le_add_right _ _)
            · exact Nat.le_trans (md.2 h z) (Nat.le_add_right _ _)
        · exact ifF c2 ⟨rfl, rfl⟩
      · exact ifF c ⟨rfl, rfl⟩
    -- other scales
    refine ⟨fun σ' H' => σ' = [some (.ref p), some (.ref N0), some (.ref bG), some (.ref bH), some (.ref xsb), some (.ref A0), some (.int s), some (.ref tM), some (.int pick), some (.int j), none, none, none, none, none, none, none, none, none] ∧ H' = H2, ?_, mid_of ?_⟩
    · refine ⟨_, rfl, rfl, _, rfl, ite2 (fun _ => ?_) (fun _ => ⟨rfl, rfl⟩)⟩
      refine ⟨_, rfl, _, _, rfl, rfl, _, rfl, two34, fun q1 h1 => ⟨_, rfl, _, _, rfl, rfl, _, rfl, two34, fun q2 h2 => ⟨_, rfl, _, _, rfl, rfl, mwA (by omega) (by decide), _, rfl, tM, rfl, ?_⟩⟩⟩
      have g1' := (Grow.new h1 (o := .tup [.int (s + 1), .ref tM])).trans (Grow.new h2 (o := .tup [.int (s - 1), .ref tM]))
      have hq1 := (Grow.new h2 (o := .tup [.int (s - 1), .ref tM])).tup (upd_same (H := H2) (a := q1) (o := .tup [.int (s + 1), .ref tM]))
      have hq2 := upd_same (H := L2.upd H2 q1 (.tup [.int (s + 1), .ref tM])) (a := q2) (o := .tup [.int (s - 1), .ref tM])
      dsimp only
      generalize L2.upd (L2.upd H2 q1 (.tup [.int (s + 1), .ref tM])) q2 (.tup [.int (s - 1), .ref tM]) = H3 at g1' hq1 hq2 ⊢
      have hM3 := g1'.tup hM2
      refine ⟨⟨_, SqT.of hM3⟩, fun D hD => ?_⟩
      refine lc_tup (xs := ms.map V.int) (fun i Hx => Hx D = some (.lst ((ms.take i).map fun b => V.int (2 * b))) ∧ Grow H3 Hx) ⟨upd_same, Grow.new hD⟩ (fun i Hx _ hz => SqT.of (hz.2.tup hM3)) (fun i z Hx hz hy => ?_) (fun Hx hy => ?_)
      · obtain ⟨hDx, gx⟩ := hy
        rw [List.getElem?_map] at hz
        cases ht1 : ms[i]? with
        | none => rw [ht1] at hz; cases hz
        | some c =>
        rw [ht1] at hz
        cases hz
        obtain ⟨b1, b2⟩ := big c (List.mem_of_getElem? ht1)
        refine ⟨wipe_set, ?_⟩
        unfold tYes
        refine iteT ⟨_, rfl, _, _, rfl, rfl, mwA (by decide) (by omega), _, hDx, by rw [List.length_map, List.length_take, sizeLine_eq]; omega, ?_, gx.upd' hD⟩
        rw [upd_same, List.take_succ, ht1, List.map_append]
        rfl
      · obtain ⟨hDx, gx⟩ := hy
        rw [List.length_map, List.take_length] at hDx
        refine ⟨D, _, rfl, .inl ⟨SqL.of hDx, fun t ht => ⟨two34, fun q3 h3 => ⟨_, rfl, two34, fun q4 h4 => ⟨four34, fun ql hql => ?_⟩⟩⟩⟩⟩
        have k1 := Grow.new ht (o := .tup (ms.map fun b => V.int (2 * b)))
        have k2 := Grow.new h3 (o := .tup [.int (s * 2), .ref t])
        have k3 := Grow.new h4 (o := .tup [.int 0, .ref tM])
        have k4 := Grow.new hql (o := .lst [.ref q1, .ref q2, .ref q3, .ref q4])
        have K14 := ((k1.trans k2).trans k3).trans k4
        have em : (ms.map fun b => V.int (2 * b)) = (ms.map fun b => 2 * b).map V.int := by rw [List.map_map]; rfl
        have eAll : EncsB (fun a => a ≠ p) _ [.tup [.int (s + 1), .tup (ms.map .int)], .tup [.int (s - 1), .tup (ms.map .int)], .tup [.int (s * 2), .tup ((ms.map fun b => 2 * b).map .int)], .tup [.int 0, .tup (ms.map .int)]] [.ref q1, .ref q2, .ref q3, .ref q4] :=
          .cons (sh_enc ((gx.trans K14).tup hq1) ((gx.trans K14).tup hM3)) (.cons (sh_enc ((gx.trans K14).tup hq2) ((gx.trans K14).tup hM3)) (.cons (sh_enc (k4.tup (k3.tup upd_same)) (k4.tup (k3.tup (k2.tup (by rw [← em]; exact upd_same))))) (.cons (sh_enc (k4.tup upd_same) ((gx.trans K14).tup hM3)) .nil)))
        have hqlL : L2.upd (L2.upd (L2.upd (L2.upd Hx t (.tup (ms.map fun b => V.int (2 * b)))) q3 (.tup [.int (s * 2), .ref t])) q4 (.tup [.int 0, .ref tM])) ql (.lst [.ref q1, .ref q2, .ref q3, .ref q4]) ql = some (.lst [.ref q1, .ref q2, .ref q3, .ref q4]) := upd_same
        have gA := (g1'.trans gx).trans K14
        have nql : ql ≠ p := fun z => by
          have q := (((g1'.trans gx).trans k1).trans (k2.trans k3)).lst hw2
          rw [← z, hql] at q
          cases q
        generalize L2.upd (L2.upd (L2.upd (L2.upd Hx t (.tup (ms.map fun b => V.int (2 * b)))) q3 (.tup [.int (s * 2), .ref t])) q4 (.tup [.int 0, .ref tM])) ql (.lst [.ref q1, .ref q2, .ref q3, .ref q4]) = H5 at eAll hqlL gA ⊢
        refine ⟨_, rfl, _, rfl, _, rfl, _, rfl, _, rfl, p, l, ns, _, 4, rfl, by decide, cdw (by decide) (by decide), W2.grow gA, by omega, npl, fun r6 H6 r60 r61 W6 g6 => ?_⟩
        obtain ⟨x, hx, hx2⟩ := at_any (xs := [.ref q1, .ref q2, .ref q3, .ref q4]) r60 r61
        refine ⟨ql, _, _, _, rfl, rfl, SqL.of (g6.lst nql hqlL), hx, four34, fun r hr => ?_⟩
        obtain ⟨d, hd, ed⟩ := eAll.get hx2
        have smdA : ∀ d ∈ ([.tup [.int (s + 1), .tup (ms.map .int)], .tup [.int (s - 1), .tup (ms.map .int)], .tup [.int (s * 2), .tup ((ms.map fun b => 2 * b).map .int)], .tup [.int 0, .tup (ms.map .int)]] : List Da), SmD d ∧ Shp 3 d := by
          have sp : ∀ (a : Int) (ys : List Int), Shp 3 (.tup [.int a, .tup (ys.map .int)]) := fun a ys => .tup (allc .int (all1 (.tup shp_int)))
          refine allc ⟨smd_pair (sm_of (by show (s + 1).natAbs ≤ _; omega)) (sm_ints smM), sp _ _⟩ (allc ⟨smd_pair (sm_of (by show (s - 1).natAbs ≤ _; omega)) (sm_ints smM), sp _ _⟩ (allc ⟨smd_pair (sm_of (by show (s * 2).natAbs ≤ _; omega)) (sm_ints fun m hm => ?_), sp _ _⟩ (all1 ⟨smd_pair sm00 (sm_ints smM), sp _ _⟩)))
          obtain ⟨b, hb, rfl⟩ := List.mem_map.mp hm
          obtain ⟨b1, b2⟩ := big b hb
          exact sm_of (by omega)
        obtain ⟨sd, sp⟩ := smdA d (List.mem_of_getElem? hd)
        obtain ⟨w5, hw5⟩ : ∃ w5, H5 p = some (.lst w5) := ⟨_, gA.lst hw2⟩
        exact fin H6 x d (W6.more (by omega)) (g12.trans' (gA.w.trans' g6)) (ed.growW g6 (fun z => z rfl) (noTup hw5)) sd sp r hr
    have hSb2 := g12.tup hwy hSb
    have smdL : ∀ d ∈ ([.lst [.int s, .tup (ms.map .int)], .tup [.int s, .lst (ms.map .int)], .tup [.int s, .tup ((ms ++ [0]).map .int)], .tup [.int s, .tup ((ms.take (ms.length - 1)).map .int)], .tup [.tup (ms.map .int), .int s], .non, .tup [.int s], .tup [.int s, .tup (ms.map .int), .int 0], .tup [.bl true, .tup (ms.map .int)], .int 7, .tup []] : List Da), SmD d ∧ Shp 3 d := by
      have n0 : ∀ e ∈ ([] : List Da), Sm (nOf e) := alln
      refine allc ⟨smd_of sm00 n0, .lst (allc .int (all1 (.tup shp_int)))⟩ (allc ⟨smd_of smS n0, .tup (allc .int (all1 (.lst shp_int)))⟩ (allc ⟨smd_pair smS (sm_ints fun m hm => ?_), .tup (allc .int (all1 (.tup shp_int)))⟩ (allc ⟨smd_pair smS (sm_ints fun m hm => smM m (List.mem_of_mem_take hm)), .tup (allc .int (all1 (.tup shp_int)))⟩
        (allc ⟨smd_of sm00 n0, .tup (allc (.tup shp_int) (all1 .int))⟩ (allc ⟨smd_of sm00 n0, .non⟩ (allc ⟨smd_of smS n0, .tup (all1 .int)⟩ (allc ⟨smd_pair smS (sm_ints smM), .tup (allc .int (allc (.tup shp_int) (all1 .int)))⟩ (allc ⟨smd_pair sm00 (sm_ints smM), .tup (allc .bl (all1 (.tup shp_int)))⟩ (allc ⟨smd_of sm00 n0, .int⟩ (all1 ⟨smd_of sm00 n0, .tup alln⟩))))))))))
      rcases List.mem_append.mp hm with z | z
      · exact smM m z
      · rw [List.mem_singleton.mp z]; exact sm00
    -- things that are no showings
    refine ⟨fun σ' H' => σ' = [some (.ref p), some (.ref N0), some (.ref bG), some (.ref bH), some (.ref xsb), some (.ref A0), some (.int s), some (.ref tM), some (.int pick), some (.int j), none, none, none, none, none, none, none, none, none] ∧ H' = H2, ?_, mid_of ?_⟩
    · refine ⟨_, rfl, rfl, _, rfl, ite2 (fun _ => ?_) (fun _ => ⟨rfl, rfl⟩)⟩
      refine ⟨_, rfl, xsb, _, rfl, .inr (SqT.of hSb2), fun q1 h1 => ?_⟩
      have k1 := Grow.new h1 (o := .lst [.int s, .ref tM])
      refine ⟨_, rfl, _, rfl, tM, _, rfl, .inr (SqT.of (k1.tup hM2)), fun q2 h2 => ⟨two34, fun q3 h3 => ⟨_, rfl, _, rfl, one34, fun q4 h4 => ?_⟩⟩⟩
      have k2 := Grow.new h2 (o := .lst (ms.map V.int))
      have k3 := Grow.new h3 (o := .tup [.int s, .ref q2])
      have k4 := Grow.new h4 (o := .tup [.int 0])
      have k14 := ((k1.trans k2).trans k3).trans k4
      refine rd_add (k14.tup hM2) upd_same (by rw [lM]; show _ + 1 ≤ _; omega) fun q5 H5 k5 h5 => ⟨two34, fun q6 h6 => ⟨_, rfl, _, rfl, _, rfl, _, rfl, ?_⟩⟩
      have k6 := Grow.new h6 (o := .tup [.int s, .ref q5])
      dsimp only [tNoPart]
      refine rd_init (((k14.trans k5).trans k6).tup hM2) fun q7 H7 k7 h7 => ⟨two34, fun q8 h8 => ⟨_, rfl, _, rfl, two34, fun q9 h9 => ⟨six34, fun ql hql => ?_⟩⟩⟩
      have k8 := Grow.new h8 (o := .tup [.int s, .ref q7])
      have k9 := Grow.new h9 (o := .tup [.ref tM, .int s])
      have kl := Grow.new hql (o := .lst [.ref q1, .ref q3, .ref q6, .ref q8, .ref q9, .non])
      refine ⟨_, rfl, _, rfl, _, rfl, _, rfl, _, rfl, one34, fun u1 v1 => ⟨_, rfl, _, rfl, three34, fun u2 v2 => ⟨_, rfl, two34, fun u3 v3 => ⟨nil34, fun u4 v4 => ⟨five34, fun um hum => ?_⟩⟩⟩⟩⟩
      have l1 := Grow.new v1 (o := .tup [.int s])
      have l2 := Grow.new v2 (o := .tup [.int s, .ref tM, .int 0])
      have l3 := Grow.new v3 (o := .tup [.bl true, .ref tM])
      have l4 := Grow.new v4 (o := .tup [])
      have l5 := Grow.new hum (o := .lst [.ref u1, .ref u2, .ref u3, .int 7, .ref u4])
      have L15 := (((l1.trans l2).trans l3).trans l4).trans l5
      refine ⟨ql, um, _, _, rfl, rfl, L15.lst upd_same, upd_same, (by show 6 + 5 ≤ sizeLine; decide), fun uc huc => ?_⟩
      obtain ⟨l6, yc⟩ := newAt huc (o := .lst ([.ref q1, .ref q3, .ref q6, .ref q8, .ref q9, .non] ++ [.ref u1, .ref u2, .ref u3, .int 7, .ref u4]))
      have K9 := (kl.trans L15).trans l6
      have K8 := k9.trans K9
      have K7 := k8.trans K8
      have K6 := (k7.trans K7)
      have K5 := k6.trans K6
      have K4 := k5.trans K5
      have K3 := k4.trans K4
      have K2 := k3.trans K3
      have K1 := k2.trans K2
      have K0 := k1.trans K1
      have hMc := K0.tup hM2
      have x1 := K1.lst (upd_same (H := H2) (a := q1) (o := .lst [.int s, .ref tM]))
      have np1 := (W2.np h1).1
      have np2 := ((W2.grow k1).np h2).1
      have x2 := K2.lst (upd_same (a := q2) (o := .lst (ms.map V.int)) (H := L2.upd H2 q1 (.lst [.int s, .ref tM])))
      have x3 := K3.tup (upd_same (a := q3) (o := .tup [.int s, .ref q2]) (H := L2.upd (L2.upd H2 q1 (.lst [.int s, .ref tM])) q2 (.lst (ms.map V.int))))
      have x5 := K5.tup h5
      have x6 := K6.tup (upd_same (a := q6) (o := .tup [.int s, .ref q5]) (H := H5))
      have x7 := K7.tup h7
      have x8 := K8.tup (upd_same (a := q8) (o := .tup [.int s, .ref q7]) (H := H7))
      have x9 := K9.tup (upd_same (a := q9) (o := .tup [.ref tM, .int s]))
      have y1 := ((((l2.trans l3).trans l4).trans l5).trans l6).tup (upd_same (a := u1) (o := .tup [.int s]))
      have y2 := (((l3.trans l4).trans l5).trans l6).tup (upd_same (a := u2) (o := .tup [.int s, .ref tM, .int 0]))
      have y3 := ((l4.trans l5).trans l6).tup (upd_same (a := u3) (o := .tup [.bl true, .ref tM]))
      have y4 := (l5.trans l6).tup (upd_same (a := u4) (o := .tup []))
      have npc : uc ≠ p := fun z => by
        have q := ((((((((((k1.trans k2).trans k3).trans k4).trans k5).trans k6).trans k7).trans k8).trans k9).trans kl).trans L15).lst hw2
        rw [← z, huc] at q
        cases q
      rw [show (ms.map V.int ++ [V.int 0]) = (ms ++ [0]).map V.int by rw [List.map_append]; rfl] at x5
      rw [show (ms.map V.int).take ((ms.map V.int).length - 1) = (ms.take (ms.length - 1)).map V.int by rw [lM, List.map_take]] at x7
      have eAll := EncsB.cons (B := fun a => a ≠ p) (.lst x1 (.cons (.int s) (.cons (.tup hMc (encs_ints ms)) .nil)) np1) (.cons (.tup x3 (.cons (.int s) (.cons (.lst x2 (encs_ints ms) np2) .nil))) (.cons (sh_enc x6 x5) (.cons (sh_enc x8 x7) (.cons (.tup x9 (.cons (.tup hMc (encs_ints ms)) (.cons (.int s) .nil))) (.cons .non
        (.cons (.tup y1 (.cons (.int s) .nil)) (.cons (.tup y2 (.cons (.int s) (.cons (.tup hMc (encs_ints ms)) (.cons (.int 0) .nil)))) (.cons (.tup y3 (.cons (.bl true) (.cons (.tup hMc (encs_ints ms)) .nil))) (.cons (.int 7) (.cons (.tup y4 .nil) .nil))))))))))
      refine ⟨_, rfl, p, l, ns, _, 11, rfl, by decide, cdw (by decide) (by decide), W2.grow K0, by omega, npl, fun r6 H6 r60 r61 W6 g6 => ?_⟩
      obtain ⟨x, hx, hx2⟩ := at_any (xs := [V.ref q1, .ref q3, .ref q6, .ref q8, .ref q9, .non] ++ [V.ref u1, .ref u2, .ref u3, .int 7, .ref u4]) r60 (by show r6 < ((11 : Nat) : Int); exact r61)
      refine ⟨uc, _, _, _, rfl, rfl, SqL.of (g6.lst npc yc), hx, four34, fun r hr => ?_⟩
      obtain ⟨d, hd, ed⟩ := eAll.get hx2
      obtain ⟨sd, sp⟩ := smdL d (List.mem_of_getElem? hd)
      exact fin H6 x d (W6.more (by omega)) (g12.trans' (K0.w.trans' g6)) (ed.growW g6 (fun z => z rfl) (noTup (K0.lst hw2))) sd sp r hr
    obtain ⟨ts0, hA0, AP⟩ := hA.p
    obtain ⟨lA, gA⟩ := AP.get
    have hA2 := g12.lst nAp hA0
    have hG2 := g12.tup hwy hG
    have hGt2 := g12.tup hwy hGt
    have eGt2 := eGt.growW g12 (fun z => z) (noTup hwy)
    have lG := eGt.length
    rw [List.length_map] at lG
    have lG9 : goal.2.length ≤ 9 := by
      have nd : (goal.2.map (·.1)).Nodup := gi.g.asc.imp fun {a b} h e => by rw [e] at h; exact absurd h (Int.lt_irrefl _)
      have q := nd.length_le_of_subset (l₂ := L) fun a ha => by
        obtain ⟨e, he, rfl⟩ := List.mem_map.mp ha
        exact gi.g.inU e he
      rw [List.length_map] at q
      exact Nat.le_trans q gi.u.len
    -- another term of the goal
    refine ⟨fun σ' H' => σ' = [some (.ref p), some (.ref N0), some (.ref bG), some (.ref bH), some (.ref xsb), some (.ref A0), some (.int s), some (.ref tM), some (.int pick), some (.int j), none, none, none, none, none, none, none, none, none] ∧ H' = H2, ?_, mid_of ?_⟩
    · refine ⟨_, rfl, rfl, _, rfl, ite2 (fun _ => ?_) (fun _ => ⟨rfl, rfl⟩)⟩
      have lpos : 0 < L.length := List.length_pos_iff.mpr neL
      have lA9 : L.length ≤ 9 := gi.u.len
      refine ⟨_, rfl, _, rfl, _, rfl, A0, _, rfl, .inl (SqL.of hA2), p, l, ns, _, _, rfl, ?_, cdw ?_ ?_, W2, by omega, npl, fun r8 H3 r80 r81 W3 g3 => ?_⟩
      · rw [List.length_map, lA]; omega
      · rw [List.length_map, lA]; omega
      · rw [List.length_map, lA]; exact Nat.lt_of_le_of_lt (show _ ≤ 9 by omega) (by decide)
      obtain ⟨x, hx, hx2⟩ := at_any r80 r81
      rw [List.getElem?_map] at hx2
      cases hta : ts0[r8.toNat]? with
      | none => rw [hta] at hx2; cases hx2
      | some ta =>
      rw [hta] at hx2
      cases hx2
      have hla : r8.toNat < L.length := by rw [← lA]; exact (List.getElem?_eq_some_iff.mp hta).1
      obtain ⟨a0, ha0⟩ : ∃ a, L[r8.toNat]? = some a := ⟨_, List.getElem?_eq_getElem hla⟩
      have aL := List.mem_of_getElem? ha0
      have hta2 := (g12.trans' g3).tup hwy (gA _ _ _ hta ha0)
      refine ⟨A0, _, _, _, rfl, rfl, SqL.of (g3.lst nAp hA2), hx, ?_⟩
      have hG3 := g3.tup hw2 hG2
      have hGt3 := g3.tup hw2 hGt2
      have eGt3 := eGt2.growW g3 (fun z => z) (noTup hw2)
      obtain ⟨w3, hw3⟩ := W3.pl
      refine ⟨_, rfl, bG, _, _, _, rfl, rfl, SqT.of hG3, at_of (j := 1) rfl rfl, tG, rfl, ⟨_, SqT.of hGt3⟩, fun D hD => ?_⟩
      obtain ⟨nDp, nDl⟩ := W3.np hD
      refine lc_tup (xs := xsG) (fun i Hx => ∃ (bs : List Addr) (ts : List Addr), Hx D = some (.lst (bs.map V.ref)) ∧ TmAt Hx ((goal.2.take i).filter fun e => !decide (e.1 = a0)) (bs.map V.ref) ts ∧ bs.length ≤ i ∧ Grow H3 Hx)
        ⟨[], [], upd_same, .nil, Nat.le_refl _, Grow.new hD⟩ (fun i Hx _ hx => by
          obtain ⟨_, _, _, _, _, gx⟩ := hx
          exact SqT.of (gx.tup hGt3)) (fun i z Hx hz hx => ?_) (fun Hx hx => ?_)
      · obtain ⟨bs, ts, hDx, T, le, gx⟩ := hx
        obtain ⟨de, hde, ez⟩ := (eGt3.grow gx).get hz
        obtain ⟨e, he, rfl⟩ := map_get hde
        obtain ⟨b, t, rfl, hb, ht⟩ := tm_enc ez.any
        have il := (List.getElem?_eq_some_iff.mp he).1
        have etk : (goal.2.take (i + 1)).filter (fun e => !decide (e.1 = a0)) = (goal.2.take i).filter (fun e => !decide (e.1 = a0)) ++ (if (!decide (e.1 = a0)) = true then [e] else []) := by
          rw [List.take_succ, he, List.filter_append]
          congr 1
          show List.filter _ [e] = _
          rw [List.filter_cons]
          rfl
        refine ⟨wipe_set, ?_⟩
        refine ⟨_, rfl, b, _, _, _, rfl, rfl, SqT.of hb, at_of (j := 0) rfl rfl, _, rfl, pyA e.1, pyA a0, .tup (SqT.of ht) (.cons (.int _) (.cons (.int _) (.cons (.int _) .nil))), .tup (SqT.of (gx.tup hta2)) (.cons (.int _) (.cons (.int _) (.cons (.int _) .nil))), rfl, rfl, ?_⟩
        rw [eqv_A]
        cases hc : !decide (e.1 = a0) with
        | true =>
          refine ⟨_, rfl, iteT ⟨_, rfl, _, hDx, by rw [List.length_map, sizeLine_eq]; omega, bs ++ [b], ts ++ [t], by rw [upd_same, List.map_append]; rfl, ?_, by rw [List.length_append]; exact Nat.add_le_add_right le 1, gx.upd' hD⟩⟩
          rw [etk, hc, if_pos rfl, List.map_append]
          exact (TmAt.snoc T hb ht).keep (keep_lst hDx)
        | false =>
          refine ⟨_, rfl, iteF ⟨bs, ts, hDx, ?_, Nat.le_succ_of_le le, gx⟩⟩
          rw [etk, hc, if_neg Bool.false_ne_true, List.append_nil]
          exact T
      · obtain ⟨bs, ts, hDx, T, le, gx⟩ := hx
        rw [← lG, List.take_length] at T
        have Wx := W3.grow gx
        obtain ⟨wx, hwx⟩ := Wx.pl
        refine ⟨_, rfl, p, l, ns, _, rfl, Wx, by omega, npl, fun v Hv sv Wv gv => ?_⟩
        have nd0 : (goal.2.map (·.1)).Nodup := gi.g.asc.imp fun {a b} h e => by rw [e] at h; exact absurd h (Int.lt_irrefl _)
        have ts0k : TsOk L (goal.2.filter fun e => !decide (e.1 = a0)) := ⟨nd0.sublist (List.Sublist.map _ (List.filter_sublist ..)), fun e he => gi.g.inU e (List.mem_filter.mp he).1, fun e he => gi.g.nz e (List.mem_filter.mp he).1, fun e he => gi.g.sm.2 e (List.mem_filter.mp he).1⟩
        have off0 : a0 ∉ (goal.2.filter fun e => !decide (e.1 = a0)).map (·.1) := fun z => by
          obtain ⟨e, h1, h2⟩ := List.mem_map.mp z
          have q := (List.mem_filter.mp h1).2
          rw [decide_eq_true h2] at q
          cases q
        generalize (goal.2.filter fun e => !decide (e.1 = a0)) = es0 at T ts0k off0
        have Tv := T.keep (gv.tk hwx)
        have hDv := gv.lst nDp hDx
        have g2v := (g3.trans' gx.w).trans' gv
        obtain ⟨wv, hwv⟩ := Wv.pl
        refine ⟨fun σ' H' => ∃ (v10 v16 : Option V) (bs : List Addr) (ts : List Addr) (es1 : List Tm), σ' = [some (.ref p), some (.ref N0), some (.ref bG), some (.ref bH), some (.ref xsb), some (.ref A0), some (.int s), some (.ref tM), some (.int pick), some (.int j), v10, none, none, none, none, none, v16, some (.ref D), none] ∧ H' D = some (.lst (bs.map V.ref)) ∧ TmAt H' es1 (bs.map V.ref) ts ∧ TsOk L es1 ∧ Wl H' p l ns (n + 50) ∧ GrowW p H2 H', ?_, ?_⟩
        · refine ⟨_, rfl, rfl, _, rfl, ite2 (fun c => ?_) (fun c => ?_)⟩
          · refine ⟨_, rfl, .inl ⟨rfl, _, SqL.of hDv⟩, _, rfl, _, rfl, two34, fun t ht => ?_⟩
            have hDt : L2.upd Hv t (.tup [.ref ta, .int v]) D = some (.lst (bs.map V.ref)) := (Grow.new ht).lst hDv
            have hta3 := gv.tup hwx (gx.tup hta2)
            obtain ⟨ntp, ntl⟩ := Wv.np ht
            refine ⟨D, _, _, rfl, rfl, hDt, by rw [List.length_map, sizeLine_eq]; omega, ?_⟩
            refine ⟨_, _, bs ++ [t], ts ++ [ta], es0 ++ [(a0, v)], rfl, by rw [upd_same, List.map_append]; rfl, ?_, ⟨?_, fun e he => ?_, fun e he => ?_, fun e he => ?_⟩, ((Wv.upd ntp ntl).upd nDp nDl).more (by omega), (g2v.but (g2v.none' hwv ht)).but (g3.none' hw3 hD)⟩
            · rw [List.map_append]
              exact ((Tv.keep (keep_new ht)).snoc (e := (a0, v)) upd_same (keep_new ht _ _ hta3)).keep (keep_lst hDt)
            · rw [List.map_append, List.nodup_append]
              refine ⟨ts0k.nd, by simp, fun x hx y hy z => off0 ?_⟩
              rw [List.mem_singleton.mp hy] at z
              have z : x = a0 := z
              rw [z] at hx
              exact hx
            · rcases List.mem_append.mp he with z | z
              · exact ts0k.inU e z
              · rw [List.mem_singleton.mp z]; exact aL
            · rcases List.mem_append.mp he with z | z
              · exact ts0k.nz e z
              · rw [List.mem_singleton.mp z]
                intro q
                have q : v = 0 := q
                rw [q] at c
                exact absurd c (by decide)
            · rcases List.mem_append.mp he with z | z
              · exact ts0k.sm e z
              · rw [List.mem_singleton.mp z]
                obtain ⟨q1, q2⟩ := sv
                exact sm_of (by show v.natAbs ≤ _; omega)
          · exact ⟨_, _, bs, ts, es0, rfl, hDv, Tv, ts0k, Wv.more (by omega), g2v⟩
        · rintro σ' H' ⟨v10, v16, bs, ts, es1, rfl, hD1, T1, ok1, W1', g1'⟩
          obtain ⟨m1, m2⟩ := T1.bs
          have mem : ∀ b ∈ bs, gP H' b ∈ es1 := fun b hb => by rw [← m1]; exact List.mem_map.mpr ⟨b, hb, rfl⟩
          have le9 : bs.length ≤ 9 := by
            have q := ok1.nd.length_le_of_subset (l₂ := L) fun a ha => by
              obtain ⟨e, he, rfl⟩ := List.mem_map.mp ha
              exact ok1.inU e he
            rw [List.length_map, ← m1, List.length_map] at q
            omega
          have rg : ∀ b ∈ bs, Rg (gP H' b).1 := fun b hb => (gi.u.ok _ (ok1.inU _ (mem b hb))).rg
          refine ⟨_, rfl, _, rfl, bG, _, _, _, rfl, rfl, SqT.of (g1'.tup hw2 hG2), at_of (j := 0) rfl rfl, _, rfl, D, bs, (fun b => (gP H' b).1), (fun b => (gP H' b).2), rfl, SqL.of hD1, by omega, fun b hb => ⟨rg b hb, m2 b hb⟩, fun t ht u hu h => nd_inj ok1.nd (mem t ht) (mem u hu) h, fun us q perm srt hq => ?_⟩
          refine ⟨q, _, rfl, .inl ⟨SqL.of upd_same, fun t ht => ⟨two34, fun u hu => ⟨_, rfl, _, rfl, four34, fun r hr => ?_⟩⟩⟩⟩
          have gq := Grow.new hq (o := .lst (us.map V.ref))
          have gt := Grow.new ht (o := .tup (us.map V.ref))
          have gu := Grow.new hu (o := .tup [.int goal.1, .ref t])
          have gr := Grow.new hr (o := .lst [.ref N0, .ref u, .ref bH, .ref xsb])
          have gN := ((gq.trans gt).trans gu).trans gr
          have gT := (g12.trans' g1').trans' gN.w
          have memu : ∀ b ∈ us, b ∈ bs := fun b hb => perm.mem_iff.mp hb
          have eus := gP_enc (B := fun _ => True) (us := us) fun b hb => m2 b (memu b hb)
          have asc' : ((us.map (gP H')).map (·.1)).Pairwise (fun a b => rk a < rk b) := by
            have ndu : (us.map fun b => (gP H' b).1).Nodup := (perm.map _).nodup_iff.mpr (by
              have q := ok1.nd
              rw [← m1, List.map_map] at q
              exact q)
            rw [List.map_map, List.pairwise_map]
            refine List.Pairwise.imp_of_mem (fun {x y} hx hy h => ?_) (srt.and (List.pairwise_map.mp ndu))
            rcases Int.lt_or_eq_of_le h.1 with z | z
            · exact z
            · exact absurd (rk_inj (rg x (memu x hx)) (rg y (memu y hy)) z) h.2
          have memE : ∀ e ∈ us.map (gP H'), e ∈ es1 := fun e he => by
            obtain ⟨b, hb, rfl⟩ := List.mem_map.mp he
            exact mem b (memu b hb)
          refine k r N0 _ (.ref u) (.ref bH) (.ref xsb) nv (goal.1, us.map (gP H')) hs (.tup [.int s, .tup (ms.map .int)]) upd_same (gT.tup hwy hN0) (.tup (gr.tup upd_same) (.cons (.int _) (.cons (.tup ((gu.trans gr).tup upd_same) (eus.grow gN)) .nil))) (ehF.growW gT (fun z => z) (noTup hwy)).any (two _ gT)
            ⟨gi.u, gi.n, ⟨asc', fun e he => ok1.inU e (memE e he), fun e he => ok1.nz e (memE e he), gi.g.sm.1, fun e he => ok1.sm e (memE e he)⟩, gi.h, gi.l⟩ rfl ⟨Nat.le_trans md.1 (Nat.le_add_right _ _), fun h hh => Nat.le_trans (md.2 h hh) (Nat.le_add_right _ _)⟩ smd0 shp0 ((W1'.grow gN).more (by omega)) gT
    -- a multiplier that is none
    refine ⟨fun σ' H' => σ' = [some (.ref p), some (.ref N0), some (.ref bG), some (.ref bH), some (.ref xsb), some (.ref A0), some (.int s), some (.ref tM), some (.int pick), some (.int j), none, none, none, none, none, none, none, none, none] ∧ H' = H2, ?_, mid_of ?_⟩
    · refine ⟨_, rfl, rfl, _, rfl, ?_⟩
      by_cases c : V.int pick = V.int 9
      · refine ifT c ⟨_, rfl, _, rfl, tM, _, rfl, .inr (SqT.of hM2), _, _, rfl, rfl, _, rfl, ?_⟩
        by_cases c2 : (j : Int) < ((ms.map V.int).length : Int)
        · refine ifT c2 ?_
          refine ⟨_, rfl, _, rfl, _, rfl, _, rfl, _, rfl, _, rfl, _, rfl, ?_⟩
          dsimp only [tNoPart]
          refine rd_take hM2 (by omega) fun b Hb gb hb => ⟨one34, fun q1 h1 => ⟨four34, fun q2 h2 => ?_⟩⟩
          have k1 := Grow.new h1 (o := .tup [.int 1])
          obtain ⟨k2, z2⟩ := newAt h2 (o := .lst [.bl true, .non, .str "1", .ref q1])
          have gK := (gb.trans k1).trans k2
          have z1 := k2.tup (upd_same (H := Hb) (a := q1) (o := .tup [.int 1]))
          have np2 : q2 ≠ p := fun z => by
            have q := (gb.trans k1).lst hw2
            rw [← z, h2] at q
            cases q
          have eAll := EncsB.cons (B := fun _ => False) (.bl true) (.cons .non (.cons (.str "1" ⟨by decide, by decide⟩) (.cons (.tup z1 (.cons (.int 1) .nil)) .nil)))
          refine ⟨_, rfl, p, l, ns, _, 4, rfl, by decide, cdw (by decide) (by decide), W2.grow gK, by omega, npl, fun r6 H6 r60 r61 W6 g6 => ?_⟩
          obtain ⟨x, hx, hx2⟩ := at_any (xs := [V.bl true, .non, .str "1", .ref q1]) r60 (by show r6 < ((4 : Nat) : Int); exact r61)
          refine ⟨q2, _, _, _, rfl, rfl, SqL.of (g6.lst np2 z2), hx, one34, fun t ht => ?_⟩
          have gt := Grow.new ht (o := .tup [x])
          obtain ⟨w6, hw6⟩ := W6.pl
          have hwK := gK.lst hw2
          have hM6 := g6.tup hwK (gK.tup hM2)
          have hb6 := g6.tup hwK ((k1.trans k2).tup hb)
          refine rd_add (gt.tup hb6) upd_same (by rw [List.length_take]; show _ + 1 ≤ _; omega) fun c1 Hc gc hc => ⟨_, rfl, _, rfl, _, _, rfl, rfl, _, rfl, ?_⟩
          dsimp only [tNoPart]
          refine rd_drop (gc.tup (gt.tup hM6)) (k := j + 1) rfl (by omega) fun d1 Hd gd hd => ?_
          refine rd_add (gd.tup hc) hd (by rw [List.length_append, List.length_take, List.length_drop]; show _ + 1 + _ ≤ _; omega) fun e1 He ge he => ⟨two34, fun t2 ht2 => ⟨four34, fun r hr => ?_⟩⟩
          obtain ⟨d, hdm, ed⟩ := eAll.get hx2
          have sdx : ∀ d ∈ ([.bl true, .non, .str "1", .tup [.int 1]] : List Da), Sm (nOf d) ∧ Shp 1 d := allc ⟨sm00, .bl⟩ (allc ⟨sm00, .non⟩ (allc ⟨sm00, .one⟩ (all1 ⟨sm00, .tup (all1 .int)⟩)))
          obtain ⟨sd, sp⟩ := sdx d (List.mem_of_getElem? hdm)
          have gU := Grow.new ht2 (o := .tup [.int s, .ref e1])
          have gE := ((gt.trans gc).trans gd).trans ge
          have gT := gE.trans gU
          have ed6 := (ed.growW g6 (fun z => z) (noTup hwK)).mono (B' := fun a => a ≠ p) fun _ z => z.elim
          refine fin _ _ (.tup [.int s, .tup (putAt (ms.map .int) j d)]) ((W6.grow gT).more (by omega)) (g12.trans' ((gK.w.trans' g6).trans' gT.w)) (.tup upd_same (.cons (.int s) (.cons (.tup (gU.tup he) (encs_put (encs_ints ms) (ed6.grow gT))) .nil))) ?_ ?_ r hr
          · exact smd_pair smS fun e he => (putAt_mem he).elim (fun z => by rw [z]; exact sd) (sm_ints smM e)
          · exact .tup (allc .int (all1 (.tup fun d' hd => (putAt_mem hd).elim (fun z => by rw [z]; exact sp) (shp_int d'))))
        · exact ifF c2 ⟨rfl, rfl⟩
      · exact ifF c ⟨rfl, rfl⟩
    -- a hint's const more
    refine ⟨fun σ' H' => σ' = [some (.ref p), some (.ref N0), some (.ref bG), some (.ref bH), some (.ref xsb), some (.ref A0), some (.int s), some (.ref tM), some (.int pick), some (.int j), none, none, none, none, none, none, none, none, none] ∧ H' = H2, ?_, mid_of ?_⟩
    · refine ⟨_, rfl, rfl, _, rfl, ?_⟩
      by_cases c : V.int pick = V.int 10
      · refine ifT c ⟨_, rfl, _, rfl, tM, _, rfl, .inr (SqT.of hM2), _, _, rfl, rfl, _, rfl, ?_⟩
        by_cases c2 : (j : Int) < ((ms.map V.int).length : Int)
        · refine ifT c2 ?_
          have hj : j < xsH.length := by omega
          have hjh : j < hs.length := by omega
          have hH2 := g12.tup hwy hH
          have eHs2 := eHs.growW g12 (fun z => z) (noTup hwy)
          obtain ⟨x, hx⟩ : ∃ x, xsH[j]? = some x := ⟨xsH[j], List.getElem?_eq_getElem hj⟩
          obtain ⟨dh, hdh, ex⟩ := eHs2.get hx
          obtain ⟨h0, hh0, rfl⟩ := map_get hdh
          obtain ⟨b, x0, x2, rfl, hb, e0, e2⟩ := ht_at ex
          obtain ⟨bF, tF, xsF, rfl, hF, hFt, eF⟩ := fm_at (B := fun _ => False) e0.any
          have hm0 := List.mem_of_getElem? hh0
          refine ⟨_, rfl, _, rfl, bH, _, _, _, rfl, rfl, SqT.of hH2, at_of (j := j) rfl hx, b, _, rfl, SqT.of hb, rfl, _, _, rfl, _, _, rfl, _, _, rfl, rfl, ?_⟩
          refine ⟨_, rfl, _, rfl, _, rfl, _, rfl, _, rfl, ?_⟩
          dsimp only [tNoPart]
          refine rd_take hH2 (by omega) fun b1 Hb gb hb1 => ⟨_, rfl, bF, _, _, _, rfl, rfl, SqT.of (gb.tup hF), at_of (j := 0) rfl rfl, _, _, rfl, rfl, _, rfl, bF, _, _, _, rfl, rfl, SqT.of (gb.tup hF), at_of (j := 1) rfl rfl, two34, fun v1 hv1 => ⟨_, rfl, _, rfl, three34, fun t ht => ⟨one34, fun u hu => ?_⟩⟩⟩
          obtain ⟨gv, zv⟩ := newAt hv1 (o := .tup [.int (h0.f.1 + 1), .ref tF])
          obtain ⟨gt0, zt⟩ := newAt ht (o := .tup [.ref v1, .bl h0.ex, x2])
          obtain ⟨gu, zu⟩ := newAt hu (o := .tup [.ref t])
          have gt := (gv.trans gt0).trans gu
          refine rd_add (gt.tup hb1) upd_same (by rw [List.length_take]; show _ + 1 ≤ _; omega) fun c1 Hc gc hc => ⟨_, rfl, _, rfl, _, _, rfl, rfl, _, rfl, ?_⟩
          have gM := (gb.trans gt).trans gc
          dsimp only [tNoPart]
          refine rd_drop (gM.tup hH2) (k := j + 1) rfl (by omega) fun d1 Hd gd hd => ?_
          refine rd_add (gd.tup hc) hd (by rw [List.length_append, List.length_take, List.length_drop]; show _ + 1 + _ ≤ _; omega) fun e1 He ge he => ⟨_, rfl, four34, fun r hr => ?_⟩
          have gr := Grow.new hr (o := .lst [.ref N0, .ref bG, .ref e1, .ref xsb])
          have gE := (gM.trans gd).trans ge
          have gN := gE.trans gr
          have gT := g12.trans' gN.w
          have g4 := ((gc.trans gd).trans ge).trans gr
          have ht3 := g4.tup (gu.tup zt)
          have hv3 := g4.tup (gu.tup (gt0.tup zv))
          have e2' := (e2.grow gN)
          have g0 := gi.h h0 hm0
          have hm1 := md.2 h0 hm0
          refine k r N0 _ (.ref bG) (.ref e1) (.ref xsb) nv goal (putAt hs j ⟨(h0.f.1 + 1, h0.f.2), h0.ex, h0.og⟩) (.tup [.int s, .tup (ms.map .int)]) upd_same (gT.tup hwy hN0) (egF.growW gT (fun z => z) (noTup hwy)).any ?_ (two _ gT) ⟨gi.u, gi.n, gi.g, fun h hh => ?_, by rw [putAt_len hjh]; exact gi.l⟩ (putAt_len hjh) ⟨Nat.le_trans md.1 (Nat.le_add_right _ _), fun h hh => ?_⟩ smd0 shp0 ((W2.grow gN).more (by omega)) gT
          · rw [putAt_map]
            exact .tup (gr.tup he) (encs_put (eHs2.grow gN).any (.tup ht3 (.cons (.tup hv3 (.cons (.int _) (.cons (.tup (gN.tup hFt) (eF.grow gN).any) .nil))) (.cons (.bl _) (.cons e2'.any .nil)))))
          · rcases putAt_mem hh with z | z
            · rw [z]; exact ⟨⟨g0.f.asc, g0.f.inU, g0.f.nz, sm_of2 (by show (h0.f.1 + 1).natAbs ≤ _; omega), g0.f.sm.2⟩, g0.og⟩
            · exact gi.h h z
          · rcases putAt_mem hh with z | z
            · rw [z]; show (h0.f.1 + 1).natAbs ≤ _; omega
            · exact Nat.le_trans (md.2 h z) (Nat.le_add_right _ _)
        · exact ifF c2 ⟨rfl, rfl⟩
      · exact ifF c ⟨rfl, rfl⟩
    -- no multipliers
    refine ⟨_, rfl, _, rfl, _, rfl, _, rfl, _, rfl, tM, rfl, ⟨_, SqT.of hM2⟩, fun D hD => ?_⟩
    refine lc_tup (xs := ms.map V.int) (fun i Hx => Hx D = some (.lst ((ms.take i).map fun _ => V.int 0)) ∧ Grow H2 Hx) ⟨upd_same, Grow.new hD⟩ (fun i Hx _ hz => SqT.of (hz.2.tup hM2)) (fun i z Hx hz hy => ?_) (fun Hx hy => ?_)
    · obtain ⟨hDx, gx⟩ := hy
      rw [List.getElem?_map] at hz
      cases ht1 : ms[i]? with
      | none => rw [ht1] at hz; cases hz
      | some c =>
      refine ⟨wipe_set, ?_⟩
      unfold tYes
      refine iteT ⟨_, hDx, by rw [List.length_map, List.length_take, sizeLine_eq]; omega, ?_, gx.upd' hD⟩
      rw [upd_same, List.take_succ, ht1, List.map_append]
      rfl
    · obtain ⟨hDx, gx⟩ := hy
      rw [List.length_map, List.take_length] at hDx
      refine ⟨D, _, rfl, .inl ⟨SqL.of hDx, fun t ht => ⟨two34, fun u hu => ⟨four34, fun r hr => ?_⟩⟩⟩⟩
      obtain ⟨gt, zt⟩ := newAt ht (o := .tup (ms.map fun _ => V.int 0))
      obtain ⟨gu, zu⟩ := newAt hu (o := .tup [.int s, .ref t])
      have gN := (gx.trans gt).trans gu
      refine fin _ _ (.tup [.int s, .tup ((ms.map fun _ => (0 : Int)).map .int)]) ((W2.grow gN).more (by omega)) (g12.trans' gN.w) (sh_enc zu (gu.tup (by rw [List.map_map]; exact zt))) (smd_pair smS (sm_ints fun m hm => ?_)) (.tup (allc .int (all1 (.tup shp_int)))) r hr
      obtain ⟨_, _, rfl⟩ := List.mem_map.mp hm
      exact sm00
end
end J1
set_option Elab.async false
set_option linter.all false
set_option maxRecDepth 100000
set_option maxHeartbeats 4000000
namespace J1
open PySem PySem.Spec PyProof.Rows L2 GxR GA RA RZ
abbrev lWell : Stmt := top 32
theorem cWell : FnScope ["_law_script", "_law_at"] ["_law_script", "_law_at"] (defScope lWell) := ⟨rfl, rfl, rfl, by decide +kernel, rfl, by decide +kernel, by decide +kernel⟩
abbrev lLaw : Stmt := top 44
theorem cLaw : FnScope ["_law_script", "_law_well_here", "_law_never", "_law_n", "_law_atoms_here", "_law_goal", "_law_hints", "_law_showing", "_law_k", "_law_told", "_law_found"] ["_law_script"] (defScope lLaw) := ⟨rfl, rfl, rfl, by decide +kernel, rfl, by decide +kernel, by decide +kernel⟩
def spWell (K : PySem.W.Frag) : Sp := fun vs H Q _ => ∃ (a : Addr) (ns : List Int), vs = [.ref a, .int 0] ∧ SqL K H a (ns.map V.int) ∧ ∀ p l H', Wl H' p l ns 0 → p ≠ l → Grow H H' → Q (.ref p) H'
def spLw0 (K : PySem.W.Frag) : Sp := fun vs H Q _ => ∃ (a : Addr) (ns : List Int), vs = [.ref a] ∧ SqL K H a (ns.map V.int) ∧ ∀ H', Q (.bl true) H'
section
variable {P : Program} {w : World} {K : PySem.W.Frag} {mg : Str → Option Value} {base : Heap}
theorem ok_well {f : Addr} {fd : FuncData} (F : Fun K "_law_well" "_law_well" lWell f fd) (N : Gd mg) : FnOk P w K mg base CX0 1 f fd ["_law_script", "_law_at"] (spWell K) := by
  refine F.ok (k := 0) cWell (fun vs H Q E h => ?_) (fun cdv A outer s H vs Q E hr h => ?_)
  · obtain ⟨a, ns, rfl, _⟩ := h
    rfl
  · obtain ⟨a, ns, rfl, hS, k⟩ := h
    refine ⟨_, (pss_one (ps_ret (pe_lst (pa_cons pe_int (pa_cons (pv 1) (pa_cons (pe_callTy call_list_of (by rfl) N.list (by decide +kernel) (pa_cons (pv 0) pa_nil)) pa_nil)))))), ?_⟩
    refine ⟨_, rfl, _, rfl, a, _, rfl, .inl hS, fun l hl => ⟨three34, fun p hp => ?_⟩⟩
    have npl : l ≠ p := ne_of_none upd_same hp
    exact k p l _ ⟨⟨0, 0, upd_same, by decide, by decide, by decide⟩, by rw [upd_ne npl]; exact upd_same⟩ npl.symm ((Grow.new hl).trans (Grow.new hp))
theorem ok_law {f fW fD fA fM fI fT fS : Addr} {fd fdW fdD fdA fdM fdI fdT fdS : FuncData} (F : Fun K "law" "law" lLaw f fd) (N : Gn K mg) (M : Gd mg)
    (GW : FnOk P w K mg base CX0 1 fW fdW ["_law_script", "_law_at"] (spWell K)) (DW : Df K mg "_law_well" ["_law_script", "_law_at"] fW fdW)
    (GD : FnOk P w K mg base CX0 1 fD fdD ["_law_well_here", "_law_many"] spDr) (DD : Df K mg "_law_draw" ["_law_well_here", "_law_many"] fD fdD)
    (GA' : FnOk P w K mg base CX0 2 fA fdA ["_law_well_here"] spAl) (DA : Df K mg "_law_atoms" ["_law_well_here"] fA fdA)
    (GM : FnOk P w K mg base CX0 4 fM fdM ["_law_well_here", "_law_never", "_law_atoms_here"] spMa) (DM : Df K mg "_law_made" ["_law_well_here", "_law_never", "_law_atoms_here"] fM fdM)
    (GI : FnOk P w K mg base CX0 7 fI fdI ["never", "goal", "hints", "thing"] spSw) (DI : Df K mg "is_shown" ["never", "goal", "hints", "thing"] fI fdI)
    (GT : FnOk P w K mg base CX0 3 fT fdT ["_law_well_here", "_law_never", "_law_goal", "_law_hints", "_law_showing", "_law_atoms_here"] spTd) (DT : Df K mg "_law_turned" ["_law_well_here", "_law_never", "_law_goal", "_law_hints", "_law_showing", "_law_atoms_here"] fT fdT)
    (GS : FnOk P w K mg base CX0 2 fS fdS ["_law_never", "_law_goal", "_law_hints", "_law_thing"] spSw) (DS : Df K mg "_law_shows" ["_law_never", "_law_goal", "_law_hints", "_law_thing"] fS fdS) :
    FnOk P w K mg base CX0 8 f fd ["_law_script"] (spLw0 K) := by
  refine F.ok (k := 7) cLaw (fun vs H Q E h => ?_) (fun cdv A outer sh0 H vs Q E hr h => ?_)
  · obtain ⟨a, ns, rfl, _⟩ := h
    rfl
  · obtain ⟨a, ns, rfl, hS, kq⟩ := h
    have hu := hu_of hr
    have hu64 : (A.deeper (envOfC "law" (defScope lLaw) sh0.heap.objs.size f cdv)).units + 64 < cLine := by
      have := hr.un
      omega
    refine ⟨_, (pss_cons (ps_set (i := 1) cLaw.nd rfl (Or.inr rfl) (pe_call (GW.mono (by decide)) hr (by rfl) DW.g DW.k DW.b .nil pass0 (pa_cons (pv 0) (pa_cons pe_int pa_nil)))) (pss_cons (ps_set (i := 2) cLaw.nd rfl (Or.inl rfl) (pe_callTy call_tuple_of (by rfl) M.tuple (by decide +kernel) (pa_cons (pe_lc (own := [("_law_n", 3)]) (g := gName 3) (by rfl) cLaw.nd (pi_range2 (by rfl) M.range (pa_cons pe_int (pa_cons pe_int pa_nil))) (blkOk_by (own := [("_law_n", 3)]) (N := ["_law_script", "_law_well_here", "_law_never", "_law_n", "_law_atoms_here", "_law_goal", "_law_hints", "_law_showing", "_law_k", "_law_told", "_law_found"]) (sc := defScope lLaw) (by decide +kernel)) (fun _ _ _ _ _ => (pg_name (i := 3) cLaw.nd rfl (Or.inl rfl))) (fun _ _ _ _ _ => (pts_one (pt_cmpR op_eq (pe_call (GD.mono (by decide)) hr (by rfl) DD.g DD.k DD.b .nil pass0 (pa_cons (pv 1) (pa_cons pe_int pa_nil))) pe_int (nomark _)))) (fun _ _ _ _ _ => (pv 3))) pa_nil))) (pss_cons (ps_set (i := 4) cLaw.nd rfl (Or.inl rfl) (pe_call (GA'.mono (by decide)) hr (by rfl) DA.g DA.k DA.b .nil pass0 (pa_cons (pv 1) pa_nil))) (pss_cons (ps_asg (pe_call (GM.mono (by decide)) hr (by rfl) DM.g DM.k DM.b .nil pass0 (pa_cons (pv 1) (pa_cons (pv 2) (pa_cons (pv 4) pa_nil)))) (pg_unl (by rfl) (pgs_cons (pg_name (i := 5) cLaw.nd rfl (Or.inl rfl)) (pgs_cons (pg_name (i := 6) cLaw.nd rfl (Or.inl rfl)) (pgs_cons (pg_name (i := 7) cLaw.nd rfl (Or.inl rfl)) pgs_nil))))) (pss_cons (ps_if (pt_cmpR op_isnot_bl (pe_call (GI.mono (by decide)) hr (by rfl) DI.g DI.k DI.b .nil pass0 (pa_cons (pv 2) (pa_cons (pv 5) (pa_cons (pv 6) (pa_cons (pv 7) pa_nil))))) pe_bl (nomark _)) (pss_one (ps_ret pe_bl)) pss_nil) (pss_cons (ps_for PassesOwn.never rfl (pi_range1 (by rfl) M.range (pa_cons pe_int pa_nil)) (pg_name (i := 8) cLaw.nd rfl (Or.inl rfl)) (pss_cons (ps_set (i := 9) cLaw.nd rfl (Or.inl rfl) (pe_call (GT.mono (by decide)) hr (by rfl) DT.g DT.k DT.b .nil pass0 (pa_cons (pv 1) (pa_cons (pv 2) (pa_cons (pv 5) (pa_cons (pv 6) (pa_cons (pv 7) (pa_cons (pv 4) pa_nil)))))))) (C8.pss_cut (ps_if (PW.pt (pw_and (pt_cmpR op_eq (pv 8) pe_int (nomark _)) (pw_and (pt_val (pe_callB call_isi (by rfl) N.nI boot_isinstance (pa_cons (pe_ix ix_list (pv 9) pe_int (fun _ _ => rfl)) (pa_cons (pe_bltn (v := .ty "tuple") rfl N.nt (by decide +kernel) rfl) pa_nil)))) (pw_and (pt_cmpR op_eq (pe_callB call_len_seq (by rfl) M.len PySem.boot_len (pa_cons (pe_ix ix_list (pv 9) pe_int (fun _ _ => rfl)) pa_nil)) pe_int (nomark _)) (pw_and1 (pt_cmpR (op_eqD hu64) (pe_ix ix_tup (pe_ix ix_list (pv 9) pe_int (fun _ _ => rfl)) pe_int (fun _ _ => rfl)) (pe_ix ix_tup (pv 7) pe_int (fun _ _ => rfl)) (nomark _))))))) (pss_one (ps_set (i := 9) cLaw.nd rfl (Or.inl rfl) (pe_call (GT.mono (by decide)) hr (by rfl) DT.g DT.k DT.b .nil pass0 (pa_cons (pv 1) (pa_cons (pe_ix ix_list (pv 9) pe_int (fun _ _ => rfl)) (pa_cons (pe_ix ix_list (pv 9) pe_int (fun _ _ => rfl)) (pa_cons (pe_ix ix_list (pv 9) pe_int (fun _ _ => rfl)) (pa_cons (pv 7) (pa_cons (pv 4) pa_nil))))))))) pss_nil) (pss_cons (ps_set (i := 10) cLaw.nd rfl (Or.inl rfl) (pe_call (GI.mono (by decide)) hr (by rfl) DI.g DI.k DI.b .nil pass0 (pa_cons (pe_ix ix_list (pv 9) pe_int (fun _ _ => rfl)) (pa_cons (pe_ix ix_list (pv 9) pe_int (fun _ _ => rfl)) (pa_cons (pe_ix ix_list (pv 9) pe_int (fun _ _ => rfl)) (pa_cons (pe_ix ix_list (pv 9) pe_int (fun _ _ => rfl)) pa_nil)))))) (pss_one (ps_if (PW.pt (pw_or (pt_not (pt_val (pe_callB call_isi (by rfl) N.nI boot_isinstance (pa_cons (pv 10) (pa_cons (pe_bltn (v := .ty "bool") rfl N.nb (by decide +kernel) rfl) pa_nil))))) (pw_or1 (pt_cmpR op_ne (pv 10) (pe_call (GS.mono (by decide)) hr (by rfl) DS.g DS.k DS.b .nil pass0 (pa_cons (pe_ix ix_list (pv 9) pe_int (fun _ _ => rfl)) (pa_cons (pe_ix ix_list (pv 9) pe_int (fun _ _ => rfl)) (pa_cons (pe_ix ix_list (pv 9) pe_int (fun _ _ => rfl)) (pa_cons (pe_ix ix_list (pv 9) pe_int (fun _ _ => rfl)) pa_nil))))) (nomark _))))) (pss_one (ps_ret pe_bl)) pss_nil)))))) (pss_one (ps_ret pe_bl)))))))), ?_⟩
    refine ⟨_, rfl, a, ns, rfl, hS, fun p l H1 W1 npl g1 => ?_⟩
    refine ⟨1, 13, rfl, ⟨by decide, by decide, by decide, by decide⟩, fun D hD => ?_⟩
    obtain ⟨nDp, nDl⟩ := W1.np hD
    refine lc_range (lo := 1) (n := 12) (fun i Hx => ∃ nv : List Int, Hx D = some (.lst (nv.map V.int)) ∧ (∀ c ∈ nv, 1 ≤ c ∧ c ≤ (i : Int)) ∧ nv.Pairwise (· < ·) ∧ nv.length ≤ i ∧ Wl Hx p l ns i ∧ GrowW p H1 Hx)
      ⟨[], upd_same, fun _ z => absurd z List.not_mem_nil, .nil, Nat.le_refl _, W1.grow (Grow.new hD), GrowW.new hD⟩ (fun i Hx hi hx => ?_) (fun Hx hx => ?_)
    · obtain ⟨nv, hDx, bd, pw, le, Wx, gx⟩ := hx
      refine ⟨wipe_set, ?_⟩
      refine ⟨_, rfl, p, l, ns, _, 3, rfl, by decide, cdw (by decide) (by decide), Wx, by omega, npl, fun r Hr _ _ Wr gr => ⟨rfl, _, rfl, ite2 (fun _ => ?_) (fun _ => ?_)⟩⟩
      · refine ⟨_, rfl, _, gr.lst nDp hDx, by rw [List.length_map, sizeLine_eq]; omega, nv ++ [1 + (i : Int)], by rw [upd_same, List.map_append]; rfl, fun c hc => ?_, ?_, by rw [List.length_append]; exact Nat.add_le_add_right le 1, Wr.upd nDp nDl, (gx.trans' gr).but hD⟩
        · rcases List.mem_append.mp hc with z | z
          · obtain ⟨q1, q2⟩ := bd c z
            exact ⟨q1, by omega⟩
          · rw [List.mem_singleton.mp z]
            exact ⟨by omega, by omega⟩
        · rw [List.pairwise_append]
          refine ⟨pw, by simp, fun x hx y hy => ?_⟩
          obtain ⟨q1, q2⟩ := bd x hx
          rw [List.mem_singleton.mp hy]
          omega
      · exact ⟨nv, gr.lst nDp hDx, fun c hc => ⟨(bd c hc).1, by have := (bd c hc).2; omega⟩, pw, Nat.le_succ_of_le le, Wr, gx.trans' gr⟩
    · obtain ⟨nv, hDx, bd, pw, le, Wx, gx⟩ := hx
      have gN : GoodN nv := ⟨le, fun c hc => by obtain ⟨q1, q2⟩ := bd c hc; exact ⟨q1, by omega⟩, pw⟩
      refine ⟨D, _, rfl, .inl ⟨SqL.of hDx, fun N0 hN0 => ?_⟩⟩
      obtain ⟨gn, zn⟩ := newAt hN0 (o := .tup (nv.map V.int))
      have W2 := Wx.grow gn
      obtain ⟨w2, hw2⟩ := W2.pl
      refine ⟨_, rfl, p, l, ns, _, rfl, W2, by omega, npl, fun A0 H3 L hA nA asc len9 neL okL W3 g3 => ?_⟩
      have nAp : A0 ≠ p := fun z => by rw [z, hw2] at nA; cases nA
      obtain ⟨w3, hw3⟩ := W3.pl
      have zn3 := g3.tup hw2 zn
      refine ⟨_, rfl, _, rfl, _, rfl, p, l, N0, A0, ns, _, nv, L, rfl, W3, by omega, npl, zn3, hA, nAp, asc, len9, okL, gN, fun r H4 xg xh xd goal hs s ms hr eg eh ed gi s0 s5 big lms md sh W4 g4 => ?_⟩
      refine ⟨r, _, rfl, SqL.of hr, rfl, _, _, rfl, _, _, rfl, _, _, rfl, rfl, ?_⟩
      have egF := fm_any (B := fun _ => False) eg
      have ehF := hs_any (B := fun _ => False) eh
      obtain ⟨xsb, tM, rfl, hSb, hM⟩ := sh_at ed
      have zn4 := g4.tup hw3 zn3
      have hA4 := hA.keep (fun xs h => g4.lst nAp h) (g4.tk hw3)
      have smM : ∀ m ∈ ms, Sm m := fun m hm => sm_of (by obtain ⟨q1, q2⟩ := big m hm; omega)
      have smd : SmD (.tup [.int s, .tup (ms.map .int)]) := smd_pair (sm_of (by show s.natAbs ≤ _; omega)) (sm_ints smM)
      have enN : ∀ {H' : Hp} {q : Addr} {l' : List Int}, H' q = some (.tup (l'.map V.int)) → Enc H' (nvD l') (.ref q) := fun h => .tup h (encs_ints _)
      refine ⟨_, rfl, _, rfl, _, rfl, _, rfl, .ref N0, xg, xh, .ref xsb, L, nv, goal, hs, _, rfl, enN zn4, eg, eh, ed, gi, smd, fun H5 g5 => ?_⟩
      rw [sh]
      refine ⟨_, _, rfl, rfl, _, rfl, iteF ?_⟩
      refine ⟨_, rfl, by decide, by decide, ?_⟩
      refine for_range (n := 7) (fun i σ' Hc => ∃ (v8 v9 v10 : Option V), σ' = [some (.ref a), some (.ref p), some (.ref N0), none, some (.ref A0), some xg, some xh, some (.ref xsb), v8, v9, v10] ∧ Hc N0 = some (.tup (nv.map V.int)) ∧ AtL Hc A0 L ∧ EncB (fun _ => False) Hc (fmD goal) xg ∧ EncB (fun _ => False) Hc (.tup (hs.map htD)) xh ∧ Hc xsb = some (.tup [.int s, .ref tM]) ∧ Hc tM = some (.tup (ms.map V.int)) ∧ Wl Hc p l ns (30000 + 250 * i))
        ⟨_, _, _, rfl, g5.tup zn4, hA4.keep (fun xs h => g5.lst h) g5.tk0, egF.grow g5, ehF.grow g5, g5.tup hSb, g5.tup hM, (W4.grow g5).more (by omega)⟩ (fun i σ' Hc hi hq => ?_) (fun σ' Hc hq => ?_)
      · obtain ⟨v8, v9, v10, rfl, hNc, hAc, egc, ehc, hSc, hMc, Wc⟩ := hq
        obtain ⟨wc, hwc⟩ := Wc.pl
        refine ⟨_, rfl, _, rfl, _, rfl, _, rfl, _, rfl, _, rfl, p, l, N0, A0, ns, _, nv, L, xg, xh, .ref xsb, goal, hs, s, ms, _, rfl, Wc, by omega, npl, hNc, hAc, nAp, asc, neL, egc.any, ehc.any, sh_enc hSc hMc, gi, s0, s5, big, lms, md, by decide, fun r1 N1 H6 xg1 xh1 xd1 nv1 goal1 hs1 d1 hr1 hN1 eg1 eh1 ed1 gi1 lh1 md1 sm1 sp1 W6 g6 => ?_⟩
        have np6 : A0 ≠ p := nAp
        have stay : ∀ {H' : Hp}, GrowW p Hc H' → H' N0 = some (.tup (nv.map V.int)) ∧ AtL H' A0 L ∧ EncB (fun _ => False) H' (fmD goal) xg ∧ EncB (fun _ => False) H' (.tup (hs.map htD)) xh ∧ H' xsb = some (.tup [.int s, .ref tM]) ∧ H' tM = some (.tup (ms.map V.int)) := fun g =>
          ⟨g.tup hwc hNc, hAc.keep (fun xs h => g.lst nAp h) (g.tk hwc), egc.growW g (fun z => z) (noTup hwc), ehc.growW g (fun z => z) (noTup hwc), g.tup hwc hSc, g.tup hwc hMc⟩
        refine ⟨fun σ' H' => ∃ (v10' : Option V) (r1 N1 : Addr) (xg1 xh1 xd1 : V) (nv1 : List Int) (goal1 : Fm) (hs1 : List Ht) (d1 : Da), σ' = [some (.ref a), some (.ref p), some (.ref N0), none, some (.ref A0), some xg, some xh, some (.ref xsb), some (.int (0 + (i : Nat))), some (.ref r1), v10'] ∧ H' r1 = some (.lst [.ref N1, xg1, xh1, xd1]) ∧ H' N1 = some (.tup (nv1.map V.int)) ∧
            Enc H' (fmD goal1) xg1 ∧ Enc H' (.tup (hs1.map htD)) xh1 ∧ Enc H' d1 xd1 ∧ GoodIn L nv1 goal1 hs1 ∧ SmD d1 ∧ Wl H' p l ns (30000 + 250 * i + 200) ∧ GrowW p Hc H', ?_, ?_⟩
        · refine ⟨_, rfl, rfl, _, rfl, ?_⟩
          by_cases c1 : V.int (0 + (i : Int)) = V.int 6
          · refine ifT c1 ?_
            obtain ⟨_, _, _, kT⟩ := kitD d1
            refine ⟨_, rfl, r1, _, _, _, rfl, rfl, SqL.of hr1, at_of (j := 3) rfl rfl, _, _, _, _, _, rfl, .ty "tuple", ed1.ty, kit_ty kT, _, rfl, ?_⟩
            cases hbT : bT d1 with
            | false => exact iteF ⟨_, r1, N1, xg1, xh1, xd1, nv1, goal1, hs1, d1, rfl, hr1, hN1, eg1, eh1, ed1.any, gi1, sm1, W6.more (by omega), g6⟩
            | true =>
              refine iteT ?_
              cases ed1 with
              | @tup b ys l' hb es =>
                refine ⟨_, rfl, r1, _, _, _, rfl, rfl, SqL.of hr1, at_of (j := 3) rfl rfl, b, _, rfl, .inr (SqT.of hb), rfl, _, rfl, ?_⟩
                by_cases c2 : V.int (ys.length : Int) = V.int 2
                · refine ifT c2 ?_
                  have l2 : ys.length = 2 := by have := V.int.inj c2; omega
                  have ll := es.length
                  obtain ⟨y0, y1, rfl⟩ : ∃ y0 y1, ys = [y0, y1] := by
                    cases ys with
                    | nil => cases l2
                    | cons y0 ys => cases ys with
                      | nil => cases l2
                      | cons y1 ys => cases ys with
                        | nil => exact ⟨_, _, rfl⟩
                        | cons _ _ => cases l2
                  cases es with
                  | @cons e0 _ _ _ k0 es =>
                  cases es with
                  | @cons e1 _ _ _ k1 es =>
                  cases es
                  have spe := sp1.inv e1 (List.mem_cons_of_mem _ List.mem_cons_self)
                  obtain ⟨hN6, hA6, eg6, eh6, hS6, hM6⟩ := stay g6
                  refine ⟨_, rfl, r1, _, _, _, rfl, rfl, SqL.of hr1, at_of (j := 3) rfl rfl, b, _, _, _, rfl, rfl, SqT.of hb, at_of (j := 1) rfl rfl, _, rfl, xsb, _, _, _, rfl, rfl, SqT.of hS6, at_of (j := 1) rfl rfl, pyD e1, pyD (.tup (ms.map .int)), k1.dp, EncB.dp (B := fun _ => False) (.tup hM6 (encs_ints ms)), spe.ok (by decide), Shp.ints.ok (by decide), _, rfl, ?_⟩
                  cases PyData.eqv (pyD e1) (pyD (.tup (ms.map .int))) with
                  | false => exact iteF ⟨_, r1, N1, xg1, xh1, .ref b, nv1, goal1, hs1, .tup [e0, e1], rfl, hr1, hN1, eg1, eh1, .tup hb (.cons k0.any (.cons k1.any .nil)), gi1, sm1, W6.more (by omega), g6⟩
                  | true =>
                    refine iteT ⟨_, rfl, _, rfl, r1, _, _, _, rfl, rfl, SqL.of hr1, at_of (j := 0) rfl rfl, _, rfl, r1, _, _, _, rfl, rfl, SqL.of hr1, at_of (j := 1) rfl rfl, _, rfl, r1, _, _, _, rfl, rfl, SqL.of hr1, at_of (j := 2) rfl rfl, _, rfl, _, rfl, p, l, N1, A0, ns, _, nv1, L, xg1, xh1, .ref xsb, goal1, hs1, s, ms, _, rfl, W6, by omega, npl, hN1, hA6, nAp, asc, neL, eg1, eh1, sh_enc hS6 hM6, gi1, s0, s5, big, lms.trans lh1.symm, md1, by decide,
                      fun r2 N2 H7 xg2 xh2 xd2 nv2 goal2 hs2 d2 hr2 hN2 eg2 eh2 ed2 gi2 lh2 md2 sm2 sp2 W7 g7 => ?_⟩
                    exact ⟨_, r2, N2, xg2, xh2, xd2, nv2, goal2, hs2, d2, rfl, hr2, hN2, eg2, eh2, ed2.any, gi2, sm2, W7.more (by omega), g6.trans' g7⟩
                · exact ifF c2 ⟨_, r1, N1, xg1, xh1, .ref b, nv1, goal1, hs1, _, rfl, hr1, hN1, eg1, eh1, .tup hb es.any, gi1, sm1, W6.more (by omega), g6⟩
              | _ => cases hbT
          · exact ifF c1 ⟨_, r1, N1, xg1, xh1, xd1, nv1, goal1, hs1, d1, rfl, hr1, hN1, eg1, eh1, ed1.any, gi1, sm1, W6.more (by omega), g6⟩
        · rintro σ' H' ⟨v10', r1, N1, xg1, xh1, xd1, nv1, goal1, hs1, d1, rfl, hr1, hN1, eg1, eh1, ed1, gi1, sm1, W1', g1'⟩
          refine ⟨_, rfl, r1, _, _, _, rfl, rfl, SqL.of hr1, at_of (j := 0) rfl rfl, _, rfl, r1, _, _, _, rfl, rfl, SqL.of hr1, at_of (j := 1) rfl rfl, _, rfl, r1, _, _, _, rfl, rfl, SqL.of hr1, at_of (j := 2) rfl rfl, _, rfl, r1, _, _, _, rfl, rfl, SqL.of hr1, at_of (j := 3) rfl rfl, .ref N1, xg1, xh1, xd1, L, nv1, goal1, hs1, d1, rfl, enN hN1, eg1, eh1, ed1, gi1, sm1, fun H2 g2 => ?_⟩
          have hr2 := g2.lst hr1
          obtain ⟨_, kB, _, _⟩ := kitD (.bl (showsB L nv1 goal1 hs1 d1))
          refine ⟨_, rfl, _, _, _, _, _, rfl, .ty "bool", .base (.bl _), kit_ty kB, _, rfl, ?_⟩
          refine iteF ⟨_, rfl, _, rfl, r1, _, _, _, rfl, rfl, SqL.of hr2, at_of (j := 0) rfl rfl, _, rfl, r1, _, _, _, rfl, rfl, SqL.of hr2, at_of (j := 1) rfl rfl, _, rfl, r1, _, _, _, rfl, rfl, SqL.of hr2, at_of (j := 2) rfl rfl, _, rfl, r1, _, _, _, rfl, rfl, SqL.of hr2, at_of (j := 3) rfl rfl, .ref N1, xg1, xh1, xd1, L, nv1, goal1, hs1, d1, rfl, enN (g2.tup hN1), eg1.grow g2, eh1.grow g2, ed1.grow g2, gi1, sm1, fun H3 g3 => ?_⟩
          refine ⟨rfl, _, rfl, ?_⟩
          rw [decide_eq_true rfl]
          have g23 := g2.trans g3
          obtain ⟨q1, q2, q3, q4, q5, q6⟩ := stay g1'
          exact iteF ⟨_, _, _, rfl, g23.tup q1, q2.keep (fun xs h => g23.lst h) g23.tk0, q3.grow g23, q4.grow g23, g23.tup q5, g23.tup q6, (W1'.grow g23).more (by omega)⟩
      · exact kq _
end
end J1
set_option Elab.async false
set_option linter.all false
set_option maxRecDepth 100000
set_option maxHeartbeats 8000000
namespace J1
open PySem PySem.Spec PyProof.Rows L2 GxR GA RA RZ
theorem all_mk {l : PySem.W.OpenLaw} {w : World} {K : PySem.W.Frag} {h : Heap} {mg : Str → Option Value} {fa : Addr} (X : K.In h) (G : h.Ns mainGlobals mg) (hfa : mg "law" = some (.ref fa))
    {f0 : Addr} {od0 an0 : Option Addr} {sl0 : Array (Option Value)} {oc0 kV0 dc0 pm0 cd0 ct0 : Value}
    (a0 : PySem.W.nsIn K mainGlobals "is_integer" = some (some (.ref f0))) (l0 : K.lookup f0 = some ⟨oc0, od0, .func (PySem.W.fnOf "is_integer" "is_integer" (defArgs (top 6)) (defBody (top 6)) (defScope (top 6)) .none kV0 dc0 pm0 an0 cd0 ct0), sl0⟩) (c0 : PySem.W.codeIn K cd0 "is_integer" = true) (k0 : PySem.W.keepIn K (.ref f0) = true)
    {f1 : Addr} {od1 an1 : Option Addr} {sl1 : Array (Option Value)} {oc1 kV1 dc1 pm1 cd1 ct1 : Value}
    (a1 : PySem.W.nsIn K mainGlobals "is_between" = some (some (.ref f1))) (l1 : K.lookup f1 = some ⟨oc1, od1, .func (PySem.W.fnOf "is_between" "is_between" (defArgs (top 7)) (defBody (top 7)) (defScope (top 7)) .none kV1 dc1 pm1 an1 cd1 ct1), sl1⟩) (c1 : PySem.W.codeIn K cd1 "is_between" = true) (k1 : PySem.W.keepIn K (.ref f1) = true)
    {f2 : Addr} {od2 an2 : Option Addr} {sl2 : Array (Option Value)} {oc2 kV2 dc2 pm2 cd2 ct2 : Value}
    (a2 : PySem.W.nsIn K mainGlobals "is_tuple" = some (some (.ref f2))) (l2 : K.lookup f2 = some ⟨oc2, od2, .func (PySem.W.fnOf "is_tuple" "is_tuple" (defArgs (top 8)) (defBody (top 8)) (defScope (top 8)) .none kV2 dc2 pm2 an2 cd2 ct2), sl2⟩) (c2 : PySem.W.codeIn K cd2 "is_tuple" = true) (k2 : PySem.W.keepIn K (.ref f2) = true)
    {f3 : Addr} {od3 an3 : Option Addr} {sl3 : Array (Option Value)} {oc3 kV3 dc3 pm3 cd3 ct3 : Value}
    (a3 : PySem.W.nsIn K mainGlobals "is_form" = some (some (.ref f3))) (l3 : K.lookup f3 = some ⟨oc3, od3, .func (PySem.W.fnOf "is_form" "is_form" (defArgs (top 13)) (defBody (top 13)) (defScope (top 13)) .none kV3 dc3 pm3 an3 cd3 ct3), sl3⟩) (c3 : PySem.W.codeIn K cd3 "is_form" = true) (k3 : PySem.W.keepIn K (.ref f3) = true)
    {f4 : Addr} {od4 an4 : Option Addr} {sl4 : Array (Option Value)} {oc4 kV4 dc4 pm4 cd4 ct4 : Value}
    (a4 : PySem.W.nsIn K mainGlobals "is_atom" = some (some (.ref f4))) (l4 : K.lookup f4 = some ⟨oc4, od4, .func (PySem.W.fnOf "is_atom" "is_atom" (defArgs (top 14)) (defBody (top 14)) (defScope (top 14)) .none kV4 dc4 pm4 an4 cd4 ct4), sl4⟩) (c4 : PySem.W.codeIn K cd4 "is_atom" = true) (k4 : PySem.W.keepIn K (.ref f4) = true)
    {f5 : Addr} {od5 an5 : Option Addr} {sl5 : Array (Option Value)} {oc5 kV5 dc5 pm5 cd5 ct5 : Value}
    (a5 : PySem.W.nsIn K mainGlobals "is_coefficient" = some (some (.ref f5))) (l5 : K.lookup f5 = some ⟨oc5, od5, .func (PySem.W.fnOf "is_coefficient" "is_coefficient" (defArgs (top 15)) (defBody (top 15)) (defScope (top 15)) .none kV5 dc5 pm5 an5 cd5 ct5), sl5⟩) (c5 : PySem.W.codeIn K cd5 "is_coefficient" = true) (k5 : PySem.W.keepIn K (.ref f5) = true)
    {f6 : Addr} {od6 an6 : Option Addr} {sl6 : Array (Option Value)} {oc6 kV6 dc6 pm6 cd6 ct6 : Value}
    (a6 : PySem.W.nsIn K mainGlobals "is_ascending" = some (some (.ref f6))) (l6 : K.lookup f6 = some ⟨oc6, od6, .func (PySem.W.fnOf "is_ascending" "is_ascending" (defArgs (top 16)) (defBody (top 16)) (defScope (top 16)) .none kV6 dc6 pm6 an6 cd6 ct6), sl6⟩) (c6 : PySem.W.codeIn K cd6 "is_ascending" = true) (k6 : PySem.W.keepIn K (.ref f6) = true)
    {f7 : Addr} {od7 an7 : Option Addr} {sl7 : Array (Option Value)} {oc7 kV7 dc7 pm7 cd7 ct7 : Value}
    (a7 : PySem.W.nsIn K mainGlobals "combined" = some (some (.ref f7))) (l7 : K.lookup f7 = some ⟨oc7, od7, .func (PySem.W.fnOf "combined" "combined" (defArgs (top 17)) (defBody (top 17)) (defScope (top 17)) .none kV7 dc7 pm7 an7 cd7 ct7), sl7⟩) (c7 : PySem.W.codeIn K cd7 "combined" = true) (k7 : PySem.W.keepIn K (.ref f7) = true)
    {f8 : Addr} {od8 an8 : Option Addr} {sl8 : Array (Option Value)} {oc8 kV8 dc8 pm8 cd8 ct8 : Value}
    (a8 : PySem.W.nsIn K mainGlobals "need_parts" = some (some (.ref f8))) (l8 : K.lookup f8 = some ⟨oc8, od8, .func (PySem.W.fnOf "need_parts" "need_parts" (defArgs (top 23)) (defBody (top 23)) (defScope (top 23)) .none kV8 dc8 pm8 an8 cd8 ct8), sl8⟩) (c8 : PySem.W.codeIn K cd8 "need_parts" = true) (k8 : PySem.W.keepIn K (.ref f8) = true)
    {f9 : Addr} {od9 an9 : Option Addr} {sl9 : Array (Option Value)} {oc9 kV9 dc9 pm9 cd9 ct9 : Value}
    (a9 : PySem.W.nsIn K mainGlobals "_is_hint" = some (some (.ref f9))) (l9 : K.lookup f9 = some ⟨oc9, od9, .func (PySem.W.fnOf "_is_hint" "_is_hint" (defArgs (top 24)) (defBody (top 24)) (defScope (top 24)) .none kV9 dc9 pm9 an9 cd9 ct9), sl9⟩) (c9 : PySem.W.codeIn K cd9 "_is_hint" = true) (k9 : PySem.W.keepIn K (.ref f9) = true)
    {f10 : Addr} {od10 an10 : Option Addr} {sl10 : Array (Option Value)} {oc10 kV10 dc10 pm10 cd10 ct10 : Value}
    (a10 : PySem.W.nsIn K mainGlobals "_is_origin" = some (some (.ref f10))) (l10 : K.lookup f10 = some ⟨oc10, od10, .func (PySem.W.fnOf "_is_origin" "_is_origin" (defArgs (top 25)) (defBody (top 25)) (defScope (top 25)) .none kV10 dc10 pm10 an10 cd10 ct10), sl10⟩) (c10 : PySem.W.codeIn K cd10 "_is_origin" = true) (k10 : PySem.W.keepIn K (.ref f10) = true)
    {f11 : Addr} {od11 an11 : Option Addr} {sl11 : Array (Option Value)} {oc11 kV11 dc11 pm11 cd11 ct11 : Value}
    (a11 : PySem.W.nsIn K mainGlobals "is_never_below" = some (some (.ref f11))) (l11 : K.lookup f11 = some ⟨oc11, od11, .func (PySem.W.fnOf "is_never_below" "is_never_below" (defArgs (top 26)) (defBody (top 26)) (defScope (top 26)) .none kV11 dc11 pm11 an11 cd11 ct11), sl11⟩) (c11 : PySem.W.codeIn K cd11 "is_never_below" = true) (k11 : PySem.W.keepIn K (.ref f11) = true)
    {f12 : Addr} {od12 an12 : Option Addr} {sl12 : Array (Option Value)} {oc12 kV12 dc12 pm12 cd12 ct12 : Value}
    (a12 : PySem.W.nsIn K mainGlobals "shows" = some (some (.ref f12))) (l12 : K.lookup f12 = some ⟨oc12, od12, .func (PySem.W.fnOf "shows" "shows" (defArgs (top 27)) (defBody (top 27)) (defScope (top 27)) .none kV12 dc12 pm12 an12 cd12 ct12), sl12⟩) (c12 : PySem.W.codeIn K cd12 "shows" = true) (k12 : PySem.W.keepIn K (.ref f12) = true)
    {f13 : Addr} {od13 an13 : Option Addr} {sl13 : Array (Option Value)} {oc13 kV13 dc13 pm13 cd13 ct13 : Value}
    (a13 : PySem.W.nsIn K mainGlobals "_is_showing" = some (some (.ref f13))) (l13 : K.lookup f13 = some ⟨oc13, od13, .func (PySem.W.fnOf "_is_showing" "_is_showing" (defArgs (top 28)) (defBody (top 28)) (defScope (top 28)) .none kV13 dc13 pm13 an13 cd13 ct13), sl13⟩) (c13 : PySem.W.codeIn K cd13 "_is_showing" = true) (k13 : PySem.W.keepIn K (.ref f13) = true)
    {f14 : Addr} {od14 an14 : Option Addr} {sl14 : Array (Option Value)} {oc14 kV14 dc14 pm14 cd14 ct14 : Value}
    (a14 : PySem.W.nsIn K mainGlobals "is_shown" = some (some (.ref f14))) (l14 : K.lookup f14 = some ⟨oc14, od14, .func (PySem.W.fnOf "is_shown" "is_shown" (defArgs (top 30)) (defBody (top 30)) (defScope (top 30)) .none kV14 dc14 pm14 an14 cd14 ct14), sl14⟩) (c14 : PySem.W.codeIn K cd14 "is_shown" = true) (k14 : PySem.W.keepIn K (.ref f14) = true)
    {f15 : Addr} {od15 an15 : Option Addr} {sl15 : Array (Option Value)} {oc15 kV15 dc15 pm15 cd15 ct15 : Value}
    (a15 : PySem.W.nsIn K mainGlobals "_law_well" = some (some (.ref f15))) (l15 : K.lookup f15 = some ⟨oc15, od15, .func (PySem.W.fnOf "_law_well" "_law_well" (defArgs (top 32)) (defBody (top 32)) (defScope (top 32)) .none kV15 dc15 pm15 an15 cd15 ct15), sl15⟩) (c15 : PySem.W.codeIn K cd15 "_law_well" = true) (k15 : PySem.W.keepIn K (.ref f15) = true)
    {f16 : Addr} {od16 an16 : Option Addr} {sl16 : Array (Option Value)} {oc16 kV16 dc16 pm16 cd16 ct16 : Value}
    (a16 : PySem.W.nsIn K mainGlobals "_law_draw" = some (some (.ref f16))) (l16 : K.lookup f16 = some ⟨oc16, od16, .func (PySem.W.fnOf "_law_draw" "_law_draw" (defArgs (top 33)) (defBody (top 33)) (defScope (top 33)) .none kV16 dc16 pm16 an16 cd16 ct16), sl16⟩) (c16 : PySem.W.codeIn K cd16 "_law_draw" = true) (k16 : PySem.W.keepIn K (.ref f16) = true)
    {f17 : Addr} {od17 an17 : Option Addr} {sl17 : Array (Option Value)} {oc17 kV17 dc17 pm17 cd17 ct17 : Value}
    (a17 : PySem.W.nsIn K mainGlobals "_law_int" = some (some (.ref f17))) (l17 : K.lookup f17 = some ⟨oc17, od17, .func (PySem.W.fnOf "_law_int" "_law_int" (defArgs (top 34)) (defBody (top 34)) (defScope (top 34)) .none kV17 dc17 pm17 an17 cd17 ct17), sl17⟩) (c17 : PySem.W.codeIn K cd17 "_law_int" = true) (k17 : PySem.W.keepIn K (.ref f17) = true)
    {f18 : Addr} {od18 an18 : Option Addr} {sl18 : Array (Option Value)} {oc18 kV18 dc18 pm18 cd18 ct18 : Value}
    (a18 : PySem.W.nsIn K mainGlobals "_law_rest" = some (some (.ref f18))) (l18 : K.lookup f18 = some ⟨oc18, od18, .func (PySem.W.fnOf "_law_rest" "_law_rest" (defArgs (top 35)) (defBody (top 35)) (defScope (top 35)) .none kV18 dc18 pm18 an18 cd18 ct18), sl18⟩) (c18 : PySem.W.codeIn K cd18 "_law_rest" = true) (k18 : PySem.W.keepIn K (.ref f18) = true)
    {f19 : Addr} {od19 an19 : Option Addr} {sl19 : Array (Option Value)} {oc19 kV19 dc19 pm19 cd19 ct19 : Value}
    (a19 : PySem.W.nsIn K mainGlobals "_law_shows" = some (some (.ref f19))) (l19 : K.lookup f19 = some ⟨oc19, od19, .func (PySem.W.fnOf "_law_shows" "_law_shows" (defArgs (top 36)) (defBody (top 36)) (defScope (top 36)) .none kV19 dc19 pm19 an19 cd19 ct19), sl19⟩) (c19 : PySem.W.codeIn K cd19 "_law_shows" = true) (k19 : PySem.W.keepIn K (.ref f19) = true)
    {f20 : Addr} {od20 an20 : Option Addr} {sl20 : Array (Option Value)} {oc20 kV20 dc20 pm20 cd20 ct20 : Value}
    (a20 : PySem.W.nsIn K mainGlobals "_law_by" = some (some (.ref f20))) (l20 : K.lookup f20 = some ⟨oc20, od20, .func (PySem.W.fnOf "_law_by" "_law_by" (defArgs (top 37)) (defBody (top 37)) (defScope (top 37)) .none kV20 dc20 pm20 an20 cd20 ct20), sl20⟩) (c20 : PySem.W.codeIn K cd20 "_law_by" = true) (k20 : PySem.W.keepIn K (.ref f20) = true)
    {f21 : Addr} {od21 an21 : Option Addr} {sl21 : Array (Option Value)} {oc21 kV21 dc21 pm21 cd21 ct21 : Value}
    (a21 : PySem.W.nsIn K mainGlobals "_law_atoms" = some (some (.ref f21))) (l21 : K.lookup f21 = some ⟨oc21, od21, .func (PySem.W.fnOf "_law_atoms" "_law_atoms" (defArgs (top 38)) (defBody (top 38)) (defScope (top 38)) .none kV21 dc21 pm21 an21 cd21 ct21), sl21⟩) (c21 : PySem.W.codeIn K cd21 "_law_atoms" = true) (k21 : PySem.W.keepIn K (.ref f21) = true)
    {f22 : Addr} {od22 an22 : Option Addr} {sl22 : Array (Option Value)} {oc22 kV22 dc22 pm22 cd22 ct22 : Value}
    (a22 : PySem.W.nsIn K mainGlobals "_law_form" = some (some (.ref f22))) (l22 : K.lookup f22 = some ⟨oc22, od22, .func (PySem.W.fnOf "_law_form" "_law_form" (defArgs (top 39)) (defBody (top 39)) (defScope (top 39)) .none kV22 dc22 pm22 an22 cd22 ct22), sl22⟩) (c22 : PySem.W.codeIn K cd22 "_law_form" = true) (k22 : PySem.W.keepIn K (.ref f22) = true)
    {f23 : Addr} {od23 an23 : Option Addr} {sl23 : Array (Option Value)} {oc23 kV23 dc23 pm23 cd23 ct23 : Value}
    (a23 : PySem.W.nsIn K mainGlobals "_law_origin" = some (some (.ref f23))) (l23 : K.lookup f23 = some ⟨oc23, od23, .func (PySem.W.fnOf "_law_origin" "_law_origin" (defArgs (top 40)) (defBody (top 40)) (defScope (top 40)) .none kV23 dc23 pm23 an23 cd23 ct23), sl23⟩) (c23 : PySem.W.codeIn K cd23 "_law_origin" = true) (k23 : PySem.W.keepIn K (.ref f23) = true)
    {f24 : Addr} {od24 an24 : Option Addr} {sl24 : Array (Option Value)} {oc24 kV24 dc24 pm24 cd24 ct24 : Value}
    (a24 : PySem.W.nsIn K mainGlobals "_law_sum_of" = some (some (.ref f24))) (l24 : K.lookup f24 = some ⟨oc24, od24, .func (PySem.W.fnOf "_law_sum_of" "_law_sum_of" (defArgs (top 41)) (defBody (top 41)) (defScope (top 41)) .none kV24 dc24 pm24 an24 cd24 ct24), sl24⟩) (c24 : PySem.W.codeIn K cd24 "_law_sum_of" = true) (k24 : PySem.W.keepIn K (.ref f24) = true)
    {f25 : Addr} {od25 an25 : Option Addr} {sl25 : Array (Option Value)} {oc25 kV25 dc25 pm25 cd25 ct25 : Value}
    (a25 : PySem.W.nsIn K mainGlobals "_law_made" = some (some (.ref f25))) (l25 : K.lookup f25 = some ⟨oc25, od25, .func (PySem.W.fnOf "_law_made" "_law_made" (defArgs (top 42)) (defBody (top 42)) (defScope (top 42)) .none kV25 dc25 pm25 an25 cd25 ct25), sl25⟩) (c25 : PySem.W.codeIn K cd25 "_law_made" = true) (k25 : PySem.W.keepIn K (.ref f25) = true)
    {f26 : Addr} {od26 an26 : Option Addr} {sl26 : Array (Option Value)} {oc26 kV26 dc26 pm26 cd26 ct26 : Value}
    (a26 : PySem.W.nsIn K mainGlobals "_law_turned" = some (some (.ref f26))) (l26 : K.lookup f26 = some ⟨oc26, od26, .func (PySem.W.fnOf "_law_turned" "_law_turned" (defArgs (top 43)) (defBody (top 43)) (defScope (top 43)) .none kV26 dc26 pm26 an26 cd26 ct26), sl26⟩) (c26 : PySem.W.codeIn K cd26 "_law_turned" = true) (k26 : PySem.W.keepIn K (.ref f26) = true)
    {f27 : Addr} {od27 an27 : Option Addr} {sl27 : Array (Option Value)} {oc27 kV27 dc27 pm27 cd27 ct27 : Value}
    (a27 : PySem.W.nsIn K mainGlobals "law" = some (some (.ref f27))) (l27 : K.lookup f27 = some ⟨oc27, od27, .func (PySem.W.fnOf "law" "law" (defArgs (top 44)) (defBody (top 44)) (defScope (top 44)) .none kV27 dc27 pm27 an27 cd27 ct27), sl27⟩) (c27 : PySem.W.codeIn K cd27 "law" = true) (k27 : PySem.W.keepIn K (.ref f27) = true)
    (zisinstance : PySem.W.nsIn K mainGlobals "isinstance" = some none)
    (zint : PySem.W.nsIn K mainGlobals "int" = some none)
    (zbool : PySem.W.nsIn K mainGlobals "bool" = some none)
    (ztuple : PySem.W.nsIn K mainGlobals "tuple" = some none)
    (zstr : PySem.W.nsIn K mainGlobals "str" = some none)
    (zlen : PySem.W.nsIn K mainGlobals "len" = some none)
    (zall : PySem.W.nsIn K mainGlobals "all" = some none)
    (zzip : PySem.W.nsIn K mainGlobals "zip" = some none)
    (zrange : PySem.W.nsIn K mainGlobals "range" = some none)
    (zlist : PySem.W.nsIn K mainGlobals "list" = some none)
    (zsorted : PySem.W.nsIn K mainGlobals "sorted" = some none)
    (zabs : PySem.W.nsIn K mainGlobals "abs" = some none)
    {tMOST_VARIABLE : _} (mMOST_VARIABLE : PySem.W.nsIn K mainGlobals "MOST_VARIABLE" = some (some (.int 399 tMOST_VARIABLE)))
    {tMOST_ROW : _} (mMOST_ROW : PySem.W.nsIn K mainGlobals "MOST_ROW" = some (some (.int 239 tMOST_ROW)))
    {tMOST_NUMBER : _} (mMOST_NUMBER : PySem.W.nsIn K mainGlobals "MOST_NUMBER" = some (some (.int 12 tMOST_NUMBER)))
    {tMOST_NEVER : _} (mMOST_NEVER : PySem.W.nsIn K mainGlobals "MOST_NEVER" = some (some (.int 12 tMOST_NEVER)))
    {tMOST_HINTS : _} (mMOST_HINTS : PySem.W.nsIn K mainGlobals "MOST_HINTS" = some (some (.int 8000 tMOST_HINTS)))
    {tMOST_ORIGIN_ROW : _} (mMOST_ORIGIN_ROW : PySem.W.nsIn K mainGlobals "MOST_ORIGIN_ROW" = some (some (.int 239 tMOST_ORIGIN_ROW)))
    {tMOST_ORIGIN_CLAIM : _} (mMOST_ORIGIN_CLAIM : PySem.W.nsIn K mainGlobals "MOST_ORIGIN_CLAIM" = some (some (.int 29 tMOST_ORIGIN_CLAIM)))
     :
    ∃ fd : FuncData, (∀ (s : Shared) (v : Value), BindsTo s fd ⟨[v], []⟩ [("_law_script", v)]) ∧ ∀ base : Heap, K.In base → base.Ns mainGlobals mg → FnOk l.prog w K mg base CX0 8 fa fd ["_law_script"] (spLw0 K) := by
  have e := hfa.symm.trans (PySem.W.mg_of X G a27)
  cases e
  have F0 := fun_mk (st := top 6) l0 c0 k0
  have B0 := F0.binds (ps := ["thing"]) fun _ _ _ _ _ _ us hl => match us, hl with | [_], _ => rfl
  have D0 : Df K mg "is_integer" ["thing"] f0 _ := ⟨PySem.W.mg_of X G a0, k0, B0⟩
  have F1 := fun_mk (st := top 7) l1 c1 k1
  have B1 := F1.binds (ps := ["thing", "least", "most"]) fun _ _ _ _ _ _ us hl => match us, hl with | [_, _, _], _ => rfl
  have D1 : Df K mg "is_between" ["thing", "least", "most"] f1 _ := ⟨PySem.W.mg_of X G a1, k1, B1⟩
  have F2 := fun_mk (st := top 8) l2 c2 k2
  have B2 := F2.binds (ps := ["thing", "least", "most"]) fun _ _ _ _ _ _ us hl => match us, hl with | [_, _, _], _ => rfl
  have D2 : Df K mg "is_tuple" ["thing", "least", "most"] f2 _ := ⟨PySem.W.mg_of X G a2, k2, B2⟩
  have F3 := fun_mk (st := top 13) l3 c3 k3
  have B3 := F3.binds (ps := ["thing"]) fun _ _ _ _ _ _ us hl => match us, hl with | [_], _ => rfl
  have D3 : Df K mg "is_form" ["thing"] f3 _ := ⟨PySem.W.mg_of X G a3, k3, B3⟩
  have F4 := fun_mk (st := top 14) l4 c4 k4
  have B4 := F4.binds (ps := ["thing"]) fun _ _ _ _ _ _ us hl => match us, hl with | [_], _ => rfl
  have D4 : Df K mg "is_atom" ["thing"] f4 _ := ⟨PySem.W.mg_of X G a4, k4, B4⟩
  have F5 := fun_mk (st := top 15) l5 c5 k5
  have B5 := F5.binds (ps := ["thing"]) fun _ _ _ _ _ _ us hl => match us, hl with | [_], _ => rfl
  have D5 : Df K mg "is_coefficient" ["thing"] f5 _ := ⟨PySem.W.mg_of X G a5, k5, B5⟩
  have F6 := fun_mk (st := top 16) l6 c6 k6
  have B6 := F6.binds (ps := ["keys"]) fun _ _ _ _ _ _ us hl => match us, hl with | [_], _ => rfl
  have D6 : Df K mg "is_ascending" ["keys"] f6 _ := ⟨PySem.W.mg_of X G a6, k6, B6⟩
  have F7 := fun_mk (st := top 17) l7 c7 k7
  have B7 := F7.binds (ps := ["parts"]) fun _ _ _ _ _ _ us hl => match us, hl with | [_], _ => rfl
  have D7 : Df K mg "combined" ["parts"] f7 _ := ⟨PySem.W.mg_of X G a7, k7, B7⟩
  have F8 := fun_mk (st := top 23) l8 c8 k8
  have B8 := F8.binds (ps := ["never", "goal", "hints"]) fun _ _ _ _ _ _ us hl => match us, hl with | [_, _, _], _ => rfl
  have D8 : Df K mg "need_parts" ["never", "goal", "hints"] f8 _ := ⟨PySem.W.mg_of X G a8, k8, B8⟩
  have F9 := fun_mk (st := top 24) l9 c9 k9
  have B9 := F9.binds (ps := ["thing"]) fun _ _ _ _ _ _ us hl => match us, hl with | [_], _ => rfl
  have D9 : Df K mg "_is_hint" ["thing"] f9 _ := ⟨PySem.W.mg_of X G a9, k9, B9⟩
  have F10 := fun_mk (st := top 25) l10 c10 k10
  have B10 := F10.binds (ps := ["thing"]) fun _ _ _ _ _ _ us hl => match us, hl with | [_], _ => rfl
  have D10 : Df K mg "_is_origin" ["thing"] f10 _ := ⟨PySem.W.mg_of X G a10, k10, B10⟩
  have F11 := fun_mk (st := top 26) l11 c11 k11
  have B11 := F11.binds (ps := ["never", "atom"]) fun _ _ _ _ _ _ us hl => match us, hl with | [_, _], _ => rfl
  have D11 : Df K mg "is_never_below" ["never", "atom"] f11 _ := ⟨PySem.W.mg_of X G a11, k11, B11⟩
  have F12 := fun_mk (st := top 27) l12 c12 k12
  have B12 := F12.binds (ps := ["never", "goal", "hints", "thing"]) fun _ _ _ _ _ _ us hl => match us, hl with | [_, _, _, _], _ => rfl
  have D12 : Df K mg "shows" ["never", "goal", "hints", "thing"] f12 _ := ⟨PySem.W.mg_of X G a12, k12, B12⟩
  have F13 := fun_mk (st := top 28) l13 c13 k13
  have B13 := F13.binds (ps := ["thing", "hints"]) fun _ _ _ _ _ _ us hl => match us, hl with | [_, _], _ => rfl
  have D13 : Df K mg "_is_showing" ["thing", "hints"] f13 _ := ⟨PySem.W.mg_of X G a13, k13, B13⟩
  have F14 := fun_mk (st := top 30) l14 c14 k14
  have B14 := F14.binds (ps := ["never", "goal", "hints", "thing"]) fun _ _ _ _ _ _ us hl => match us, hl with | [_, _, _, _], _ => rfl
  have D14 : Df K mg "is_shown" ["never", "goal", "hints", "thing"] f14 _ := ⟨PySem.W.mg_of X G a14, k14, B14⟩
  have F15 := fun_mk (st := top 32) l15 c15 k15
  have B15 := F15.binds (ps := ["_law_script", "_law_at"]) fun _ _ _ _ _ _ us hl => match us, hl with | [_, _], _ => rfl
  have D15 : Df K mg "_law_well" ["_law_script", "_law_at"] f15 _ := ⟨PySem.W.mg_of X G a15, k15, B15⟩
  have F16 := fun_mk (st := top 33) l16 c16 k16
  have B16 := F16.binds (ps := ["_law_well_here", "_law_many"]) fun _ _ _ _ _ _ us hl => match us, hl with | [_, _], _ => rfl
  have D16 : Df K mg "_law_draw" ["_law_well_here", "_law_many"] f16 _ := ⟨PySem.W.mg_of X G a16, k16, B16⟩
  have F17 := fun_mk (st := top 34) l17 c17 k17
  have B17 := F17.binds (ps := ["_law_x"]) fun _ _ _ _ _ _ us hl => match us, hl with | [_], _ => rfl
  have D17 : Df K mg "_law_int" ["_law_x"] f17 _ := ⟨PySem.W.mg_of X G a17, k17, B17⟩
  have F18 := fun_mk (st := top 35) l18 c18 k18
  have B18 := F18.binds (ps := ["_law_goal", "_law_hints", "_law_scale", "_law_multipliers"]) fun _ _ _ _ _ _ us hl => match us, hl with | [_, _, _, _], _ => rfl
  have D18 : Df K mg "_law_rest" ["_law_goal", "_law_hints", "_law_scale", "_law_multipliers"] f18 _ := ⟨PySem.W.mg_of X G a18, k18, B18⟩
  have F19 := fun_mk (st := top 36) l19 c19 k19
  have B19 := F19.binds (ps := ["_law_never", "_law_goal", "_law_hints", "_law_thing"]) fun _ _ _ _ _ _ us hl => match us, hl with | [_, _, _, _], _ => rfl
  have D19 : Df K mg "_law_shows" ["_law_never", "_law_goal", "_law_hints", "_law_thing"] f19 _ := ⟨PySem.W.mg_of X G a19, k19, B19⟩
  have F20 := fun_mk (st := top 37) l20 c20 k20
  have B20 := F20.binds (ps := ["_law_well_here"]) fun _ _ _ _ _ _ us hl => match us, hl with | [_], _ => rfl
  have D20 : Df K mg "_law_by" ["_law_well_here"] f20 _ := ⟨PySem.W.mg_of X G a20, k20, B20⟩
  have F21 := fun_mk (st := top 38) l21 c21 k21
  have B21 := F21.binds (ps := ["_law_well_here"]) fun _ _ _ _ _ _ us hl => match us, hl with | [_], _ => rfl
  have D21 : Df K mg "_law_atoms" ["_law_well_here"] f21 _ := ⟨PySem.W.mg_of X G a21, k21, B21⟩
  have F22 := fun_mk (st := top 39) l22 c22 k22
  have B22 := F22.binds (ps := ["_law_well_here", "_law_atoms_here"]) fun _ _ _ _ _ _ us hl => match us, hl with | [_, _], _ => rfl
  have D22 : Df K mg "_law_form" ["_law_well_here", "_law_atoms_here"] f22 _ := ⟨PySem.W.mg_of X G a22, k22, B22⟩
  have F23 := fun_mk (st := top 40) l23 c23 k23
  have B23 := F23.binds (ps := ["_law_well_here"]) fun _ _ _ _ _ _ us hl => match us, hl with | [_], _ => rfl
  have D23 : Df K mg "_law_origin" ["_law_well_here"] f23 _ := ⟨PySem.W.mg_of X G a23, k23, B23⟩
  have F24 := fun_mk (st := top 41) l24 c24 k24
  have B24 := F24.binds (ps := ["_law_const", "_law_sums"]) fun _ _ _ _ _ _ us hl => match us, hl with | [_, _], _ => rfl
  have D24 : Df K mg "_law_sum_of" ["_law_const", "_law_sums"] f24 _ := ⟨PySem.W.mg_of X G a24, k24, B24⟩
  have F25 := fun_mk (st := top 42) l25 c25 k25
  have B25 := F25.binds (ps := ["_law_well_here", "_law_never", "_law_atoms_here"]) fun _ _ _ _ _ _ us hl => match us, hl with | [_, _, _], _ => rfl
  have D25 : Df K mg "_law_made" ["_law_well_here", "_law_never", "_law_atoms_here"] f25 _ := ⟨PySem.W.mg_of X G a25, k25, B25⟩
  have F26 := fun_mk (st := top 43) l26 c26 k26
  have B26 := F26.binds (ps := ["_law_well_here", "_law_never", "_law_goal", "_law_hints", "_law_showing", "_law_atoms_here"]) fun _ _ _ _ _ _ us hl => match us, hl with | [_, _, _, _, _, _], _ => rfl
  have D26 : Df K mg "_law_turned" ["_law_well_here", "_law_never", "_law_goal", "_law_hints", "_law_showing", "_law_atoms_here"] f26 _ := ⟨PySem.W.mg_of X G a26, k26, B26⟩
  have F27 := fun_mk (st := top 44) l27 c27 k27
  have g_isinstance := PySem.W.mg_none_of X G zisinstance
  have g_int := PySem.W.mg_none_of X G zint
  have g_bool := PySem.W.mg_none_of X G zbool
  have g_tuple := PySem.W.mg_none_of X G ztuple
  have g_str := PySem.W.mg_none_of X G zstr
  have g_len := PySem.W.mg_none_of X G zlen
  have g_all := PySem.W.mg_none_of X G zall
  have g_zip := PySem.W.mg_none_of X G zzip
  have g_range := PySem.W.mg_none_of X G zrange
  have g_list := PySem.W.mg_none_of X G zlist
  have g_sorted := PySem.W.mg_none_of X G zsorted
  have g_abs := PySem.W.mg_none_of X G zabs
  have vMOST_VARIABLE : ∃ t, mg "MOST_VARIABLE" = some (.int 399 t) := ⟨_, PySem.W.mg_of X G mMOST_VARIABLE⟩
  have vMOST_ROW : ∃ t, mg "MOST_ROW" = some (.int 239 t) := ⟨_, PySem.W.mg_of X G mMOST_ROW⟩
  have vMOST_NUMBER : ∃ t, mg "MOST_NUMBER" = some (.int 12 t) := ⟨_, PySem.W.mg_of X G mMOST_NUMBER⟩
  have vMOST_NEVER : ∃ t, mg "MOST_NEVER" = some (.int 12 t) := ⟨_, PySem.W.mg_of X G mMOST_NEVER⟩
  have vMOST_HINTS : ∃ t, mg "MOST_HINTS" = some (.int 8000 t) := ⟨_, PySem.W.mg_of X G mMOST_HINTS⟩
  have vMOST_ORIGIN_ROW : ∃ t, mg "MOST_ORIGIN_ROW" = some (.int 239 t) := ⟨_, PySem.W.mg_of X G mMOST_ORIGIN_ROW⟩
  have vMOST_ORIGIN_CLAIM : ∃ t, mg "MOST_ORIGIN_CLAIM" = some (.int 29 t) := ⟨_, PySem.W.mg_of X G mMOST_ORIGIN_CLAIM⟩
  have N : Gn K mg := ⟨g_isinstance, g_int, g_bool, g_tuple, g_str, g_len, g_all⟩
  have M : Gd mg := ⟨g_len, g_abs, g_int, g_list, g_range, g_tuple⟩
  have Z : Gk mg := ⟨vMOST_VARIABLE, vMOST_ROW, vMOST_NUMBER, vMOST_NEVER, vMOST_HINTS, vMOST_ORIGIN_ROW, vMOST_ORIGIN_CLAIM, g_zip, g_list, g_sorted⟩
  refine ⟨PySem.W.fnOf "law" "law" (defArgs (top 44)) (defBody (top 44)) (defScope (top 44)) .none kV27 dc27 pm27 an27 cd27 ct27, fun s v => .of_eq rfl, fun base _ _ => ?_⟩
  have G0_0 := ok_int (P := l.prog) (w := w) (base := base) (mg := mg) (K := K) F0 N
  have G1_1 := ok_bet (P := l.prog) (w := w) (base := base) (mg := mg) (K := K) F1 G0_0 D0
  have G2_2 := ok_tup (P := l.prog) (w := w) (base := base) (mg := mg) (K := K) F2 N
  have G4_3 := ok_atom (P := l.prog) (w := w) (base := base) (mg := mg) (K := K) F4 Z G1_1 D1 G2_2 D2
  have G5_4 := ok_coef (P := l.prog) (w := w) (base := base) (mg := mg) (K := K) F5 G0_0 D0
  have G6_5 := ok_ascT (P := l.prog) (w := w) (base := base) (mg := mg) (K := K) F6 N Z
  have G6_6 := ok_ascL (P := l.prog) (w := w) (base := base) (mg := mg) (K := K) F6 N Z
  have G3_7 := ok_form (P := l.prog) (w := w) (base := base) (mg := mg) (K := K) F3 N G2_2 D2 G0_0 D0 G4_3 D4 G5_4 D5 G6_6 D6
  have G10_8 := ok_orig (P := l.prog) (w := w) (base := base) (mg := mg) (K := K) F10 Z G1_1 D1 G2_2 D2
  have G9_9 := ok_hint (P := l.prog) (w := w) (base := base) (mg := mg) (K := K) F9 N G2_2 D2 G3_7 D3 G10_8 D10
  have G8_10 := ok_need (P := l.prog) (w := w) (base := base) (mg := mg) (K := K) F8 N Z G2_2 D2 G1_1 D1 G6_5 D6 G3_7 D3 G9_9 D9
  have G7_11 := ok_comb (P := l.prog) (w := w) (base := base) (mg := mg) (K := K) F7 N Z
  have G13_12 := ok_showing (P := l.prog) (w := w) (base := base) (mg := mg) (K := K) F13 N Z G2_2 D2 G0_0 D0
  have G11_13 := ok_nb (P := l.prog) (w := w) (base := base) (mg := mg) (K := K) F11
  have G12_14 := ok_shows (P := l.prog) (w := w) (base := base) (mg := mg) (K := K) F12 N Z G13_12 D13 G7_11 D7 G11_13 D11
  have G14_15 := ok_shown (P := l.prog) (w := w) (base := base) (mg := mg) (K := K) F14 G8_10 D8 G12_14 D12
  have G17_16 := ok_lint (P := l.prog) (w := w) (base := base) (mg := mg) (K := K) F17 N
  have G18_17 := ok_rest (P := l.prog) (w := w) (base := base) (mg := mg) (K := K) F18 Z
  have G19_18 := ok_lshows (P := l.prog) (w := w) (base := base) (mg := mg) (K := K) F19 N Z G17_16 D17 G18_17 D18
  have G16_19 := ok_draw (P := l.prog) (w := w) (base := base) (mg := mg) (K := K) F16 M
  have G20_20 := ok_by (P := l.prog) (w := w) (base := base) (mg := mg) (K := K) F20 G16_19 D16
  have G23_21 := ok_og (P := l.prog) (w := w) (base := base) (mg := mg) (K := K) F23 G16_19 D16
  have G24_22 := ok_so (P := l.prog) (w := w) (base := base) (mg := mg) (K := K) F24 M Z
  have G22_23 := ok_fm (P := l.prog) (w := w) (base := base) (mg := mg) (K := K) F22 M G16_19 D16 G20_20 D20
  have G21_24 := ok_al (P := l.prog) (w := w) (base := base) (mg := mg) (K := K) F21 M Z G16_19 D16
  have G25_25 := ok_made (P := l.prog) (w := w) (base := base) (mg := mg) (K := K) F25 M G16_19 D16 G22_23 D22 G23_21 D23 G20_20 D20 G18_17 D18 G24_22 D24
  have G26_26 := ok_turned (P := l.prog) (w := w) (base := base) (mg := mg) (K := K) F26 M Z G16_19 D16 G20_20 D20
  have G15_27 := ok_well (P := l.prog) (w := w) (base := base) (mg := mg) (K := K) F15 M
  exact ok_law (P := l.prog) (w := w) (base := base) (mg := mg) (K := K) F27 N M G15_27 D15 G16_19 D16 G21_24 D21 G25_25 D25 G14_15 D14 G26_26 D26 G19_18 D19
theorem walk {l : PySem.W.OpenLaw} {q : Program} {loose : List Str} {XP : (Str → Option Value) → Heap → Prop} {YP : World → Heap → Prop} {d : DefRec} {K : Params → PySem.W.Frag} (hn : l.most = some 63) (hdf : d.params.defaults = [])
    (hY : ∀ (w : World) (h : Heap), YP w h → (K w.params).In h)
    (F : ∀ (w : World) (mg : Str → Option Value) (fa : Addr) (h : Heap), (K w.params).In h → h.Ns mainGlobals mg → mg d.name = some (.ref fa) →
      ∃ fd : FuncData, (∀ (s : Shared) (u : Value), BindsTo s fd ⟨[u], []⟩ [("_law_script", u)]) ∧ ∀ base : Heap, (K w.params).In base → base.Ns mainGlobals mg → FnOk l.prog w (K w.params) mg base CX0 8 fa fd ["_law_script"] (spLw0 (K w.params))) :
    PySem.W.WalkO q loose XP YP l.row.toRowW d [] (fun f vs => PySem.call f vs) :=
  L2.walk_of (n := 63) (k := 8) (x := "_law_script") (CX := fun _ => CX0) (sp := fun w => spLw0 (K w.params)) hn (by decide) hdf ⟨rfl, by decide, by decide⟩ hY F (fun _ _ a ns hl _ hS => ⟨a, ns, rfl, hS, fun _ => rfl⟩) fun _ _ _ _ _ z => z
end J1
set_option Elab.async false
set_option linter.all false
open PySem PySem.W PyProof.Rows
set_option maxRecDepth 100000 in
set_option maxHeartbeats 0 in
theorem PySem.Challenge.cw_juststeps_k34_showings_judged_holds : PySem.Challenge.rw_juststeps_k34_showings_judged.Holds := by
  w_on; o_law; k_head; (case hw => w_witness2)
  k_fill
  refine J1.walk (l := PySem.Challenge.rw_juststeps_k34_showings_judged) rfl rfl (fun w h Y => PySem.W.kIn_of Y) ?F
  case F =>
    intro w mg fa h KX G hmg
    refine' J1.all_mk KX G hmg ?a0 ?l0 ?c0 ?k0 ?a1 ?l1 ?c1 ?k1 ?a2 ?l2 ?c2 ?k2 ?a3 ?l3 ?c3 ?k3 ?a4 ?l4 ?c4 ?k4 ?a5 ?l5 ?c5 ?k5 ?a6 ?l6 ?c6 ?k6 ?a7 ?l7 ?c7 ?k7 ?a8 ?l8 ?c8 ?k8 ?a9 ?l9 ?c9 ?k9 ?a10 ?l10 ?c10 ?k10 ?a11 ?l11 ?c11 ?k11 ?a12 ?l12 ?c12 ?k12 ?a13 ?l13 ?c13 ?k13 ?a14 ?l14 ?c14 ?k14 ?a15 ?l15 ?c15 ?k15 ?a16 ?l16 ?c16 ?k16 ?a17 ?l17 ?c17 ?k17 ?a18 ?l18 ?c18 ?k18 ?a19 ?l19 ?c19 ?k19 ?a20 ?l20 ?c20 ?k20 ?a21 ?l21 ?c21 ?k21 ?a22 ?l22 ?c22 ?k22 ?a23 ?l23 ?c23 ?k23 ?a24 ?l24 ?c24 ?k24 ?a25 ?l25 ?c25 ?k25 ?a26 ?l26 ?c26 ?k26 ?a27 ?l27 ?c27 ?k27 ?zisinstance ?zint ?zbool ?ztuple ?zstr ?zlen ?zall ?zzip ?zrange ?zlist ?zsorted ?zabs ?mMOST_VARIABLE ?mMOST_ROW ?mMOST_NUMBER ?mMOST_NEVER ?mMOST_HINTS ?mMOST_ORIGIN_ROW ?mMOST_ORIGIN_CLAIM
    (case a0 => k_is)
    (case l0 => k_is)
    (case c0 => k_is)
    (case k0 => k_is)
    (case a1 => k_is)
    (case l1 => k_is)
    (case c1 => k_is)
    (case k1 => k_is)
    (case a2 => k_is)
    (case l2 => k_is)
    (case c2 => k_is)
    (case k2 => k_is)
    (case a3 => k_is)
    (case l3 => k_is)
    (case c3 => k_is)
    (case k3 => k_is)
    (case a4 => k_is)
    (case l4 => k_is)
    (case c4 => k_is)
    (case k4 => k_is)
    (case a5 => k_is)
    (case l5 => k_is)
    (case c5 => k_is)
    (case k5 => k_is)
    (case a6 => k_is)
    (case l6 => k_is)
    (case c6 => k_is)
    (case k6 => k_is)
    (case a7 => k_is)
    (case l7 => k_is)
    (case c7 => k_is)
    (case k7 => k_is)
    (case a8 => k_is)
    (case l8 => k_is)
    (case c8 => k_is)
    (case k8 => k_is)
    (case a9 => k_is)
    (case l9 => k_is)
    (case c9 => k_is)
    (case k9 => k_is)
    (case a10 => k_is)
    (case l10 => k_is)
    (case c10 => k_is)
    (case k10 => k_is)
    (case a11 => k_is)
    (case l11 => k_is)
    (case c11 => k_is)
    (case k11 => k_is)
    (case a12 => k_is)
    (case l12 => k_is)
    (case c12 => k_is)
    (case k12 => k_is)
    (case a13 => k_is)
    (case l13 => k_is)
    (case c13 => k_is)
    (case k13 => k_is)
    (case a14 => k_is)
    (case l14 => k_is)
    (case c14 => k_is)
    (case k14 => k_is)
    (case a15 => k_is)
    (case l15 => k_is)
    (case c15 => k_is)
    (case k15 => k_is)
    (case a16 => k_is)
    (case l16 => k_is)
    (case c16 => k_is)
    (case k16 => k_is)
    (case a17 => k_is)
    (case l17 => k_is)
    (case c17 => k_is)
    (case k17 => k_is)
    (case a18 => k_is)
    (case l18 => k_is)
    (case c18 => k_is)
    (case k18 => k_is)
    (case a19 => k_is)
    (case l19 => k_is)
    (case c19 => k_is)
    (case k19 => k_is)
    (case a20 => k_is)
    (case l20 => k_is)
    (case c20 => k_is)
    (case k20 => k_is)
    (case a21 => k_is)
    (case l21 => k_is)
    (case c21 => k_is)
    (case k21 => k_is)
    (case a22 => k_is)
    (case l22 => k_is)
    (case c22 => k_is)
    (case k22 => k_is)
    (case a23 => k_is)
    (case l23 => k_is)
    (case c23 => k_is)
    (case k23 => k_is)
    (case a24 => k_is)
    (case l24 => k_is)
    (case c24 => k_is)
    (case k24 => k_is)
    (case a25 => k_is)
    (case l25 => k_is)
    (case c25 => k_is)
    (case k25 => k_is)
    (case a26 => k_is)
    (case l26 => k_is)
    (case c26 => k_is)
    (case k26 => k_is)
    (case a27 => k_is)
    (case l27 => k_is)
    (case c27 => k_is)
    (case k27 => k_is)
    (case zisinstance => k_is)
    (case zint => k_is)
    (case zbool => k_is)
    (case ztuple => k_is)
    (case zstr => k_is)
    (case zlen => k_is)
    (case zall => k_is)
    (case zzip => k_is)
    (case zrange => k_is)
    (case zlist => k_is)
    (case zsorted => k_is)
    (case zabs => k_is)
    (case mMOST_VARIABLE => k_is)
    (case mMOST_ROW => k_is)
    (case mMOST_NUMBER => k_is)
    (case mMOST_NEVER => k_is)
    (case mMOST_HINTS => k_is)
    (case mMOST_ORIGIN_ROW => k_is)
    (case mMOST_ORIGIN_CLAIM => k_is)
