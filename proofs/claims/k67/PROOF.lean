import PyProof.Rows.All
import Wide.All
import OpenK.AllK
import Wide.FinOn
import HandS.AnyAll
import HandS.GenList
import HandS.Conv
import HandS.ForSpec
import HandS.Wide
import HandS.IsInst
import HandS.ExcIs
import HandS.Codes
import HandS.Defaults
import HandS.Text
import HandS.StrMore
import HandS.Flow
import HandS.TupLen
import HandS.Gcd
import HandS.More
import HandS.DictComp
import HandS.RaiseMore
import HandS.ForDict
import HandS.Iter
import HandS.Walk
import HandS.TupAny
import HandS.Zip
import HandS.WordsExc
import HandS.ExcOwn
import HandS.SortInts
import HandS.Sort
import HandS.TupMul
import HandS.TryOnly
import HandS.MakeKw
import PySem.Challenge.RW_juststeps_k67_points_and_papers
set_option Elab.async false
namespace GxR
theorem own_ns : True := trivial
end GxR
namespace GA
theorem own_ns : True := trivial
end GA
set_option Elab.async false
set_option linter.all false
set_option maxRecDepth 100000
set_option maxHeartbeats 4000000
namespace J1
open PySem PySem.Spec PyProof.Rows L2 GxR GA
def top (i : Nat) : Stmt := PySem.Challenge.pw_juststeps_k67_points_and_papers.main.body.getD i (.Pass ⟨0, 0, 0, 0⟩)
/-! ### what is judged: things of tuples, lists, texts, integers, truths, None -/
inductive Da where
  | non
  | bl (b : Bool)
  | int (i : Int)
  | str (s : Str)
  | tup (l : List Da)
  | lst (l : List Da)
/-- a text of the size and the signs that there may be -/
structure SOk (s : Str) : Prop where
  len : s.length ≤ 10000
  ok : ∀ c ∈ s.cps.toList, c < 1114112
mutual
/-- the thing d is held at x; its lists stand where B says -/
inductive EncB (B : Addr → Prop) (H : Hp) : Da → V → Prop
  | non : EncB B H .non .non
  | bl (b : Bool) : EncB B H (.bl b) (.bl b)
  | int (i : Int) : EncB B H (.int i) (.int i)
  | str (s : Str) (h : SOk s) : EncB B H (.str s) (.str s)
  | tup {a : Addr} {xs : List V} {l : List Da} (h : H a = some (.tup xs)) (e : EncsB B H l xs) : EncB B H (.tup l) (.ref a)
  | lst {a : Addr} {xs : List V} {l : List Da} (h : H a = some (.lst xs)) (e : EncsB B H l xs) (b : B a) : EncB B H (.lst l) (.ref a)
inductive EncsB (B : Addr → Prop) (H : Hp) : List Da → List V → Prop
  | nil : EncsB B H [] []
  | cons {d : Da} {x : V} {l : List Da} {xs : List V} (h : EncB B H d x) (t : EncsB B H l xs) : EncsB B H (d :: l) (x :: xs)
end
abbrev Enc (H : Hp) : Da → V → Prop := EncB (fun _ => True) H
abbrev Encs (H : Hp) : List Da → List V → Prop := EncsB (fun _ => True) H
mutual
theorem EncB.any {B : Addr → Prop} {H : Hp} : ∀ {d : Da} {x : V}, EncB B H d x → Enc H d x
  | _, _, .non => .non
  | _, _, .bl b => .bl b
  | _, _, .int i => .int i
  | _, _, .str s h => .str s h
  | _, _, .tup h e => .tup h (EncsB.any e)
  | _, _, .lst h e _ => .lst h (EncsB.any e) trivial
theorem EncsB.any {B : Addr → Prop} {H : Hp} : ∀ {l : List Da} {xs : List V}, EncsB B H l xs → Encs H l xs
  | _, _, .nil => .nil
  | _, _, .cons h t => .cons (EncB.any h) (EncsB.any t)
end
/-- all that stood stands; tables may have grown -/
def Grow (H H' : Hp) : Prop := ∀ a o, H a = some o → H' a = some o ∨ (∃ ps, o = .tbl ps) ∧ TabG H' a
theorem Grow.refl (H : Hp) : Grow H H := fun _ _ h => .inl h
theorem Grow.trans {H H1 H2 : Hp} (x : Grow H H1) (y : Grow H1 H2) : Grow H H2 := fun a o h => by
  rcases x a o h with h1 | ⟨h1, h2⟩
  · exact y a o h1
  · obtain ⟨ps, q, _⟩ := h2
    rcases y a _ q with z | ⟨_, z⟩
    · exact .inr ⟨h1, ps, z, by assumption⟩
    · exact .inr ⟨h1, z⟩
theorem Grow.new {H : Hp} {a : Addr} {o : HO} (h : H a = none) : Grow H (upd H a o) := fun b u e => .inl (by rw [upd_ne (ne_of_none e h)]; exact e)
theorem Grow.tab {P : Addr} {H H' : Hp} (h : TabG H P) (t : Tabbed P H H') : Grow H H' := fun b u e => by
  by_cases z : b = P
  · subst z
    obtain ⟨ps, q, _⟩ := h
    rw [q] at e
    cases e
    exact .inr ⟨⟨ps, rfl⟩, t.1⟩
  · exact .inl ((t.2 b z).trans e)
theorem Grow.tup {H H' : Hp} (g : Grow H H') {a : Addr} {xs : List V} (h : H a = some (.tup xs)) : H' a = some (.tup xs) := by
  rcases g a _ h with q | ⟨⟨ps, q⟩, _⟩
  · exact q
  · cases q
theorem Grow.lst {H H' : Hp} (g : Grow H H') {a : Addr} {xs : List V} (h : H a = some (.lst xs)) : H' a = some (.lst xs) := by
  rcases g a _ h with q | ⟨⟨ps, q⟩, _⟩
  · exact q
  · cases q
theorem Grow.tabs {H H' : Hp} (g : Grow H H') {P : Addr} (h : TabG H P) : TabG H' P := by
  obtain ⟨ps, q, z⟩ := h
  rcases g P _ q with q | ⟨_, q⟩
  · exact ⟨ps, q, z⟩
  · exact q
/-- .. but for the list at w, which is none of B's -/
def GrowW (w : Addr) (H H' : Hp) : Prop := ∀ a o, a ≠ w → H a = some o → H' a = some o ∨ (∃ ps, o = .tbl ps) ∧ TabG H' a
mutual
theorem EncB.growW {B : Addr → Prop} {w : Addr} {H H' : Hp} (g : GrowW w H H') (hB : ¬ B w) (hw : ∀ xs, H w ≠ some (.tup xs)) : ∀ {d : Da} {x : V}, EncB B H d x → EncB B H' d x
  | _, _, .non => .non
  | _, _, .bl b => .bl b
  | _, _, .int i => .int i
  | _, _, .str s h => .str s h
  | _, _, .tup (a := a) (xs := xs) h e => .tup (by
      rcases g a _ (fun z => hw xs (z ▸ h)) h with q | ⟨⟨ps, q⟩, _⟩
      · exact q
      · cases q) (EncsB.growW g hB hw e)
  | _, _, .lst (a := a) h e b => .lst (by
      rcases g a _ (fun z => hB (z ▸ b)) h with q | ⟨⟨ps, q⟩, _⟩
      · exact q
      · cases q) (EncsB.growW g hB hw e) b
theorem EncsB.growW {B : Addr → Prop} {w : Addr} {H H' : Hp} (g : GrowW w H H') (hB : ¬ B w) (hw : ∀ xs, H w ≠ some (.tup xs)) : ∀ {l : List Da} {xs : List V}, EncsB B H l xs → EncsB B H' l xs
  | _, _, .nil => .nil
  | _, _, .cons h t => .cons (EncB.growW g hB hw h) (EncsB.growW g hB hw t)
end
mutual
theorem EncB.grow {B : Addr → Prop} {H H' : Hp} (g : Grow H H') : ∀ {d : Da} {x : V}, EncB B H d x → EncB B H' d x
  | _, _, .non => .non
  | _, _, .bl b => .bl b
  | _, _, .int i => .int i
  | _, _, .str s h => .str s h
  | _, _, .tup h e => .tup (g.tup h) (EncsB.grow g e)
  | _, _, .lst h e b => .lst (g.lst h) (EncsB.grow g e) b
theorem EncsB.grow {B : Addr → Prop} {H H' : Hp} (g : Grow H H') : ∀ {l : List Da} {xs : List V}, EncsB B H l xs → EncsB B H' l xs
  | _, _, .nil => .nil
  | _, _, .cons h t => .cons (EncB.grow g h) (EncsB.grow g t)
end
theorem EncsB.length {B : Addr → Prop} {H : Hp} : ∀ {l : List Da} {xs : List V}, EncsB B H l xs → l.length = xs.length
  | _, _, .nil => rfl
  | _, _, .cons _ t => by rw [List.length_cons, List.length_cons, EncsB.length t]
theorem EncsB.get {B : Addr → Prop} {H : Hp} : ∀ {l : List Da} {xs : List V} {i : Nat} {x : V}, EncsB B H l xs → xs[i]? = some x → ∃ d, l[i]? = some d ∧ EncB B H d x
  | _, _, _, _, .nil, e => by cases e
  | _, _, 0, _, .cons h _, e => by cases e; exact ⟨_, rfl, h⟩
  | _, _, i + 1, _, .cons _ t, e => by
    obtain ⟨d, q, z⟩ := EncsB.get t (i := i) e
    exact ⟨d, q, z⟩
theorem EncsB.got {B : Addr → Prop} {H : Hp} : ∀ {l : List Da} {xs : List V} {i : Nat} {d : Da}, EncsB B H l xs → l[i]? = some d → ∃ x, xs[i]? = some x ∧ EncB B H d x
  | _, _, _, _, .nil, e => by cases e
  | _, _, 0, _, .cons h _, e => by cases e; exact ⟨_, rfl, h⟩
  | _, _, i + 1, _, .cons _ t, e => by
    obtain ⟨d, q, z⟩ := EncsB.got t (i := i) e
    exact ⟨d, q, z⟩
def tyD : Da → String
  | .non => "NoneType"
  | .bl _ => "bool"
  | .int _ => "int"
  | .str _ => "str"
  | .tup _ => "tuple"
  | .lst _ => "list"
theorem EncB.ty {B : Addr → Prop} {K : PySem.W.Frag} {H : Hp} {d : Da} {x : V} (h : EncB B H d x) : TyX K H x (.type (tyD d)) := by
  cases h with
  | non => exact .base .non
  | bl b => exact .base (.bl b)
  | int i => exact .base (.int i)
  | str s _ => exact .base (.str s)
  | tup h e => exact .base (.tup h)
  | lst h e _ => exact .base (.lst h)
/-- isinstance's answer -/
def isD (d : Da) (t : String) : Bool := match d, t with
  | .bl _, "int" => true
  | d, t => tyD d == t
theorem kb_NoneType_int : kitB "NoneType" "int" = some false := by decide +kernel
theorem kb_NoneType_bool : kitB "NoneType" "bool" = some false := by decide +kernel
theorem kb_NoneType_str : kitB "NoneType" "str" = some false := by decide +kernel
theorem kb_NoneType_tuple : kitB "NoneType" "tuple" = some false := by decide +kernel
theorem kb_bool_int : kitB "bool" "int" = some true := by decide +kernel
theorem kb_bool_bool : kitB "bool" "bool" = some true := by decide +kernel
theorem kb_bool_str : kitB "bool" "str" = some false := by decide +kernel
theorem kb_bool_tuple : kitB "bool" "tuple" = some false := by decide +kernel
theorem kb_int_int : kitB "int" "int" = some true := by decide +kernel
theorem kb_int_bool : kitB "int" "bool" = some false := by decide +kernel
theorem kb_int_str : kitB "int" "str" = some false := by decide +kernel
theorem kb_int_tuple : kitB "int" "tuple" = some false := by decide +kernel
theorem kb_str_int : kitB "str" "int" = some false := by decide +kernel
theorem kb_str_bool : kitB "str" "bool" = some false := by decide +kernel
theorem kb_str_str : kitB "str" "str" = some true := by decide +kernel
theorem kb_str_tuple : kitB "str" "tuple" = some false := by decide +kernel
theorem kb_tuple_int : kitB "tuple" "int" = some false := by decide +kernel
theorem kb_tuple_bool : kitB "tuple" "bool" = some false := by decide +kernel
theorem kb_tuple_str : kitB "tuple" "str" = some false := by decide +kernel
theorem kb_tuple_tuple : kitB "tuple" "tuple" = some true := by decide +kernel
theorem kb_list_int : kitB "list" "int" = some false := by decide +kernel
theorem kb_list_bool : kitB "list" "bool" = some false := by decide +kernel
theorem kb_list_str : kitB "list" "str" = some false := by decide +kernel
theorem kb_list_tuple : kitB "list" "tuple" = some false := by decide +kernel
def bI : Da → Bool
  | .bl _ => true
  | .int _ => true
  | _ => false
def bB : Da → Bool
  | .bl _ => true
  | _ => false
def bS : Da → Bool
  | .str _ => true
  | _ => false
def bT : Da → Bool
  | .tup _ => true
  | _ => false
theorem kitD (d : Da) : kitB (tyD d) "int" = some (bI d) ∧ kitB (tyD d) "bool" = some (bB d) ∧ kitB (tyD d) "str" = some (bS d) ∧ kitB (tyD d) "tuple" = some (bT d) := match d with
  | .non => ⟨kb_NoneType_int, kb_NoneType_bool, kb_NoneType_str, kb_NoneType_tuple⟩
  | .bl _ => ⟨kb_bool_int, kb_bool_bool, kb_bool_str, kb_bool_tuple⟩
  | .int _ => ⟨kb_int_int, kb_int_bool, kb_int_str, kb_int_tuple⟩
  | .str _ => ⟨kb_str_int, kb_str_bool, kb_str_str, kb_str_tuple⟩
  | .tup _ => ⟨kb_tuple_int, kb_tuple_bool, kb_tuple_str, kb_tuple_tuple⟩
  | .lst _ => ⟨kb_list_int, kb_list_bool, kb_list_str, kb_list_tuple⟩
/-- a def as the globals hold it -/
structure Df (K : PySem.W.Frag) (mg : Str → Option Value) (x : Str) (ps : List Str) (f : Addr) (fd : FuncData) : Prop where
  g : mg x = some (.ref f)
  k : PySem.W.keepIn K (.ref f) = true
  b : Binds K fd ps []
theorem ifT {p : Prop} [Decidable p] {A B : Prop} (h : p) (a : A) : if decide p = true then A else B := by
  rw [decide_eq_true h]
  exact iteT a
theorem ifF {p : Prop} [Decidable p] {A B : Prop} (h : ¬ p) (b : B) : if decide p = true then A else B := by
  rw [decide_eq_false h]
  exact iteF b
/-! ### a def that holds generator expressions: its code object at c -/
structure FunC (K : PySem.W.Frag) (x qual : Str) (st : Stmt) (f : Addr) (fd : FuncData) (c : Addr) : Prop where
  ex : ∃ (oc : Value) (od : Option Addr) (kV doc pm : Value) (an : Option Addr) (ct : Value) (osl : Array (Option Value)),
    fd = PySem.W.fnOf x qual (defArgs st) (defBody st) (defScope st) .none kV doc pm an (.ref c) ct ∧ K.lookup f = some ⟨oc, od, .func fd, osl⟩ ∧ PySem.W.codeIn K (.ref c) qual = true
  kp : PySem.W.keepIn K (.ref f) = true
theorem FunC.ok {P : Program} {w : World} {K : PySem.W.Frag} {mg : Str → Option Value} {base : Heap} {x qual : Str} {st : Stmt} {f c : Addr} {fd : FuncData} {N ps : List Str} {k : Nat} {sp : Sp} (F : FunC K x qual st f fd c) (S : FnScope N ps (defScope st)) (len : ∀ vs H Q E, sp vs H Q E → vs.length = ps.length)
    (hbody : ∀ (A : Around) (outer : List Env) (s : Shared) (H : Hp) (vs : List V) (Q : VK) (E : XK), Room k (A.deeper (envOfC qual (defScope st) s.heap.objs.size f (.ref c))) → sp vs H Q E →
      ∃ t, PSs (cxOf CX0 P w K mg base N qual (defScope st) f (.ref c) A outer s H E).nox (defBody st) t ∧ t { nx := fun _ H' => Q .non H', rt := Q } (start N vs) H) : FnOk P w K mg base CX0 (k + 1) f fd ps sp := by
  obtain ⟨oc, od, kV, doc, pm, an, ct, osl, rfl, lk, hcd⟩ := F.ex
  refine fn_of lk hcd S len fun A outer s H vs Q E hr hsp => ?_
  obtain ⟨t, h, q⟩ := hbody A outer s H vs Q E hr hsp
  exact ⟨t, h.nox, q⟩

end J1
set_option Elab.async false
set_option linter.all false
set_option maxRecDepth 100000
set_option maxHeartbeats 4000000
namespace J1
open PySem PySem.Spec PyProof.Rows L2 GxR GA
abbrev sInt : Stmt := top 7
abbrev sBet : Stmt := top 8
abbrev sTup : Stmt := top 9
theorem c11 : FnScope ["thing"] ["thing"] (defScope sInt) := ⟨rfl, rfl, rfl, by decide +kernel, rfl, by decide +kernel, by decide +kernel⟩
theorem c12 : FnScope ["thing", "least", "most"] ["thing", "least", "most"] (defScope sBet) := ⟨rfl, rfl, rfl, by decide +kernel, rfl, by decide +kernel, by decide +kernel⟩
theorem c15 : FnScope ["thing", "least", "most"] ["thing", "least", "most"] (defScope sTup) := ⟨rfl, rfl, rfl, by decide +kernel, rfl, by decide +kernel, by decide +kernel⟩
/-! ### what they tell -/
def isInt (d : Da) : Bool := bI d && !bB d
def isBet (lo hi : Int) : Da → Bool
  | .int i => decide (lo ≤ i) && decide (i ≤ hi)
  | _ => false
def isTu (lo hi : Int) : Da → Bool
  | .tup l => decide (lo ≤ (l.length : Int)) && decide ((l.length : Int) ≤ hi)
  | _ => false
/-- a judge of one thing that lays nothing -/
def spF (g : Da → Bool) : Sp := fun vs H Q _ => ∃ x d, vs = [x] ∧ Enc H d x ∧ Q (.bl (g d)) H
def spF3 (g : Int → Int → Da → Bool) : Sp := fun vs H Q _ => ∃ x d lo hi, vs = [x, .int lo, .int hi] ∧ Enc H d x ∧ Q (.bl (g lo hi d)) H
/-- the globals that they use -/
structure Gn (K : PySem.W.Frag) (mg : Str → Option Value) : Prop where
  nI : mg "isinstance" = none
  ni : mg "int" = none
  nb : mg "bool" = none
  nt : mg "tuple" = none
  ns : mg "str" = none
  nl : mg "len" = none
  na : mg "all" = none
section
variable {P : Program} {w : World} {K : PySem.W.Frag} {mg : Str → Option Value} {base : Heap}
theorem ok_int {f : Addr} {fd : FuncData} (F : Fun K "is_integer" "is_integer" sInt f fd) (N : Gn K mg) : FnOk P w K mg base CX0 1 f fd ["thing"] (spF isInt) := by
  refine F.ok c11 (fun vs H Q E h => ?_) (fun cdv A outer s H vs Q E hr h => ?_)
  · obtain ⟨x, d, rfl, _⟩ := h
    rfl
  · obtain ⟨x, d, rfl, en, k⟩ := h
    obtain ⟨kI, kB, _, _⟩ := kitD d
    refine ⟨_, pss_one (ps_ret (pe_and (pe_callB call_isi (by rfl) N.nI boot_isinstance (pa_cons (pv 0) (pa_cons (pe_bltn (v := .ty "int") rfl N.ni (by decide +kernel) rfl) pa_nil)))
      (pe_one (pe_not (pe_callB call_isi (by rfl) N.nI boot_isinstance (pa_cons (pv 0) (pa_cons (pe_bltn (v := .ty "bool") rfl N.nb (by decide +kernel) rfl) pa_nil))))))), ?_⟩
    refine ⟨_, rfl, _, _, _, _, _, rfl, .ty "int", en.ty, kit_ty kI, _, rfl, ite2 (fun e => ?_) (fun e => ?_)⟩
    · refine ⟨_, rfl, _, _, _, _, _, rfl, .ty "bool", en.ty, kit_ty kB, _, rfl, ?_⟩
      unfold isInt at k
      rw [e, Bool.true_and] at k
      exact k
    · unfold isInt at k
      rw [Bool.eq_false_iff.mpr e, Bool.false_and] at k
      exact k
theorem ok_bet {f fI : Addr} {fd fdI : FuncData} (F : Fun K "is_between" "is_between" sBet f fd) (GI : FnOk P w K mg base CX0 1 fI fdI ["thing"] (spF isInt)) (I : Df K mg "is_integer" ["thing"] fI fdI) : FnOk P w K mg base CX0 2 f fd ["thing", "least", "most"] (spF3 isBet) := by
  refine F.ok c12 (fun vs H Q E h => ?_) (fun cdv A outer s H vs Q E hr h => ?_)
  · obtain ⟨x, d, lo, hi, rfl, _⟩ := h
    rfl
  · obtain ⟨x, d, lo, hi, rfl, en, k⟩ := h
    refine ⟨_, pss_one (ps_ret (pe_and (pe_call GI hr (by rfl) I.g I.k I.b .nil pass0 (pa_cons (pv 0) pa_nil)) (pe_one (pe_chain op_le op_le (pv 1) (pv 0) (pv 2))))), ?_⟩
    refine ⟨_, rfl, _, _, rfl, en, _, rfl, ?_⟩
    cases en with
    | int i =>
      refine iteT ⟨_, rfl, _, rfl, _, _, rfl, rfl, _, rfl, ?_⟩
      by_cases h1 : lo ≤ i
      · refine ifT h1 ⟨_, rfl, _, _, rfl, rfl, ?_⟩
        have e : isBet lo hi (.int i) = decide (i ≤ hi) := by show (decide (lo ≤ i) && decide (i ≤ hi)) = _; rw [decide_eq_true h1, Bool.true_and]
        rw [e] at k
        exact k
      · refine ifF h1 ?_
        have e : isBet lo hi (.int i) = false := by show (decide (lo ≤ i) && decide (i ≤ hi)) = _; rw [decide_eq_false h1, Bool.false_and]
        rw [e] at k
        exact k
    | non => exact iteF k
    | bl b => exact iteF k
    | str s => exact iteF k
    | tup h e => exact iteF k
    | lst h e => exact iteF k
theorem ok_tup {f : Addr} {fd : FuncData} (F : Fun K "is_tuple" "is_tuple" sTup f fd) (N : Gn K mg) : FnOk P w K mg base CX0 1 f fd ["thing", "least", "most"] (spF3 isTu) := by
  refine F.ok c15 (fun vs H Q E h => ?_) (fun cdv A outer s H vs Q E hr h => ?_)
  · obtain ⟨x, d, lo, hi, rfl, _⟩ := h
    rfl
  · obtain ⟨x, d, lo, hi, rfl, en, k⟩ := h
    obtain ⟨_, _, _, kT⟩ := kitD d
    refine ⟨_, pss_one (ps_ret (pe_and (pe_callB call_isi (by rfl) N.nI boot_isinstance (pa_cons (pv 0) (pa_cons (pe_bltn (v := .ty "tuple") rfl N.nt (by decide +kernel) rfl) pa_nil)))
      (pe_one (pe_chain op_le op_le (pv 1) (pe_callB call_len_seq (by rfl) N.nl PySem.boot_len (pa_cons (pv 0) pa_nil)) (pv 2))))), ?_⟩
    refine ⟨_, rfl, _, _, _, _, _, rfl, .ty "tuple", en.ty, kit_ty kT, _, rfl, ?_⟩
    cases en with
    | @tup a xs l h e =>
      have el := e.length
      refine iteT ⟨_, rfl, _, rfl, a, xs, rfl, .inr (SqT.of h), _, _, rfl, rfl, _, rfl, ?_⟩
      by_cases h1 : lo ≤ (xs.length : Int)
      · refine ifT h1 ⟨_, rfl, _, _, rfl, rfl, ?_⟩
        have e : isTu lo hi (.tup l) = decide ((xs.length : Int) ≤ hi) := by show (decide (lo ≤ (l.length : Int)) && decide ((l.length : Int) ≤ hi)) = _; rw [el, decide_eq_true h1, Bool.true_and]
        rw [e] at k
        exact k
      · refine ifF h1 ?_
        have e : isTu lo hi (.tup l) = false := by show (decide (lo ≤ (l.length : Int)) && decide ((l.length : Int) ≤ hi)) = _; rw [el, decide_eq_false h1, Bool.false_and]
        rw [e] at k
        exact k
    | non => exact iteF k
    | bl b => exact iteF k
    | int i => exact iteF k
    | str s => exact iteF k
    | lst h e => exact iteF k
end
end J1
set_option Elab.async false
set_option linter.all false
set_option maxRecDepth 100000
set_option maxHeartbeats 4000000
namespace J1
open PySem PySem.Spec PyProof.Rows L2 GxR GA
/-! ### systems, points, multipliers, as data -/
abbrev Tm := Int × Int
abbrev Ln := Int × List Tm
abbrev Rw := Ln × Bool
def tmD (t : Tm) : Da := .tup [.int t.1, .int t.2]
def lnD (l : Ln) : Da := .tup [.int l.1, .tup (l.2.map tmD)]
def rwD (r : Rw) : Da := .tup [lnD r.1, .bl r.2]
def rwsD (l : List Rw) : Da := .tup (l.map rwD)
def syD (c : Int) (rs : List Rw) : Da := .tup [.int c, rwsD rs]
def isTms (c : Int) : Int → List Da → Bool
  | _, [] => true
  | lo, d :: r => match d with
    | .tup [.int u, .int k] => decide (lo ≤ u) && decide (u ≤ c - 1) && !decide (k = 0) && isTms c (u + 1) r
    | _ => false
def isLn (c : Int) : Da → Bool
  | .tup [.int _, .tup l] => decide ((l.length : Int) ≤ c) && isTms c 0 l
  | _ => false
def isRw (c : Int) : Da → Bool
  | .tup [d, .bl _] => isLn c d
  | _ => false
def isSy : Da → Bool
  | .tup [.int c, .tup rs] => decide (0 ≤ c) && decide (c ≤ 4000) && decide ((rs.length : Int) ≤ 12000) && rs.all (isRw c)
  | _ => false
structure LnOk (c : Int) (l : Ln) : Prop where
  asc : l.2.Pairwise (fun a b => a.1 < b.1)
  rng : ∀ t ∈ l.2, 0 ≤ t.1 ∧ t.1 < c ∧ t.1 < 6 ∧ t.2 ≠ 0
  cb : l.1.natAbs < 2 ^ 130
  tb : ∀ t ∈ l.2, t.2.natAbs < 2 ^ 100
structure SyOk (c : Int) (rs : List Rw) : Prop where
  c0 : 0 ≤ c
  c1 : c ≤ 4000
  le : rs.length ≤ 12000
  ln : ∀ r ∈ rs, LnOk c r.1
theorem asc_len : ∀ {l : List Tm} {lo hi : Int}, l.Pairwise (fun a b => a.1 < b.1) → (∀ t ∈ l, lo ≤ t.1 ∧ t.1 < hi) → (l.length : Int) ≤ max 0 (hi - lo)
  | [], _, _, _, _ => by rw [List.length_nil]; omega
  | t :: l, lo, hi, h, g => by
    obtain ⟨h1, h2⟩ := List.pairwise_cons.mp h
    have q := g t List.mem_cons_self
    have ih := asc_len (lo := t.1 + 1) (hi := hi) h2 fun u hu => ⟨by have := h1 u hu; omega, (g u (List.mem_cons_of_mem _ hu)).2⟩
    rw [List.length_cons]
    omega
theorem LnOk.le6 {c : Int} {l : Ln} (h : LnOk c l) : l.2.length ≤ 6 := by
  have := asc_len (lo := 0) (hi := 6) h.asc fun t ht => ⟨(h.rng t ht).1, (h.rng t ht).2.2.1⟩
  omega
theorem LnOk.lec {c : Int} {l : Ln} (hc : 0 ≤ c) (h : LnOk c l) : (l.2.length : Int) ≤ c := by
  have := asc_len (lo := 0) (hi := c) h.asc fun t ht => ⟨(h.rng t ht).1, (h.rng t ht).2.1⟩
  omega
theorem isTms_of {c : Int} : ∀ {l : List Tm} {lo : Int}, l.Pairwise (fun a b => a.1 < b.1) → (∀ t ∈ l, lo ≤ t.1 ∧ t.1 < c ∧ t.2 ≠ 0) → isTms c lo (l.map tmD) = true
  | [], _, _, _ => rfl
  | t :: l, lo, h, g => by
    obtain ⟨h1, h2⟩ := List.pairwise_cons.mp h
    have q := g t List.mem_cons_self
    have ih := isTms_of (c := c) (lo := t.1 + 1) h2 fun u hu => ⟨by have := h1 u hu; omega, (g u (List.mem_cons_of_mem _ hu)).2⟩
    show (decide (lo ≤ t.1) && decide (t.1 ≤ c - 1) && !decide (t.2 = 0) && isTms c (t.1 + 1) (l.map tmD)) = true
    rw [ih, decide_eq_true q.1, decide_eq_true (by omega : t.1 ≤ c - 1), decide_eq_false q.2.2]
    rfl
theorem isLn_of {c : Int} {l : Ln} (hc : 0 ≤ c) (h : LnOk c l) : isLn c (lnD l) = true := by
  show (decide (((l.2.map tmD).length : Int) ≤ c) && isTms c 0 (l.2.map tmD)) = true
  rw [List.length_map, decide_eq_true (h.lec hc), isTms_of h.asc fun t ht => ⟨(h.rng t ht).1, (h.rng t ht).2.1, (h.rng t ht).2.2.2⟩]
  rfl
theorem isSy_of {c : Int} {rs : List Rw} (h : SyOk c rs) : isSy (syD c rs) = true := by
  show (decide (0 ≤ c) && decide (c ≤ 4000) && decide (((rs.map rwD).length : Int) ≤ 12000) && (rs.map rwD).all (isRw c)) = true
  have hl := h.le
  rw [List.length_map, decide_eq_true h.c0, decide_eq_true h.c1, decide_eq_true (by omega : (rs.length : Int) ≤ 12000), List.all_map]
  show rs.all _ = true
  rw [List.all_eq_true]
  intro r hr
  exact isLn_of h.c0 (h.ln r hr)
/-! ### points -/
def isRat : Da → Bool
  | .tup [.int a, .int b] => decide (1 ≤ b) && decide (Nat.gcd a.natAbs b.natAbs = 1)
  | _ => false
def isPt (c : Int) : Da → Bool
  | .tup l => decide ((l.length : Int) = c) && l.all isRat
  | _ => false
def prOf : Da → Tm
  | .tup [.int a, .int b] => (a, b)
  | _ => (0, 1)
def ptOf : Da → List Tm
  | .tup l => l.map prOf
  | _ => []
def ptAt (pt : List Tm) (u : Int) : Tm := pt.getD u.toNat (0, 1)
/-- the law's way and the program's way of reckoning a line's value, a term more -/
def stL (pt : List Tm) (s : Int × Int) (t : Tm) : Int × Int := (s.1 * (ptAt pt t.1).2 + t.2 * (ptAt pt t.1).1 * s.2, s.2 * (ptAt pt t.1).2)
def gI (a b : Int) : Int := ((Nat.gcd a.natAbs b.natAbs : Nat) : Int)
def stP (pt : List Tm) (s : Int × Int) (t : Tm) : Int × Int :=
  (s.1 * ((ptAt pt t.1).2 / gI s.2 (ptAt pt t.1).2) + t.2 * (ptAt pt t.1).1 * (s.2 / gI s.2 (ptAt pt t.1).2), s.2 * ((ptAt pt t.1).2 / gI s.2 (ptAt pt t.1).2))
def sgnOk (ex : Bool) (t : Int) : Bool := !decide (t < 0) && (!ex || decide (t = 0))
def rowOk (pt : List Tm) (r : Rw) : Bool := sgnOk r.2 (r.1.2.foldl (stL pt) (r.1.1, 1)).1
def keepsB (c : Int) (rs : List Rw) (d : Da) : Bool := isPt c d && rs.all (rowOk (ptOf d))
structure Rel2 (p l : Int × Int) : Prop where
  p0 : 0 < p.2
  l0 : 0 < l.2
  e : p.1 * l.2 = l.1 * p.2
theorem gI_pos {a b : Int} (h : 0 < b) : 0 < gI a b := by
  have := Nat.gcd_pos_of_pos_right a.natAbs (show 0 < b.natAbs by omega)
  unfold gI
  omega
theorem gI_l (a b : Int) : gI a b ∣ a := by
  unfold gI
  exact Int.ofNat_dvd_left.mpr (Nat.gcd_dvd_left _ _)
theorem gI_r (a b : Int) : gI a b ∣ b := by
  unfold gI
  exact Int.ofNat_dvd_left.mpr (Nat.gcd_dvd_right _ _)
theorem Rel2.step {pt : List Tm} {p l : Int × Int} {t : Tm} (h : Rel2 p l) (hb : 0 < (ptAt pt t.1).2) : Rel2 (stP pt p t) (stL pt l t) := by
  obtain ⟨p0, l0, e⟩ := h
  unfold stP stL
  generalize (ptAt pt t.1).2 = b at hb
  generalize (ptAt pt t.1).1 = a
  have g0 := gI_pos (a := p.2) hb
  obtain ⟨x, hx⟩ := gI_l p.2 b
  obtain ⟨y, hy⟩ := gI_r p.2 b
  generalize gI p.2 b = g at g0 hx hy
  have hxq : p.2 / g = x := by rw [hx]; exact Int.mul_ediv_cancel_left _ (by omega)
  have hyq : b / g = y := by rw [hy]; exact Int.mul_ediv_cancel_left _ (by omega)
  rw [hxq, hyq]
  have y0 : 0 < y := by
    rcases Int.lt_or_le 0 y with q | q
    · exact q
    · have := Int.mul_nonpos_of_nonneg_of_nonpos (by omega : (0 : Int) ≤ g) q
      omega
  refine ⟨Int.mul_pos p0 y0, Int.mul_pos l0 hb, ?_⟩
  show (p.1 * y + t.2 * a * x) * (l.2 * b) = (l.1 * b + t.2 * a * l.2) * (p.2 * y)
  have e1 : p.1 * y * (l.2 * b) = l.1 * b * (p.2 * y) := by
    have : p.1 * y * (l.2 * b) = (p.1 * l.2) * (y * b) := by simp only [Int.mul_assoc, Int.mul_left_comm, Int.mul_comm]
    rw [this, e]
    simp only [Int.mul_assoc, Int.mul_left_comm, Int.mul_comm]
  have e2 : t.2 * a * x * (l.2 * b) = t.2 * a * l.2 * (p.2 * y) := by
    have q : x * b = p.2 * y := by rw [hx, hy]; simp only [Int.mul_assoc, Int.mul_left_comm, Int.mul_comm]
    rw [← q]
    simp only [Int.mul_assoc, Int.mul_left_comm, Int.mul_comm]
  rw [Int.add_mul, Int.add_mul, e1, e2]
theorem Rel2.fold {pt : List Tm} {ts : List Tm} : ∀ {p l : Int × Int}, Rel2 p l → (∀ t ∈ ts, 0 < (ptAt pt t.1).2) → Rel2 (ts.foldl (stP pt) p) (ts.foldl (stL pt) l) := by
  induction ts with
  | nil => intro p l h _; exact h
  | cons t ts ih =>
    intro p l h g
    exact ih (h.step (g t List.mem_cons_self)) fun u hu => g u (List.mem_cons_of_mem _ hu)
theorem Rel2.sgn {p l : Int × Int} (h : Rel2 p l) : p.1.sign = l.1.sign := by
  have q := congrArg Int.sign h.e
  rw [Int.sign_mul, Int.sign_mul, Int.sign_eq_one_of_pos h.p0, Int.sign_eq_one_of_pos h.l0, Int.mul_one, Int.mul_one] at q
  exact q
theorem sgnOk_eq {ex : Bool} {a b : Int} (h : a.sign = b.sign) : sgnOk ex a = sgnOk ex b := by
  have h1 : (a < 0) ↔ (b < 0) := by rw [← Int.sign_eq_neg_one_iff_neg, ← Int.sign_eq_neg_one_iff_neg, h]
  have h2 : (a = 0) ↔ (b = 0) := by rw [← Int.sign_eq_zero_iff_zero (a := a), ← Int.sign_eq_zero_iff_zero (a := b), h]
  unfold sgnOk
  rw [decide_eq_decide.mpr h1, decide_eq_decide.mpr h2]
theorem foldl_take_succ {α β : Type} {f : β → α → β} {s : β} {l : List α} {i : Nat} {x : α} (h : l[i]? = some x) : (l.take (i + 1)).foldl f s = f ((l.take i).foldl f s) x := by
  rw [List.take_succ, h, List.foldl_append]
  rfl
/-! ### multipliers -/
def geD : Da → Bool
  | .int i => decide (0 ≤ i)
  | _ => true
def isMu (rs : List Rw) : Da → Bool
  | .tup l => decide (l.length = rs.length) && l.all isInt && (rs.zip l).all fun p => p.1.2 || geD p.2
  | _ => false
def inOf : Da → Int
  | .int i => i
  | _ => 0
def coef (l : List Tm) (u : Int) : Int := (l.map fun t => if t.1 = u then t.2 else 0).sum
def sumC (z : List (Rw × Int)) : Int := (z.map fun p => p.2 * p.1.1.1).sum
def cf (z : List (Rw × Int)) (u : Int) : Int := (z.map fun p => p.2 * coef p.1.1.2 u).sum
def muZ (rs : List Rw) (d : Da) : List (Rw × Int) := match d with
  | .tup l => rs.zip (l.map inOf)
  | _ => []
def refB (rs : List Rw) (d : Da) : Bool := isMu rs d && decide (sumC (muZ rs d) < 0) && decide (∀ r ∈ rs, ∀ t ∈ r.1.2, cf (muZ rs d) t.1 = 0)
theorem cf_snoc (z : List (Rw × Int)) (p : Rw × Int) (u : Int) : cf (z ++ [p]) u = cf z u + p.2 * coef p.1.1.2 u := by
  unfold cf
  rw [List.map_append, List.sum_append]
  simp
theorem sumC_snoc (z : List (Rw × Int)) (p : Rw × Int) : sumC (z ++ [p]) = sumC z + p.2 * p.1.1.1 := by
  unfold sumC
  rw [List.map_append, List.sum_append]
  simp
theorem coef_snoc (l : List Tm) (t : Tm) (u : Int) : coef (l ++ [t]) u = coef l u + (if t.1 = u then t.2 else 0) := by
  unfold coef
  rw [List.map_append, List.sum_append]
  simp
theorem coef_none {l : List Tm} {u : Int} (h : ∀ t ∈ l, t.1 ≠ u) : coef l u = 0 := by
  induction l with
  | nil => rfl
  | cons t l ih =>
    have e := ih fun s hs => h s (List.mem_cons_of_mem _ hs)
    unfold coef at e ⊢
    rw [List.map_cons, List.sum_cons, e, if_neg (h t List.mem_cons_self)]
    rfl
end J1
set_option Elab.async false
set_option linter.all false
set_option maxRecDepth 100000
set_option maxHeartbeats 4000000
namespace J1
open PySem PySem.Spec PyProof.Rows L2 GxR GA
abbrev EncT (H : Hp) : Da → V → Prop := EncB (fun _ => False) H
abbrev EncsT (H : Hp) : List Da → List V → Prop := EncsB (fun _ => False) H
theorem map_get {α β : Type} {f : α → β} {l : List α} {i : Nat} {y : β} (h : (l.map f)[i]? = some y) : ∃ x, l[i]? = some x ∧ y = f x := by
  rw [List.getElem?_map] at h
  cases e : l[i]? with
  | none => rw [e] at h; cases h
  | some x => rw [e] at h; cases h; exact ⟨x, rfl, rfl⟩
theorem encs_push {B : Addr → Prop} {H : Hp} {l : List Da} {xs : List V} {d : Da} {x : V} (h : EncsB B H l xs) (g : EncB B H d x) : EncsB B H (l ++ [d]) (xs ++ [x]) := by
  match l, xs, h with
  | _, _, .nil => exact .cons g .nil
  | _, _, .cons a t => exact .cons a (encs_push t g)
theorem Grow.none' {H H' : Hp} (g : Grow H H') {a : Addr} (h : H' a = none) : H a = none := by
  cases e : H a with
  | none => rfl
  | some o =>
    rcases g a o e with q | ⟨_, ps, q, _⟩
    · rw [q] at h; cases h
    · rw [q] at h; cases h
theorem Grow.dk {H H' : Hp} (g : Grow H H') {a : Addr} {xs : List (Key × V)} (h : H a = some (.dK xs)) : H' a = some (.dK xs) := by
  rcases g a _ h with q | ⟨⟨ps, q⟩, _⟩
  · exact q
  · cases q
theorem Grow.upd' {H0 H : Hp} (g : Grow H0 H) {D : Addr} (hD : H0 D = none) {o : HO} : Grow H0 (L2.upd H D o) := fun a u h => by
  have n : a ≠ D := fun z => by rw [z, hD] at h; cases h
  rcases g a u h with q | ⟨e, q⟩
  · exact .inl (by rw [upd_ne n]; exact q)
  · obtain ⟨ps, q, z⟩ := q
    exact .inr ⟨e, ps, by rw [upd_ne n]; exact q, z⟩
theorem GrowW.upd {w : Addr} {H : Hp} {o : HO} : GrowW w H (L2.upd H w o) := fun a u n h => .inl (by rw [upd_ne n]; exact h)
theorem wipe_in {σ : L2.St} {i : Nat} : ∀ {vs : List Nat}, i ∈ vs → (wipe σ vs)[i]? = if i < σ.length then some none else none
  | [], h => absurd h List.not_mem_nil
  | v :: vs, h => by
    show ((wipe σ vs).set v none)[i]? = _
    by_cases e : v = i
    · subst e
      rw [List.getElem?_set_self', ← wipe_length σ vs]
      by_cases q : v < (wipe σ vs).length
      · rw [if_pos q, List.getElem?_eq_getElem q]
        rfl
      · rw [if_neg q, List.getElem?_eq_none (Nat.le_of_not_lt q)]
        rfl
    · rw [List.getElem?_set_ne e]
      exact wipe_in ((List.mem_cons.mp h).resolve_left fun z => e z.symm)
theorem wipe_wipe {σ : L2.St} {vs vs2 : List Nat} (h : ∀ v ∈ vs2, v ∈ vs) : wipe (wipe σ vs2) vs = wipe σ vs := by
  refine List.ext_getElem? fun i => ?_
  by_cases q : i ∈ vs
  · rw [wipe_in q, wipe_in q, wipe_length]
  · rw [wipe_out q, wipe_out q, wipe_out fun z => q (h i z)]
theorem wipe_set {σ : L2.St} {j : Nat} {x : V} : wipe ((wipe σ [j]).set j (some x)) [j] = wipe σ [j] := by
  show (((σ.set j none).set j (some x)).set j none) = σ.set j none
  rw [List.set_set, List.set_set]
/-! ### atoms, forms, hints -/
def tLockV (td : TE) : TE := fun σ H Q => td σ H fun x H1 => ∃ d u, x = .ref d ∧ H1 d = some u ∧ Mut (some u) ∧ ∀ od, Q x (upd H1 d (.frz od u))
theorem pe_lockV {X : Cx} {e : Expr} {td : TE} (he : PE X e td) : PE X e (tLockV td) := by
  refine ⟨fun pins s σ H Q I h => ?_⟩
  refine thn (he.run pins s σ H _ I h) fun v s1 ⟨x, H1, I1, r, d, u, ex, hd, mu, q⟩ => ?_
  obtain ⟨od, I2⟩ := I1.lock hd mu
  exact ⟨x, _, I2, r, q od⟩
theorem wipe_put {σ : L2.St} {vs : List Nat} {i : Nat} {x : Option V} (h : i ∈ vs) : wipe (σ.set i x) vs = wipe σ vs := by
  refine List.ext_getElem? fun j => ?_
  by_cases q : j ∈ vs
  · rw [wipe_in q, wipe_in q, List.length_set]
  · rw [wipe_out q, wipe_out q, List.getElem?_set_ne]
    intro z
    rw [z] at h
    exact q h
theorem wipe_again {σ : L2.St} {vs : List Nat} : wipe (wipe σ vs) vs = wipe σ vs := wipe_wipe fun _ h => h
theorem dc_it {J : It} {n : Nat} {G : Hp → Prop} {Y : Nat → Hp → V → Hp → Prop} (w : Walk J n G Y) {H1 : Hp} {Qd : Hp → Prop} {Body : (Hp → Prop) → V → Hp → Prop} (Pv : Nat → Hp → Prop) (h0 : Pv 0 H1) (hG : ∀ i H, i ≤ n → Pv i H → G H)
    (hs : ∀ i x H H', i < n → Pv i H → Y i H x H' → Body (Pv (i + 1)) x H') (hd : ∀ H, Pv n H → Qd H) :
    ∃ W : Nat → Nat → Hp → Prop, (∃ m, W 0 m H1) ∧ ∀ i m H, W i m H →
      (J.stop i H ∧ Qd H) ∨ (J.go i H ∧ ∃ Nx : Hp → Prop, (∀ H', Nx H' → ∃ m', m' < m ∧ W (i + 1) m' H') ∧ ∀ x H', J.yld i H x H' → Body Nx x H') := by
  refine ⟨fun i m H => i ≤ n ∧ m + i = n ∧ Pv i H, ⟨n, Nat.zero_le _, Nat.add_zero _, h0⟩, fun i m H hw => ?_⟩
  obtain ⟨hi, hm, p⟩ := hw
  have q := hG i H hi p
  rcases Nat.lt_or_ge i n with h | h
  · refine .inr ⟨w.goes i H h q, Pv (i + 1), fun H' z => ⟨m - 1, by omega, by omega, by omega, z⟩, fun x H' y => hs i x H H' h p (w.yields i H x H' h q y)⟩
  · have e : i = n := Nat.le_antisymm hi h
    subst e
    exact .inl ⟨w.stops H q, hd H p⟩
theorem rep_push (i : Nat) : (List.replicate i true).map V.bl ++ [V.bl true] = (List.replicate (i + 1) true).map V.bl := by
  rw [List.replicate_succ', List.map_append]
  rfl
theorem rep_all (i : Nat) : (List.replicate i true).all id = true := by
  rw [List.all_eq_true]
  intro b hb
  exact (List.mem_replicate.mp hb).2
theorem none_upd {H : Hp} {q D : Addr} {o : HO} (h : L2.upd H q o D = none) : H D = none := by
  by_cases e : D = q
  · subst e
    rw [upd_same] at h
    cases h
  · rw [upd_ne e] at h
    exact h
theorem pss_no {X : Cx} {b : List Stmt} : PSs X b (fun _ _ _ => False) := ⟨fun _ _ _ _ _ _ h => h.elim⟩
theorem ps_no {X : Cx} {b : Stmt} : PS X b (fun _ _ _ => False) := ⟨fun _ _ _ _ _ _ h => h.elim⟩
theorem GrowW.trans' {w : Addr} {H H1 H2 : Hp} (x : GrowW w H H1) (y : GrowW w H1 H2) : GrowW w H H2 := fun a o n h => by
  rcases x a o n h with h1 | ⟨h1, ps, q, z⟩
  · exact y a o n h1
  · rcases y a _ n q with q2 | ⟨_, q2⟩
    · exact .inr ⟨h1, ps, q2, z⟩
    · exact .inr ⟨h1, q2⟩
theorem GrowW.refl' (w : Addr) (H : Hp) : GrowW w H H := fun _ _ _ h => .inl h
theorem cdw {m : Int} (h : 0 < m) (h2 : m.natAbs < 2 ^ 1000) : CDivW 0 m := wide_div h h2 (by decide) (by decide)
theorem at_g {α : Type} {xs : List α} {z : Int} {j : Nat} {v : α} (e : z = (j : Int)) (h : xs[j]? = some v) : atI xs z = some v := by
  rw [e]
  exact atI_nat h
theorem ifNT {p : Prop} [Decidable p] {A B : Prop} (h : ¬ p) (a : A) : if (!decide p) = true then A else B := by
  rw [decide_eq_false h]
  exact a
theorem ifNF {p : Prop} [Decidable p] {A B : Prop} (h : p) (b : B) : if (!decide p) = true then A else B := by
  rw [decide_eq_true h]
  exact b
end J1
set_option Elab.async false
set_option linter.all false
set_option maxRecDepth 100000
set_option maxHeartbeats 4000000
namespace J1
open PySem PySem.Spec PyProof.Rows L2 GxR GA
abbrev sRt : Stmt := top 12
theorem cRt : FnScope ["thing"] ["thing"] (defScope sRt) := ⟨rfl, rfl, rfl, by decide +kernel, rfl, by decide +kernel, by decide +kernel⟩
theorem enc2 {B : Addr → Prop} {H : Hp} {x y : Da} {v : V} (e : EncB B H (.tup [x, y]) v) : ∃ p a b, v = .ref p ∧ H p = some (.tup [a, b]) ∧ EncB B H x a ∧ EncB B H y b := by
  cases e with
  | @tup p xs _ hp es =>
  cases es with
  | @cons _ a _ _ ea es =>
  cases es with
  | @cons _ b _ _ eb es =>
  cases es
  exact ⟨p, a, b, rfl, hp, ea, eb⟩
theorem encI {B : Addr → Prop} {H : Hp} {i : Int} {v : V} (e : EncB B H (.int i) v) : v = .int i := by cases e; rfl
theorem encT {B : Addr → Prop} {H : Hp} {l : List Da} {v : V} (e : EncB B H (.tup l) v) : ∃ p xs, v = .ref p ∧ H p = some (.tup xs) ∧ EncsB B H l xs := by
  cases e with
  | @tup p xs _ hp es => exact ⟨p, xs, rfl, hp, es⟩
theorem isTu2 (d : Da) : isTu 2 2 d = false ∨ ∃ x y, d = .tup [x, y] := by
  match d with
  | .tup [x, y] => exact .inr ⟨x, y, rfl⟩
  | .tup [] => exact .inl rfl
  | .tup [_] => exact .inl rfl
  | .tup (_ :: _ :: _ :: l) =>
    refine .inl ?_
    show (decide ((2 : Int) ≤ ((_ :: _ :: _ :: l : List Da).length : Int)) && decide (((_ :: _ :: _ :: l : List Da).length : Int) ≤ 2)) = false
    rw [Bool.and_eq_false_iff]
    refine .inr (decide_eq_false ?_)
    simp only [List.length_cons]
    omega
  | .non => exact .inl rfl
  | .bl _ => exact .inl rfl
  | .int _ => exact .inl rfl
  | .str _ => exact .inl rfl
  | .lst _ => exact .inl rfl
theorem isTu22 (x y : Da) : isTu 2 2 (.tup [x, y]) = true := rfl
theorem isInt_c (d : Da) : isInt d = false ∨ ∃ i, d = .int i := by
  cases d with
  | int i => exact .inr ⟨i, rfl⟩
  | non => exact .inl rfl
  | bl b => exact .inl rfl
  | str s => exact .inl rfl
  | tup l => exact .inl rfl
  | lst l => exact .inl rfl
theorem isRat_n {d : Da} (h : isTu 2 2 d = false) : isRat d = false := by
  unfold isRat
  split
  · cases h
  · rfl
theorem isRat_0 {x y : Da} (h : isInt x = false) : isRat (.tup [x, y]) = false := by
  cases x with
  | int i => cases h
  | _ => rfl
theorem isRat_1 {i : Int} {y : Da} (h : isInt y = false) : isRat (.tup [.int i, y]) = false := by
  cases y with
  | int i => cases h
  | _ => rfl
section
variable {P : Program} {w : World} {K : PySem.W.Frag} {mg : Str → Option Value} {base : Heap}
theorem ok_rat {f fT fI : Addr} {fd fdT fdI : FuncData} (F : Fun K "is_ratio" "is_ratio" sRt f fd) (gg : mg "gcd" = some (.builtin "math.gcd"))
    (GT : FnOk P w K mg base CX0 1 fT fdT ["thing", "least", "most"] (spF3 isTu)) (DT : Df K mg "is_tuple" ["thing", "least", "most"] fT fdT)
    (GI : FnOk P w K mg base CX0 1 fI fdI ["thing"] (spF isInt)) (DI : Df K mg "is_integer" ["thing"] fI fdI) : FnOk P w K mg base CX0 2 f fd ["thing"] (spF isRat) := by
  refine F.ok (k := 1) cRt (fun vs H Q E h => ?_) (fun cdv A outer s H vs Q E hr h => ?_)
  · obtain ⟨x, d, rfl, _⟩ := h
    rfl
  · obtain ⟨x, d, rfl, en, k⟩ := h
    refine ⟨_, (pss_cons (ps_if (PW.pt (pw_or (pt_not (pt_val (pe_call (GT.mono (by decide)) hr (by rfl) DT.g DT.k DT.b .nil pass0 (pa_cons (pv 0) (pa_cons pe_int (pa_cons pe_int pa_nil)))))) (pw_or (pt_not (pt_val (pe_call GI hr (by rfl) DI.g DI.k DI.b .nil pass0 (pa_cons (pe_ix ix_tup (pv 0) pe_int (fun _ _ => rfl)) pa_nil)))) (pw_or1 (pt_not (pt_val (pe_call GI hr (by rfl) DI.g DI.k DI.b .nil pass0 (pa_cons (pe_ix ix_tup (pv 0) pe_int (fun _ _ => rfl)) pa_nil)))))))) (pss_one (ps_ret pe_bl)) pss_nil) (pss_one (ps_ret (pe_and (pe_cmpR op_ge (pe_ix ix_tup (pv 0) pe_int (fun _ _ => rfl)) pe_int (nomark _)) (pe_one (pe_cmpR op_eq (pe_callBfun cr_gcd (by rfl) gg (pa_cons (pe_ix ix_tup (pv 0) pe_int (fun _ _ => rfl)) (pa_cons (pe_ix ix_tup (pv 0) pe_int (fun _ _ => rfl)) pa_nil))) pe_int (nomark _))))))), ?_⟩
    refine ⟨_, rfl, x, d, 2, 2, rfl, en, _, rfl, ?_⟩
    rcases isTu2 d with h | ⟨d0, d1, rfl⟩
    · rw [h]
      rw [isRat_n h] at k
      exact iteT k
    obtain ⟨p, a, b, rfl, hp, e0, e1⟩ := enc2 en
    rw [isTu22]
    refine iteF ⟨_, rfl, p, _, _, _, rfl, rfl, SqT.of hp, at_of (j := 0) rfl rfl, _, d0, rfl, e0, _, rfl, ?_⟩
    rcases isInt_c d0 with h | ⟨i, rfl⟩
    · rw [h]
      rw [isRat_0 h] at k
      exact iteT k
    refine iteF ⟨_, rfl, p, _, _, _, rfl, rfl, SqT.of hp, at_of (j := 1) rfl rfl, _, d1, rfl, e1, _, rfl, ?_⟩
    rcases isInt_c d1 with h | ⟨j, rfl⟩
    · rw [h]
      rw [isRat_1 h] at k
      exact iteT k
    cases encI e0
    cases encI e1
    refine iteF ?_
    refine ⟨_, rfl, p, _, _, _, rfl, rfl, SqT.of hp, at_of (j := 1) rfl rfl, _, _, rfl, rfl, _, rfl, ?_⟩
    by_cases h1 : 1 ≤ j
    · refine ifT h1 ⟨_, rfl, p, _, _, _, rfl, rfl, SqT.of hp, at_of (j := 0) rfl rfl, _, rfl, p, _, _, _, rfl, rfl, SqT.of hp, at_of (j := 1) rfl rfl, i, j, rfl, rfl, ?_⟩
      have e : isRat (.tup [.int i, .int j]) = decide (V.int ((Nat.gcd i.natAbs j.natAbs : Nat) : Int) = V.int 1) := by
        show (decide (1 ≤ j) && decide (Nat.gcd i.natAbs j.natAbs = 1)) = _
        rw [decide_eq_true h1, Bool.true_and]
        refine decide_eq_decide.mpr ⟨fun z => by rw [z]; rfl, fun z => ?_⟩
        have := V.int.inj z
        omega
      rw [e] at k
      exact k
    · refine ifF h1 ?_
      have e : isRat (.tup [.int i, .int j]) = false := by
        show (decide (1 ≤ j) && decide (Nat.gcd i.natAbs j.natAbs = 1)) = _
        rw [decide_eq_false h1, Bool.false_and]
      rw [e] at k
      exact k
end
end J1
set_option Elab.async false
set_option linter.all false
set_option maxRecDepth 100000
set_option maxHeartbeats 4000000
namespace J1
open PySem PySem.Spec PyProof.Rows L2 GxR GA
abbrev sLn : Stmt := top 37
theorem cLn : FnScope ["thing", "count", "least", "term"] ["thing", "count"] (defScope sLn) := ⟨rfl, rfl, rfl, by decide +kernel, rfl, by decide +kernel, by decide +kernel⟩
abbrev sRw : Stmt := top 36
theorem cRw : FnScope ["thing", "count"] ["thing", "count"] (defScope sRw) := ⟨rfl, rfl, rfl, by decide +kernel, rfl, by decide +kernel, by decide +kernel⟩
abbrev sSy : Stmt := top 35
theorem cSy : FnScope ["thing", "count", "rows", "row"] ["thing"] (defScope sSy) := ⟨rfl, rfl, rfl, by decide +kernel, rfl, by decide +kernel, by decide +kernel⟩
/-- a judge of a thing and a count -/
def spFc (g : Int → Da → Bool) : Sp := fun vs H Q _ => ∃ x d c, vs = [x, .int c] ∧ Enc H d x ∧ Q (.bl (g c d)) H
theorem isTms_no {c lo : Int} {d : Da} {r : List Da} (h : isTu 2 2 d = false) : isTms c lo (d :: r) = false := by
  unfold isTms
  split
  · cases h
  · rfl
theorem isTms_0 {c lo : Int} {x y : Da} {r : List Da} (h : isBet lo (c - 1) x = false) : isTms c lo (.tup [x, y] :: r) = false := by
  cases x with
  | int u =>
    have h : (decide (lo ≤ u) && decide (u ≤ c - 1)) = false := h
    cases y with
    | int k =>
      show (decide (lo ≤ u) && decide (u ≤ c - 1) && !decide (k = 0) && isTms c (u + 1) r) = false
      rw [h]
      rfl
    | _ => rfl
  | _ => rfl
theorem isTms_1 {c lo u : Int} {y : Da} {r : List Da} (h : isInt y = false) : isTms c lo (.tup [.int u, y] :: r) = false := by
  cases y with
  | int k => cases h
  | _ => rfl
theorem isTms_2 {c lo u : Int} {r : List Da} : isTms c lo (.tup [.int u, .int 0] :: r) = false := by
  show (decide (lo ≤ u) && decide (u ≤ c - 1) && !decide ((0 : Int) = 0) && isTms c (u + 1) r) = false
  rw [decide_eq_true rfl]
  simp
theorem isTms_3 {c lo u k : Int} {r : List Da} (h : isBet lo (c - 1) (.int u) = true) (hk : k ≠ 0) : isTms c lo (.tup [.int u, .int k] :: r) = isTms c (u + 1) r := by
  have h : (decide (lo ≤ u) && decide (u ≤ c - 1)) = true := h
  show (decide (lo ≤ u) && decide (u ≤ c - 1) && !decide (k = 0) && isTms c (u + 1) r) = _
  rw [h, decide_eq_false hk]
  rfl
theorem isBet_c (lo hi : Int) (d : Da) : isBet lo hi d = false ∨ (∃ i, d = .int i) ∧ isBet lo hi d = true := by
  cases d with
  | int i => cases h : isBet lo hi (.int i) with
    | false => exact .inl rfl
    | true => exact .inr ⟨⟨i, rfl⟩, rfl⟩
  | non => exact .inl rfl
  | bl b => exact .inl rfl
  | str s => exact .inl rfl
  | tup l => exact .inl rfl
  | lst l => exact .inl rfl
theorem isTu_c (lo hi : Int) (d : Da) : isTu lo hi d = false ∨ (∃ l, d = .tup l) ∧ isTu lo hi d = true := by
  cases d with
  | tup l => cases h : isTu lo hi (.tup l) with
    | false => exact .inl rfl
    | true => exact .inr ⟨⟨l, rfl⟩, rfl⟩
  | non => exact .inl rfl
  | bl b => exact .inl rfl
  | str s => exact .inl rfl
  | int i => exact .inl rfl
  | lst l => exact .inl rfl
theorem isLn_n {c : Int} {d : Da} (h : isTu 2 2 d = false) : isLn c d = false := by
  unfold isLn
  split
  · cases h
  · rfl
theorem isLn_0 {c : Int} {x y : Da} (h : isInt x = false) : isLn c (.tup [x, y]) = false := by
  cases x with
  | int i => cases h
  | _ => rfl
theorem isLn_1 {c i : Int} {y : Da} (h : isTu 0 c y = false) : isLn c (.tup [.int i, y]) = false := by
  cases y with
  | tup l =>
    have h : (decide ((0 : Int) ≤ (l.length : Int)) && decide ((l.length : Int) ≤ c)) = false := h
    rw [decide_eq_true (by omega : (0 : Int) ≤ (l.length : Int)), Bool.true_and] at h
    show (decide ((l.length : Int) ≤ c) && _) = false
    rw [h]
    rfl
  | _ => rfl
theorem isLn_2 {c i : Int} {l : List Da} (h : isTu 0 c (.tup l) = true) : isLn c (.tup [.int i, .tup l]) = isTms c 0 l := by
  have h : (decide ((0 : Int) ≤ (l.length : Int)) && decide ((l.length : Int) ≤ c)) = true := h
  rw [decide_eq_true (by omega : (0 : Int) ≤ (l.length : Int)), Bool.true_and] at h
  show (decide ((l.length : Int) ≤ c) && _) = _
  rw [h]
  rfl
theorem isRw_n {c : Int} {d : Da} (h : isTu 2 2 d = false) : isRw c d = false := by
  unfold isRw
  split
  · cases h
  · rfl
theorem isRw_1 {c : Int} {x y : Da} (h : bB y = false) : isRw c (.tup [x, y]) = false := by
  cases y with
  | bl b => cases h
  | _ => rfl
theorem isRw_2 {c : Int} {x y : Da} (h : bB y = true) : isRw c (.tup [x, y]) = isLn c x := by
  cases y with
  | bl b => rfl
  | _ => cases h
theorem isSy_n {d : Da} (h : isTu 2 2 d = false) : isSy d = false := by
  unfold isSy
  split
  · cases h
  · rfl
theorem isSy_0 {x y : Da} (h : isBet 0 4000 x = false) : isSy (.tup [x, y]) = false := by
  cases x with
  | int c =>
    have h : (decide ((0 : Int) ≤ c) && decide (c ≤ 4000)) = false := h
    cases y with
    | tup l =>
      show (decide (0 ≤ c) && decide (c ≤ 4000) && _ && _) = false
      rw [h]
      rfl
    | _ => rfl
  | _ => rfl
theorem isSy_1 {c : Int} {y : Da} (h : isTu 0 12000 y = false) : isSy (.tup [.int c, y]) = false := by
  cases y with
  | tup l =>
    have h : (decide ((0 : Int) ≤ (l.length : Int)) && decide ((l.length : Int) ≤ 12000)) = false := h
    rw [decide_eq_true (by omega : (0 : Int) ≤ (l.length : Int)), Bool.true_and] at h
    show (decide (0 ≤ c) && decide (c ≤ 4000) && decide ((l.length : Int) ≤ 12000) && _) = false
    rw [h]
    simp
  | _ => rfl
theorem isSy_2 {c : Int} {l : List Da} (h0 : isBet 0 4000 (.int c) = true) (h : isTu 0 12000 (.tup l) = true) : isSy (.tup [.int c, .tup l]) = l.all (isRw c) := by
  have h0 : (decide ((0 : Int) ≤ c) && decide (c ≤ 4000)) = true := h0
  have h : (decide ((0 : Int) ≤ (l.length : Int)) && decide ((l.length : Int) ≤ 12000)) = true := h
  rw [decide_eq_true (by omega : (0 : Int) ≤ (l.length : Int)), Bool.true_and] at h
  show (decide (0 ≤ c) && decide (c ≤ 4000) && decide ((l.length : Int) ≤ 12000) && _) = _
  rw [h0, h]
  rfl
section
variable {P : Program} {w : World} {K : PySem.W.Frag} {mg : Str → Option Value} {base : Heap}
theorem ok_line {f fT fI fB : Addr} {fd fdT fdI fdB : FuncData} (F : Fun K "is_line" "is_line" sLn f fd)
    (GT : FnOk P w K mg base CX0 1 fT fdT ["thing", "least", "most"] (spF3 isTu)) (DT : Df K mg "is_tuple" ["thing", "least", "most"] fT fdT)
    (GI : FnOk P w K mg base CX0 1 fI fdI ["thing"] (spF isInt)) (DI : Df K mg "is_integer" ["thing"] fI fdI)
    (GB : FnOk P w K mg base CX0 2 fB fdB ["thing", "least", "most"] (spF3 isBet)) (DB : Df K mg "is_between" ["thing", "least", "most"] fB fdB) : FnOk P w K mg base CX0 3 f fd ["thing", "count"] (spFc isLn) := by
  refine F.ok (k := 2) cLn (fun vs H Q E h => ?_) (fun cdv A outer s H vs Q E hr h => ?_)
  · obtain ⟨x, d, c, rfl, _⟩ := h
    rfl
  · obtain ⟨x, d, c, rfl, en, k⟩ := h
    refine ⟨_, (pss_cons (ps_if (PW.pt (pw_or (pt_not (pt_val (pe_call (GT.mono (by decide)) hr (by rfl) DT.g DT.k DT.b .nil pass0 (pa_cons (pv 0) (pa_cons pe_int (pa_cons pe_int pa_nil)))))) (pw_or (pt_not (pt_val (pe_call (GI.mono (by decide)) hr (by rfl) DI.g DI.k DI.b .nil pass0 (pa_cons (pe_ix ix_tup (pv 0) pe_int (fun _ _ => rfl)) pa_nil)))) (pw_or1 (pt_not (pt_val (pe_call (GT.mono (by decide)) hr (by rfl) DT.g DT.k DT.b .nil pass0 (pa_cons (pe_ix ix_tup (pv 0) pe_int (fun _ _ => rfl)) (pa_cons pe_int (pa_cons (pv 1) pa_nil)))))))))) (pss_one (ps_ret pe_bl)) pss_nil) (pss_cons (ps_set (i := 2) cLn.nd rfl (Or.inl rfl) pe_int) (pss_cons (ps_for PassesOwn.never rfl (pi_tup (pe_ix ix_tup (pv 0) pe_int (fun _ _ => rfl))) (pg_name (i := 3) cLn.nd rfl (Or.inl rfl)) (pss_cons (ps_if (PW.pt (pw_or (pt_not (pt_val (pe_call (GT.mono (by decide)) hr (by rfl) DT.g DT.k DT.b .nil pass0 (pa_cons (pv 3) (pa_cons pe_int (pa_cons pe_int pa_nil)))))) (pw_or1 (pt_not (pt_val (pe_call GB hr (by rfl) DB.g DB.k DB.b .nil pass0 (pa_cons (pe_ix ix_tup (pv 3) pe_int (fun _ _ => rfl)) (pa_cons (pv 2) (pa_cons (pe_op op_sub (pv 1) pe_int) pa_nil))))))))) (pss_one (ps_ret pe_bl)) pss_nil) (pss_cons (ps_if (PW.pt (pw_or (pt_not (pt_val (pe_call (GI.mono (by decide)) hr (by rfl) DI.g DI.k DI.b .nil pass0 (pa_cons (pe_ix ix_tup (pv 3) pe_int (fun _ _ => rfl)) pa_nil)))) (pw_or1 (pt_cmpR op_eq (pe_ix ix_tup (pv 3) pe_int (fun _ _ => rfl)) pe_int (nomark _))))) (pss_one (ps_ret pe_bl)) pss_nil) (pss_one (ps_set (i := 2) cLn.nd rfl (Or.inl rfl) (pe_op op_add (pe_ix ix_tup (pv 3) pe_int (fun _ _ => rfl)) pe_int)))))) (pss_one (ps_ret pe_bl))))), ?_⟩
    refine ⟨_, rfl, x, d, 2, 2, rfl, en, _, rfl, ?_⟩
    rcases isTu2 d with h | ⟨d0, d1, rfl⟩
    · rw [h]
      rw [isLn_n h] at k
      exact iteT k
    obtain ⟨p, a, b, rfl, hp, e0, e1⟩ := enc2 en
    rw [isTu22]
    refine iteF ⟨_, rfl, p, _, _, _, rfl, rfl, SqT.of hp, at_of (j := 0) rfl rfl, _, d0, rfl, e0, _, rfl, ?_⟩
    rcases isInt_c d0 with h | ⟨i, rfl⟩
    · rw [h]
      rw [isLn_0 h] at k
      exact iteT k
    refine iteF ⟨_, rfl, p, _, _, _, rfl, rfl, SqT.of hp, at_of (j := 1) rfl rfl, _, rfl, _, d1, 0, c, rfl, e1, _, rfl, ?_⟩
    rcases isTu_c 0 c d1 with h | ⟨⟨l, rfl⟩, h⟩
    · rw [h]
      rw [isLn_1 h] at k
      exact iteT k
    rw [h]
    rw [isLn_2 h] at k
    obtain ⟨p1, xs, rfl, hp1, es⟩ := encT e1
    refine iteF ⟨_, rfl, p, _, _, _, rfl, rfl, SqT.of hp, at_of (j := 1) rfl rfl, p1, rfl, ⟨_, SqT.of hp1⟩, ?_⟩
    refine for_tup (K := K) (xs := xs) (fun i σ' Hc => ∃ (lo : Int) (v3 : Option V), σ' = [some (.ref p), some (.int c), some (.int lo), v3] ∧ Hc = H ∧ isTms c 0 l = isTms c lo (l.drop i)) ⟨0, none, rfl, rfl, rfl⟩ (fun i σ' Hc _ hp => ?_) (fun i z σ' Hc hz hp => ?_) (fun σ' Hc hp => ?_)
    · obtain ⟨_, _, _, rfl, _⟩ := hp
      exact SqT.of hp1
    · obtain ⟨lo, v3, rfl, rfl, hl⟩ := hp
      obtain ⟨d1, hd1, ez⟩ := es.get hz
      have hdr : l.drop i = d1 :: l.drop (i + 1) := by
        obtain ⟨hi, e⟩ := List.getElem?_eq_some_iff.mp hd1
        rw [List.drop_eq_getElem_cons hi, e]
      rw [hdr] at hl
      refine ⟨_, rfl, z, d1, 2, 2, rfl, ez, _, rfl, ?_⟩
      rcases isTu2 d1 with h | ⟨t0, t1, rfl⟩
      · rw [h]
        rw [isTms_no h] at hl
        rw [hl] at k
        exact iteT k
      obtain ⟨q, a, b, rfl, hq, f0, f1⟩ := enc2 ez
      rw [isTu22]
      refine iteF ⟨_, rfl, q, _, _, _, rfl, rfl, SqT.of hq, at_of (j := 0) rfl rfl, _, rfl, _, rfl, _, _, rfl, rfl, _, t0, lo, c - 1, rfl, f0, _, rfl, ?_⟩
      rcases isBet_c lo (c - 1) t0 with h | ⟨⟨u, rfl⟩, h⟩
      · rw [h]
        rw [isTms_0 h] at hl
        rw [hl] at k
        exact iteT k
      rw [h]
      have hb := h
      refine iteF ⟨_, rfl, q, _, _, _, rfl, rfl, SqT.of hq, at_of (j := 1) rfl rfl, _, t1, rfl, f1, _, rfl, ?_⟩
      rcases isInt_c t1 with h | ⟨kk, rfl⟩
      · rw [h]
        rw [isTms_1 h] at hl
        rw [hl] at k
        exact iteT k
      cases encI f0
      cases encI f1
      refine iteF ⟨_, rfl, q, _, _, _, rfl, rfl, SqT.of hq, at_of (j := 1) rfl rfl, rfl, _, rfl, ?_⟩
      by_cases hz : kk = 0
      · subst hz
        rw [isTms_2] at hl
        rw [hl] at k
        exact ifT rfl k
      rw [isTms_3 hb hz] at hl
      refine ifF (fun z => hz (V.int.inj z)) ⟨_, rfl, q, _, _, _, rfl, rfl, SqT.of hq, at_of (j := 0) rfl rfl, _, _, rfl, rfl, ?_⟩
      exact ⟨u + 1, _, rfl, rfl, hl⟩
    · obtain ⟨lo, v3, rfl, rfl, hl⟩ := hp
      have e : l.drop xs.length = [] := by rw [← es.length]; exact List.drop_length
      rw [e] at hl
      rw [hl] at k
      exact k
theorem ok_row {f fT fL : Addr} {fd fdT fdL : FuncData} (F : Fun K "_is_row" "_is_row" sRw f fd) (N : Gn K mg)
    (GT : FnOk P w K mg base CX0 1 fT fdT ["thing", "least", "most"] (spF3 isTu)) (DT : Df K mg "is_tuple" ["thing", "least", "most"] fT fdT)
    (GL : FnOk P w K mg base CX0 3 fL fdL ["thing", "count"] (spFc isLn)) (DL : Df K mg "is_line" ["thing", "count"] fL fdL) : FnOk P w K mg base CX0 4 f fd ["thing", "count"] (spFc isRw) := by
  refine F.ok (k := 3) cRw (fun vs H Q E h => ?_) (fun cdv A outer s H vs Q E hr h => ?_)
  · obtain ⟨x, d, c, rfl, _⟩ := h
    rfl
  · obtain ⟨x, d, c, rfl, en, k⟩ := h
    refine ⟨_, (pss_one (ps_ret (pe_and (pe_call (GT.mono (by decide)) hr (by rfl) DT.g DT.k DT.b .nil pass0 (pa_cons (pv 0) (pa_cons pe_int (pa_cons pe_int pa_nil)))) (pe_and (pe_callB call_isi (by rfl) N.nI boot_isinstance (pa_cons (pe_ix ix_tup (pv 0) pe_int (fun _ _ => rfl)) (pa_cons (pe_bltn (v := .ty "bool") rfl N.nb (by decide +kernel) rfl) pa_nil))) (pe_one (pe_call GL hr (by rfl) DL.g DL.k DL.b .nil pass0 (pa_cons (pe_ix ix_tup (pv 0) pe_int (fun _ _ => rfl)) (pa_cons (pv 1) pa_nil)))))))), ?_⟩
    refine ⟨_, rfl, x, d, 2, 2, rfl, en, _, rfl, ?_⟩
    rcases isTu2 d with h | ⟨d0, d1, rfl⟩
    · rw [h]
      rw [isRw_n h] at k
      exact iteF k
    obtain ⟨p, a, b, rfl, hp, e0, e1⟩ := enc2 en
    rw [isTu22]
    obtain ⟨_, kB, _, _⟩ := kitD d1
    refine iteT ⟨_, rfl, p, _, _, _, rfl, rfl, SqT.of hp, at_of (j := 1) rfl rfl, _, _, _, _, _, rfl, .ty "bool", e1.ty, kit_ty kB, _, rfl, ?_⟩
    cases h : bB d1 with
    | false =>
      rw [isRw_1 h] at k
      exact iteF k
    | true =>
      rw [isRw_2 h] at k
      exact iteT ⟨_, rfl, p, _, _, _, rfl, rfl, SqT.of hp, at_of (j := 0) rfl rfl, _, rfl, _, d0, c, rfl, e0, k⟩
/-- is_system tells what isSy says; what it lays down is new -/
def spSy : Sp := fun vs H Q _ => ∃ x d, vs = [x] ∧ Enc H d x ∧ ∀ H', Grow H H' → Q (.bl (isSy d)) H'
theorem ok_sys {f fT fR fB : Addr} {fd fdT fdR fdB : FuncData} {tU tR : Tok} (F : Fun K "is_system" "is_system" sSy f fd) (N : Gn K mg) (hMU : mg "MOST_UNKNOWNS" = some (.int 4000 tU)) (hMR : mg "MOST_ROWS" = some (.int 12000 tR))
    (GT : FnOk P w K mg base CX0 1 fT fdT ["thing", "least", "most"] (spF3 isTu)) (DT : Df K mg "is_tuple" ["thing", "least", "most"] fT fdT)
    (GB : FnOk P w K mg base CX0 2 fB fdB ["thing", "least", "most"] (spF3 isBet)) (DB : Df K mg "is_between" ["thing", "least", "most"] fB fdB)
    (GR : FnOk P w K mg base CX0 4 fR fdR ["thing", "count"] (spFc isRw)) (DR : Df K mg "_is_row" ["thing", "count"] fR fdR) : FnOk P w K mg base CX0 5 f fd ["thing"] spSy := by
  refine F.ok (k := 4) cSy (fun vs H Q E h => ?_) (fun cdv A outer s H vs Q E hr h => ?_)
  · obtain ⟨x, d, rfl, _⟩ := h
    rfl
  · obtain ⟨x, d, rfl, en, k⟩ := h
    refine ⟨_, (pss_cons (ps_if (PW.pt (pw_or (pt_not (pt_val (pe_call (GT.mono (by decide)) hr (by rfl) DT.g DT.k DT.b .nil pass0 (pa_cons (pv 0) (pa_cons pe_int (pa_cons pe_int pa_nil)))))) (pw_or1 (pt_not (pt_val (pe_call (GB.mono (by decide)) hr (by rfl) DB.g DB.k DB.b .nil pass0 (pa_cons (pe_ix ix_tup (pv 0) pe_int (fun _ _ => rfl)) (pa_cons pe_int (pa_cons (pe_glob (v := .int 4000) (by rfl) hMU ⟨_, rfl⟩) pa_nil))))))))) (pss_one (ps_ret pe_bl)) pss_nil) (pss_cons (ps_asg (pv 0) (pg_tup (by rfl) (pgs_cons (pg_name (i := 1) cSy.nd rfl (Or.inr rfl)) (pgs_cons (pg_name (i := 2) cSy.nd rfl (Or.inl rfl)) pgs_nil)))) (pss_one (ps_ret (pe_and (pe_call (GT.mono (by decide)) hr (by rfl) DT.g DT.k DT.b .nil pass0 (pa_cons (pv 2) (pa_cons pe_int (pa_cons (pe_glob (v := .int 12000) (by rfl) hMR ⟨_, rfl⟩) pa_nil)))) (pe_one (pe_callB (cr_all (by rfl)) (by rfl) N.na (by decide +kernel) (pa_cons (pe_lc (own := [("row", 3)]) (g := gName 3) (tt := tYes) (by rfl) cSy.nd (pi_tup (pv 2)) (blkOk_by (own := [("row", 3)]) (N := ["thing", "count", "rows", "row"]) (sc := defScope sSy) (by decide +kernel)) (fun _ _ _ _ _ => (pg_name (i := 3) cSy.nd rfl (Or.inl rfl))) (fun _ _ _ _ _ => pts_nil) (fun _ _ _ _ _ => (pe_call GR hr (by rfl) DR.g DR.k DR.b .nil pass0 (pa_cons (pv 3) (pa_cons (pv 1) pa_nil))))) pa_nil)))))))), ?_⟩
    refine ⟨_, rfl, x, d, 2, 2, rfl, en, _, rfl, ?_⟩
    rcases isTu2 d with h | ⟨d0, d1, rfl⟩
    · rw [h]
      rw [isSy_n h] at k
      exact iteT (k _ (Grow.refl _))
    obtain ⟨p, a, b, rfl, hp, e0, e1⟩ := enc2 en
    rw [isTu22]
    refine iteF ⟨_, rfl, p, _, _, _, rfl, rfl, SqT.of hp, at_of (j := 0) rfl rfl, _, d0, 0, 4000, rfl, e0, _, rfl, ?_⟩
    rcases isBet_c 0 4000 d0 with h | ⟨⟨c, rfl⟩, hc⟩
    · rw [h]
      rw [isSy_0 h] at k
      exact iteT (k _ (Grow.refl _))
    cases encI e0
    rw [hc]
    refine iteF ⟨_, rfl, p, _, rfl, SqT.of hp, rfl, _, _, rfl, _, _, rfl, rfl, ?_⟩
    refine ⟨_, rfl, _, d1, 0, 12000, rfl, e1, _, rfl, ?_⟩
    rcases isTu_c 0 12000 d1 with h | ⟨⟨l, rfl⟩, h⟩
    · rw [h]
      rw [isSy_1 h] at k
      exact iteF (k _ (Grow.refl _))
    rw [h]
    rw [isSy_2 hc h] at k
    obtain ⟨p1, xs, rfl, hp1, es⟩ := encT e1
    refine iteT ⟨_, rfl, p1, rfl, ⟨_, SqT.of hp1⟩, fun D hD => ?_⟩
    have hl : xs.length ≤ 12000 := by
      have h : (decide ((0 : Int) ≤ (l.length : Int)) && decide ((l.length : Int) ≤ 12000)) = true := h
      rw [Bool.and_eq_true, decide_eq_true_iff, decide_eq_true_iff] at h
      have := es.length
      omega
    refine lc_tup (K := K) (xs := xs) (fun i Hc => Hc D = some (.lst (((l.take i).map (isRw c)).map V.bl)) ∧ Grow H Hc) ⟨upd_same, Grow.new hD⟩ (fun i Hc _ hq => SqT.of (hq.2.tup hp1)) (fun i z Hc hz hq => ?_) (fun Hd hq => ?_)
    · obtain ⟨hacc, g⟩ := hq
      obtain ⟨d1, hd1, ez⟩ := es.get hz
      have hi' := (List.getElem?_eq_some_iff.mp hz).1
      refine ⟨wipe_set, ?_⟩
      unfold tYes
      refine iteT ⟨_, rfl, _, rfl, z, d1, c, rfl, ez.grow g, _, hacc, ?_, ?_, g.upd' hD⟩
      · rw [List.length_map, List.length_map, List.length_take, sizeLine_eq]
        omega
      · rw [upd_same, List.take_succ, hd1, List.map_append, List.map_append]
        rfl
    · obtain ⟨hacc, g⟩ := hq
      rw [← es.length, List.take_length] at hacc
      refine ⟨D, _, rfl, SqL.of hacc, ?_⟩
      have q := k _ g
      rw [List.all_map] 
      exact q
end
end J1
set_option Elab.async false
set_option linter.all false
set_option maxRecDepth 100000
set_option maxHeartbeats 4000000
namespace J1
open PySem PySem.Spec PyProof.Rows L2 GxR GA RZ
abbrev sPt : Stmt := top 38
theorem cPt : FnScope ["thing", "count", "part"] ["thing", "count"] (defScope sPt) := ⟨rfl, rfl, rfl, by decide +kernel, rfl, by decide +kernel, by decide +kernel⟩
abbrev sMu : Stmt := top 39
theorem cMu : FnScope ["rows", "thing", "part", "_", "exact"] ["rows", "thing"] (defScope sMu) := ⟨rfl, rfl, rfl, by decide +kernel, rfl, by decide +kernel, by decide +kernel⟩
theorem walk34 {K : PySem.W.Frag} {a b : Addr} {xs ys : List V} {n : Nat} (h1 : n ≤ xs.length) (h2 : n ≤ ys.length) (h3 : xs.length ≤ n ∨ ys.length ≤ n) :
    Walk (ItzT K a b) n (fun H => SqT K H a xs ∧ SqT K H b ys) (YPair (fun i => xs[i]?) (fun i => ys[i]?)) := by
  refine ⟨fun i H hi q => ⟨xs, ys, xs[i]'(by omega), ys[i]'(by omega), q.1, q.2, List.getElem?_eq_getElem _, List.getElem?_eq_getElem _⟩, fun H q => ⟨xs, ys, q.1, q.2, h3⟩, fun i H v H' _ q y => ?_⟩
  obtain ⟨T, x, z, e1, e2, e3, e4, e5⟩ := y
  exact ⟨T, x, z, e1, e2, e3, e4 xs q.1, e5 ys q.2⟩
/-- a judge of a thing and a count; what it lays down is new -/
def spPt : Sp := fun vs H Q _ => ∃ x d c, vs = [x, .int c] ∧ Enc H d x ∧ c ≤ 4000 ∧ ∀ H', Grow H H' → Q (.bl (isPt c d)) H'
theorem isPt_0 {c : Int} {d : Da} (h : isTu c c d = false) : isPt c d = false := by
  cases d with
  | tup l =>
    have h : (decide (c ≤ (l.length : Int)) && decide ((l.length : Int) ≤ c)) = false := h
    have e : decide ((l.length : Int) = c) = false := by
      refine decide_eq_false fun z => ?_
      rw [z, decide_eq_true (Int.le_refl c)] at h
      cases h
    show (decide ((l.length : Int) = c) && _) = false
    rw [e]
    rfl
  | _ => rfl
theorem isPt_1 {c : Int} {l : List Da} (h : isTu c c (.tup l) = true) : (l.length : Int) = c ∧ isPt c (.tup l) = l.all isRat := by
  have h : (decide (c ≤ (l.length : Int)) && decide ((l.length : Int) ≤ c)) = true := h
  rw [Bool.and_eq_true, decide_eq_true_iff, decide_eq_true_iff] at h
  have e : (l.length : Int) = c := by omega
  refine ⟨e, ?_⟩
  show (decide ((l.length : Int) = c) && _) = _
  rw [decide_eq_true e]
  rfl
section
variable {P : Program} {w : World} {K : PySem.W.Frag} {mg : Str → Option Value} {base : Heap}
theorem ok_point {f fT fR : Addr} {fd fdT fdR : FuncData} (F : Fun K "is_point" "is_point" sPt f fd) (N : Gn K mg)
    (GT : FnOk P w K mg base CX0 1 fT fdT ["thing", "least", "most"] (spF3 isTu)) (DT : Df K mg "is_tuple" ["thing", "least", "most"] fT fdT)
    (GR : FnOk P w K mg base CX0 2 fR fdR ["thing"] (spF isRat)) (DR : Df K mg "is_ratio" ["thing"] fR fdR) : FnOk P w K mg base CX0 3 f fd ["thing", "count"] spPt := by
  refine F.ok (k := 2) cPt (fun vs H Q E h => ?_) (fun cdv A outer s H vs Q E hr h => ?_)
  · obtain ⟨x, d, c, rfl, _⟩ := h
    rfl
  · obtain ⟨x, d, c, rfl, en, hc4, k⟩ := h
    refine ⟨_, (pss_one (ps_ret (pe_and (pe_call (GT.mono (by decide)) hr (by rfl) DT.g DT.k DT.b .nil pass0 (pa_cons (pv 0) (pa_cons (pv 1) (pa_cons (pv 1) pa_nil)))) (pe_one (pe_callB (cr_all (by rfl)) (by rfl) N.na (by decide +kernel) (pa_cons (pe_lc (own := [("part", 2)]) (g := gName 2) (tt := tYes) (by rfl) cPt.nd (pi_tup (pv 0)) (blkOk_by (own := [("part", 2)]) (N := ["thing", "count", "part"]) (sc := defScope sPt) (by decide +kernel)) (fun _ _ _ _ _ => (pg_name (i := 2) cPt.nd rfl (Or.inl rfl))) (fun _ _ _ _ _ => pts_nil) (fun _ _ _ _ _ => (pe_call GR hr (by rfl) DR.g DR.k DR.b .nil pass0 (pa_cons (pv 2) pa_nil)))) pa_nil)))))), ?_⟩
    refine ⟨_, rfl, _, rfl, _, rfl, x, d, c, c, rfl, en, _, rfl, ?_⟩
    rcases isTu_c c c d with h | ⟨⟨l, rfl⟩, h⟩
    · rw [h]
      rw [isPt_0 h] at k
      exact iteF (k _ (Grow.refl _))
    rw [h]
    obtain ⟨hl, e⟩ := isPt_1 h
    rw [e] at k
    obtain ⟨p1, xs, rfl, hp1, es⟩ := encT en
    refine iteT ⟨_, rfl, p1, rfl, ⟨_, SqT.of hp1⟩, fun D hD => ?_⟩
    have hx := es.length
    refine lc_tup (K := K) (xs := xs) (fun i Hc => Hc D = some (.lst (((l.take i).map isRat).map V.bl)) ∧ Grow H Hc) ⟨upd_same, Grow.new hD⟩ (fun i Hc _ hq => SqT.of (hq.2.tup hp1)) (fun i z Hc hz hq => ?_) (fun Hd hq => ?_)
    · obtain ⟨hacc, g⟩ := hq
      obtain ⟨d1, hd1, ez⟩ := es.get hz
      have hi' := (List.getElem?_eq_some_iff.mp hz).1
      refine ⟨wipe_set, ?_⟩
      unfold tYes
      refine iteT ⟨_, rfl, z, d1, rfl, ez.grow g, _, hacc, ?_, ?_, g.upd' hD⟩
      · rw [List.length_map, List.length_map, List.length_take, sizeLine_eq]
        omega
      · rw [upd_same, List.take_succ, hd1, List.map_append, List.map_append]
        rfl
    · obtain ⟨hacc, g⟩ := hq
      rw [← es.length, List.take_length] at hacc
      refine ⟨D, _, rfl, SqL.of hacc, ?_⟩
      have q := k _ g
      rw [List.all_map]
      exact q
theorem isMu_0 {rs : List Rw} {d : Da} (h : isTu rs.length rs.length d = false) : isMu rs d = false := by
  cases d with
  | tup l =>
    have h : (decide ((rs.length : Int) ≤ (l.length : Int)) && decide ((l.length : Int) ≤ (rs.length : Int))) = false := h
    have e : decide (l.length = rs.length) = false := by
      refine decide_eq_false fun z => ?_
      rw [z, decide_eq_true (Int.le_refl _)] at h
      cases h
    show (decide (l.length = rs.length) && _ && _) = false
    rw [e]
    rfl
  | _ => rfl
theorem isMu_1 {rs : List Rw} {l : List Da} (h : isTu rs.length rs.length (.tup l) = true) : l.length = rs.length ∧ isMu rs (.tup l) = (l.all isInt && (rs.zip l).all fun p => p.1.2 || geD p.2) := by
  have h : (decide ((rs.length : Int) ≤ (l.length : Int)) && decide ((l.length : Int) ≤ (rs.length : Int))) = true := h
  rw [Bool.and_eq_true, decide_eq_true_iff, decide_eq_true_iff] at h
  have e : l.length = rs.length := by omega
  refine ⟨e, ?_⟩
  show (decide (l.length = rs.length) && _ && _) = _
  rw [decide_eq_true e]
  rfl
theorem int_all {l : List Da} (h : l.all isInt = true) {i : Nat} {d : Da} (hd : l[i]? = some d) : ∃ k, d = .int k := by
  rcases isInt_c d with q | q
  · rw [List.all_eq_true.mp h d (List.mem_of_getElem? hd)] at q
    cases q
  · exact q
def spMu : Sp := fun vs H Q _ => ∃ xr x d rs, vs = [xr, x] ∧ Enc H (rwsD rs) xr ∧ Enc H d x ∧ rs.length ≤ 12000 ∧ ∀ H', Grow H H' → Q (.bl (isMu rs d)) H'
theorem ok_mults {f fT fI : Addr} {fd fdT fdI : FuncData} (F : Fun K "are_multipliers" "are_multipliers" sMu f fd) (N : Gn K mg) (nz : mg "zip" = none)
    (GT : FnOk P w K mg base CX0 1 fT fdT ["thing", "least", "most"] (spF3 isTu)) (DT : Df K mg "is_tuple" ["thing", "least", "most"] fT fdT)
    (GI : FnOk P w K mg base CX0 1 fI fdI ["thing"] (spF isInt)) (DI : Df K mg "is_integer" ["thing"] fI fdI) : FnOk P w K mg base CX0 2 f fd ["rows", "thing"] spMu := by
  refine F.ok (k := 1) cMu (fun vs H Q E h => ?_) (fun cdv A outer s H vs Q E hr h => ?_)
  · obtain ⟨xr, x, d, rs, rfl, _⟩ := h
    rfl
  · obtain ⟨xr, x, d, rs, rfl, er, en, hc4, k⟩ := h
    refine ⟨_, (pss_cons (ps_if (PW.pt (pw_or (pt_not (pt_val (pe_call GT hr (by rfl) DT.g DT.k DT.b .nil pass0 (pa_cons (pv 1) (pa_cons (pe_callB call_len_seq (by rfl) N.nl PySem.boot_len (pa_cons (pv 0) pa_nil)) (pa_cons (pe_callB call_len_seq (by rfl) N.nl PySem.boot_len (pa_cons (pv 0) pa_nil)) pa_nil)))))) (pw_or1 (pt_not (pt_val (pe_callB (cr_all (by rfl)) (by rfl) N.na (by decide +kernel) (pa_cons (pe_lc (own := [("part", 2)]) (g := gName 2) (tt := tYes) (by rfl) cMu.nd (pi_tup (pv 1)) (blkOk_by (own := [("part", 2)]) (N := ["rows", "thing", "part", "_", "exact"]) (sc := defScope sMu) (by decide +kernel)) (fun _ _ _ _ _ => (pg_name (i := 2) cMu.nd rfl (Or.inl rfl))) (fun _ _ _ _ _ => pts_nil) (fun _ _ _ _ _ => (pe_call GI hr (by rfl) DI.g DI.k DI.b .nil pass0 (pa_cons (pv 2) pa_nil)))) pa_nil))))))) (pss_one (ps_ret pe_bl)) pss_nil) (pss_one (ps_ret (pe_callB (cr_all (by rfl)) (by rfl) N.na (by decide +kernel) (pa_cons (pe_lc (own := [("part", 2), ("_", 3), ("exact", 4)]) (g := gTup K 2 (gCons (gTup K 2 (gCons (gName 3) (gCons (gName 4) gNil))) (gCons (gName 2) gNil))) (tt := tYes) (by rfl) cMu.nd (pi_zipA (by rfl) nz (pa_cons (pv 0) (pa_cons (pv 1) pa_nil))) (blkOk_by (own := [("part", 2), ("_", 3), ("exact", 4)]) (N := ["rows", "thing", "part", "_", "exact"]) (sc := defScope sMu) (by decide +kernel)) (fun _ _ _ _ _ => (pg_tup (by rfl) (pgs_cons (pg_tup (by rfl) (pgs_cons (pg_name (i := 3) cMu.nd rfl (Or.inl rfl)) (pgs_cons (pg_name (i := 4) cMu.nd rfl (Or.inl rfl)) pgs_nil))) (pgs_cons (pg_name (i := 2) cMu.nd rfl (Or.inl rfl)) pgs_nil)))) (fun _ _ _ _ _ => pts_nil) (fun _ _ _ _ _ => (pe_or (pv 4) (pe_one (pe_cmpR op_ge (pv 2) pe_int (nomark _)))))) pa_nil))))), ?_⟩
    obtain ⟨pr, us, rfl, hpr, er⟩ := encT er
    have hu := er.length
    rw [List.length_map] at hu
    refine ⟨_, rfl, _, rfl, pr, us, rfl, .inr (SqT.of hpr), _, rfl, pr, us, rfl, .inr (SqT.of hpr), x, d, _, _, rfl, en, _, rfl, ?_⟩
    rw [← hu]
    rcases isTu_c (rs.length : Nat) (rs.length : Nat) d with h | ⟨⟨l, rfl⟩, h⟩
    · rw [h]
      rw [isMu_0 h] at k
      exact iteT (k _ (Grow.refl _))
    rw [h]
    obtain ⟨hl, e⟩ := isMu_1 h
    rw [e] at k
    obtain ⟨p1, xs, rfl, hp1, es⟩ := encT en
    have hx := es.length
    refine iteF ⟨_, rfl, p1, rfl, ⟨_, SqT.of hp1⟩, fun D hD => ?_⟩
    refine lc_tup (K := K) (xs := xs) (fun i Hc => Hc D = some (.lst (((l.take i).map isInt).map V.bl)) ∧ Grow H Hc) ⟨upd_same, Grow.new hD⟩ (fun i Hc _ hq => SqT.of (hq.2.tup hp1)) (fun i z Hc hz hq => ?_) (fun Hd hq => ?_)
    · obtain ⟨hacc, g⟩ := hq
      obtain ⟨d1, hd1, ez⟩ := es.get hz
      have hi' := (List.getElem?_eq_some_iff.mp hz).1
      refine ⟨wipe_set, ?_⟩
      unfold tYes
      refine iteT ⟨_, rfl, z, d1, rfl, ez.grow g, _, hacc, ?_, ?_, g.upd' hD⟩
      · rw [List.length_map, List.length_map, List.length_take, sizeLine_eq]
        omega
      · rw [upd_same, List.take_succ, hd1, List.map_append, List.map_append]
        rfl
    · obtain ⟨hacc, g⟩ := hq
      rw [← es.length, List.take_length] at hacc
      refine ⟨D, _, rfl, SqL.of hacc, _, rfl, ?_⟩
      rw [List.all_map]
      cases hi : l.all isInt with
      | false =>
        rw [hi] at k
        have hi2 : l.all (id ∘ isInt) = false := hi
        rw [hi2]
        exact iteT (k _ g)
      | true =>
      rw [hi, Bool.true_and] at k
      have hi2 : l.all (id ∘ isInt) = true := hi
      rw [hi2]
      refine iteF ⟨_, rfl, _, rfl, pr, p1, _, _, rfl, .inr ⟨SqT.of (g.tup hpr), SqT.of (g.tup hp1), fun D2 hD2 => ?_⟩⟩
      refine lc_it (walk34 (xs := us) (ys := xs) (n := rs.length) (by omega) (by omega) (.inl (by omega)))
        (fun i Hc => Hc D2 = some (.lst (((((rs.zip l).take i).map fun p => p.1.2 || geD p.2)).map V.bl)) ∧ Grow Hd Hc) ⟨upd_same, Grow.new hD2⟩ (fun i Hc _ hp => ⟨SqT.of ((g.trans hp.2).tup hpr), SqT.of ((g.trans hp.2).tup hp1)⟩) (fun i x Hc H' hi' hp2 y => ?_) (fun Hc hp2 => ?_)
      · obtain ⟨T, x1, x2, rfl, hT, rfl, e1, e2⟩ := y
        obtain ⟨hacc2, g2⟩ := hp2
        have e1 : us[i]? = some x1 := e1
        have e2 : xs[i]? = some x2 := e2
        obtain ⟨d1, hd1, ez⟩ := er.get e1
        rw [List.getElem?_map] at hd1
        obtain ⟨r, hr1, rfl⟩ := Option.map_eq_some_iff.mp hd1
        obtain ⟨d2, hd2, ew⟩ := es.get e2
        obtain ⟨kk, rfl⟩ := int_all hi hd2
        cases encI ew
        have gT := Grow.new (o := .tup [x1, .int kk]) hT
        have g3 := (g.trans g2).trans gT
        obtain ⟨b, u0, u1, rfl, hb, f0, f1⟩ := enc2 (ez.grow g3)
        cases f1
        have hzip : (rs.zip l)[i]? = some (r, .int kk) := by rw [List.getElem?_zip_eq_some]; exact ⟨hr1, hd2⟩
        refine ⟨T, _, rfl, SqT.of upd_same, rfl, _, _, rfl, b, _, rfl, SqT.of hb, rfl, _, _, rfl, _, _, rfl, rfl, _, _, rfl, rfl, rfl, ?_⟩
        unfold tYes
        have fin : ∀ v : Bool, v = (r.2 || geD (.int kk)) → ∃ acc, upd Hc T (.tup [V.ref b, V.int kk]) D2 = some (.lst acc) ∧ acc.length < sizeLine ∧ (upd (upd Hc T (.tup [V.ref b, V.int kk])) D2 (.lst (acc ++ [V.bl v]))) D2 = some (.lst (((((rs.zip l).take (i + 1)).map fun p => p.1.2 || geD p.2)).map V.bl)) ∧ Grow Hd (upd (upd Hc T (.tup [V.ref b, V.int kk])) D2 (.lst (acc ++ [V.bl v]))) := fun v hv => by
          refine ⟨_, gT.lst hacc2, ?_, ?_, (g2.trans gT).upd' hD2⟩
          · rw [List.length_map, List.length_map, List.length_take, sizeLine_eq]
            omega
          · rw [upd_same, List.take_succ, hzip, List.map_append, List.map_append, hv]
            rfl
        refine iteT ⟨_, rfl, _, rfl, ?_⟩
        cases hx2 : r.2 with
        | true =>
          rw [hx2] at fin
          exact iteT (fin _ rfl)
        | false =>
          rw [hx2] at fin
          exact iteF ⟨_, rfl, _, _, rfl, rfl, fin _ rfl⟩
      · obtain ⟨hacc2, g2⟩ := hp2
        rw [List.take_of_length_le (by rw [List.length_zip]; omega)] at hacc2
        refine ⟨D2, _, rfl, SqL.of hacc2, ?_⟩
        rw [List.all_map]
        exact k _ (g.trans g2)
end
end J1
set_option Elab.async false
set_option linter.all false
set_option maxRecDepth 100000
set_option maxHeartbeats 4000000
namespace J1
open PySem PySem.Spec PyProof.Rows L2 GxR GA RZ
abbrev sVa : Stmt := top 40
theorem cVa : FnScope ["line", "point", "top", "terms", "bottom", "unknown", "coefficient", "over", "under", "common"] ["line", "point"] (defScope sVa) := ⟨rfl, rfl, rfl, by decide +kernel, rfl, by decide +kernel, by decide +kernel⟩
abbrev sKp : Stmt := top 41
theorem cKp : FnScope ["rows", "point", "line", "exact", "top", "_"] ["rows", "point"] (defScope sKp) := ⟨rfl, rfl, rfl, by decide +kernel, rfl, by decide +kernel, by decide +kernel⟩
def ipMul : TIp := fun x y H Q => ∃ i j, x = .int i ∧ y = .int j ∧ CMulW i j ∧ Q (.int (i * j)) H
theorem ip_mulW {X : Cx} : PIp X .Mult ipMul := by
  intro pins s σ H x y v u Q I r1 r2 h
  obtain ⟨i, j, e1, e2, hc, q⟩ := h
  subst e1; subst e2
  obtain ⟨t, rfl⟩ := r1
  obtain ⟨t', rfl⟩ := r2
  exact imul_int ⟨.int _, H, I.tok _, ⟨_, rfl⟩, q⟩ hc.ok
def PtB (pt : List Tm) : Prop := ∀ p ∈ pt, p.1.natAbs < 2 ^ 100 ∧ 0 < p.2 ∧ p.2.natAbs < 2 ^ 100
theorem PtB.at {pt : List Tm} (h : PtB pt) (u : Int) : (ptAt pt u).1.natAbs < 2 ^ 100 ∧ 0 < (ptAt pt u).2 ∧ (ptAt pt u).2.natAbs < 2 ^ 100 := by
  unfold ptAt
  by_cases q : u.toNat < pt.length
  · rw [List.getD_eq_getElem?_getD, List.getElem?_eq_getElem q]
    exact h _ (List.getElem_mem q)
  · rw [List.getD_eq_getElem?_getD, List.getElem?_eq_none (by omega)]
    exact ⟨by decide, by decide, by decide⟩
theorem p2 {a b : Nat} (h : a ≤ b) : 2 ^ a ≤ 2 ^ b := Nat.pow_le_pow_right (by decide) h
theorem lt2 {x a b : Nat} (h : x < 2 ^ a) (g : a ≤ b) : x < 2 ^ b := Nat.lt_of_lt_of_le h (p2 g)
theorem add2 {x y : Int} {a : Nat} (hx : x.natAbs < 2 ^ a) (hy : y.natAbs < 2 ^ a) : (x + y).natAbs < 2 ^ (a + 1) := by
  have := Int.natAbs_add_le x y
  rw [Nat.pow_succ]
  omega
theorem div_le {x g : Int} (hx : 0 < x) (hg : 0 < g) : (x / g).natAbs ≤ x.natAbs := by
  have h1 := Int.ediv_nonneg (by omega : (0 : Int) ≤ x) (by omega : (0 : Int) ≤ g)
  have h2 := Int.ediv_le_self g (by omega : (0 : Int) ≤ x)
  omega
theorem gI_le {a b : Int} (h : 0 < b) : (gI a b).natAbs ≤ b.natAbs := by
  unfold gI
  have := Nat.le_of_dvd (by omega) (Nat.gcd_dvd_right a.natAbs b.natAbs)
  omega
structure Bs (i : Nat) (s : Int × Int) : Prop where
  t : s.1.natAbs < 2 ^ (140 + 300 * i)
  b0 : 0 < s.2
  b : s.2.natAbs < 2 ^ (1 + 100 * i)
theorem Bs.step {i : Nat} {s : Int × Int} {pt : List Tm} {t : Tm} (h : Bs i s) (hp : PtB pt) (ht : t.2.natAbs < 2 ^ 100) : Bs (i + 1) (stP pt s t) := by
  obtain ⟨h1, h2, h3⟩ := h
  obtain ⟨a1, b0, b1⟩ := hp.at t.1
  unfold stP
  generalize (ptAt pt t.1).2 = b at b0 b1
  generalize (ptAt pt t.1).1 = a at a1
  have g0 := gI_pos (a := s.2) b0
  have gd1 := gI_l s.2 b
  have gd2 := gI_r s.2 b
  generalize gI s.2 b = g at g0 gd1 gd2
  have y1 : (b / g).natAbs < 2 ^ 100 := Nat.lt_of_le_of_lt (div_le b0 g0) b1
  have x1 : (s.2 / g).natAbs < 2 ^ (1 + 100 * i) := Nat.lt_of_le_of_lt (div_le h2 g0) h3
  have y0 : 0 < b / g := Int.ediv_pos_of_pos_of_dvd b0 (by omega) gd2
  refine ⟨?_, Int.mul_pos h2 y0, ?_⟩
  · have e1 := wide_lt h1 y1
    have e2 := wide_lt (wide_lt ht a1) x1
    exact lt2 (add2 (lt2 e1 (by omega : 140 + 300 * i + 100 ≤ 340 + 300 * i)) (lt2 e2 (by omega))) (by omega)
  · exact lt2 (wide_lt h3 y1) (by omega)
theorem Bs.fold {pt : List Tm} (hp : PtB pt) {ts : List Tm} : ∀ {i : Nat} {s : Int × Int}, Bs i s → (∀ t ∈ ts, t.2.natAbs < 2 ^ 100) → Bs (i + ts.length) (ts.foldl (stP pt) s) := by
  induction ts with
  | nil => intro i s h _; exact h
  | cons t ts ih =>
    intro i s h g
    have q := ih (h.step hp (g t List.mem_cons_self)) fun u hu => g u (List.mem_cons_of_mem _ hu)
    rw [List.length_cons, show i + (ts.length + 1) = i + 1 + ts.length by omega]
    exact q
def vP (pt : List Tm) (l : Ln) : Int × Int := l.2.foldl (stP pt) (l.1, 1)
theorem Bs.zero {c : Int} {l : Ln} (h : LnOk c l) : Bs 0 (l.1, 1) := ⟨lt2 h.cb (by omega), Int.one_pos, (show 1 < 2 by decide)⟩
def spVa : Sp := fun vs H Q _ => ∃ (xl xp : V) (l : Ln) (pt : List Tm) (c : Int), vs = [xl, xp] ∧ Enc H (lnD l) xl ∧ Enc H (.tup (pt.map tmD)) xp ∧ LnOk c l ∧ (pt.length : Int) = c ∧ PtB pt ∧
  ∀ T H', H' T = some (.tup [.int (vP pt l).1, .int (vP pt l).2]) → Grow H H' → Q (.ref T) H'
def spKp : Sp := fun vs H Q _ => ∃ (xr xp : V) (rs : List Rw) (pt : List Tm) (c : Int), vs = [xr, xp] ∧ Enc H (rwsD rs) xr ∧ Enc H (.tup (pt.map tmD)) xp ∧ (∀ r ∈ rs, LnOk c r.1) ∧ (pt.length : Int) = c ∧ PtB pt ∧
  ∀ H', Grow H H' → Q (.bl (rs.all (rowOk pt))) H'
theorem rowOk_P {c : Int} {pt : List Tm} {r : Rw} (h : LnOk c r.1) (hp : PtB pt) : rowOk pt r = sgnOk r.2 (vP pt r.1).1 := by
  have q : Rel2 (r.1.1, 1) (r.1.1, 1) := ⟨Int.one_pos, Int.one_pos, rfl⟩
  exact (sgnOk_eq (q.fold (pt := pt) (ts := r.1.2) fun t _ => (hp.at t.1).2.1).sgn).symm
theorem all_take_succ {α : Type} {f : α → Bool} {l : List α} {i : Nat} {x : α} (h : l[i]? = some x) : (l.take (i + 1)).all f = ((l.take i).all f && f x) := by
  rw [List.take_succ, h, List.all_append]
  simp
theorem all_at {α : Type} {f : α → Bool} {l : List α} {i : Nat} {x : α} (h : l[i]? = some x) (hf : f x = false) : l.all f = false := by
  cases e : l.all f with
  | false => rfl
  | true => rw [List.all_eq_true.mp e x (List.mem_of_getElem? h)] at hf; cases hf
section
variable {P : Program} {w : World} {K : PySem.W.Frag} {mg : Str → Option Value} {base : Heap}
theorem ok_value {f : Addr} {fd : FuncData} (F : Fun K "value_at" "value_at" sVa f fd) (gg : mg "gcd" = some (.builtin "math.gcd")) : FnOk P w K mg base CX0 1 f fd ["line", "point"] spVa := by
  refine F.ok (k := 0) cVa (fun vs H Q E h => ?_) (fun cdv A outer s H vs Q E hr h => ?_)
  · obtain ⟨_, _, _, _, _, rfl, _⟩ := h
    rfl
  · obtain ⟨xl, xp, l, pt, c, rfl, el, ep, ok, hlen, hb, k⟩ := h
    refine ⟨_, (pss_cons (ps_asg (pv 0) (pg_tup (by rfl) (pgs_cons (pg_name (i := 2) cVa.nd rfl (Or.inl rfl)) (pgs_cons (pg_name (i := 3) cVa.nd rfl (Or.inl rfl)) pgs_nil)))) (pss_cons (ps_set (i := 4) cVa.nd rfl (Or.inl rfl) pe_int) (pss_cons (ps_for PassesOwn.never rfl (pi_tup (pv 3)) (pg_tup (by rfl) (pgs_cons (pg_name (i := 5) cVa.nd rfl (Or.inl rfl)) (pgs_cons (pg_name (i := 6) cVa.nd rfl (Or.inl rfl)) pgs_nil))) (pss_cons (ps_asg (pe_ix ix_tup (pv 1) (pv 5) (fun _ _ => rfl)) (pg_tup (by rfl) (pgs_cons (pg_name (i := 7) cVa.nd rfl (Or.inl rfl)) (pgs_cons (pg_name (i := 8) cVa.nd rfl (Or.inl rfl)) pgs_nil)))) (pss_cons (ps_set (i := 9) cVa.nd rfl (Or.inl rfl) (pe_callBfun cr_gcd (by rfl) gg (pa_cons (pv 4) (pa_cons (pv 8) pa_nil)))) (pss_cons (ps_set (i := 2) cVa.nd rfl (Or.inl rfl) (pe_op op_add (pe_op op_mulW (pv 2) (pe_op op_fdivW (pv 8) (pv 9))) (pe_op op_mulW (pe_op op_mulW (pv 6) (pv 7)) (pe_op op_fdivW (pv 4) (pv 9))))) (pss_one (ps_aug (i := 4) cVa.nd rfl (.inl rfl) (pe_op op_fdivW (pv 8) (pv 9)) ip_mulW)))))) (pss_one (ps_ret (pe_tup (pa_cons (pv 2) (pa_cons (pv 4) pa_nil)))))))), ?_⟩
    obtain ⟨p, a, b, rfl, hp, e0, e1⟩ := enc2 el
    cases encI e0
    obtain ⟨p1, xs, rfl, hp1, es⟩ := encT e1
    obtain ⟨pp, ps, rfl, hpp, eps⟩ := encT ep
    have hxl := es.length
    rw [List.length_map] at hxl
    have h6 := ok.le6
    refine ⟨_, rfl, p, _, rfl, SqT.of hp, rfl, _, _, rfl, _, _, rfl, rfl, ?_⟩
    refine ⟨_, rfl, p1, rfl, ⟨_, SqT.of hp1⟩, ?_⟩
    refine for_tup (K := K) (xs := xs) (fun i σ' Hc => ∃ (v5 v6 v7 v8 v9 : Option V), σ' = [some (.ref p), some (.ref pp), some (.int ((l.2.take i).foldl (stP pt) (l.1, 1)).1), some (.ref p1), some (.int ((l.2.take i).foldl (stP pt) (l.1, 1)).2), v5, v6, v7, v8, v9] ∧ Grow H Hc) ⟨_, _, _, _, _, rfl, Grow.refl _⟩ (fun i σ' Hc _ hq => ?_) (fun i z σ' Hc hz hq => ?_) (fun σ' Hc hq => ?_)
    · obtain ⟨_, _, _, _, _, _, g⟩ := hq
      exact SqT.of (g.tup hp1)
    · obtain ⟨v5, v6, v7, v8, v9, rfl, g⟩ := hq
      obtain ⟨d1, hd1, ez⟩ := es.get hz
      obtain ⟨t, ht, rfl⟩ := map_get hd1
      have hm := List.mem_of_getElem? ht
      obtain ⟨q, u, v, rfl, hq, f0, f1⟩ := enc2 (ez.grow g)
      cases encI f0
      cases encI f1
      obtain ⟨r0, r1, r2, r3⟩ := ok.rng t hm
      have hi : i < l.2.length := (List.getElem?_eq_some_iff.mp ht).1
      have hlt : t.1.toNat < pt.length := by omega
      obtain ⟨y, hy, ey⟩ := eps.got (i := t.1.toNat) (d := tmD (ptAt pt t.1)) (by
        rw [List.getElem?_map]
        unfold ptAt
        rw [List.getD_eq_getElem?_getD, List.getElem?_eq_getElem hlt]
        rfl)
      obtain ⟨q2, u2, v2, rfl, hq2, f2, f3⟩ := enc2 (ey.grow g)
      cases encI f2
      cases encI f3
      obtain ⟨pa, pb0, pb⟩ := hb.at t.1
      have bs := (Bs.zero ok).fold hb (ts := l.2.take i) (fun t ht => ok.tb t (List.mem_of_mem_take ht))
      have hti : (l.2.take i).length = i := by rw [List.length_take]; omega
      rw [hti, Nat.zero_add] at bs
      rw [foldl_take_succ ht]
      generalize (l.2.take i).foldl (stP pt) (l.1, 1) = st at bs
      obtain ⟨b1, b2, b3⟩ := bs
      have g0 := gI_pos (a := st.2) pb0
      have hw := wide_div (i := 0) g0 (Nat.lt_of_le_of_lt (gI_le (a := st.2) pb0) pb) (by decide) (by decide)
      have y1 : ((ptAt pt t.1).2 / gI st.2 (ptAt pt t.1).2).natAbs < 2 ^ 100 := Nat.lt_of_le_of_lt (div_le pb0 g0) pb
      have x1 : (st.2 / gI st.2 (ptAt pt t.1).2).natAbs < 2 ^ (1 + 100 * i) := Nat.lt_of_le_of_lt (div_le b2 g0) b3
      have tb := ok.tb t hm
      refine ⟨q, _, rfl, SqT.of hq, rfl, _, _, rfl, _, _, rfl, rfl, ?_⟩
      refine ⟨_, rfl, _, rfl, pp, _, _, _, rfl, rfl, SqT.of (g.tup hpp), at_g (j := t.1.toNat) (by omega) hy, q2, _, rfl, SqT.of hq2, rfl, _, _, rfl, _, _, rfl, rfl, ?_⟩
      refine ⟨_, rfl, _, rfl, _, _, rfl, ?_⟩
      have hw : CDivW 0 (gI st.2 (ptAt pt t.1).2) := hw
      have cm1 : CMulW st.1 ((ptAt pt t.1).2 / gI st.2 (ptAt pt t.1).2) := wide_mul b1 y1 (by omega) (by decide) (by omega)
      have cm2 : CMulW t.2 (ptAt pt t.1).1 := wide_mul tb pa (by decide) (by decide) (by decide)
      have cm3 : CMulW (t.2 * (ptAt pt t.1).1) (st.2 / gI st.2 (ptAt pt t.1).2) := wide_mul (wide_lt tb pa) x1 (by decide) (by omega) (by omega)
      have cm4 : CMulW st.2 ((ptAt pt t.1).2 / gI st.2 (ptAt pt t.1).2) := wide_mul b3 y1 (by omega) (by decide) (by omega)
      refine ⟨_, rfl, _, rfl, _, rfl, _, _, rfl, rfl, hw, _, _, rfl, rfl, cm1, _, rfl, _, rfl, _, _, rfl, rfl, cm2, _, rfl, _, rfl, _, _, rfl, rfl, hw, _, _, rfl, rfl, cm3, _, _, rfl, rfl, ?_⟩
      refine ⟨_, rfl, _, rfl, _, rfl, _, _, rfl, rfl, hw, _, _, rfl, rfl, cm4, ?_⟩
      exact ⟨_, _, _, _, _, rfl, g⟩
    · obtain ⟨v5, v6, v7, v8, v9, rfl, g⟩ := hq
      rw [← hxl, List.take_length]
      refine ⟨_, rfl, _, rfl, (by show 2 ≤ sizeLine; decide), fun T hT => ?_⟩
      exact k T _ upd_same (g.upd' (g.none' hT))
theorem ok_kept {f fV : Addr} {fd fdV : FuncData} (F : Fun K "is_kept" "is_kept" sKp f fd) (GV : FnOk P w K mg base CX0 1 fV fdV ["line", "point"] spVa) (DV : Df K mg "value_at" ["line", "point"] fV fdV) : FnOk P w K mg base CX0 2 f fd ["rows", "point"] spKp := by
  refine F.ok (k := 1) cKp (fun vs H Q E h => ?_) (fun cdv A outer s H vs Q E hr h => ?_)
  · obtain ⟨_, _, _, _, _, rfl, _⟩ := h
    rfl
  · obtain ⟨xr, xp, rs, pt, c, rfl, er, ep, ok, hlen, hb, k⟩ := h
    refine ⟨_, (pss_cons (ps_for PassesOwn.never rfl (pi_tup (pv 0)) (pg_tup (by rfl) (pgs_cons (pg_name (i := 2) cKp.nd rfl (Or.inl rfl)) (pgs_cons (pg_name (i := 3) cKp.nd rfl (Or.inl rfl)) pgs_nil))) (pss_cons (ps_asg (pe_call GV hr (by rfl) DV.g DV.k DV.b .nil pass0 (pa_cons (pv 2) (pa_cons (pv 1) pa_nil))) (pg_tup (by rfl) (pgs_cons (pg_name (i := 4) cKp.nd rfl (Or.inl rfl)) (pgs_cons (pg_name (i := 5) cKp.nd rfl (Or.inl rfl)) pgs_nil)))) (pss_one (ps_if (PW.pt (pw_or (pt_cmpR op_lt (pv 4) pe_int (nomark _)) (pw_or1 (PW.pt (pw_and (pt_val (pv 3)) (pw_and1 (pt_cmpR op_gt (pv 4) pe_int (nomark _)))))))) (pss_one (ps_ret pe_bl)) pss_nil)))) (pss_one (ps_ret pe_bl))), ?_⟩
    obtain ⟨p, xs, rfl, hp, es⟩ := encT er
    have hxl := es.length
    rw [List.length_map] at hxl
    refine ⟨_, rfl, p, rfl, ⟨_, SqT.of hp⟩, ?_⟩
    refine for_tup (K := K) (xs := xs) (fun i σ' Hc => ∃ (v2 v3 v4 v5 : Option V), σ' = [some (.ref p), some xp, v2, v3, v4, v5] ∧ (rs.take i).all (rowOk pt) = true ∧ Grow H Hc) ⟨_, _, _, _, rfl, rfl, Grow.refl _⟩ (fun i σ' Hc _ hq => ?_) (fun i z σ' Hc hz hq => ?_) (fun σ' Hc hq => ?_)
    · obtain ⟨_, _, _, _, _, _, g⟩ := hq
      exact SqT.of (g.tup hp)
    · obtain ⟨v2, v3, v4, v5, rfl, ha, g⟩ := hq
      obtain ⟨d1, hd1, ez⟩ := es.get hz
      obtain ⟨r, hr1, rfl⟩ := map_get hd1
      have hm := List.mem_of_getElem? hr1
      obtain ⟨q, u, v, rfl, hq, f0, f1⟩ := enc2 (ez.grow g)
      cases f1
      refine ⟨q, _, rfl, SqT.of hq, rfl, _, _, rfl, _, _, rfl, rfl, ?_⟩
      refine ⟨_, rfl, _, rfl, _, _, r.1, pt, c, rfl, f0, ep.grow g, ok r hm, hlen, hb, fun T H1 hT g1 => ?_⟩
      refine ⟨T, _, rfl, SqT.of hT, rfl, _, _, rfl, _, _, rfl, rfl, ?_⟩
      have hrow := rowOk_P (ok r hm) hb
      refine ⟨_, rfl, _, _, rfl, rfl, _, rfl, ?_⟩
      by_cases h1 : (vP pt r.1).1 < 0
      · have e : rowOk pt r = false := by
          rw [hrow]
          unfold sgnOk
          rw [decide_eq_true h1]
          rfl
        have q := k _ (g.trans g1)
        rw [all_at hr1 e] at q
        exact ifT h1 q
      have fin : rowOk pt r = true → ∃ v2 v3 v4 v5, (((([some (V.ref p), some xp, v2, v3, v4, v5].set 2 (some u)).set 3 (some (V.bl r.2))).set 4 (some (V.int (vP pt r.1).1))).set 5 (some (V.int (vP pt r.1).2))) = [some (V.ref p), some xp, v2, v3, v4, v5] ∧ (rs.take (i + 1)).all (rowOk pt) = true ∧ Grow H H1 := fun e =>
        ⟨_, _, _, _, rfl, by rw [all_take_succ hr1, ha, e]; rfl, g.trans g1⟩
      refine ifF h1 ⟨_, rfl, _, rfl, ?_⟩
      cases hx : r.2 with
      | false =>
        refine iteF ?_
        rw [hx] at hrow fin
        refine fin ?_
        rw [hrow]
        unfold sgnOk
        rw [decide_eq_false h1]
        rfl
      | true =>
        rw [hx] at hrow fin
        refine iteT ⟨_, rfl, _, _, rfl, rfl, _, rfl, ?_⟩
        by_cases h2 : 0 < (vP pt r.1).1
        · have e : rowOk pt r = false := by
            rw [hrow]
            unfold sgnOk
            rw [decide_eq_false (show ¬ (vP pt r.1).1 = 0 by omega)]
            simp
          have q := k _ (g.trans g1)
          rw [all_at hr1 e] at q
          exact ifT h2 q
        · refine ifF h2 (fin ?_)
          rw [hrow]
          unfold sgnOk
          rw [decide_eq_false h1, decide_eq_true (show (vP pt r.1).1 = 0 by omega)]
          rfl
    · obtain ⟨v2, v3, v4, v5, rfl, ha, g⟩ := hq
      rw [← hxl, List.take_length] at ha
      have q := k _ g
      rw [ha] at q
      exact q
end
end J1
set_option Elab.async false
set_option linter.all false
set_option maxRecDepth 100000
set_option maxHeartbeats 4000000
namespace J1
open PySem PySem.Spec PyProof.Rows L2 GxR GA RZ
abbrev sSu : Stmt := top 43
theorem cSu : FnScope ["rows", "multipliers", "const", "terms", "line", "_", "multiplier", "unknown", "coefficient"] ["rows", "multipliers"] (defScope sSu) := ⟨rfl, rfl, rfl, by decide +kernel, rfl, by decide +kernel, by decide +kernel⟩
/-- a for over anything that is walked -/
theorem for_it {J : It} {n : Nat} {G : Hp → Prop} {Y : Nat → Hp → V → Hp → Prop} (w : Walk J n G Y) {σ0 : L2.St} {H1 : Hp} {Qd : L2.St → Hp → Prop} {Body : (L2.St → Hp → Prop) → V → L2.St → Hp → Prop} (Pv : Nat → L2.St → Hp → Prop) (h0 : Pv 0 σ0 H1) (hG : ∀ i σ H, i ≤ n → Pv i σ H → G H)
    (hs : ∀ i x σ H H', i < n → Pv i σ H → Y i H x H' → Body (Pv (i + 1)) x σ H') (hd : ∀ σ H, Pv n σ H → Qd σ H) :
    ∃ W : Nat → Nat → L2.St → Hp → Prop, (∃ m, W 0 m σ0 H1) ∧ ∀ i m σ H, W i m σ H →
      (J.stop i H ∧ Qd σ H) ∨ (J.go i H ∧ ∃ N : L2.St → Hp → Prop, (∀ σ' H', N σ' H' → ∃ m', m' < m ∧ W (i + 1) m' σ' H') ∧ ∀ x H', J.yld i H x H' → Body N x σ H') := by
  refine ⟨fun i m σ H => i ≤ n ∧ m + i = n ∧ Pv i σ H, ⟨n, Nat.zero_le _, Nat.add_zero _, h0⟩, fun i m σ H hw => ?_⟩
  obtain ⟨hi, hm, p⟩ := hw
  have q := hG i σ H hi p
  rcases Nat.lt_or_ge i n with h | h
  · refine .inr ⟨w.goes i H h q, Pv (i + 1), fun σ' H' z => ⟨m - 1, by omega, by omega, by omega, z⟩, fun x H' y => hs i x σ H H' h p (w.yields i H x H' h q y)⟩
  · have e : i = n := Nat.le_antisymm hi h
    subst e
    exact .inl ⟨w.stops H q, hd σ H p⟩
/-! ### dicts of integers -/
def dI (us : List Int) (g : Int → Int) : List (Key × V) := us.map fun u => (Sum.inl u, .int (g u))
theorem dI_in {g : Int → Int} {u : Int} : ∀ {us : List Int}, u ∈ us → valV (dI us g) (Sum.inl u : Key) = some (.int (g u))
  | [], h => absurd h List.not_mem_nil
  | v :: us, h => by
    have e : dI (v :: us) g = ((Sum.inl v : Key), V.int (g v)) :: dI us g := rfl
    by_cases q : v = u
    · rw [e, q]
      exact valV_pos rfl
    · rw [e, valV_neg (fun z => q (Sum.inl.inj z))]
      exact dI_in ((List.mem_cons.mp h).resolve_left fun z => q z.symm)
theorem dI_out {g : Int → Int} {u : Int} : ∀ {us : List Int}, u ∉ us → valV (dI us g) (Sum.inl u : Key) = none
  | [], _ => rfl
  | v :: us, h => by
    have e : dI (v :: us) g = ((Sum.inl v : Key), V.int (g v)) :: dI us g := rfl
    rw [e, valV_neg (fun z => h (by rw [← Sum.inl.inj z]; exact List.mem_cons_self))]
    exact dI_out fun z => h (List.mem_cons_of_mem _ z)
def upI (g : Int → Int) (u x : Int) : Int → Int := fun v => if v = u then x else g v
theorem dI_cong {us : List Int} {g g' : Int → Int} (h : ∀ u ∈ us, g u = g' u) : dI us g = dI us g' := by
  unfold dI
  exact List.map_congr_left fun u hu => by rw [h u hu]
theorem dI_put_in {us : List Int} {g : Int → Int} {u x : Int} (h : u ∈ us) : putK (dI us g) (Sum.inl u : Key) (.int x) = dI us (upI g u x) := by
  unfold putK
  rw [valV_any, dI_in h]
  show (dI us g).map _ = _
  unfold dI
  rw [List.map_map]
  refine List.map_congr_left fun v _ => ?_
  show (if (Sum.inl v : Key) = Sum.inl u then ((Sum.inl v : Key), V.int x) else (Sum.inl v, V.int (g v))) = _
  unfold upI
  by_cases q : v = u
  · rw [if_pos (by rw [q]), if_pos q]
  · rw [if_neg (fun z => q (Sum.inl.inj z)), if_neg q]
theorem dI_put_out {us : List Int} {g : Int → Int} {u x : Int} (h : u ∉ us) : putK (dI us g) (Sum.inl u : Key) (.int x) = dI (us ++ [u]) (upI g u x) := by
  rw [putK_new _ (dI_out h), show dI us g = dI us (upI g u x) from dI_cong fun v hv => by unfold upI; rw [if_neg (fun z => h (by rw [← z]; exact hv))]]
  unfold dI
  rw [List.map_append]
  show _ = _ ++ [((Sum.inl u : Key), V.int (upI g u x u))]
  rw [show upI g u x u = x by unfold upI; rw [if_pos rfl]]
/-- keys of a table of sums: none twice, each an unknown; what is no key is 0 -/
structure KeysOk (us : List Int) (g : Int → Int) : Prop where
  nd : us.Nodup
  rg : ∀ u ∈ us, 0 ≤ u ∧ u < 6
  no : ∀ u, u ∉ us → g u = 0
theorem KeysOk.le {us : List Int} {g : Int → Int} (h : KeysOk us g) : us.length ≤ 6 := by
  have q := h.nd.length_le_of_subset (l₂ := [0, 1, 2, 3, 4, 5]) fun u hu => by
    have := h.rg u hu
    have : u = 0 ∨ u = 1 ∨ u = 2 ∨ u = 3 ∨ u = 4 ∨ u = 5 := by omega
    simp only [List.mem_cons, List.not_mem_nil, or_false]
    exact this
  exact q
def DD (H : Hp) (D : Addr) (g : Int → Int) : Prop := ∃ us, H D = some (.dK (dI us g)) ∧ KeysOk us g
theorem KeysOk.put {us : List Int} {g : Int → Int} (h : KeysOk us g) {u x : Int} (h0 : 0 ≤ u) (h6 : u < 6) : ∃ us', putK (dI us g) (Sum.inl u : Key) (.int x) = dI us' (upI g u x) ∧ KeysOk us' (upI g u x) := by
  by_cases q : u ∈ us
  · refine ⟨us, dI_put_in q, h.nd, h.rg, fun v hv => ?_⟩
    unfold upI
    rw [if_neg (fun z => hv (by rw [z]; exact q))]
    exact h.no v hv
  · refine ⟨us ++ [u], dI_put_out q, ?_, fun v hv => ?_, fun v hv => ?_⟩
    · rw [List.nodup_append]
      exact ⟨h.nd, by simp, fun a ha b hb z => q (by rw [List.mem_singleton.mp hb] at z; rw [← z]; exact ha)⟩
    · rcases List.mem_append.mp hv with hv | hv
      · exact h.rg v hv
      · rw [List.mem_singleton.mp hv]; exact ⟨h0, h6⟩
    · unfold upI
      rw [if_neg (fun z => hv (by rw [z]; exact List.mem_append_right _ List.mem_cons_self))]
      exact h.no v fun z => hv (List.mem_append_left _ z)
theorem KeysOk.getD {us : List Int} {g : Int → Int} (h : KeysOk us g) (u : Int) : (valV (dI us g) (Sum.inl u : Key)).getD (.int 0) = .int (g u) := by
  by_cases q : u ∈ us
  · rw [dI_in q]; rfl
  · rw [dI_out q, h.no u q]; rfl
def nzI (g : Int → Int) (us : List Int) : List Int := us.filter fun u => !decide (g u = 0)
theorem nzI_nil {us : List Int} {g : Int → Int} (h : KeysOk us g) : nzI g us = [] ↔ ∀ u, g u = 0 := by
  unfold nzI
  rw [List.filter_eq_nil_iff]
  constructor
  · intro q u
    by_cases hu : u ∈ us
    · have := q u hu
      simpa using this
    · exact h.no u hu
  · intro q u _
    rw [q u]
    simp
def MuB (ms : List Int) : Prop := ∀ m ∈ ms, m.natAbs < 2 ^ 110
def spSu : Sp := fun vs H Q _ => ∃ (xr xm : V) (rs : List Rw) (ms : List Int) (c : Int), vs = [xr, xm] ∧ Enc H (rwsD rs) xr ∧ Enc H (.tup (ms.map .int)) xm ∧ ms.length = rs.length ∧ (∀ r ∈ rs, LnOk c r.1) ∧ MuB ms ∧
  ∀ T D us H', H' T = some (.tup [.int (sumC (rs.zip ms)), .ref D]) → H' D = some (.dK (dI us (cf (rs.zip ms)))) → (us = [] ↔ ∀ u, cf (rs.zip ms) u = 0) → Grow H H' → Q (.ref T) H'
section
variable {P : Program} {w : World} {K : PySem.W.Frag} {mg : Str → Option Value} {base : Heap}
theorem ok_summed {f : Addr} {fd : FuncData} (F : Fun K "summed" "summed" sSu f fd) (nz : mg "zip" = none) : FnOk P w K mg base CX0 1 f fd ["rows", "multipliers"] spSu := by
  refine F.ok (k := 0) cSu (fun vs H Q E h => ?_) (fun cdv A outer s H vs Q E hr h => ?_)
  · obtain ⟨_, _, _, _, _, rfl, _⟩ := h
    rfl
  · obtain ⟨xr, xm, rs, ms, c, rfl, er, em, hlen, ok, hb, k⟩ := h
    have hu := hu_of hr
    refine ⟨_, (pss_cons (ps_set (i := 2) cSu.nd rfl (Or.inl rfl) pe_int) (pss_cons (ps_set (i := 3) cSu.nd rfl (Or.inr rfl) pe_dnewK) (pss_cons (ps_for PassesOwn.never rfl (pi_zipA (by rfl) nz (pa_cons (pv 0) (pa_cons (pv 1) pa_nil))) (pg_tup (by rfl) (pgs_cons (pg_tup (by rfl) (pgs_cons (pg_name (i := 4) cSu.nd rfl (Or.inl rfl)) (pgs_cons (pg_name (i := 5) cSu.nd rfl (Or.inl rfl)) pgs_nil))) (pgs_cons (pg_name (i := 6) cSu.nd rfl (Or.inl rfl)) pgs_nil))) (pss_one (ps_if (pt_cmpR op_ne (pv 6) pe_int (nomark _)) (pss_cons (ps_aug (i := 2) cSu.nd rfl (.inl rfl) (pe_op op_mulW (pv 6) (pe_ix ix_tup (pv 4) pe_int (fun _ _ => rfl))) ip_add) (pss_one (ps_for PassesOwn.never rfl (pi_tup (pe_ix ix_tup (pv 4) pe_int (fun _ _ => rfl))) (pg_tup (by rfl) (pgs_cons (pg_name (i := 7) cSu.nd rfl (Or.inl rfl)) (pgs_cons (pg_name (i := 8) cSu.nd rfl (Or.inl rfl)) pgs_nil))) (pss_one (ps_dput hu (pv 3) (pv 7) (pe_op op_add (pe_dget2 hu (pv 3) (pv 7) pe_int ⟨rfl, rfl, rfl, rfl⟩) (pe_op op_mulW (pv 6) (pv 8))) rfl))))) pss_nil))) (pss_one (ps_ret (pe_tup (pa_cons (pv 2) (pa_cons (pe_dc (own := [("unknown", 7)]) (g := gName 7) (by rfl) cSu.nd (pi_keys (pe_lockV (pv 3))) (blkOk_by (own := [("unknown", 7)]) (N := ["rows", "multipliers", "const", "terms", "line", "_", "multiplier", "unknown", "coefficient"]) (sc := defScope sSu) (by decide +kernel)) (fun _ _ _ _ _ => (pg_name (i := 7) cSu.nd rfl (Or.inl rfl))) (fun _ _ _ _ _ => (pts_one (pt_cmpR op_ne (pe_dget hu (pv 3) (pv 7) (fun _ _ => rfl)) pe_int (nomark _)))) (fun _ _ _ _ _ => (pv 7)) (fun _ _ _ _ _ => (pe_dget hu (pv 3) (pv 7) (fun _ _ => rfl)))) pa_nil)))))))), ?_⟩
    obtain ⟨p, xs, rfl, hp, es⟩ := encT er
    obtain ⟨pm, ys, rfl, hpm, ems⟩ := encT em
    have hxl := es.length
    have hyl := ems.length
    rw [List.length_map] at hxl hyl
    intro D0 hD0
    have g0 := Grow.new (o := .dK []) hD0
    refine ⟨_, rfl, _, rfl, p, pm, _, _, rfl, .inr ⟨SqT.of (g0.tup hp), SqT.of (g0.tup hpm), ?_⟩⟩
    refine for_it (walk34 (xs := xs) (ys := ys) (n := rs.length) (by omega) (by omega) (.inl (by omega))) (fun i σ' Hc => ∃ v4 v5 v6 v7 v8 : Option V, σ' = [some (.ref p), some (.ref pm), some (.int (sumC ((rs.zip ms).take i))), some (.ref D0), v4, v5, v6, v7, v8] ∧ DD Hc D0 (cf ((rs.zip ms).take i)) ∧ Grow H Hc)
      ⟨_, _, _, _, _, rfl, ⟨[], upd_same, List.nodup_nil, fun u hu => absurd hu List.not_mem_nil, fun u _ => rfl⟩, g0⟩ (fun i σ' Hc _ hq => ?_) (fun i x σ' Hc H' hi hq y => ?_) (fun σ' Hc hq => ?_)
    · obtain ⟨_, _, _, _, _, _, _, g⟩ := hq
      exact ⟨SqT.of (g.tup hp), SqT.of (g.tup hpm)⟩
    · obtain ⟨v4, v5, v6, v7, v8, rfl, hD, g⟩ := hq
      obtain ⟨T, x1, x2, rfl, hT, rfl, e1, e2⟩ := y
      have e1 : xs[i]? = some x1 := e1
      have e2 : ys[i]? = some x2 := e2
      obtain ⟨d1, hd1, ez⟩ := es.get e1
      obtain ⟨r, hr1, rfl⟩ := map_get hd1
      obtain ⟨d2, hd2, ew⟩ := ems.get e2
      obtain ⟨m, hm, rfl⟩ := map_get hd2
      cases encI ew
      have gT := Grow.new (o := .tup [x1, .int m]) hT
      have g3 := g.trans gT
      obtain ⟨b, u0, u1, rfl, hb', f0, f1⟩ := enc2 ez
      cases f1
      obtain ⟨bl, w0, w1, rfl, hbl, f0, f1⟩ := enc2 f0
      cases encI f0
      obtain ⟨pt, zs, rfl, hpt, ets⟩ := encT f1
      have hzl := ets.length
      rw [List.length_map] at hzl
      have hz : (rs.zip ms)[i]? = some (r, m) := by rw [List.getElem?_zip_eq_some]; exact ⟨hr1, hm⟩
      have okr := ok r (List.mem_of_getElem? hr1)
      have hmb := hb m (List.mem_of_getElem? hm)
      have hs : sumC ((rs.zip ms).take (i + 1)) = sumC ((rs.zip ms).take i) + m * r.1.1 := by
        rw [List.take_succ, hz]
        exact sumC_snoc _ _
      have hc : ∀ u, cf ((rs.zip ms).take (i + 1)) u = cf ((rs.zip ms).take i) u + m * coef r.1.2 u := fun u => by
        rw [List.take_succ, hz]
        exact cf_snoc _ _ u
      have hD2 : DD (upd Hc T (.tup [V.ref b, V.int m])) D0 (cf ((rs.zip ms).take i)) := by
        obtain ⟨us, h1, h2⟩ := hD
        exact ⟨us, gT.dk h1, h2⟩
      have hT2 := upd_same (H := Hc) (a := T) (o := .tup [V.ref b, V.int m])
      generalize upd Hc T (.tup [V.ref b, V.int m]) = H2 at g3 hD2 gT hT2 ⊢
      refine ⟨T, _, rfl, SqT.of hT2, rfl, _, _, rfl, b, _, rfl, SqT.of (g3.tup hb'), rfl, _, _, rfl, _, _, rfl, rfl, _, _, rfl, rfl, ?_⟩
      refine ⟨_, rfl, rfl, _, rfl, ?_⟩
      by_cases hm0 : m = 0
      · subst hm0
        have e : (!decide (V.int 0 = V.int 0)) = false := by rw [decide_eq_true rfl]; rfl
        show if (!decide (V.int 0 = V.int 0)) = true then _ else _
        rw [e]
        refine iteF ⟨_, _, _, _, _, by rw [hs, Int.zero_mul, Int.add_zero]; rfl, ?_, g3⟩
        rw [show cf ((rs.zip ms).take (i + 1)) = cf ((rs.zip ms).take i) from funext fun u => by rw [hc u, Int.zero_mul, Int.add_zero]]
        exact hD2
      have e : (!decide (V.int m = V.int 0)) = true := by rw [decide_eq_false (fun z => hm0 (V.int.inj z))]; rfl
      show if (!decide (V.int m = V.int 0)) = true then _ else _
      rw [e]
      have cm : CMulW m r.1.1 := wide_mul hmb okr.cb (by decide) (by decide) (by decide)
      refine iteT ⟨_, rfl, _, rfl, _, rfl, bl, _, _, _, rfl, rfl, SqT.of (g3.tup hbl), at_of (j := 0) rfl rfl, _, _, rfl, rfl, cm, _, _, rfl, rfl, ?_⟩
      refine ⟨_, rfl, bl, _, _, _, rfl, rfl, SqT.of (g3.tup hbl), at_of (j := 1) rfl rfl, pt, rfl, ⟨_, SqT.of (g3.tup hpt)⟩, ?_⟩
      refine for_tup (K := K) (xs := zs) (fun j σ' Hx => ∃ v7 v8 : Option V, σ' = [some (.ref p), some (.ref pm), some (.int (sumC ((rs.zip ms).take i) + m * r.1.1)), some (.ref D0), some (.ref bl), some (.bl r.2), some (.int m), v7, v8] ∧ DD Hx D0 (fun u => cf ((rs.zip ms).take i) u + m * coef (r.1.2.take j) u) ∧ Grow H Hx)
        ⟨_, _, rfl, ?_, g3⟩ (fun j σ' Hx _ hq => ?_) (fun j z σ' Hx hz' hq => ?_) (fun σ' Hx hq => ?_)
      · have q : (fun u => cf ((rs.zip ms).take i) u + m * coef (r.1.2.take 0) u) = cf ((rs.zip ms).take i) := funext fun u => by
          show _ + m * 0 = _
          rw [Int.mul_zero, Int.add_zero]
        rw [q]
        exact hD2
      · obtain ⟨_, _, _, _, gx⟩ := hq
        exact SqT.of (gx.tup hpt)
      · obtain ⟨v7, v8, rfl, hDx, gx⟩ := hq
        obtain ⟨d3, hd3, ev⟩ := ets.get hz'
        obtain ⟨t, ht, rfl⟩ := map_get hd3
        have hmt := List.mem_of_getElem? ht
        obtain ⟨q, _, _, rfl, hq', f0, f1⟩ := enc2 ev
        cases encI f0
        cases encI f1
        obtain ⟨r0, _, r6, _⟩ := okr.rng t hmt
        have tb := okr.tb t hmt
        obtain ⟨us, hDx, ko⟩ := hDx
        have hco : coef (r.1.2.take (j + 1)) t.1 = coef (r.1.2.take j) t.1 + t.2 := by
          rw [List.take_succ, ht]
          show coef (r.1.2.take j ++ [t]) t.1 = _
          rw [coef_snoc, if_pos rfl]
        have hcn : ∀ u, u ≠ t.1 → coef (r.1.2.take (j + 1)) u = coef (r.1.2.take j) u := fun u hu => by
          rw [List.take_succ, ht]
          show coef (r.1.2.take j ++ [t]) u = _
          rw [coef_snoc, if_neg (fun z => hu z.symm), Int.add_zero]
        have cm2 : CMulW m t.2 := wide_mul hmb tb (by decide) (by decide) (by decide)
        obtain ⟨us', hput, ko'⟩ := ko.put (u := t.1) (x := (cf ((rs.zip ms).take i) t.1 + m * coef (r.1.2.take j) t.1) + m * t.2) r0 r6
        refine ⟨q, _, rfl, SqT.of (gx.tup hq'), rfl, _, _, rfl, _, _, rfl, rfl, ?_⟩
        refine ⟨_, rfl, D0, rfl, .inl ⟨_, .inl hDx⟩, _, rfl, _, DGet.k (k := Sum.inl t.1) hDx, _, rfl, _, rfl, _, _, rfl, rfl, cm2, _, _, ko.getD t.1, rfl, ?_⟩
        refine ⟨_, rfl, _, rfl, D0, _, rfl, DPut.k (k := Sum.inl t.1) hDx (by unfold dI; rw [List.length_map, sizeLine_eq]; have := ko.le; omega), ?_⟩
        refine ⟨_, _, rfl, ?_, gx.upd' hD0⟩
        refine ⟨us', ?_, ?_⟩
        · rw [upd_same, hput]
          refine congrArg some (congrArg HO.dK (dI_cong fun u _ => ?_))
          unfold upI
          by_cases hu : u = t.1
          · rw [if_pos hu, hu, hco, Int.mul_add, Int.add_assoc]
          · rw [if_neg hu, hcn u hu]
        · refine ⟨ko'.nd, ko'.rg, fun u hu => ?_⟩
          have q := ko'.no u hu
          unfold upI at q
          by_cases hu : u = t.1
          · rw [if_pos hu] at q
            rw [hu, hco, Int.mul_add, ← Int.add_assoc]
            exact q
          · rw [if_neg hu] at q
            rw [hcn u hu]
            exact q
      · obtain ⟨v7, v8, rfl, hDx, gx⟩ := hq
        rw [← hzl, List.take_length] at hDx
        refine ⟨_, _, _, _, _, by rw [hs], ?_, gx⟩
        rw [show cf ((rs.zip ms).take (i + 1)) = (fun u => cf ((rs.zip ms).take i) u + m * coef r.1.2 u) from funext hc]
        exact hDx
    · obtain ⟨v4, v5, v6, v7, v8, rfl, hD, g⟩ := hq
      have hzl : (rs.zip ms).length = rs.length := by rw [List.length_zip]; omega
      rw [← hzl, List.take_length] at hD ⊢
      obtain ⟨us, hD, ko⟩ := hD
      refine ⟨_, rfl, _, rfl, D0, _, rfl, hD, trivial, fun od => ⟨D0, od, rfl, .inl ⟨_, upd_same, fun D hDn => ?_⟩⟩⟩
      have gf : Grow H (upd Hc D0 (.frz od (.dK (dI us (cf (rs.zip ms)))))) := g.upd' hD0
      have hF := upd_same (H := Hc) (a := D0) (o := .frz od (.dK (dI us (cf (rs.zip ms)))))
      generalize upd Hc D0 (.frz od (.dK (dI us (cf (rs.zip ms))))) = HF at gf hF hDn ⊢
      have hlu : (dI us (cf (rs.zip ms))).length = us.length := by unfold dI; rw [List.length_map]
      have h6 := ko.le
      refine dc_it (walk_keys (d := D0) (o := od) (kvs := dI us (cf (rs.zip ms)))) (fun i Hx => Hx D = some (.dK (dI (nzI (cf (rs.zip ms)) (us.take i)) (cf (rs.zip ms)))) ∧ Grow HF Hx) ⟨upd_same, Grow.new hDn⟩ (fun i Hx _ hq => ?_) (fun i x Hx H' hi hq y => ?_) (fun Hx hq => ?_)
      · exact (hq.2 D0 _ hF).elim id fun z => by obtain ⟨⟨_, z⟩, _⟩ := z; cases z
      · obtain ⟨hacc, gx⟩ := hq
        obtain ⟨rfl, kk, vv, hkv, rfl⟩ := y
        have hFx : H' D0 = some (.frz od (.dK (dI us (cf (rs.zip ms))))) := (gx D0 _ hF).elim id fun z => by obtain ⟨⟨_, z⟩, _⟩ := z; cases z
        unfold dI at hkv
        rw [List.getElem?_map] at hkv
        obtain ⟨u, hu1, hu2⟩ := Option.map_eq_some_iff.mp hkv
        cases hu2
        have hmu := List.mem_of_getElem? hu1
        have hget : DGet H' D0 (.int u) (some (.int (cf (rs.zip ms) u))) := by
          rw [← dI_in (g := cf (rs.zip ms)) hmu]
          exact .inl ⟨_, Sum.inl u, .inr ⟨od, hFx⟩, rfl, rfl⟩
        refine ⟨wipe_set, ?_⟩
        refine ⟨_, rfl, _, rfl, D0, _, rfl, hget, rfl, _, rfl, ?_⟩
        have ets : us.take (i + 1) = us.take i ++ [u] := by rw [List.take_succ, hu1]; rfl
        by_cases hz : cf (rs.zip ms) u = 0
        · have e : (!decide (V.int (cf (rs.zip ms) u) = V.int 0)) = false := by rw [hz]; rfl
          show if (!decide (V.int (cf (rs.zip ms) u) = V.int 0)) = true then _ else _
          rw [e]
          refine iteF ⟨?_, gx⟩
          rw [ets]
          unfold nzI at hacc ⊢
          rw [List.filter_append, List.filter_cons, hz]
          simpa using hacc
        · have e : (!decide (V.int (cf (rs.zip ms) u) = V.int 0)) = true := by rw [decide_eq_false (fun z => hz (V.int.inj z))]; rfl
          show if (!decide (V.int (cf (rs.zip ms) u) = V.int 0)) = true then _ else _
          rw [e]
          have hnot : u ∉ nzI (cf (rs.zip ms)) (us.take i) := fun hm => by
            have hm2 : u ∈ us.take i := (List.mem_filter.mp hm).1
            have nd := ko.nd
            rw [← List.take_append_drop (i + 1) us, ets, List.nodup_append] at nd
            have nd2 := nd.1
            rw [List.nodup_append] at nd2
            exact nd2.2.2 u hm2 u List.mem_cons_self rfl
          refine iteT ⟨_, rfl, _, rfl, _, rfl, D0, _, rfl, hget, _, Sum.inl u, rfl, hacc, ?_, ?_, gx.upd' hDn⟩
          · unfold dI nzI
            rw [List.length_map, sizeLine_eq]
            have := List.length_filter_le (fun u => !decide (cf (rs.zip ms) u = 0)) (us.take i)
            rw [List.length_take] at this
            omega
          · rw [upd_same, dI_put_out hnot, ets]
            refine congrArg some (congrArg HO.dK ?_)
            unfold nzI
            rw [List.filter_append, List.filter_cons, decide_eq_false hz]
            refine dI_cong fun v hv => ?_
            unfold upI
            by_cases q : v = u
            · rw [if_pos q, q]
            · rw [if_neg q]
      · obtain ⟨hacc, gx⟩ := hq
        rw [hlu, List.take_length] at hacc
        refine ⟨(by show 2 ≤ sizeLine; decide), fun T hT => ?_⟩
        have gT := Grow.new (o := .tup [.int (sumC (rs.zip ms)), .ref D]) hT
        exact k T D _ _ upd_same (gT.dk hacc) (nzI_nil ko) ((gf.trans gx).trans gT)
end
end J1
set_option Elab.async false
set_option linter.all false
set_option maxRecDepth 100000
set_option maxHeartbeats 4000000
namespace J1
open PySem PySem.Spec PyProof.Rows L2 GxR GA RZ
abbrev sNs : Stmt := top 50
theorem cNs : FnScope ["thing"] ["thing"] (defScope sNs) := ⟨rfl, rfl, rfl, by decide +kernel, rfl, by decide +kernel, by decide +kernel⟩
abbrev sKe : Stmt := top 45
theorem cKe : FnScope ["system", "thing", "count", "rows"] ["system", "thing"] (defScope sKe) := ⟨rfl, rfl, rfl, by decide +kernel, rfl, by decide +kernel, by decide +kernel⟩
abbrev sRe : Stmt := top 46
theorem cRe : FnScope ["system", "thing", "rows", "const", "terms"] ["system", "thing"] (defScope sRe) := ⟨rfl, rfl, rfl, by decide +kernel, rfl, by decide +kernel, by decide +kernel⟩
abbrev sSo : Stmt := top 48
theorem cSo : FnScope ["system", "tableau", "broken"] ["system"] (defScope sSo) := ⟨rfl, rfl, rfl, by decide +kernel, rfl, by decide +kernel, by decide +kernel⟩
abbrev sLe : Stmt := top 49
theorem cLe : FnScope ["system", "line", "tableau", "broken", "goal", "entering"] ["system", "line"] (defScope sLe) := ⟨rfl, rfl, rfl, by decide +kernel, rfl, by decide +kernel, by decide +kernel⟩
abbrev sIl : Stmt := top 47
theorem cIl : FnScope ["system", "line", "thing", "word"] ["system", "line", "thing"] (defScope sIl) := ⟨rfl, rfl, rfl, by decide +kernel, rfl, by decide +kernel, by decide +kernel⟩
structure Exn (K : PySem.W.Frag) (mg : Str → Option Value) (nm : Str) (C : Addr) : Prop where
  x : PySem.W.excIn K C [.type "ValueError", .type "Exception", .type "BaseException", .type "object"] "ValueError.__new__" = true
  g : mg nm = some (.ref C)
  k : PySem.W.keepIn K (.ref C) = true
  b : PySem.W.subIn K (.ref C) (.type "BaseException") = some true
  t : PySem.W.typeIn K (.ref C) = some (.type "type")
def PtD (d : Da) : Prop := ∀ l, d = .tup l → ∀ a b : Int, Da.tup [.int a, .int b] ∈ l → a.natAbs < 2 ^ 100 ∧ b.natAbs < 2 ^ 100
def MuD (d : Da) : Prop := ∀ l, d = .tup l → ∀ i : Int, Da.int i ∈ l → i.natAbs < 2 ^ 110
theorem isRat_c {d : Da} (h : isRat d = true) : ∃ a b : Int, d = .tup [.int a, .int b] ∧ 1 ≤ b := by
  unfold isRat at h
  split at h
  · rename_i a b
    rw [Bool.and_eq_true, decide_eq_true_iff] at h
    exact ⟨a, b, rfl, h.1⟩
  · cases h
theorem pt_shape : ∀ {l : List Da}, l.all isRat = true → l = (l.map prOf).map tmD ∧ ((∀ a b : Int, Da.tup [.int a, .int b] ∈ l → a.natAbs < 2 ^ 100 ∧ b.natAbs < 2 ^ 100) → PtB (l.map prOf))
  | [], _ => ⟨rfl, fun _ p hp => absurd hp List.not_mem_nil⟩
  | d :: l, h => by
    rw [List.all_cons, Bool.and_eq_true] at h
    obtain ⟨a, b, rfl, hb⟩ := isRat_c h.1
    obtain ⟨e, q⟩ := pt_shape h.2
    refine ⟨?_, fun g p hp => ?_⟩
    · rw [List.map_cons, List.map_cons, ← e]
      rfl
    · rw [List.map_cons] at hp
      rcases List.mem_cons.mp hp with z | z
      · have := g a b List.mem_cons_self
        rw [z]
        exact ⟨this.1, by show 0 < b; omega, this.2⟩
      · exact q (fun a b hm => g a b (List.mem_cons_of_mem _ hm)) p z
theorem ints_shape : ∀ {l : List Da}, l.all isInt = true → l = (l.map inOf).map .int
  | [], _ => rfl
  | d :: l, h => by
    rw [List.all_cons, Bool.and_eq_true] at h
    have e := ints_shape h.2
    rcases isInt_c d with q | ⟨i, rfl⟩
    · rw [q] at h; cases h.1
    · rw [List.map_cons, List.map_cons, ← e]
      rfl
theorem cf_zero {z : List (Rw × Int)} (h : ∀ p ∈ z, ∀ t ∈ p.1.1.2, cf z t.1 = 0) (u : Int) : cf z u = 0 := by
  by_cases q : ∃ p ∈ z, ∃ t ∈ p.1.1.2, t.1 = u
  · obtain ⟨p, hp, t, ht, e⟩ := q
    rw [← e]
    exact h p hp t ht
  · unfold cf
    have : ∀ l : List (Rw × Int), (∀ p ∈ l, p ∈ z) → (l.map fun p => p.2 * coef p.1.1.2 u).sum = 0 := fun l => by
      induction l with
      | nil => intro _; rfl
      | cons p l ih =>
        intro g
        rw [List.map_cons, List.sum_cons, ih fun x hx => g x (List.mem_cons_of_mem _ hx), coef_none fun t ht e => q ⟨p, g p List.mem_cons_self, t, ht, e⟩]
        simp
    exact this z fun _ h => h
def spNs (CB : Addr) : Sp := fun vs H Q E => ∃ (x : V) (d : Da), vs = [x] ∧ Enc H d x ∧ ((isSy d = false ∧ ∀ H', Grow H H' → E (.ref CB) none H') ∨ (isSy d = true ∧ ∀ H', Grow H H' → Q .non H'))
def spKe (CB : Addr) : Sp := fun vs H Q E => ∃ (x xt : V) (d dt : Da), vs = [x, xt] ∧ Enc H d x ∧ Enc H dt xt ∧ ((isSy d = false ∧ ∀ H', Grow H H' → E (.ref CB) none H') ∨
  (∃ c rs, d = syD c rs ∧ SyOk c rs ∧ PtD dt ∧ ∀ H', Grow H H' → Q (.bl (keepsB c rs dt)) H'))
def spRe (CB : Addr) : Sp := fun vs H Q E => ∃ (x xt : V) (d dt : Da), vs = [x, xt] ∧ Enc H d x ∧ Enc H dt xt ∧ ((isSy d = false ∧ ∀ H', Grow H H' → E (.ref CB) none H') ∨
  (∃ c rs, d = syD c rs ∧ SyOk c rs ∧ MuD dt ∧ ∀ H', Grow H H' → Q (.bl (refB rs dt)) H'))
/-- what only raises here -/
def spB1 (CB : Addr) : Sp := fun vs H Q E => ∃ (x : V) (d : Da), vs = [x] ∧ Enc H d x ∧ isSy d = false ∧ ∀ H', Grow H H' → E (.ref CB) none H'
def spB2 (CB : Addr) : Sp := fun vs H Q E => ∃ (x y : V) (d : Da), vs = [x, y] ∧ Enc H d x ∧ isSy d = false ∧ ∀ H', Grow H H' → E (.ref CB) none H'
def spB3 (CB : Addr) : Sp := fun vs H Q E => ∃ (x y z : V) (d : Da), vs = [x, y, z] ∧ Enc H d x ∧ isSy d = false ∧ ∀ H', Grow H H' → E (.ref CB) none H'
section
variable {P : Program} {w : World} {K : PySem.W.Frag} {mg : Str → Option Value} {base : Heap} {CB : Addr}
theorem ok_need {f fS : Addr} {fd fdS : FuncData} (F : Fun K "need_system" "need_system" sNs f fd) (B : Exn K mg "BadSystem" CB)
    (GS : FnOk P w K mg base CX0 5 fS fdS ["thing"] spSy) (DS : Df K mg "is_system" ["thing"] fS fdS) : FnOk P w K mg base (L2.CX P w) 6 f fd ["thing"] (spNs CB) := by
  refine F.okX (k := 5) cNs (fun vs H Q E h => ?_) (fun cdv A outer s H vs Q E hr h => ?_)
  · obtain ⟨_, _, rfl, _⟩ := h
    rfl
  · obtain ⟨x, d, rfl, en, k⟩ := h
    refine ⟨_, (pss_one (ps_if (pt_not (pt_val (pe_call GS hr (by rfl) DS.g DS.k DS.b .nil pass0 (pa_cons (pv 0) pa_nil)))) (pss_one (ps_raise rfl (takes_of rfl rfl rfl rfl) (pmk_own PySem.F.excBase_ValueError B.x B.g B.k (raises_own B.b B.t) rfl))) pss_nil)), ?_⟩
    refine ⟨_, rfl, x, d, rfl, en, fun H1 g1 => ⟨_, rfl, ?_⟩⟩
    rcases k with ⟨h, k⟩ | ⟨h, k⟩
    · rw [h]
      exact iteT (k H1 g1)
    · rw [h]
      exact iteF (k H1 g1)
theorem ok_keeps {f fN fP fK : Addr} {fd fdN fdP fdK : FuncData} (F : Fun K "keeps" "keeps" sKe f fd)
    (GN : FnOk P w K mg base (L2.CX P w) 6 fN fdN ["thing"] (spNs CB)) (DN : Df K mg "need_system" ["thing"] fN fdN)
    (GP : FnOk P w K mg base CX0 3 fP fdP ["thing", "count"] spPt) (DP : Df K mg "is_point" ["thing", "count"] fP fdP)
    (GK : FnOk P w K mg base CX0 2 fK fdK ["rows", "point"] spKp) (DK : Df K mg "is_kept" ["rows", "point"] fK fdK) : FnOk P w K mg base (L2.CX P w) 7 f fd ["system", "thing"] (spKe CB) := by
  refine F.okX (k := 6) cKe (fun vs H Q E h => ?_) (fun cdv A outer s H vs Q E hr h => ?_)
  · obtain ⟨_, _, _, _, rfl, _⟩ := h
    rfl
  · obtain ⟨x, xt, d, dt, rfl, en, et, k⟩ := h
    refine ⟨_, (pss_cons (ps_expr (pe_callS GN hr (by rfl) DN.g DN.k DN.b (fun σ => passAt (takes_of rfl rfl rfl rfl) σ) (pa_cons (pv 0) pa_nil))) (pss_cons (ps_asg (pv 0) (pg_tup (by rfl) (pgs_cons (pg_name (i := 2) cKe.nd rfl (Or.inl rfl)) (pgs_cons (pg_name (i := 3) cKe.nd rfl (Or.inl rfl)) pgs_nil)))) (pss_one (ps_ret (pe_and (pe_call (GP.mono (by decide)) hr (by rfl) DP.g DP.k DP.b .nil pass0 (pa_cons (pv 1) (pa_cons (pv 2) pa_nil))) (pe_one (pe_call (GK.mono (by decide)) hr (by rfl) DK.g DK.k DK.b .nil pass0 (pa_cons (pv 3) (pa_cons (pv 1) pa_nil))))))))), ?_⟩
    rcases k with ⟨h, k⟩ | ⟨c, rs, rfl, so, pd, k⟩
    · exact ⟨_, rfl, x, d, rfl, en, .inl ⟨h, fun H1 g1 => k H1 g1⟩⟩
    refine ⟨_, rfl, x, _, rfl, en, .inr ⟨isSy_of so, fun H1 g1 => ?_⟩⟩
    obtain ⟨p, a, b, rfl, hp, e0, e1⟩ := enc2 en
    cases encI e0
    refine ⟨_, rfl, p, _, rfl, SqT.of (g1.tup hp), rfl, _, _, rfl, _, _, rfl, rfl, ?_⟩
    refine ⟨_, rfl, _, rfl, xt, dt, c, rfl, et.grow g1, so.c1, fun H2 g2 => ⟨_, rfl, ?_⟩⟩
    have g12 := g1.trans g2
    cases hpt : isPt c dt with
    | false =>
      have q := k _ g12
      unfold keepsB at q
      rw [hpt] at q
      exact iteF q
    | true =>
      have q : ∀ H', Grow H H' → Q (.bl (rs.all (rowOk (ptOf dt)))) H' := fun H' g => by
        have q := k _ g
        unfold keepsB at q
        rw [hpt] at q
        exact q
      unfold isPt at hpt
      split at hpt
      · rename_i l
        rw [Bool.and_eq_true, decide_eq_true_iff] at hpt
        obtain ⟨e, hb⟩ := pt_shape hpt.2
        refine iteT ⟨_, rfl, _, rfl, b, xt, rs, l.map prOf, c, rfl, e1.grow g12, ?_, so.ln, by rw [List.length_map]; exact hpt.1, hb (pd l rfl), fun H3 g3 => q _ (g12.trans g3)⟩
        rw [← e]
        exact et.grow g12
      · cases hpt
theorem ok_refutes {f fN fM fS : Addr} {fd fdN fdM fdS : FuncData} (F : Fun K "refutes" "refutes" sRe f fd)
    (GN : FnOk P w K mg base (L2.CX P w) 6 fN fdN ["thing"] (spNs CB)) (DN : Df K mg "need_system" ["thing"] fN fdN)
    (GM : FnOk P w K mg base CX0 2 fM fdM ["rows", "thing"] spMu) (DM : Df K mg "are_multipliers" ["rows", "thing"] fM fdM)
    (GS : FnOk P w K mg base CX0 1 fS fdS ["rows", "multipliers"] spSu) (DS : Df K mg "summed" ["rows", "multipliers"] fS fdS) : FnOk P w K mg base (L2.CX P w) 7 f fd ["system", "thing"] (spRe CB) := by
  refine F.okX (k := 6) cRe (fun vs H Q E h => ?_) (fun cdv A outer s H vs Q E hr h => ?_)
  · obtain ⟨_, _, _, _, rfl, _⟩ := h
    rfl
  · obtain ⟨x, xt, d, dt, rfl, en, et, k⟩ := h
    refine ⟨_, (pss_cons (ps_expr (pe_callS GN hr (by rfl) DN.g DN.k DN.b (fun σ => passAt (takes_of rfl rfl rfl rfl) σ) (pa_cons (pv 0) pa_nil))) (pss_cons (ps_set (i := 2) cRe.nd rfl (Or.inl rfl) (pe_ix ix_tup (pv 0) pe_int (fun _ _ => rfl))) (pss_cons (ps_if (pt_not (pt_val (pe_call (GM.mono (by decide)) hr (by rfl) DM.g DM.k DM.b .nil pass0 (pa_cons (pv 2) (pa_cons (pv 1) pa_nil))))) (pss_one (ps_ret pe_bl)) pss_nil) (pss_cons (ps_asg (pe_call (GS.mono (by decide)) hr (by rfl) DS.g DS.k DS.b .nil pass0 (pa_cons (pv 2) (pa_cons (pv 1) pa_nil))) (pg_tup (by rfl) (pgs_cons (pg_name (i := 3) cRe.nd rfl (Or.inl rfl)) (pgs_cons (pg_name (i := 4) cRe.nd rfl (Or.inl rfl)) pgs_nil)))) (pss_one (ps_ret (pe_and (pe_cmpR op_lt (pv 3) pe_int (nomark _)) (pe_one (pe_notT (pv 4)))))))))), ?_⟩
    rcases k with ⟨h, k⟩ | ⟨c, rs, rfl, so, md, k⟩
    · exact ⟨_, rfl, x, d, rfl, en, .inl ⟨h, fun H1 g1 => k H1 g1⟩⟩
    refine ⟨_, rfl, x, _, rfl, en, .inr ⟨isSy_of so, fun H1 g1 => ?_⟩⟩
    obtain ⟨p, a, b, rfl, hp, e0, e1⟩ := enc2 en
    cases encI e0
    refine ⟨_, rfl, p, _, _, _, rfl, rfl, SqT.of (g1.tup hp), at_of (j := 1) rfl rfl, ?_⟩
    refine ⟨_, rfl, _, rfl, b, xt, dt, rs, rfl, e1.grow g1, et.grow g1, so.le, fun H2 g2 => ⟨_, rfl, ?_⟩⟩
    have g12 := g1.trans g2
    cases hmu : isMu rs dt with
    | false =>
      have q := k _ g12
      unfold refB at q
      rw [hmu] at q
      exact iteT q
    | true =>
      have q : ∀ H', Grow H H' → Q (.bl (decide (sumC (muZ rs dt) < 0) && decide (∀ r ∈ rs, ∀ t ∈ r.1.2, cf (muZ rs dt) t.1 = 0))) H' := fun H' g => by
        have q := k _ g
        unfold refB at q
        rw [hmu] at q
        exact q
      unfold isMu at hmu
      split at hmu
      · rename_i l
        rw [Bool.and_eq_true, Bool.and_eq_true, decide_eq_true_iff] at hmu
        have e := ints_shape hmu.1.2
        refine iteF ⟨_, rfl, _, rfl, b, xt, rs, l.map inOf, c, rfl, e1.grow g12, ?_, by rw [List.length_map]; exact hmu.1.1, so.ln, fun m hm => ?_, fun T D us H3 hT hD hus g3 => ?_⟩
        · rw [← e]
          exact et.grow g12
        · refine md l rfl m ?_
          rw [e]
          exact List.mem_map.mpr ⟨m, hm, rfl⟩
        · have q := q _ (g12.trans g3)
          have ez : muZ rs (.tup l) = rs.zip (l.map inOf) := rfl
          rw [ez] at q
          generalize hz : rs.zip (l.map inOf) = z at hT hD hus q
          refine ⟨T, _, rfl, SqT.of hT, rfl, _, _, rfl, _, _, rfl, rfl, ?_⟩
          refine ⟨_, rfl, _, _, rfl, rfl, _, rfl, ?_⟩
          have hk : decide (us = []) = decide (∀ r ∈ rs, ∀ t ∈ r.1.2, cf z t.1 = 0) := by
            refine decide_eq_decide.mpr ⟨fun e r _ t _ => hus.mp e t.1, fun g => hus.mpr (cf_zero fun p hp t ht => ?_)⟩
            rw [← hz] at hp
            exact g p.1 (List.of_mem_zip hp).1 t ht
          have hke : (dI us (cf z)).isEmpty = decide (us = []) := by
            cases us with
            | nil => rfl
            | cons v us => rfl
          by_cases hn : sumC z < 0
          · rw [decide_eq_true hn, Bool.true_and] at q
            refine ifT hn ⟨_, rfl, !(dI us (cf z)).isEmpty, .inr (.inr ⟨_, hD, rfl⟩), ?_⟩
            rw [Bool.not_not, hke, hk]
            exact q
          · rw [decide_eq_false hn, Bool.false_and] at q
            exact ifF hn q
      · cases hmu
theorem ok_solve {f fN : Addr} {fd fdN : FuncData} (F : Fun K "solve" "solve" sSo f fd)
    (GN : FnOk P w K mg base (L2.CX P w) 6 fN fdN ["thing"] (spNs CB)) (DN : Df K mg "need_system" ["thing"] fN fdN) : FnOk P w K mg base (L2.CX P w) 7 f fd ["system"] (spB1 CB) := by
  refine F.okX (k := 6) cSo (fun vs H Q E h => ?_) (fun cdv A outer s H vs Q E hr h => ?_)
  · obtain ⟨_, _, rfl, _⟩ := h
    rfl
  · obtain ⟨x, d, rfl, en, h, k⟩ := h
    refine ⟨_, (pss_cons (ps_expr (pe_callS GN hr (by rfl) DN.g DN.k DN.b (fun σ => passAt (takes_of rfl rfl rfl rfl) σ) (pa_cons (pv 0) pa_nil))) pss_no), ?_⟩
    exact ⟨_, rfl, x, d, rfl, en, .inl ⟨h, fun H1 g1 => k H1 g1⟩⟩
theorem ok_least {f fN : Addr} {fd fdN : FuncData} (F : Fun K "least" "least" sLe f fd)
    (GN : FnOk P w K mg base (L2.CX P w) 6 fN fdN ["thing"] (spNs CB)) (DN : Df K mg "need_system" ["thing"] fN fdN) : FnOk P w K mg base (L2.CX P w) 7 f fd ["system", "line"] (spB2 CB) := by
  refine F.okX (k := 6) cLe (fun vs H Q E h => ?_) (fun cdv A outer s H vs Q E hr h => ?_)
  · obtain ⟨_, _, _, rfl, _⟩ := h
    rfl
  · obtain ⟨x, y, d, rfl, en, h, k⟩ := h
    refine ⟨_, (pss_cons (ps_expr (pe_callS GN hr (by rfl) DN.g DN.k DN.b (fun σ => passAt (takes_of rfl rfl rfl rfl) σ) (pa_cons (pv 0) pa_nil))) pss_no), ?_⟩
    exact ⟨_, rfl, x, d, rfl, en, .inl ⟨h, fun H1 g1 => k H1 g1⟩⟩
theorem ok_isleast {f fN : Addr} {fd fdN : FuncData} (F : Fun K "is_least" "is_least" sIl f fd)
    (GN : FnOk P w K mg base (L2.CX P w) 6 fN fdN ["thing"] (spNs CB)) (DN : Df K mg "need_system" ["thing"] fN fdN) : FnOk P w K mg base (L2.CX P w) 7 f fd ["system", "line", "thing"] (spB3 CB) := by
  refine F.okX (k := 6) cIl (fun vs H Q E h => ?_) (fun cdv A outer s H vs Q E hr h => ?_)
  · obtain ⟨_, _, _, _, rfl, _⟩ := h
    rfl
  · obtain ⟨x, y, z, d, rfl, en, h, k⟩ := h
    refine ⟨_, (pss_cons (ps_expr (pe_callS GN hr (by rfl) DN.g DN.k DN.b (fun σ => passAt (takes_of rfl rfl rfl rfl) σ) (pa_cons (pv 0) pa_nil))) pss_no), ?_⟩
    exact ⟨_, rfl, x, d, rfl, en, .inl ⟨h, fun H1 g1 => k H1 g1⟩⟩
end
end J1
set_option Elab.async false
set_option linter.all false
set_option maxRecDepth 100000
set_option maxHeartbeats 4000000
namespace J1
open PySem PySem.Spec PyProof.Rows L2 GxR GA RZ
abbrev lDr : Stmt := top 55
theorem cDr : FnScope ["_law_well_here", "_law_many", "_law_cells", "_law_cell", "_law_got"] ["_law_well_here", "_law_many"] (defScope lDr) := ⟨rfl, rfl, rfl, by decide +kernel, rfl, by decide +kernel, by decide +kernel⟩
/-- the well at p: what is left of a cell, how many cells were taken, the cells at l, how many draws; n: how many there were at most -/
structure Wl (H : Hp) (p l : Addr) (ns : List Int) (n : Nat) : Prop where
  ex : ∃ c a b : Int, H p = some (.lst [.int c, .int a, .ref l, .int b]) ∧ 0 ≤ c ∧ 0 ≤ a ∧ a ≤ n ∧ 0 ≤ b ∧ b ≤ n
  cells : H l = some (.lst (ns.map V.int))
/-- what a draw promises: only the well changes -/
def spDr : Sp := fun vs H Q _ => ∃ (p l : Addr) (ns : List Int) (n : Nat) (m : Int), vs = [.ref p, .int m] ∧ 0 < m ∧ CDivW 0 m ∧ Wl H p l ns n ∧ n ≤ 1000000000000000000000000000000 ∧
  ∀ (r : Int) (H' : Hp), 0 ≤ r → r < m → Wl H' p l ns (n + 1) → GrowW p H H' → Q (.int r) H'
structure Gd (mg : Str → Option Value) : Prop where
  len : mg "len" = none
  abs : mg "abs" = none
  int : mg "int" = none
  list : mg "list" = none
  range : mg "range" = none
  str : mg "str" = none
  min : mg "min" = none
  max : mg "max" = none
  tuple : mg "tuple" = none
theorem pget_l {X : Cx} : PGet X (fun x y H Q => ∃ (p : Addr) (xs : List V) (j : Nat) (v : V), x = .ref p ∧ y = .int (j : Int) ∧ SqL X.K H p xs ∧ xs[j]? = some v ∧ Q v H) := by
  intro pins s σ H o i ov iv Q I ro ri h
  obtain ⟨p, xs, j, z, rfl, rfl, hq, hz, q⟩ := h
  cases ro
  obtain ⟨t, rfl⟩ := ri
  obtain ⟨its, r, pl, hl⟩ := I.list hq
  obtain ⟨y, ey, ry⟩ := r.get hz
  have hj : j < xs.length := (List.getElem?_eq_some_iff.mp hz).1
  have hn := line63
  exact wpAny_getItem_list pl.isList (Int.natCast_nonneg j) (by omega) (by simpa using ey) ⟨z, H, I, ry, q⟩
section
variable {P : Program} {w : World} {K : PySem.W.Frag} {mg : Str → Option Value} {base : Heap}
theorem ok_draw {f : Addr} {fd : FuncData} (F : Fun K "_law_draw" "_law_draw" lDr f fd) (N : Gd mg) : FnOk P w K mg base CX0 1 f fd ["_law_well_here", "_law_many"] spDr := by
  refine F.ok cDr (fun vs H Q E h => ?_) (fun cdv A outer s H vs Q E hr h => ?_)
  · obtain ⟨p, l, ns, n, m, rfl, _⟩ := h
    rfl
  · obtain ⟨p, l, ns, n, m, rfl, hm, hm9, ⟨⟨c, a, b, hp, hc, ha, han, hb, hbn⟩, hl⟩, hn, kq⟩ := h
    have npl : p ≠ l := fun e => by
      rw [e, hl] at hp
      have := HO.lst.inj (Option.some.inj hp)
      match ns, this with
      | [], q => cases q
      | [_], q => cases q
      | [_, _], q => cases q
      | [_, _, _], q => cases q
      | _ :: _ :: _ :: _ :: _ :: _, q => simp at q
    refine ⟨_, (pss_cons (ps_set (i := 2) cDr.nd rfl (Or.inl rfl) (pe_ix ix_list (pv 0) pe_int (fun _ _ => rfl))) (C8.pss_cut (ps_if (pt_cmpR op_eq (pe_ix ix_list (pv 0) pe_int (fun _ _ => rfl)) pe_int (nomark _)) (pss_cons (ps_set (i := 3) cDr.nd rfl (Or.inl rfl) pe_int) (C8.pss_cut (ps_if (pt_cmpR op_lt (pe_ix ix_list (pv 0) pe_int (fun _ _ => rfl)) (pe_callB call_len_seq (by rfl) N.len PySem.boot_len (pa_cons (pv 2) pa_nil)) (nomark _)) (pss_one (ps_set (i := 3) cDr.nd rfl (Or.inl rfl) (pe_callB call_abs (by rfl) N.abs (by decide +kernel) (pa_cons (pe_ix ix_list (pv 2) (pe_ix ix_list (pv 0) pe_int (fun _ _ => rfl)) (fun _ _ => rfl)) pa_nil)))) pss_nil) (C8.pss_cut (ps_if (pt_cmpR op_lt (pv 3) (pe_op op_pow pe_int pe_int) (nomark _)) (pss_cons (ps_set (i := 3) cDr.nd rfl (Or.inl rfl) (pe_op op_add (pe_op op_add (pe_op op_add (pe_op op_mul (pv 3) pe_int) (pe_op op_mul (pe_ix ix_list (pv 0) pe_int (fun _ _ => rfl)) pe_int)) pe_int) (pe_op op_mul (pe_ix ix_list (pv 0) pe_int (fun _ _ => rfl)) pe_int))) (pss_one (ps_set (i := 3) cDr.nd rfl (Or.inl rfl) (pe_op op_add (pe_op op_mul (pe_op op_fdiv (pe_op op_mulW (pv 3) (pv 3)) pe_int) pe_int) (pv 3))))) pss_nil) (pss_cons (ps_asg (pv 3) (pg_sub (pv 0) pe_int set_list)) (pss_cons (ps_augS (pv 0) pe_int pget_l pe_int ip_add set_list) (pss_one (ps_augS (pv 0) pe_int pget_l pe_int ip_add set_list))))))) pss_nil) (pss_cons (ps_set (i := 4) cDr.nd rfl (Or.inl rfl) (pe_op op_mod (pe_callTy call_int1 (by rfl) N.int (by decide +kernel) (pa_cons (pe_ix ix_list (pv 0) pe_int (fun _ _ => rfl)) pa_nil)) (pv 1))) (pss_cons (ps_asg (pe_op op_fdivW (pe_ix ix_list (pv 0) pe_int (fun _ _ => rfl)) (pv 1)) (pg_sub (pv 0) pe_int set_list)) (pss_one (ps_ret (pv 4))))))), ?_⟩
    refine ⟨_, rfl, p, _, _, _, rfl, rfl, SqL.of hp, at_of (j := 2) rfl rfl, ?_⟩
    refine ⟨fun σ' H' => ∃ (c' a' b' : Int) (v3 : Option V), σ' = [some (.ref p), some (.int m), some (.ref l), v3, none] ∧ H' p = some (.lst [.int c', .int a', .ref l, .int b']) ∧ 0 ≤ c' ∧ 0 ≤ a' ∧ a' ≤ n + 1 ∧ 0 ≤ b' ∧ b' ≤ n + 1 ∧ GrowW p H H', ?_, ?_⟩
    · refine ⟨_, rfl, p, _, _, _, rfl, rfl, SqL.of hp, at_of (j := 0) rfl rfl, rfl, _, rfl, ?_⟩
      refine ite2 (fun _ => ?_) (fun _ => ?_)
      · refine ⟨fun σ' H' => ∃ c1 : Int, 0 ≤ c1 ∧ σ' = [some (.ref p), some (.int m), some (.ref l), some (.int c1), none] ∧ H' = H, ?_, ?_⟩
        · refine ⟨_, rfl, p, _, _, _, rfl, rfl, SqL.of hp, at_of (j := 1) rfl rfl, _, rfl, l, _, rfl, .inl (SqL.of hl), _, _, rfl, rfl, _, rfl, ?_⟩
          refine ite2 (fun hlt => ?_) (fun _ => ?_)
          · have hlt := of_decide_eq_true hlt
            rw [List.length_map] at hlt
            have hj : a.toNat < ns.length := by omega
            refine ⟨_, rfl, _, rfl, p, _, _, _, rfl, rfl, SqL.of hp, at_of (j := 1) rfl rfl, l, _, _, _, rfl, rfl, SqL.of hl, at_of (j := a.toNat) (v := V.int ns[a.toNat]) (by omega) (by rw [List.getElem?_map, List.getElem?_eq_getElem hj]; rfl), _, rfl, ?_⟩
            refine ⟨if ns[a.toNat] < 0 then -ns[a.toNat] else ns[a.toNat], ?_, rfl, rfl⟩
            split <;> omega
          · exact ⟨7, by decide, rfl, rfl⟩
        · intro σ' H1 hh
          obtain ⟨c1, hc1, e1, e2⟩ := hh
          subst e1
          subst e2
          refine ⟨fun σ' H' => ∃ c2 : Int, 0 ≤ c2 ∧ σ' = [some (.ref p), some (.int m), some (.ref l), some (.int c2), none] ∧ H' = H1, ?_, ?_⟩
          · refine ⟨_, rfl, _, _, rfl, rfl, ⟨by decide, by decide, by decide⟩, _, _, rfl, rfl, _, rfl, ?_⟩
            refine ite2 (fun hlt => ?_) (fun _ => ?_)
            · have hlt := of_decide_eq_true hlt
              have e18 : (10 : Int) ^ (Int.toNat 18) = 1000000000000000000 := by decide
              rw [e18] at hlt
              have hw : (c1 * 1000003 + a * 7919 + 12347 + b * 613).natAbs < 2 ^ 300 := Nat.lt_of_lt_of_le (show (c1 * 1000003 + a * 7919 + 12347 + b * 613).natAbs < 10000000000000000000000000000000000000000000000000000000000000000000000 by omega) (by decide)
              refine ⟨_, rfl, _, _, rfl, rfl, .inr ⟨by decide, by decide⟩, _, rfl, p, _, _, _, rfl, rfl, SqL.of hp, at_of (j := 1) rfl rfl, _, _, rfl, rfl, .inr ⟨by decide, by decide⟩, _, _, rfl, rfl, _, _, rfl, rfl, _, rfl, p, _, _, _, rfl, rfl, SqL.of hp, at_of (j := 3) rfl rfl, _, _, rfl, rfl, .inr ⟨by decide, by decide⟩, _, _, rfl, rfl, ?_⟩
              refine ⟨_, rfl, _, rfl, _, _, rfl, rfl, wide_mul hw hw (by decide) (by decide) (by decide), _, _, rfl, rfl, ⟨by decide, by decide⟩, _, _, rfl, rfl, .inr ⟨by decide, by decide⟩, _, rfl, _, _, rfl, rfl, ?_⟩
              refine ⟨_, ?_, rfl, rfl⟩
              have h0 : 0 ≤ c1 * 1000003 + a * 7919 + 12347 + b * 613 := by omega
              have h1 := Int.ediv_nonneg (Int.mul_nonneg h0 h0) (by decide : (0 : Int) ≤ 97)
              have h2 := Int.mul_nonneg h1 (by decide : (0 : Int) ≤ 48271)
              exact Int.add_nonneg h2 h0
            · exact ⟨c1, hc1, rfl, rfl⟩
          · intro σ2 H2 hh
            obtain ⟨c2, hc2, e1, e2⟩ := hh
            subst e1
            subst e2
            refine ⟨_, rfl, _, rfl, p, _, _, 0, rfl, rfl, hp, rfl, ?_⟩
            refine ⟨_, rfl, p, _, 1, _, rfl, rfl, SqL.of upd_same, rfl, _, _, rfl, rfl, p, _, _, 1, rfl, rfl, upd_same, rfl, ?_⟩
            refine ⟨_, rfl, p, _, 3, _, rfl, rfl, SqL.of upd_same, rfl, _, _, rfl, rfl, p, _, _, 3, rfl, rfl, upd_same, rfl, ?_⟩
            exact ⟨c2, a + 1, b + 1, _, rfl, upd_same, hc2, by omega, by omega, by omega, by omega, (GrowW.upd.trans' GrowW.upd).trans' GrowW.upd⟩
      · exact ⟨c, a, b, none, rfl, hp, hc, ha, by omega, hb, by omega, GrowW.refl' p H⟩
    · rintro σ' H' ⟨c', a', b', v2, rfl, hp', hc', ha', han', hb', hbn', kp⟩
      refine ⟨_, rfl, p, _, _, _, rfl, rfl, SqL.of hp', at_of (j := 0) rfl rfl, .inl ⟨_, rfl, _, rfl, _, _, rfl, rfl, hm, ?_⟩⟩
      refine ⟨_, rfl, p, _, _, _, rfl, rfl, SqL.of hp', at_of (j := 0) rfl rfl, _, rfl, _, _, rfl, rfl, hm9, _, rfl, p, _, _, 0, rfl, rfl, hp', rfl, ?_⟩
      refine ⟨_, rfl, kq _ _ (Int.emod_nonneg _ (by omega)) (Int.emod_lt_of_pos _ hm) ⟨⟨c' / m, a', b', upd_same, Int.ediv_nonneg hc' (by omega), ha', by omega, hb', by omega⟩, ?_⟩ (kp.trans' GrowW.upd)⟩
      rw [upd_ne npl.symm]
      rcases kp l _ npl.symm hl with q | ⟨⟨ps, q⟩, _⟩
      · exact q
      · cases q
end
end J1
set_option Elab.async false
set_option linter.all false
set_option maxRecDepth 100000
set_option maxHeartbeats 4000000
namespace J1
open PySem PySem.Spec PyProof.Rows L2 GxR GA RZ
abbrev lWell : Stmt := top 66
theorem cWell : FnScope ["_law_script", "_law_at"] ["_law_script", "_law_at"] (defScope lWell) := ⟨rfl, rfl, rfl, by decide +kernel, rfl, by decide +kernel, by decide +kernel⟩
theorem Wl.grow {H H' : Hp} {p l : Addr} {ns : List Int} {n : Nat} (W : Wl H p l ns n) (g : Grow H H') : Wl H' p l ns n := by
  obtain ⟨⟨c, a, b, h, r⟩, hl⟩ := W
  exact ⟨⟨c, a, b, g.lst h, r⟩, g.lst hl⟩
theorem Wl.upd {H : Hp} {p l q : Addr} {ns : List Int} {n : Nat} {o : HO} (W : Wl H p l ns n) (hp : q ≠ p) (hl : q ≠ l) : Wl (upd H q o) p l ns n := by
  obtain ⟨⟨c, a, b, h, r⟩, h2⟩ := W
  exact ⟨⟨c, a, b, by rw [upd_ne hp.symm]; exact h, r⟩, by rw [upd_ne hl.symm]; exact h2⟩
theorem Wl.more {H : Hp} {p l : Addr} {ns : List Int} {n m : Nat} (W : Wl H p l ns n) (h : n ≤ m) : Wl H p l ns m := by
  obtain ⟨⟨c, a, b, h0, h1, h2, h3, h4, h5⟩, hl⟩ := W
  exact ⟨⟨c, a, b, h0, h1, h2, by omega, h4, by omega⟩, hl⟩
theorem Wl.pl {H : Hp} {p l : Addr} {ns : List Int} {n : Nat} (W : Wl H p l ns n) : ∃ ys, H p = some (.lst ys) := by
  obtain ⟨⟨c, a, b, h, _⟩, _⟩ := W
  exact ⟨_, h⟩
theorem Wl.np {H : Hp} {p l q : Addr} {ns : List Int} {n : Nat} (W : Wl H p l ns n) (h : H q = Option.none) : q ≠ p ∧ q ≠ l := by
  obtain ⟨⟨c, a, b, h1, _⟩, h2⟩ := W
  exact ⟨fun z => (by rw [z, h1] at h; cases h), fun z => (by rw [z, h2] at h; cases h)⟩
theorem GrowW.lst {w : Addr} {H H' : Hp} (g : GrowW w H H') {a : Addr} {xs : List V} (n : a ≠ w) (h : H a = some (.lst xs)) : H' a = some (.lst xs) := by
  rcases g a _ n h with q | ⟨⟨ps, q⟩, _⟩
  · exact q
  · cases q
theorem GrowW.tup {w : Addr} {H H' : Hp} (g : GrowW w H H') {a : Addr} {xs ys : List V} (hw : H w = some (.lst ys)) (h : H a = some (.tup xs)) : H' a = some (.tup xs) := by
  have n : a ≠ w := fun z => by rw [z, hw] at h; cases h
  rcases g a _ n h with q | ⟨⟨ps, q⟩, _⟩
  · exact q
  · cases q
theorem Grow.w {w : Addr} {H H' : Hp} (g : Grow H H') : GrowW w H H' := fun a o _ h => g a o h
theorem GrowW.but {p q : Addr} {H0 H : Hp} {o : HO} (g : GrowW p H0 H) (hq : H0 q = Option.none) : GrowW p H0 (L2.upd H q o) := fun a u n h => by
  have m : a ≠ q := fun z => by rw [z, hq] at h; cases h
  rcases g a u n h with r | ⟨r1, ps, r2, r3⟩
  · exact .inl (by rw [upd_ne m]; exact r)
  · exact .inr ⟨r1, ps, by rw [upd_ne m]; exact r2, r3⟩
theorem GrowW.new {p q : Addr} {H : Hp} {o : HO} (hq : H q = Option.none) : GrowW p H (L2.upd H q o) := (Grow.new hq).w
theorem GrowW.none' {w : Addr} {H H' : Hp} (g : GrowW w H H') {a : Addr} (n : a ≠ w) (h : H' a = Option.none) : H a = Option.none := by
  cases e : H a with
  | none => rfl
  | some o =>
    rcases g a o n e with q | ⟨_, ps, q, _⟩
    · rw [h] at q; cases q
    · rw [h] at q; cases q
theorem noTup {H : Hp} {w : Addr} {ys : List V} (h : H w = some (.lst ys)) : ∀ xs, H w ≠ some (.tup xs) := fun xs z => by rw [h] at z; cases z
/-- what holds no list at p -/
abbrev EncP (p : Addr) (H : Hp) : Da → V → Prop := EncB (fun a => a ≠ p) H
abbrev EncsP (p : Addr) (H : Hp) : List Da → List V → Prop := EncsB (fun a => a ≠ p) H
theorem EncP.gw {w : Addr} {ys : List V} {H H' : Hp} {d : Da} {x : V} (e : EncP w H d x) (g : GrowW w H H') (h : H w = some (.lst ys)) : EncP w H' d x := EncB.growW g (fun z => z rfl) (noTup h) e
theorem EncsP.gw {w : Addr} {ys : List V} {H H' : Hp} {d : List Da} {x : List V} (e : EncsP w H d x) (g : GrowW w H H') (h : H w = some (.lst ys)) : EncsP w H' d x := EncsB.growW g (fun z => z rfl) (noTup h) e
mutual
theorem EncB.imp {B C : Addr → Prop} (f : ∀ a, B a → C a) {H : Hp} : ∀ {d : Da} {x : V}, EncB B H d x → EncB C H d x
  | _, _, .non => .non
  | _, _, .bl b => .bl b
  | _, _, .int i => .int i
  | _, _, .str s h => .str s h
  | _, _, .tup h e => .tup h (EncsB.imp f e)
  | _, _, .lst h e b => .lst h (EncsB.imp f e) (f _ b)
theorem EncsB.imp {B C : Addr → Prop} (f : ∀ a, B a → C a) {H : Hp} : ∀ {l : List Da} {xs : List V}, EncsB B H l xs → EncsB C H l xs
  | _, _, .nil => .nil
  | _, _, .cons h t => .cons (EncB.imp f h) (EncsB.imp f t)
end
theorem EncB.ofT {B : Addr → Prop} {H : Hp} {d : Da} {x : V} (e : EncT H d x) : EncB B H d x := e.imp fun _ h => h.elim
theorem EncB.gwT {w : Addr} {ys : List V} {H H' : Hp} {d : Da} {x : V} (e : EncT H d x) (g : GrowW w H H') (h : H w = some (.lst ys)) : EncT H' d x := EncB.growW g (fun z => z) (noTup h) e
theorem EncsB.gwT {w : Addr} {ys : List V} {H H' : Hp} {d : List Da} {x : List V} (e : EncsT H d x) (g : GrowW w H H') (h : H w = some (.lst ys)) : EncsT H' d x := EncsB.growW g (fun z => z) (noTup h) e
def spWell (K : PySem.W.Frag) : Sp := fun vs H Q _ => ∃ (a : Addr) (ns : List Int), vs = [.ref a, .int 0] ∧ SqL K H a (ns.map V.int) ∧ ∀ p l H', Wl H' p l ns 0 → Grow H H' → Q (.ref p) H'
section
variable {P : Program} {w : World} {K : PySem.W.Frag} {mg : Str → Option Value} {base : Heap}
theorem ok_well {f : Addr} {fd : FuncData} (F : Fun K "_law_well" "_law_well" lWell f fd) (N : Gd mg) : FnOk P w K mg base CX0 1 f fd ["_law_script", "_law_at"] (spWell K) := by
  refine F.ok (k := 0) cWell (fun vs H Q E h => ?_) (fun cdv A outer s H vs Q E hr h => ?_)
  · obtain ⟨a, ns, rfl, _⟩ := h
    rfl
  · obtain ⟨a, ns, rfl, hS, k⟩ := h
    refine ⟨_, (pss_one (ps_ret (pe_lst (pa_cons pe_int (pa_cons (pv 1) (pa_cons (pe_callTy call_list_of (by rfl) N.list (by decide +kernel) (pa_cons (pv 0) pa_nil)) (pa_cons pe_int pa_nil))))))), ?_⟩
    refine ⟨_, rfl, _, rfl, a, _, rfl, .inl hS, fun l hl => ⟨(by show 4 ≤ sizeLine; decide), fun p hp => ?_⟩⟩
    have npl : l ≠ p := ne_of_none upd_same hp
    exact k p l _ ⟨⟨0, 0, 0, upd_same, by decide, by decide, by decide, by decide, by decide⟩, by rw [upd_ne npl]; exact upd_same⟩ ((Grow.new hl).trans (Grow.new hp))
end
end J1
set_option Elab.async false
set_option linter.all false
set_option maxRecDepth 100000
set_option maxHeartbeats 4000000
namespace J1
open PySem PySem.Spec PyProof.Rows L2 GxR GA RZ
abbrev lSh : Stmt := top 56
theorem cSh : FnScope ["_law_part", "_law_k"] [] (defScope lSh) := ⟨rfl, rfl, rfl, by decide +kernel, rfl, by decide +kernel, by decide +kernel⟩
abbrev lIn : Stmt := top 57
theorem cIn : FnScope ["_law_thing"] ["_law_thing"] (defScope lIn) := ⟨rfl, rfl, rfl, by decide +kernel, rfl, by decide +kernel, by decide +kernel⟩
abbrev lGc : Stmt := top 58
theorem cGc : FnScope ["_law_a", "_law_b", "_law_rest"] ["_law_a", "_law_b"] (defScope lGc) := ⟨rfl, rfl, rfl, by decide +kernel, rfl, by decide +kernel, by decide +kernel⟩
abbrev lLr : Stmt := top 59
theorem cLr : FnScope ["_law_thing"] ["_law_thing"] (defScope lLr) := ⟨rfl, rfl, rfl, by decide +kernel, rfl, by decide +kernel, by decide +kernel⟩
abbrev lTr : Stmt := top 62
theorem cTr : FnScope ["_law_told", "_law_due"] ["_law_told", "_law_due"] (defScope lTr) := ⟨rfl, rfl, rfl, by decide +kernel, rfl, by decide +kernel, by decide +kernel⟩
def Sh (d : Da) : Prop := ∃ x y, d = .tup [x, y] ∧ ∀ i, x ≠ .int i
theorem Sh.pt {d : Da} (h : Sh d) : PtD (.tup [d, d]) ∧ MuD (.tup [d, d]) := by
  obtain ⟨x, y, rfl, hx⟩ := h
  refine ⟨fun l hl a b hm => ?_, fun l hl i hm => ?_⟩
  · cases hl
    simp only [List.mem_cons, List.not_mem_nil, or_false, or_self] at hm
    cases hm
    exact absurd rfl (hx a)
  · cases hl
    simp only [List.mem_cons, List.not_mem_nil, or_false, or_self] at hm
    cases hm
def spSh : Sp := fun vs H Q _ => vs = [] ∧ ∀ x d H', EncT H' d x → PtD d → MuD d → Grow H H' → Q x H'
def spGc : Sp := fun vs H Q _ => ∃ a b : Int, vs = [.int a, .int b] ∧ Q (.int (gI a b)) H
def spTr : Sp := fun vs H Q _ => ∃ a b : Bool, vs = [.bl a, .bl b] ∧ Q (.bl (a == b)) H
section
variable {P : Program} {w : World} {K : PySem.W.Frag} {mg : Str → Option Value} {base : Heap}
theorem ok_shared {f : Addr} {fd : FuncData} (F : Fun K "_law_shared" "_law_shared" lSh f fd) (M : Gd mg) : FnOk P w K mg base CX0 1 f fd [] spSh := by
  refine F.ok (k := 0) cSh (fun vs H Q E h => ?_) (fun cdv A outer s H vs Q E hr h => ?_)
  · obtain ⟨rfl, _⟩ := h
    rfl
  · obtain ⟨rfl, k⟩ := h
    refine ⟨_, (pss_cons (ps_set (i := 0) cSh.nd rfl (Or.inl rfl) (pe_tup (pa_cons pe_str (pa_cons (pe_tup (pa_cons pe_int (pa_cons pe_int pa_nil))) pa_nil)))) (pss_cons (ps_for PassesOwn.never rfl (pi_range1 (by rfl) M.range (pa_cons pe_int pa_nil)) (pg_name (i := 1) cSh.nd rfl (Or.inl rfl)) (pss_one (ps_set (i := 0) cSh.nd rfl (Or.inl rfl) (pe_tup (pa_cons (pv 0) (pa_cons (pv 0) pa_nil)))))) (pss_one (ps_ret (pv 0))))), ?_⟩
    refine ⟨(by show 2 ≤ sizeLine; decide), fun p1 h1 => ⟨(by show 2 ≤ sizeLine; decide), fun p2 h2 => ?_⟩⟩
    have g1 := Grow.new (o := .tup [.int 0, .int 1]) h1
    have g2 := Grow.new (o := .tup [.str "least", .ref p1]) h2
    have e1 : EncT _ (.tup [.str "least", .tup [.int 0, .int 1]]) (.ref p2) := .tup upd_same (.cons (.str _ ⟨by decide, by decide⟩) (.cons ((EncB.tup (upd_same (H := H) (a := p1)) (.cons (.int 0) (.cons (.int 1) .nil))).grow g2) .nil))
    refine ⟨25, rfl, by decide, by decide, for_range (n := 25) (fun i σ' Hc => ∃ (x : V) (d : Da) (v1 : Option V), σ' = [some x, v1] ∧ EncT Hc d x ∧ Sh d ∧ (1 ≤ i → PtD d ∧ MuD d) ∧ Grow H Hc) ⟨_, _, none, rfl, e1, ⟨_, _, rfl, fun i z => by cases z⟩, fun h => absurd h (by decide), g1.trans g2⟩ (fun i σ' Hc hi hp => ?_) (fun σ' Hc hp => ?_)⟩
    · obtain ⟨x, d, v1, rfl, en, sh, _, g⟩ := hp
      refine ⟨_, rfl, _, rfl, (by show 2 ≤ sizeLine; decide), fun p hp => ?_⟩
      have gp := Grow.new (o := .tup [x, x]) hp
      exact ⟨_, .tup [d, d], _, rfl, .tup upd_same (.cons (en.grow gp) (.cons (en.grow gp) .nil)), ⟨d, d, rfl, fun i z => by obtain ⟨_, _, e, _⟩ := sh; rw [e] at z; cases z⟩, fun _ => sh.pt, g.trans gp⟩
    · obtain ⟨x, d, v1, rfl, en, sh, q, g⟩ := hp
      exact ⟨_, rfl, k x d _ en (q (by decide)).1 (q (by decide)).2 g⟩
theorem ok_lint {f : Addr} {fd : FuncData} (F : Fun K "_law_int" "_law_int" lIn f fd) (N : Gn K mg) : FnOk P w K mg base CX0 1 f fd ["_law_thing"] (spF isInt) := by
  refine F.ok cIn (fun vs H Q E h => ?_) (fun cdv A outer s H vs Q E hr h => ?_)
  · obtain ⟨x, d, rfl, _⟩ := h
    rfl
  · obtain ⟨x, d, rfl, en, k⟩ := h
    obtain ⟨kI, kB, _, _⟩ := kitD d
    refine ⟨_, (pss_one (ps_ret (pe_and (pe_callB call_isi (by rfl) N.nI boot_isinstance (pa_cons (pv 0) (pa_cons (pe_bltn (v := .ty "int") rfl N.ni (by decide +kernel) rfl) pa_nil))) (pe_one (pe_not (pe_callB call_isi (by rfl) N.nI boot_isinstance (pa_cons (pv 0) (pa_cons (pe_bltn (v := .ty "bool") rfl N.nb (by decide +kernel) rfl) pa_nil)))))))), ?_⟩
    refine ⟨_, rfl, _, _, _, _, _, rfl, .ty "int", en.ty, kit_ty kI, _, rfl, ite2 (fun e => ?_) (fun e => ?_)⟩
    · refine ⟨_, rfl, _, _, _, _, _, rfl, .ty "bool", en.ty, kit_ty kB, _, rfl, ?_⟩
      unfold isInt at k
      rw [e, Bool.true_and] at k
      exact k
    · unfold isInt at k
      rw [Bool.eq_false_iff.mpr e, Bool.false_and] at k
      exact k
theorem ok_gcd {f : Addr} {fd : FuncData} (F : Fun K "_law_gcd" "_law_gcd" lGc f fd) (M : Gd mg) : FnOk P w K mg base CX0 1 f fd ["_law_a", "_law_b"] spGc := by
  refine F.ok cGc (fun vs H Q E h => ?_) (fun cdv A outer s H vs Q E hr h => ?_)
  · obtain ⟨a, b, rfl, _⟩ := h
    rfl
  · obtain ⟨a, b, rfl, k⟩ := h
    refine ⟨_, (pss_cons (ps_set (i := 0) cGc.nd rfl (Or.inl rfl) (pe_callB call_abs (by rfl) M.abs (by decide +kernel) (pa_cons (pv 0) pa_nil))) (pss_cons (ps_set (i := 1) cGc.nd rfl (Or.inl rfl) (pe_callB call_abs (by rfl) M.abs (by decide +kernel) (pa_cons (pv 1) pa_nil))) (pss_cons (ps_while PassesOwn.never (pt_cmpR op_gt (pv 1) pe_int (nomark _)) (pss_cons (ps_set (i := 2) cGc.nd rfl (Or.inl rfl) (pe_op op_mod (pe_callTy call_int1 (by rfl) M.int (by decide +kernel) (pa_cons (pv 0) pa_nil)) (pv 1))) (pss_cons (ps_set (i := 0) cGc.nd rfl (Or.inl rfl) (pv 1)) (pss_one (ps_set (i := 1) cGc.nd rfl (Or.inl rfl) (pv 2)))))) (pss_one (ps_ret (pv 0)))))), ?_⟩
    refine ⟨_, rfl, _, rfl, ?_⟩
    refine ⟨_, rfl, _, rfl, ?_⟩
    dsimp only [gName]
    unfold tSeq
    have ab : ∀ z : Int, (if z < 0 then -z else z) = ((z.natAbs : Nat) : Int) := fun z => by split <;> omega
    rw [ab, ab]
    refine while_by (fun σ' Hc => ∃ (m n : Nat) (v2 : Option V), σ' = [some (.int (m : Nat)), some (.int (n : Nat)), v2] ∧ Hc = H ∧ Nat.gcd m n = Nat.gcd a.natAbs b.natAbs)
      (fun σ' _ => match σ' with | [_, some (.int y), _] => y.natAbs | _ => 0) ⟨_, _, _, rfl, rfl, rfl⟩ (fun σ' Hc hp => ?_) ?_
    · obtain ⟨m, n, v2, rfl, rfl, e⟩ := hp
      refine ⟨_, rfl, _, _, rfl, rfl, _, rfl, ?_⟩
      by_cases hn : (0 : Int) < ((n : Nat) : Int)
      · refine ifT hn ⟨_, rfl, .inl ⟨_, rfl, _, rfl, _, _, rfl, rfl, hn, ?_⟩⟩
        refine ⟨_, rfl, _, rfl, ⟨n, m % n, some (.int ((m : Int) % (n : Int))), by rw [← Int.natCast_emod]; rfl, rfl, ?_⟩, ?_⟩
        · rw [← e, Nat.gcd_comm m n, Nat.gcd_rec n m, Nat.gcd_comm]
        · show ((m : Int) % (n : Int)).natAbs < ((n : Nat) : Int).natAbs
          have h1 := Int.emod_lt_of_pos (m : Int) hn
          have h2 := Int.emod_nonneg (m : Int) (by omega : ((n : Nat) : Int) ≠ 0)
          omega
      · refine ifF hn ?_
        have n0 : n = 0 := by omega
        subst n0
        rw [Nat.gcd_zero_right] at e
        refine ⟨_, rfl, ?_⟩
        rw [e]
        exact k
    · intro σ' Hc Q1 Q2 hQ h
      obtain ⟨x, e, i, j, hx, hy, c, hc, q⟩ := h
      exact ⟨x, e, i, j, hx, hy, c, hc, hQ _ _ q⟩
theorem ok_lratio {f fI fG : Addr} {fd fdI fdG : FuncData} (F : Fun K "_law_ratio" "_law_ratio" lLr f fd) (N : Gn K mg)
    (GI : FnOk P w K mg base CX0 1 fI fdI ["_law_thing"] (spF isInt)) (DI : Df K mg "_law_int" ["_law_thing"] fI fdI)
    (GG : FnOk P w K mg base CX0 1 fG fdG ["_law_a", "_law_b"] spGc) (DG : Df K mg "_law_gcd" ["_law_a", "_law_b"] fG fdG) : FnOk P w K mg base CX0 2 f fd ["_law_thing"] (spF isRat) := by
  refine F.ok (k := 1) cLr (fun vs H Q E h => ?_) (fun cdv A outer s H vs Q E hr h => ?_)
  · obtain ⟨x, d, rfl, _⟩ := h
    rfl
  · obtain ⟨x, d, rfl, en, k⟩ := h
    obtain ⟨_, _, _, kT⟩ := kitD d
    refine ⟨_, (pss_cons (ps_if (PW.pt (pw_or (pt_not (pt_val (pe_callB call_isi (by rfl) N.nI boot_isinstance (pa_cons (pv 0) (pa_cons (pe_bltn (v := .ty "tuple") rfl N.nt (by decide +kernel) rfl) pa_nil))))) (pw_or1 (pt_cmpR op_ne (pe_callB call_len_seq (by rfl) N.nl PySem.boot_len (pa_cons (pv 0) pa_nil)) pe_int (nomark _))))) (pss_one (ps_ret pe_bl)) pss_nil) (pss_cons (ps_if (PW.pt (pw_or (pt_not (pt_val (pe_call (GI.mono (by decide)) hr (by rfl) DI.g DI.k DI.b .nil pass0 (pa_cons (pe_ix ix_tup (pv 0) pe_int (fun _ _ => rfl)) pa_nil)))) (pw_or (pt_not (pt_val (pe_call (GI.mono (by decide)) hr (by rfl) DI.g DI.k DI.b .nil pass0 (pa_cons (pe_ix ix_tup (pv 0) pe_int (fun _ _ => rfl)) pa_nil)))) (pw_or1 (pt_cmpR op_lt (pe_ix ix_tup (pv 0) pe_int (fun _ _ => rfl)) pe_int (nomark _)))))) (pss_one (ps_ret pe_bl)) pss_nil) (pss_one (ps_ret (pe_cmpR op_eq (pe_call GG hr (by rfl) DG.g DG.k DG.b .nil pass0 (pa_cons (pe_ix ix_tup (pv 0) pe_int (fun _ _ => rfl)) (pa_cons (pe_ix ix_tup (pv 0) pe_int (fun _ _ => rfl)) pa_nil))) pe_int (nomark _)))))), ?_⟩
    refine ⟨_, rfl, _, _, _, _, _, rfl, .ty "tuple", en.ty, kit_ty kT, _, rfl, ?_⟩
    cases hd : bT d with
    | false =>
      have e : isRat d = false := by cases d <;> first | rfl | cases hd
      rw [e] at k
      exact iteT k
    | true =>
    have : ∃ l, d = .tup l := by cases d <;> first | exact ⟨_, rfl⟩ | cases hd
    obtain ⟨l, rfl⟩ := this
    obtain ⟨p, xs, rfl, hp, es⟩ := encT en
    have hl := es.length
    refine iteF ⟨_, rfl, p, xs, rfl, .inr (SqT.of hp), rfl, _, rfl, ?_⟩
    by_cases h2 : xs.length = 2
    · have h2' : l.length = 2 := by omega
      match l, h2' with
      | [d0, d1], _ =>
      match xs, es with
      | _, .cons (x := a) e0 (.cons (x := b) e1 .nil) =>
      refine ifNF rfl ?_
      refine ⟨_, rfl, p, _, _, _, rfl, rfl, SqT.of hp, at_of (j := 0) rfl rfl, _, d0, rfl, e0, _, rfl, ?_⟩
      rcases isInt_c d0 with h | ⟨i, rfl⟩
      · rw [h]
        rw [isRat_0 h] at k
        exact iteT k
      refine iteF ⟨_, rfl, p, _, _, _, rfl, rfl, SqT.of hp, at_of (j := 1) rfl rfl, _, d1, rfl, e1, _, rfl, ?_⟩
      rcases isInt_c d1 with h | ⟨j, rfl⟩
      · rw [h]
        rw [isRat_1 h] at k
        exact iteT k
      cases encI e0
      cases encI e1
      refine iteF ⟨_, rfl, p, _, _, _, rfl, rfl, SqT.of hp, at_of (j := 1) rfl rfl, _, _, rfl, rfl, _, rfl, ?_⟩
      by_cases h1 : j < 1
      · have e : isRat (.tup [.int i, .int j]) = false := by
          show (decide (1 ≤ j) && decide (Nat.gcd i.natAbs j.natAbs = 1)) = _
          rw [decide_eq_false (by omega : ¬ 1 ≤ j), Bool.false_and]
        rw [e] at k
        exact ifT h1 k
      · refine ifF h1 ⟨_, rfl, p, _, _, _, rfl, rfl, SqT.of hp, at_of (j := 0) rfl rfl, _, rfl, p, _, _, _, rfl, rfl, SqT.of hp, at_of (j := 1) rfl rfl, i, j, rfl, rfl, ?_⟩
        have e : isRat (.tup [.int i, .int j]) = decide (V.int (gI i j) = V.int 1) := by
          show (decide (1 ≤ j) && decide (Nat.gcd i.natAbs j.natAbs = 1)) = _
          rw [decide_eq_true (by omega : 1 ≤ j), Bool.true_and]
          refine decide_eq_decide.mpr ⟨fun z => by unfold gI; rw [z]; rfl, fun z => ?_⟩
          have := V.int.inj z
          unfold gI at this
          omega
        rw [e] at k
        exact k
    · have e : isRat (.tup l) = false := by
        match l with
        | [] => rfl
        | [_] => exact isRat_n rfl
        | [_, _] => exact absurd hl.symm h2
        | _ :: _ :: _ :: _ =>
          unfold isRat
          split
          · rename_i h; cases h
          · rfl
      rw [e] at k
      exact ifNT (fun z => h2 (by have := V.int.inj z; omega)) k
theorem ok_truth {f : Addr} {fd : FuncData} (F : Fun K "_law_truth" "_law_truth" lTr f fd) (N : Gn K mg) : FnOk P w K mg base CX0 1 f fd ["_law_told", "_law_due"] spTr := by
  refine F.ok cTr (fun vs H Q E h => ?_) (fun cdv A outer s H vs Q E hr h => ?_)
  · obtain ⟨x, d, rfl, _⟩ := h
    rfl
  · obtain ⟨a, b, rfl, k⟩ := h
    obtain ⟨_, kB, _, _⟩ := kitD (.bl a)
    refine ⟨_, (pss_one (ps_ret (pe_and (pe_callB call_isi (by rfl) N.nI boot_isinstance (pa_cons (pv 0) (pa_cons (pe_bltn (v := .ty "bool") rfl N.nb (by decide +kernel) rfl) pa_nil))) (pe_one (pe_cmpR op_eq (pv 0) (pv 1) (nomark _)))))), ?_⟩
    refine ⟨_, rfl, _, _, _, _, _, rfl, .ty "bool", (EncB.bl (B := fun _ => True) (H := H) a).ty, kit_ty kB, _, rfl, iteT ⟨_, rfl, _, rfl, rfl, ?_⟩⟩
    have e : decide (V.bl a = V.bl b) = (a == b) := by cases a <;> cases b <;> rfl
    rw [e]
    exact k
end
end J1
set_option Elab.async false
set_option linter.all false
set_option maxRecDepth 100000
set_option maxHeartbeats 4000000
namespace L2
open PySem PySem.Spec PyProof.Rows
theorem ints_of : ∀ {as : List Value} {us : List Int}, as.length = us.length → (∀ (j : Nat) (v : Value) (u : Int), as[j]? = some v → us[j]? = some u → ∃ t, v = Value.int u t) → IntsAre as us
  | [], [], _, _ => .nil
  | [], _ :: _, h, _ => by cases h
  | _ :: _, [], h, _ => by cases h
  | v :: as, u :: us, h, g => by
    obtain ⟨t, rfl⟩ := g 0 v u rfl rfl
    exact .cons u t (ints_of (Nat.succ.inj h) fun j v' u' h1 h2 => g (j + 1) v' u' h1 h2)
/-- sorted(d): the keys, integers -/
def rSortedDI : List V → Hp → VK → Prop := fun vs H Q => ∃ (d : Addr) (us : List Int) (g : Int → Int), vs = [V.ref d] ∧ Rd H d (.dK (J1.dI us g)) ∧
  ∀ (us' : List Int) (p : Addr), us'.Perm us → us'.Pairwise (· ≤ ·) → H p = none → Q (.ref p) (upd H p (.lst (us'.map V.int)))
section
variable {X : Cx}
theorem cr_sortedDI (hc : X.calm = true) : CallR X (.builtin "sorted") rSortedDI := by
  intro pins s σ H vs us0 Q I r h
  obtain ⟨d, us, g, rfl, hd, q⟩ := h
  rw [Vals.ref1 r]
  obtain ⟨z, hs, ws, kv, o, es, ep, ho, hx, hdt, kof, prs, nd⟩ := (show ObjOk X.prog X.w H s.heap d (.dK (J1.dI us g)) from hd.ok I.hok)
  have l1 : es.size = ws.length := by
    have := prs.length
    rw [Array.length_toList] at this
    exact this
  have l2 : (J1.dI us g).length = ws.length := Paired.length kv
  have l3 : (J1.dI us g).length = us.length := List.length_map ..
  have kk : ws.map (·.1) = us.map Sum.inl := by
    rw [← kv.keys]
    unfold J1.dI
    rw [List.map_map]
    rfl
  refine Calls.call_function_entry kind_sorted plain_sorted entry_sorted (args_sorted1 _) ?_
  unfold Builtin.«sorted»
  refine wpAny_bind (m := checkCount "sorted" 1 1 _) (wpAny_pure ?_)
  refine wpAny_bind (PySem.W.kdu_collect (A := X.A.in1) (kdl_raw hs hx hdt) (I.ok.hd hc) ho (by omega) fun h' tk acc kp it => ?_)
  have hlen : acc.toList.length = us.length := by rw [Array.length_toList, it.1]; omega
  have hi : IntsAre acc.toList us := by
    refine ints_of hlen fun j v u h1 h2 => ?_
    rw [Array.getElem?_toList] at h1
    obtain ⟨en, e1, e2⟩ := it.2 j v h1
    have hw : (ws.map (·.1))[j]? = some (Sum.inl u) := by rw [kk, List.getElem?_map, h2]; rfl
    rw [List.getElem?_map] at hw
    obtain ⟨⟨k, v'⟩, w1, w2⟩ := Option.map_eq_some_iff.mp hw
    cases w2
    obtain ⟨c1, _⟩ := prs.get? (i := j) (by rw [Array.getElem?_toList]; exact e1) w1
    rcases keyIs_shape (k := Sum.inl u) (v := en.key) c1 with ⟨i, t, e3, e4⟩ | ⟨x, t, e3, _⟩
    · cases e3
      exact ⟨t, by rw [e2]; exact e4⟩
    · cases e3
  have hz : acc.toList.length ≤ sizeLine := by omega
  refine wpAny_bind (wpAny_newList ?_ hz)
  have I1 : Inv X pins σ H { s with heap := h', toks := tk } := I.kept kp
  have hoL : (h'.push (seqObj "list" acc.toList.toArray 0)).get? h'.objs.size = some (seqObj "list" acc.toList.toArray 0) := Heap.get?_push_size _ rfl
  have keep : ∀ b o, h'.get? b = some o → b ≠ h'.objs.size ∧ (h'.push (seqObj "list" acc.toList.toArray 0)).get? b = some o := fun b o e => ⟨Nat.ne_of_lt (Heap.lt_size e), Heap.get?_push_of_some _ e⟩
  show wpAny _ _ _ _ _ { s with heap := h'.push (seqObj "list" acc.toList.toArray 0), toks := tk }
  refine wpAny_bind (wpAny_holding (wpAny_call_entry slot_list_sort ⟨_, hoL, rfl⟩ entry_list_sort (SrtO.list_sort_ord SrtO.swo_int hoL hz (fun h2 => SrtO.ints_sortable hi h2) fun out hs hb => ⟨_, rfl, ?_⟩) (args_list_sort _)))
  obtain ⟨k1, k2, k3⟩ := SrtO.ints_out hi hs hb
  obtain ⟨e', he⟩ := sortedHeap_at (vs := acc.toList) (out := out.toArray) hoL
  have hlo : ((out.map SrtO.iv).map V.int).length ≤ sizeLine := by
    rw [List.length_map, k2.length_eq]
    omega
  exact wpAny_pure ⟨_, rfl, .ref h'.objs.size, upd H h'.objs.size (.lst ((out.map SrtO.iv).map V.int)), I1.laid (t' := tk) (fun b o e => (sortedHeap_old (keep b o e).1 (Heap.lt_size (keep b o e).2)).trans (keep b o e).2) (Nat.le_refl _)
    ⟨hlo, out, e', vals_of_ints k1, he⟩, rfl, q _ _ k2 k3 (I1.hok.fresh (Nat.le_refl _))⟩
end
end L2
set_option Elab.async false
set_option linter.all false
set_option maxRecDepth 100000
set_option maxHeartbeats 4000000
namespace J1
open PySem PySem.Spec PyProof.Rows L2 GxR GA RZ
abbrev lVl : Stmt := top 60
theorem cVl : FnScope ["_law_line", "_law_point_here", "_law_top", "_law_bottom", "_law_unknown", "_law_coefficient"] ["_law_line", "_law_point_here"] (defScope lVl) := ⟨rfl, rfl, rfl, by decide +kernel, rfl, by decide +kernel, by decide +kernel⟩
abbrev lLk : Stmt := top 61
theorem cLk : FnScope ["_law_system", "_law_thing", "_law_part", "_law_line", "_law_exact", "_law_top"] ["_law_system", "_law_thing"] (defScope lLk) := ⟨rfl, rfl, rfl, by decide +kernel, rfl, by decide +kernel, by decide +kernel⟩
abbrev lLm : Stmt := top 63
theorem cLm : FnScope ["_law_rows", "_law_thing", "_law_k"] ["_law_rows", "_law_thing"] (defScope lLm) := ⟨rfl, rfl, rfl, by decide +kernel, rfl, by decide +kernel, by decide +kernel⟩
theorem Bs.stepL {i : Nat} {s : Int × Int} {pt : List Tm} {t : Tm} (h : Bs i s) (hp : PtB pt) (ht : t.2.natAbs < 2 ^ 100) : Bs (i + 1) (stL pt s t) := by
  obtain ⟨h1, h2, h3⟩ := h
  obtain ⟨a1, b0, b1⟩ := hp.at t.1
  unfold stL
  generalize (ptAt pt t.1).2 = b at b0 b1
  generalize (ptAt pt t.1).1 = a at a1
  refine ⟨?_, Int.mul_pos h2 b0, ?_⟩
  · have e1 := wide_lt h1 b1
    have e2 := wide_lt (wide_lt ht a1) h3
    exact lt2 (add2 (lt2 e1 (by omega : 140 + 300 * i + 100 ≤ 340 + 300 * i)) (lt2 e2 (by omega))) (by omega)
  · exact lt2 (wide_lt h3 b1) (by omega)
theorem Bs.foldL {pt : List Tm} (hp : PtB pt) {ts : List Tm} : ∀ {i : Nat} {s : Int × Int}, Bs i s → (∀ t ∈ ts, t.2.natAbs < 2 ^ 100) → Bs (i + ts.length) (ts.foldl (stL pt) s) := by
  induction ts with
  | nil => intro i s h _; exact h
  | cons t ts ih =>
    intro i s h g
    have q := ih (h.stepL hp (g t List.mem_cons_self)) fun u hu => g u (List.mem_cons_of_mem _ hu)
    rw [List.length_cons, show i + (ts.length + 1) = i + 1 + ts.length by omega]
    exact q
def vL (pt : List Tm) (l : Ln) : Int × Int := l.2.foldl (stL pt) (l.1, 1)
def spVl : Sp := fun vs H Q _ => ∃ (xl xp : V) (l : Ln) (pt : List Tm) (c : Int), vs = [xl, xp] ∧ Enc H (lnD l) xl ∧ Enc H (.tup (pt.map tmD)) xp ∧ LnOk c l ∧ (pt.length : Int) = c ∧ PtB pt ∧
  ∀ T H', H' T = some (.tup [.int (vL pt l).1, .int (vL pt l).2]) → Grow H H' → Q (.ref T) H'
def spLk : Sp := fun vs H Q _ => ∃ (xs xt : V) (c : Int) (rs : List Rw) (dt : Da), vs = [xs, xt] ∧ Enc H (syD c rs) xs ∧ Enc H dt xt ∧ SyOk c rs ∧ PtD dt ∧ ∀ H', Grow H H' → Q (.bl (keepsB c rs dt)) H'
def spLm : Sp := fun vs H Q _ => ∃ (xr x : V) (rs : List Rw) (d : Da), vs = [xr, x] ∧ Enc H (rwsD rs) xr ∧ Enc H d x ∧ rs.length ≤ 12000 ∧ Q (.bl (isMu rs d)) H
/-- what the law asks of one multiplier -/
def pM (p : Rw × Da) : Bool := isInt p.2 && (p.1.2 || geD p.2)
theorem keepsB_tup (c : Int) (rs : List Rw) (l : List Da) : keepsB c rs (.tup l) = (decide ((l.length : Int) = c) && l.all isRat && rs.all (rowOk (l.map prOf))) := rfl
theorem zip_all {rs : List Rw} : ∀ {l : List Da}, l.length = rs.length → (l.all isInt && (rs.zip l).all fun p => p.1.2 || geD p.2) = (rs.zip l).all pM := by
  induction rs with
  | nil => intro l h; match l, h with | [], _ => rfl
  | cons r rs ih =>
    intro l h
    match l, h with
    | d :: l, h =>
      have e := ih (l := l) (Nat.succ.inj h)
      rw [List.zip_cons_cons, List.all_cons, List.all_cons, List.all_cons, ← e]
      show _ = ((isInt d && (r.2 || geD d)) && _)
      show (isInt d && l.all isInt && ((r.2 || geD d) && _)) = _
      cases isInt d <;> cases (r.2 || geD d) <;> simp
section
variable {P : Program} {w : World} {K : PySem.W.Frag} {mg : Str → Option Value} {base : Heap}
theorem ok_lvalue {f : Addr} {fd : FuncData} (F : Fun K "_law_value" "_law_value" lVl f fd) : FnOk P w K mg base CX0 1 f fd ["_law_line", "_law_point_here"] spVl := by
  refine F.ok (k := 0) cVl (fun vs H Q E h => ?_) (fun cdv A outer s H vs Q E hr h => ?_)
  · obtain ⟨_, _, _, _, _, rfl, _⟩ := h
    rfl
  · obtain ⟨xl, xp, l, pt, c, rfl, el, ep, ok, hlen, hb, k⟩ := h
    refine ⟨_, (pss_cons (ps_set (i := 2) cVl.nd rfl (Or.inl rfl) (pe_ix ix_tup (pv 0) pe_int (fun _ _ => rfl))) (pss_cons (ps_set (i := 3) cVl.nd rfl (Or.inl rfl) pe_int) (pss_cons (ps_for PassesOwn.never rfl (pi_tup (pe_ix ix_tup (pv 0) pe_int (fun _ _ => rfl))) (pg_tup (by rfl) (pgs_cons (pg_name (i := 4) cVl.nd rfl (Or.inl rfl)) (pgs_cons (pg_name (i := 5) cVl.nd rfl (Or.inl rfl)) pgs_nil))) (pss_cons (ps_set (i := 2) cVl.nd rfl (Or.inl rfl) (pe_op op_add (pe_op op_mulW (pv 2) (pe_ix ix_tup (pe_ix ix_tup (pv 1) (pv 4) (fun _ _ => rfl)) pe_int (fun _ _ => rfl))) (pe_op op_mulW (pe_op op_mulW (pv 5) (pe_ix ix_tup (pe_ix ix_tup (pv 1) (pv 4) (fun _ _ => rfl)) pe_int (fun _ _ => rfl))) (pv 3)))) (pss_one (ps_set (i := 3) cVl.nd rfl (Or.inl rfl) (pe_op op_mulW (pv 3) (pe_ix ix_tup (pe_ix ix_tup (pv 1) (pv 4) (fun _ _ => rfl)) pe_int (fun _ _ => rfl))))))) (pss_one (ps_ret (pe_tup (pa_cons (pv 2) (pa_cons (pv 3) pa_nil)))))))), ?_⟩
    obtain ⟨p, a, b, rfl, hp, e0, e1⟩ := enc2 el
    cases encI e0
    obtain ⟨p1, xs, rfl, hp1, es⟩ := encT e1
    obtain ⟨pp, ps, rfl, hpp, eps⟩ := encT ep
    have hxl := es.length
    rw [List.length_map] at hxl
    have h6 := ok.le6
    refine ⟨_, rfl, p, _, _, _, rfl, rfl, SqT.of hp, at_of (j := 0) rfl rfl, ?_⟩
    refine ⟨_, rfl, p, _, _, _, rfl, rfl, SqT.of hp, at_of (j := 1) rfl rfl, p1, rfl, ⟨_, SqT.of hp1⟩, ?_⟩
    refine for_tup (K := K) (xs := xs) (fun i σ' Hc => ∃ (v4 v5 : Option V), σ' = [some (.ref p), some (.ref pp), some (.int ((l.2.take i).foldl (stL pt) (l.1, 1)).1), some (.int ((l.2.take i).foldl (stL pt) (l.1, 1)).2), v4, v5] ∧ Hc = H) ⟨_, _, rfl, rfl⟩ (fun i σ' Hc _ hq => ?_) (fun i z σ' Hc hz hq => ?_) (fun σ' Hc hq => ?_)
    · obtain ⟨_, _, _, rfl⟩ := hq
      exact SqT.of hp1
    · obtain ⟨v4, v5, rfl, rfl⟩ := hq
      obtain ⟨d1, hd1, ez⟩ := es.get hz
      obtain ⟨t, ht, rfl⟩ := map_get hd1
      have hm := List.mem_of_getElem? ht
      obtain ⟨q, u, v, rfl, hq, f0, f1⟩ := enc2 ez
      cases encI f0
      cases encI f1
      obtain ⟨r0, r1, r2, r3⟩ := ok.rng t hm
      have hi : i < l.2.length := (List.getElem?_eq_some_iff.mp ht).1
      have hlt : t.1.toNat < pt.length := by omega
      obtain ⟨y, hy, ey⟩ := eps.got (i := t.1.toNat) (d := tmD (ptAt pt t.1)) (by
        rw [List.getElem?_map]
        unfold ptAt
        rw [List.getD_eq_getElem?_getD, List.getElem?_eq_getElem hlt]
        rfl)
      obtain ⟨q2, u2, v2, rfl, hq2, f2, f3⟩ := enc2 ey
      cases encI f2
      cases encI f3
      obtain ⟨pa, pb0, pb⟩ := hb.at t.1
      have bs := (Bs.zero ok).foldL hb (ts := l.2.take i) (fun t ht => ok.tb t (List.mem_of_mem_take ht))
      have hti : (l.2.take i).length = i := by rw [List.length_take]; omega
      rw [hti, Nat.zero_add] at bs
      rw [foldl_take_succ ht]
      generalize (l.2.take i).foldl (stL pt) (l.1, 1) = st at bs
      obtain ⟨b1, b2, b3⟩ := bs
      have tb := ok.tb t hm
      have cm1 : CMulW st.1 (ptAt pt t.1).2 := wide_mul b1 pb (by omega) (by decide) (by omega)
      have cm2 : CMulW t.2 (ptAt pt t.1).1 := wide_mul tb pa (by decide) (by decide) (by decide)
      have cm3 : CMulW (t.2 * (ptAt pt t.1).1) st.2 := wide_mul (wide_lt tb pa) b3 (by decide) (by omega) (by omega)
      have cm4 : CMulW st.2 (ptAt pt t.1).2 := wide_mul b3 pb (by omega) (by decide) (by omega)
      refine ⟨q, _, rfl, SqT.of hq, rfl, _, _, rfl, _, _, rfl, rfl, ?_⟩
      have hat : atI ps t.1 = some (V.ref q2) := at_g (j := t.1.toNat) (by omega) hy
      refine ⟨_, rfl, _, rfl, _, rfl, pp, _, _, _, rfl, rfl, SqT.of hpp, hat, q2, _, _, _, rfl, rfl, SqT.of hq2, at_of (j := 1) rfl rfl, _, _, rfl, rfl, cm1,
        _, rfl, _, rfl, _, rfl, pp, _, _, _, rfl, rfl, SqT.of hpp, hat, q2, _, _, _, rfl, rfl, SqT.of hq2, at_of (j := 0) rfl rfl, _, _, rfl, rfl, cm2, _, rfl, _, _, rfl, rfl, cm3, _, _, rfl, rfl, ?_⟩
      refine ⟨_, rfl, _, rfl, _, rfl, pp, _, _, _, rfl, rfl, SqT.of hpp, hat, q2, _, _, _, rfl, rfl, SqT.of hq2, at_of (j := 1) rfl rfl, _, _, rfl, rfl, cm4, ?_⟩
      exact ⟨_, _, rfl, rfl⟩
    · obtain ⟨v4, v5, rfl, rfl⟩ := hq
      rw [← hxl, List.take_length]
      refine ⟨_, rfl, _, rfl, (by show 2 ≤ sizeLine; decide), fun T hT => ?_⟩
      exact k T _ upd_same (Grow.new hT)
theorem ok_lkeeps {f fR fV : Addr} {fd fdR fdV : FuncData} (F : Fun K "_law_keeps" "_law_keeps" lLk f fd) (N : Gn K mg)
    (GR : FnOk P w K mg base CX0 2 fR fdR ["_law_thing"] (spF isRat)) (DR : Df K mg "_law_ratio" ["_law_thing"] fR fdR)
    (GV : FnOk P w K mg base CX0 1 fV fdV ["_law_line", "_law_point_here"] spVl) (DV : Df K mg "_law_value" ["_law_line", "_law_point_here"] fV fdV) : FnOk P w K mg base CX0 3 f fd ["_law_system", "_law_thing"] spLk := by
  refine F.ok (k := 2) cLk (fun vs H Q E h => ?_) (fun cdv A outer s H vs Q E hr h => ?_)
  · obtain ⟨_, _, _, _, _, rfl, _⟩ := h
    rfl
  · obtain ⟨xs, xt, c, rs, dt, rfl, ey, et, so, pd, k⟩ := h
    obtain ⟨_, _, _, kT⟩ := kitD dt
    refine ⟨_, (pss_cons (ps_if (PW.pt (pw_or (pt_not (pt_val (pe_callB call_isi (by rfl) N.nI boot_isinstance (pa_cons (pv 1) (pa_cons (pe_bltn (v := .ty "tuple") rfl N.nt (by decide +kernel) rfl) pa_nil))))) (pw_or1 (pt_cmpR op_ne (pe_callB call_len_seq (by rfl) N.nl PySem.boot_len (pa_cons (pv 1) pa_nil)) (pe_ix ix_tup (pv 0) pe_int (fun _ _ => rfl)) (nomark _))))) (pss_one (ps_ret pe_bl)) pss_nil) (pss_cons (ps_for PassesOwn.never rfl (pi_tup (pv 1)) (pg_name (i := 2) cLk.nd rfl (Or.inl rfl)) (pss_one (ps_if (pt_not (pt_val (pe_call GR hr (by rfl) DR.g DR.k DR.b .nil pass0 (pa_cons (pv 2) pa_nil)))) (pss_one (ps_ret pe_bl)) pss_nil))) (pss_cons (ps_for PassesOwn.never rfl (pi_tup (pe_ix ix_tup (pv 0) pe_int (fun _ _ => rfl))) (pg_tup (by rfl) (pgs_cons (pg_name (i := 3) cLk.nd rfl (Or.inl rfl)) (pgs_cons (pg_name (i := 4) cLk.nd rfl (Or.inl rfl)) pgs_nil))) (pss_cons (ps_set (i := 5) cLk.nd rfl (Or.inl rfl) (pe_ix ix_tup (pe_call (GV.mono (by decide)) hr (by rfl) DV.g DV.k DV.b .nil pass0 (pa_cons (pv 3) (pa_cons (pv 1) pa_nil))) pe_int (fun _ _ => rfl))) (pss_one (ps_if (PW.pt (pw_or (pt_cmpR op_lt (pv 5) pe_int (nomark _)) (pw_or1 (PW.pt (pw_and (pt_val (pv 4)) (pw_and1 (pt_cmpR op_ne (pv 5) pe_int (nomark _)))))))) (pss_one (ps_ret pe_bl)) pss_nil)))) (pss_one (ps_ret pe_bl))))), ?_⟩
    obtain ⟨p, a, b, rfl, hp, e0, e1⟩ := enc2 ey
    cases encI e0
    refine ⟨_, rfl, _, _, _, _, _, rfl, .ty "tuple", et.ty, kit_ty kT, _, rfl, ?_⟩
    cases hd : bT dt with
    | false =>
      have e : keepsB c rs dt = false := by cases dt <;> first | rfl | cases hd
      rw [e] at k
      exact iteT (k _ (Grow.refl _))
    | true =>
    have : ∃ l, dt = .tup l := by cases dt <;> first | exact ⟨_, rfl⟩ | cases hd
    obtain ⟨l, rfl⟩ := this
    obtain ⟨pt, ys, rfl, hpt, es⟩ := encT et
    have hl := es.length
    refine iteF ⟨_, rfl, pt, ys, rfl, .inr (SqT.of hpt), _, rfl, p, _, _, _, rfl, rfl, SqT.of hp, at_of (j := 0) rfl rfl, rfl, _, rfl, ?_⟩
    by_cases hc : ((ys.length : Nat) : Int) = c
    · refine ifNF (by rw [hc]) ?_
      have hlc : (l.length : Int) = c := by rw [hl]; exact hc
      refine ⟨_, rfl, pt, rfl, ⟨_, SqT.of hpt⟩, ?_⟩
      refine for_tup (K := K) (xs := ys) (fun i σ' Hc => ∃ (v2 v3 v4 v5 : Option V), σ' = [some (.ref p), some (.ref pt), v2, v3, v4, v5] ∧ (l.take i).all isRat = true ∧ Hc = H) ⟨_, _, _, _, rfl, rfl, rfl⟩ (fun i σ' Hc _ hq => ?_) (fun i z σ' Hc hz hq => ?_) (fun σ' Hc hq => ?_)
      · obtain ⟨_, _, _, _, _, _, rfl⟩ := hq
        exact SqT.of hpt
      · obtain ⟨v2, v3, v4, v5, rfl, ha, rfl⟩ := hq
        obtain ⟨d1, hd1, ez⟩ := es.get hz
        refine ⟨_, rfl, z, d1, rfl, ez, _, rfl, ?_⟩
        cases hr1 : isRat d1 with
        | false =>
          have e : keepsB c rs (.tup l) = false := by
            rw [keepsB_tup]
            rw [all_at hd1 hr1]
            simp
          rw [e] at k
          exact iteT (k _ (Grow.refl _))
        | true => exact iteF ⟨_, _, _, _, rfl, by rw [all_take_succ hd1, ha, hr1]; rfl, rfl⟩
      · obtain ⟨v2, v3, v4, v5, rfl, ha, rfl⟩ := hq
        rw [← hl, List.take_length] at ha
        obtain ⟨e, hb⟩ := pt_shape ha
        have hb := hb (pd l rfl)
        have k : ∀ H', Grow Hc H' → Q (.bl (rs.all (rowOk (l.map prOf)))) H' := fun H' g => by
          have q := k H' g
          rw [keepsB_tup] at q
          rw [decide_eq_true hlc, ha] at q
          exact q
        have ep : Enc Hc (.tup ((l.map prOf).map tmD)) (.ref pt) := by rw [← e]; exact .tup hpt es
        generalize hpe : l.map prOf = pr at k ep hb
        have hpl : (pr.length : Int) = c := by rw [← hpe, List.length_map]; exact hlc
        obtain ⟨p1, zs, rfl, hp1, ers⟩ := encT e1
        have hzl := ers.length
        rw [List.length_map] at hzl
        refine ⟨_, rfl, p, _, _, _, rfl, rfl, SqT.of hp, at_of (j := 1) rfl rfl, p1, rfl, ⟨_, SqT.of hp1⟩, ?_⟩
        refine for_tup (K := K) (xs := zs) (fun i σ' Hx => ∃ (v2 v3 v4 v5 : Option V), σ' = [some (.ref p), some (.ref pt), v2, v3, v4, v5] ∧ (rs.take i).all (rowOk pr) = true ∧ Grow Hc Hx) ⟨_, _, _, _, rfl, rfl, Grow.refl _⟩ (fun i σ' Hx _ hq => ?_) (fun i z σ' Hx hz hq => ?_) (fun σ' Hx hq => ?_)
        · obtain ⟨_, _, _, _, _, _, g⟩ := hq
          exact SqT.of (g.tup hp1)
        · obtain ⟨v2, v3, v4, v5, rfl, ha2, g⟩ := hq
          obtain ⟨d1, hd1, ez⟩ := ers.get hz
          obtain ⟨r, hr1, rfl⟩ := map_get hd1
          have hm := List.mem_of_getElem? hr1
          obtain ⟨q, u, v, rfl, hq, f0, f1⟩ := enc2 (ez.grow g)
          cases f1
          refine ⟨q, _, rfl, SqT.of hq, rfl, _, _, rfl, _, _, rfl, rfl, ?_⟩
          refine ⟨_, rfl, _, rfl, _, _, r.1, pr, c, rfl, f0, ep.grow g, so.ln r hm, hpl, hb, fun T H1 hT g1 => ?_⟩
          refine ⟨T, _, _, _, rfl, rfl, SqT.of hT, at_of (j := 0) rfl rfl, ?_⟩
          have hrow : rowOk pr r = sgnOk r.2 (vL pr r.1).1 := rfl
          have fin : rowOk pr r = true → ∃ a2 a3 a4 a5, ((([some (V.ref p), some (.ref pt), v2, v3, v4, v5].set 3 (some u)).set 4 (some (V.bl r.2))).set 5 (some (V.int (vL pr r.1).1))) = [some (V.ref p), some (.ref pt), a2, a3, a4, a5] ∧ (rs.take (i + 1)).all (rowOk pr) = true ∧ Grow Hc H1 := fun e =>
            ⟨_, _, _, _, rfl, by rw [all_take_succ hr1, ha2, e]; rfl, g.trans g1⟩
          refine ⟨_, rfl, _, _, rfl, rfl, _, rfl, ?_⟩
          by_cases h1 : (vL pr r.1).1 < 0
          · have e : rowOk pr r = false := by
              rw [hrow]
              unfold sgnOk
              rw [decide_eq_true h1]
              rfl
            have q := k _ (g.trans g1)
            rw [all_at hr1 e] at q
            exact ifT h1 q
          refine ifF h1 ⟨_, rfl, _, rfl, ?_⟩
          cases hx : r.2 with
          | false =>
            refine iteF ?_
            rw [hx] at hrow fin
            refine fin ?_
            rw [hrow]
            unfold sgnOk
            rw [decide_eq_false h1]
            rfl
          | true =>
            rw [hx] at hrow fin
            refine iteT ⟨_, rfl, rfl, _, rfl, ?_⟩
            by_cases h2 : (vL pr r.1).1 = 0
            · refine ifNF (by rw [h2]) (fin ?_)
              rw [hrow]
              unfold sgnOk
              rw [decide_eq_false h1, decide_eq_true h2]
              rfl
            · have e : rowOk pr r = false := by
                rw [hrow]
                unfold sgnOk
                rw [decide_eq_false h2]
                simp
              have q := k _ (g.trans g1)
              rw [all_at hr1 e] at q
              exact ifNT (fun z => h2 (V.int.inj z)) q
        · obtain ⟨v2, v3, v4, v5, rfl, ha2, g⟩ := hq
          rw [← hzl, List.take_length] at ha2
          have q := k _ g
          rw [ha2] at q
          exact q
    · have e : keepsB c rs (.tup l) = false := by
        rw [keepsB_tup]
        rw [decide_eq_false (by rw [hl]; exact hc)]
        rfl
      rw [e] at k
      exact ifNT (fun z => hc (V.int.inj z)) (k _ (Grow.refl _))
theorem ok_lmults {f fI : Addr} {fd fdI : FuncData} (F : Fun K "_law_multipliers" "_law_multipliers" lLm f fd) (N : Gn K mg) (M : Gd mg)
    (GI : FnOk P w K mg base CX0 1 fI fdI ["_law_thing"] (spF isInt)) (DI : Df K mg "_law_int" ["_law_thing"] fI fdI) : FnOk P w K mg base CX0 2 f fd ["_law_rows", "_law_thing"] spLm := by
  refine F.ok (k := 1) cLm (fun vs H Q E h => ?_) (fun cdv A outer s H vs Q E hr h => ?_)
  · obtain ⟨_, _, _, _, rfl, _⟩ := h
    rfl
  · obtain ⟨xr, x, rs, d, rfl, er, en, hle, k⟩ := h
    obtain ⟨_, _, _, kT⟩ := kitD d
    refine ⟨_, (pss_cons (ps_if (PW.pt (pw_or (pt_not (pt_val (pe_callB call_isi (by rfl) N.nI boot_isinstance (pa_cons (pv 1) (pa_cons (pe_bltn (v := .ty "tuple") rfl N.nt (by decide +kernel) rfl) pa_nil))))) (pw_or1 (pt_cmpR op_ne (pe_callB call_len_seq (by rfl) N.nl PySem.boot_len (pa_cons (pv 1) pa_nil)) (pe_callB call_len_seq (by rfl) N.nl PySem.boot_len (pa_cons (pv 0) pa_nil)) (nomark _))))) (pss_one (ps_ret pe_bl)) pss_nil) (pss_cons (ps_for PassesOwn.never rfl (pi_range1 (by rfl) M.range (pa_cons (pe_callB call_len_seq (by rfl) N.nl PySem.boot_len (pa_cons (pv 0) pa_nil)) pa_nil)) (pg_name (i := 2) cLm.nd rfl (Or.inl rfl)) (pss_one (ps_if (PW.pt (pw_or (pt_not (pt_val (pe_call GI hr (by rfl) DI.g DI.k DI.b .nil pass0 (pa_cons (pe_ix ix_tup (pv 1) (pv 2) (fun _ _ => rfl)) pa_nil)))) (pw_or1 (PW.pt (pw_and (pt_cmpR op_lt (pe_ix ix_tup (pv 1) (pv 2) (fun _ _ => rfl)) pe_int (nomark _)) (pw_and1 (pt_not (pt_val (pe_ix ix_tup (pe_ix ix_tup (pv 0) (pv 2) (fun _ _ => rfl)) pe_int (fun _ _ => rfl)))))))))) (pss_one (ps_ret pe_bl)) pss_nil))) (pss_one (ps_ret pe_bl)))), ?_⟩
    obtain ⟨pr, us, rfl, hpr, er⟩ := encT er
    have hu := er.length
    rw [List.length_map] at hu
    refine ⟨_, rfl, _, _, _, _, _, rfl, .ty "tuple", en.ty, kit_ty kT, _, rfl, ?_⟩
    cases hd : bT d with
    | false =>
      have e : isMu rs d = false := by cases d <;> first | rfl | cases hd
      rw [e] at k
      exact iteT k
    | true =>
    have : ∃ l, d = .tup l := by cases d <;> first | exact ⟨_, rfl⟩ | cases hd
    obtain ⟨l, rfl⟩ := this
    obtain ⟨pt, ys, rfl, hpt, es⟩ := encT en
    have hl := es.length
    refine iteF ⟨_, rfl, pt, ys, rfl, .inr (SqT.of hpt), _, rfl, pr, us, rfl, .inr (SqT.of hpr), rfl, _, rfl, ?_⟩
    by_cases hc : ys.length = us.length
    · refine ifNF (by rw [hc]) ?_
      have hlc : l.length = rs.length := by omega
      have e : isMu rs (.tup l) = (rs.zip l).all pM := by
        rw [← zip_all hlc]
        show (decide (l.length = rs.length) && _ && _) = _
        rw [decide_eq_true hlc]
        rfl
      rw [e] at k
      refine ⟨_, rfl, pr, us, rfl, .inr (SqT.of hpr), us.length, rfl, ?_⟩
      refine ⟨by omega, by omega, for_range (n := us.length) (fun i σ' Hc => ∃ (v2 : Option V), σ' = [some (.ref pr), some (.ref pt), v2] ∧ ((rs.zip l).take i).all pM = true ∧ Hc = H) ⟨_, rfl, rfl, rfl⟩ (fun i σ' Hc hi hp => ?_) (fun σ' Hc hp => ?_)⟩
      · obtain ⟨v2, rfl, ha, rfl⟩ := hp
        obtain ⟨u1, hu1⟩ : ∃ u1, us[i]? = some u1 := ⟨_, List.getElem?_eq_getElem hi⟩
        obtain ⟨y1, hy1⟩ : ∃ y1, ys[i]? = some y1 := ⟨_, List.getElem?_eq_getElem (by omega)⟩
        obtain ⟨d1, hd1, eu⟩ := er.get hu1
        obtain ⟨r, hr1, rfl⟩ := map_get hd1
        obtain ⟨d2, hd2, ey⟩ := es.get hy1
        have hz : (rs.zip l)[i]? = some (r, d2) := by rw [List.getElem?_zip_eq_some]; exact ⟨hr1, hd2⟩
        have fals : pM (r, d2) = false → Q (.bl false) Hc := fun e => by
          rw [all_at hz e] at k
          exact k
        refine ⟨_, rfl, _, rfl, pt, _, _, _, rfl, rfl, SqT.of hpt, at_g (j := i) (by omega) hy1, y1, d2, rfl, ey, _, rfl, ?_⟩
        rcases isInt_c d2 with h | ⟨m, rfl⟩
        · rw [h]
          exact iteT (fals (by show (isInt d2 && _) = false; rw [h]; rfl))
        cases encI ey
        obtain ⟨b, u0, u1, rfl, hb, f0, f1⟩ := enc2 eu
        cases f1
        have hpm : pM (r, .int m) = (r.2 || decide (0 ≤ m)) := rfl
        have fin : pM (r, .int m) = true → ∃ v2', [some (V.ref pr), some (.ref pt), v2].set 2 (some (V.int (0 + (i : Int)))) = [some (.ref pr), some (.ref pt), v2'] ∧ ((rs.zip l).take (i + 1)).all pM = true ∧ Hc = Hc := fun e => ⟨_, rfl, by rw [all_take_succ hz, ha, e]; rfl, rfl⟩
        refine iteF ⟨_, rfl, _, rfl, pt, _, _, _, rfl, rfl, SqT.of hpt, at_g (j := i) (by omega) hy1, _, _, rfl, rfl, _, rfl, ?_⟩
        by_cases h0 : m < 0
        · refine ifT h0 ⟨_, rfl, _, rfl, pr, _, _, _, rfl, rfl, SqT.of hpr, at_g (j := i) (by omega) hu1, b, _, _, _, rfl, rfl, SqT.of hb, at_of (j := 1) rfl rfl, _, rfl, ?_⟩
          rw [decide_eq_false (by omega : ¬ 0 ≤ m), Bool.or_false] at hpm
          cases hx : r.2 with
          | false => exact iteT (fals (by rw [hpm]; exact hx))
          | true => exact iteF (fin (by rw [hpm]; exact hx))
        · refine ifF h0 (fin ?_)
          rw [hpm, decide_eq_true (by omega : 0 ≤ m), Bool.or_true]
      · obtain ⟨v2, rfl, ha, rfl⟩ := hp
        rw [List.take_of_length_le (by rw [List.length_zip]; omega)] at ha
        rw [ha] at k
        exact k
    · have e : isMu rs (.tup l) = false := by
        show (decide (l.length = rs.length) && _ && _) = _
        rw [decide_eq_false (by omega)]
        rfl
      rw [e] at k
      exact ifNT (fun z => hc (by have := V.int.inj z; omega)) k
end
end J1
set_option Elab.async false
set_option linter.all false
set_option maxRecDepth 100000
set_option maxHeartbeats 4000000
namespace J1
open PySem PySem.Spec PyProof.Rows L2 GxR GA RZ
abbrev lLs : Stmt := top 64
theorem cLs : FnScope ["_law_rows", "_law_multipliers_here", "_law_const", "_law_table", "_law_k", "_law_unknown", "_law_coefficient", "_law_terms_here"] ["_law_rows", "_law_multipliers_here"] (defScope lLs) := ⟨rfl, rfl, rfl, by decide +kernel, rfl, by decide +kernel, by decide +kernel⟩
abbrev lLf : Stmt := top 65
theorem cLf : FnScope ["_law_rows", "_law_thing", "_law_const", "_law_terms_here"] ["_law_rows", "_law_thing"] (defScope lLf) := ⟨rfl, rfl, rfl, by decide +kernel, rfl, by decide +kernel, by decide +kernel⟩
/-- t == () -/
def rNilT (K : PySem.W.Frag) : R2 := fun x y H Q => ∃ a b xs, x = .ref a ∧ y = .ref b ∧ SqT K H a xs ∧ SqT K H b [] ∧ Q (.bl xs.isEmpty) H
theorem op_eqNilT {X : Cx} (hu : X.A.units < cLine) : OpR X (compareOp .Eq) (rNilT X.K) := by
  intro pins s σ H x y v u Q I rx ry h
  obtain ⟨a, b, xs, rfl, rfl, ha, hb, q⟩ := h
  obtain rfl : v = .ref a := rx
  obtain rfl : u = .ref b := ry
  obtain ⟨ia, ra, pa, _⟩ := I.tuple ha
  obtain ⟨ib, rb, pb, _⟩ := I.tuple hb
  cases rb
  have e : (ia.length == 0) = xs.isEmpty := by
    rw [← ra.length]
    cases xs <;> rfl
  refine SeqAt.eq_tupleAt (e := fun _ => true) (items := ia.toArray) (items2 := #[]) pa pb hu (fun j _ h2 => absurd h2 (by simp)) ⟨.bl xs.isEmpty, H, I, ?_, q⟩
  show _ = _
  simp
  exact e
/-- a list or a tuple -/
def SqH (H : Hp) (p : Addr) (xs : List V) : Prop := H p = some (.lst xs) ∨ H p = some (.tup xs)
theorem SqH.grow {H H' : Hp} {p : Addr} {xs : List V} (h : SqH H p xs) (g : Grow H H') : SqH H' p xs := h.elim (fun z => .inl (g.lst z)) (fun z => .inr (g.tup z))
theorem SqH.sq {K : PySem.W.Frag} {H : Hp} {p : Addr} {xs : List V} (h : SqH H p xs) : SqL K H p xs ∨ SqT K H p xs := h.elim (fun z => .inl (SqL.of z)) (fun z => .inr (SqT.of z))
theorem SqH.ix {K : PySem.W.Frag} {H : Hp} {p : Addr} {xs : List V} (h : SqH H p xs) {i : Int} {v : V} {Q : VK} (e : atI xs i = some v) (q : Q v H) : rIx K (.ref p) (.int i) H Q :=
  h.elim (fun z => .inl ⟨p, xs, i, v, rfl, rfl, SqL.of z, e, q⟩) (fun z => .inr (.inl ⟨p, xs, i, v, rfl, rfl, SqT.of z, e, q⟩))
/-- the terms of a sum -/
structure SumT (z : List (Rw × Int)) (ts : List Tm) : Prop where
  asc : ts.Pairwise (fun a b => a.1 < b.1)
  is : ∀ t ∈ ts, t.2 = cf z t.1 ∧ t.2 ≠ 0 ∧ 0 ≤ t.1 ∧ t.1 < 6
  all : ∀ u, cf z u ≠ 0 → (u, cf z u) ∈ ts
def spLs : Sp := fun vs H Q _ => ∃ (p pm : Addr) (xs : List V) (rs : List Rw) (ms : List Int) (c : Int), vs = [.ref p, .ref pm] ∧ SqH H p xs ∧ Encs H (rs.map rwD) xs ∧ SqH H pm (ms.map V.int) ∧ ms.length = rs.length ∧ rs.length ≤ 12000 ∧ (∀ r ∈ rs, LnOk c r.1) ∧ MuB ms ∧
  ∀ T tt ts H', H' T = some (.tup [.int (sumC (rs.zip ms)), .ref tt]) → EncT H' (.tup (ts.map tmD)) (.ref tt) → SumT (rs.zip ms) ts → Grow H H' → Q (.ref T) H'
def spLf : Sp := fun vs H Q _ => ∃ (xr x : V) (rs : List Rw) (d : Da) (c : Int), vs = [xr, x] ∧ Enc H (rwsD rs) xr ∧ Enc H d x ∧ rs.length ≤ 12000 ∧ (∀ r ∈ rs, LnOk c r.1) ∧ MuD d ∧ ∀ H', Grow H H' → Q (.bl (refB rs d)) H'
section
variable {P : Program} {w : World} {K : PySem.W.Frag} {mg : Str → Option Value} {base : Heap}
theorem ok_lsum {f : Addr} {fd : FuncData} (F : Fun K "_law_summed" "_law_summed" lLs f fd) (M : Gd mg) (hSo : mg "sorted" = none) : FnOk P w K mg base CX0 1 f fd ["_law_rows", "_law_multipliers_here"] spLs := by
  refine F.ok (k := 0) cLs (fun vs H Q E h => ?_) (fun cdv A outer s H vs Q E hr h => ?_)
  · obtain ⟨_, _, _, _, _, _, rfl, _⟩ := h
    rfl
  · obtain ⟨p, pm, xs, rs, ms, c, rfl, hp, es, hpm, hlen, hle, ok, hb, k⟩ := h
    have hu := hu_of hr
    refine ⟨_, (pss_cons (ps_set (i := 2) cLs.nd rfl (Or.inl rfl) pe_int) (pss_cons (ps_set (i := 3) cLs.nd rfl (Or.inr rfl) pe_dnewK) (pss_cons (ps_for PassesOwn.never rfl (pi_range1 (by rfl) M.range (pa_cons (pe_callB call_len_seq (by rfl) M.len PySem.boot_len (pa_cons (pv 0) pa_nil)) pa_nil)) (pg_name (i := 4) cLs.nd rfl (Or.inl rfl)) (pss_cons (ps_aug (i := 2) cLs.nd rfl (.inl rfl) (pe_op op_mulW (pe_ix ix_seq (pv 1) (pv 4) (fun _ _ => rfl)) (pe_ix ix_seq (pe_ix ix_seq (pe_ix ix_seq (pv 0) (pv 4) (fun _ _ => rfl)) pe_int (fun _ _ => rfl)) pe_int (fun _ _ => rfl))) ip_add) (pss_one (ps_for PassesOwn.never rfl (pi_tup (pe_ix ix_seq (pe_ix ix_seq (pe_ix ix_seq (pv 0) (pv 4) (fun _ _ => rfl)) pe_int (fun _ _ => rfl)) pe_int (fun _ _ => rfl))) (pg_tup (by rfl) (pgs_cons (pg_name (i := 5) cLs.nd rfl (Or.inl rfl)) (pgs_cons (pg_name (i := 6) cLs.nd rfl (Or.inl rfl)) pgs_nil))) (pss_one (ps_dput hu (pv 3) (pv 5) (pe_op op_add (pe_dget2 hu (pv 3) (pv 5) pe_int ⟨rfl, rfl, rfl, rfl⟩) (pe_op op_mulW (pe_ix ix_seq (pv 1) (pv 4) (fun _ _ => rfl)) (pv 6))) rfl)))))) (pss_cons (ps_setLc (i := 7) (own := [("_law_unknown", 5)]) (g := gName 5) (by rfl) cLs.nd rfl rfl (sw_true rfl rfl rfl (by decide +kernel)) (pi_list (pe_callB (cr_sortedDI (by rfl)) (by rfl) hSo (by decide +kernel) (pa_cons (pv 3) pa_nil))) (blkOk_by (own := [("_law_unknown", 5)]) (N := ["_law_rows", "_law_multipliers_here", "_law_const", "_law_table", "_law_k", "_law_unknown", "_law_coefficient", "_law_terms_here"]) (sc := defScope lLs) (by decide +kernel)) (fun _ _ _ _ _ => (pg_name (i := 5) cLs.nd rfl (Or.inl rfl))) (fun _ _ _ _ _ => (pts_one (pt_cmpR op_ne (pe_dget hu (pv 3) (pv 5) (fun _ _ => rfl)) pe_int (nomark _)))) (fun _ _ _ _ _ => (pe_tup (pa_cons (pv 5) (pa_cons (pe_dget hu (pv 3) (pv 5) (fun _ _ => rfl)) pa_nil))))) (pss_one (ps_ret (pe_tup (pa_cons (pv 2) (pa_cons (pe_callTy call_tuple_of (by rfl) M.tuple (by decide +kernel) (pa_cons (pv 7) pa_nil)) pa_nil))))))))), ?_⟩
    have hxl := es.length
    rw [List.length_map] at hxl
    intro D0 hD0
    have g0 := Grow.new (o := .dK []) hD0
    refine ⟨_, rfl, p, xs, rfl, (hp.grow g0).sq, xs.length, rfl, by omega, by omega, ?_⟩
    refine for_range (n := xs.length) (fun i σ' Hc => ∃ v4 v5 v6 v7 : Option V, σ' = [some (.ref p), some (.ref pm), some (.int (sumC ((rs.zip ms).take i))), some (.ref D0), v4, v5, v6, v7] ∧ DD Hc D0 (cf ((rs.zip ms).take i)) ∧ Grow H Hc)
      ⟨_, _, _, _, rfl, ⟨[], upd_same, List.nodup_nil, fun u hu => absurd hu List.not_mem_nil, fun u _ => rfl⟩, g0⟩ (fun i σ' Hc hi hq => ?_) (fun σ' Hc hq => ?_)
    · obtain ⟨v4, v5, v6, v7, rfl, hD, g⟩ := hq
      obtain ⟨x1, e1⟩ : ∃ x1, xs[i]? = some x1 := ⟨_, List.getElem?_eq_getElem hi⟩
      obtain ⟨m, hm⟩ : ∃ m, ms[i]? = some m := ⟨_, List.getElem?_eq_getElem (by omega)⟩
      have e2 : (ms.map V.int)[i]? = some (.int m) := by rw [List.getElem?_map, hm]; rfl
      obtain ⟨d1, hd1, ez⟩ := es.get e1
      obtain ⟨r, hr1, rfl⟩ := map_get hd1
      obtain ⟨b, u0, u1, rfl, hb', f0, f1⟩ := enc2 ez
      cases f1
      obtain ⟨bl, w0, w1, rfl, hbl, f0, f1⟩ := enc2 f0
      cases encI f0
      obtain ⟨pt, zs, rfl, hpt, ets⟩ := encT f1
      have hzl := ets.length
      rw [List.length_map] at hzl
      have hz : (rs.zip ms)[i]? = some (r, m) := by rw [List.getElem?_zip_eq_some]; exact ⟨hr1, hm⟩
      have okr := ok r (List.mem_of_getElem? hr1)
      have hmb := hb m (List.mem_of_getElem? hm)
      have hs : sumC ((rs.zip ms).take (i + 1)) = sumC ((rs.zip ms).take i) + m * r.1.1 := by
        rw [List.take_succ, hz]
        exact sumC_snoc _ _
      have hc : ∀ u, cf ((rs.zip ms).take (i + 1)) u = cf ((rs.zip ms).take i) u + m * coef r.1.2 u := fun u => by
        rw [List.take_succ, hz]
        exact cf_snoc _ _ u
      have cm : CMulW m r.1.1 := wide_mul hmb okr.cb (by decide) (by decide) (by decide)
      have a1 : atI xs (0 + (i : Int)) = some (V.ref b) := at_g (j := i) (by omega) e1
      have a2 : atI (ms.map V.int) (0 + (i : Int)) = some (V.int m) := at_g (j := i) (by omega) e2
      refine ⟨_, rfl, _, rfl, _, rfl, (hpm.grow g).ix a2 ⟨_, rfl, _, rfl, (hp.grow g).ix a1 ((SqH.ix (.inr (g.tup hb')) (at_of (j := 0) rfl rfl) (SqH.ix (.inr (g.tup hbl)) (at_of (j := 0) rfl rfl) ⟨_, _, rfl, rfl, cm, _, _, rfl, rfl, ?_⟩)))⟩⟩
      refine ⟨_, rfl, _, rfl, (hp.grow g).ix a1 (SqH.ix (.inr (g.tup hb')) (at_of (j := 0) rfl rfl) (SqH.ix (.inr (g.tup hbl)) (at_of (j := 1) rfl rfl) ⟨pt, rfl, ⟨_, SqT.of (g.tup hpt)⟩, ?_⟩))⟩
      refine for_tup (K := K) (xs := zs) (fun j σ' Hx => ∃ v5 v6 : Option V, σ' = [some (.ref p), some (.ref pm), some (.int (sumC ((rs.zip ms).take i) + m * r.1.1)), some (.ref D0), some (.int (0 + (i : Int))), v5, v6, v7] ∧ DD Hx D0 (fun u => cf ((rs.zip ms).take i) u + m * coef (r.1.2.take j) u) ∧ Grow H Hx)
        ⟨_, _, rfl, ?_, g⟩ (fun j σ' Hx _ hq => ?_) (fun j z σ' Hx hz' hq => ?_) (fun σ' Hx hq => ?_)
      · have q : (fun u => cf ((rs.zip ms).take i) u + m * coef (r.1.2.take 0) u) = cf ((rs.zip ms).take i) := funext fun u => by
          show _ + m * 0 = _
          rw [Int.mul_zero, Int.add_zero]
        rw [q]
        exact hD
      · obtain ⟨_, _, _, _, gx⟩ := hq
        exact SqT.of (gx.tup hpt)
      · obtain ⟨v5, v6, rfl, hDx, gx⟩ := hq
        obtain ⟨d3, hd3, ev⟩ := ets.get hz'
        obtain ⟨t, ht, rfl⟩ := map_get hd3
        have hmt := List.mem_of_getElem? ht
        obtain ⟨q, _, _, rfl, hq', f0, f1⟩ := enc2 ev
        cases encI f0
        cases encI f1
        obtain ⟨r0, _, r6, _⟩ := okr.rng t hmt
        have tb := okr.tb t hmt
        obtain ⟨us, hDx, ko⟩ := hDx
        have hco : coef (r.1.2.take (j + 1)) t.1 = coef (r.1.2.take j) t.1 + t.2 := by
          rw [List.take_succ, ht]
          show coef (r.1.2.take j ++ [t]) t.1 = _
          rw [coef_snoc, if_pos rfl]
        have hcn : ∀ u, u ≠ t.1 → coef (r.1.2.take (j + 1)) u = coef (r.1.2.take j) u := fun u hu => by
          rw [List.take_succ, ht]
          show coef (r.1.2.take j ++ [t]) u = _
          rw [coef_snoc, if_neg (fun z => hu z.symm), Int.add_zero]
        have cm2 : CMulW m t.2 := wide_mul hmb tb (by decide) (by decide) (by decide)
        obtain ⟨us', hput, ko'⟩ := ko.put (u := t.1) (x := (cf ((rs.zip ms).take i) t.1 + m * coef (r.1.2.take j) t.1) + m * t.2) r0 r6
        refine ⟨q, _, rfl, SqT.of (gx.tup hq'), rfl, _, _, rfl, _, _, rfl, rfl, ?_⟩
        refine ⟨_, rfl, D0, rfl, .inl ⟨_, .inl hDx⟩, _, rfl, _, DGet.k (k := Sum.inl t.1) hDx, _, rfl, _, rfl, (hpm.grow gx).ix a2 ⟨_, rfl, _, _, rfl, rfl, cm2, _, _, ko.getD t.1, rfl, ?_⟩⟩
        refine ⟨_, rfl, _, rfl, D0, _, rfl, DPut.k (k := Sum.inl t.1) hDx (by unfold dI; rw [List.length_map, sizeLine_eq]; have := ko.le; omega), ?_⟩
        refine ⟨_, _, rfl, ?_, gx.upd' hD0⟩
        refine ⟨us', ?_, ?_⟩
        · rw [upd_same, hput]
          refine congrArg some (congrArg HO.dK (dI_cong fun u _ => ?_))
          unfold upI
          by_cases hu : u = t.1
          · rw [if_pos hu, hu, hco, Int.mul_add, Int.add_assoc]
          · rw [if_neg hu, hcn u hu]
        · refine ⟨ko'.nd, ko'.rg, fun u hu => ?_⟩
          have q := ko'.no u hu
          unfold upI at q
          by_cases hu : u = t.1
          · rw [if_pos hu] at q
            rw [hu, hco, Int.mul_add, ← Int.add_assoc]
            exact q
          · rw [if_neg hu] at q
            rw [hcn u hu]
            exact q
      · obtain ⟨v5, v6, rfl, hDx, gx⟩ := hq
        rw [← hzl, List.take_length] at hDx
        refine ⟨_, _, _, _, by rw [hs], ?_, gx⟩
        rw [show cf ((rs.zip ms).take (i + 1)) = (fun u => cf ((rs.zip ms).take i) u + m * coef r.1.2 u) from funext hc]
        exact hDx
    · obtain ⟨v4, v5, v6, v7, rfl, hD, g⟩ := hq
      have hzl : (rs.zip ms).length = xs.length := by rw [List.length_zip]; omega
      rw [← hzl, List.take_length] at hD ⊢
      obtain ⟨us, hD, ko⟩ := hD
      generalize hg : rs.zip ms = z at hD ko k ⊢
      have h6 := ko.le
      refine ⟨_, rfl, D0, us, cf z, rfl, .inl hD, fun us' p' hperm hpw hp' => ⟨p', rfl, ⟨_, SqL.of upd_same⟩, fun D hDn => ?_⟩⟩
      have gp := Grow.new (o := .lst (us'.map V.int)) hp'
      have gH := g.trans gp
      have hDp := gp.dk hD
      have hp'' := upd_same (H := Hc) (a := p') (o := .lst (us'.map V.int))
      have hl' : us'.length ≤ 6 := by rw [hperm.length_eq]; exact h6
      generalize upd Hc p' (.lst (us'.map V.int)) = HF at gH hDp hp'' hDn ⊢
      refine lc_list (xs := us'.map V.int) (fun i Hx => ∃ vs, Hx D = some (.lst vs) ∧ EncsT Hx (((nzI (cf z) (us'.take i)).map fun u => (u, cf z u)).map tmD) vs ∧ Grow HF Hx) ⟨[], upd_same, .nil, Grow.new hDn⟩ (fun i Hx _ hq => SqL.of (hq.choose_spec.2.2.lst hp'')) (fun i y Hx hy hq => ?_) (fun Hx hq => ?_)
      · obtain ⟨vs, hacc, ev, gx⟩ := hq
        rw [List.getElem?_map] at hy
        obtain ⟨u, hu1, hu2⟩ := Option.map_eq_some_iff.mp hy
        cases hu2
        have hmu : u ∈ us := hperm.mem_iff.mp (List.mem_of_getElem? hu1)
        have hget : DGet Hx D0 (.int u) (some (.int (cf z u))) := by
          rw [← dI_in (g := cf z) hmu]
          exact DGet.k (k := Sum.inl u) (gx.dk hDp)
        have ets : us'.take (i + 1) = us'.take i ++ [u] := by rw [List.take_succ, hu1]; rfl
        have hi6 := (List.getElem?_eq_some_iff.mp hu1).1
        refine ⟨wipe_set, ?_⟩
        refine ⟨_, rfl, _, rfl, D0, _, rfl, hget, rfl, _, rfl, ?_⟩
        by_cases hz : cf z u = 0
        · have e : (!decide (V.int (cf z u) = V.int 0)) = false := by rw [hz]; rfl
          show if (!decide (V.int (cf z u) = V.int 0)) = true then _ else _
          rw [e]
          refine iteF ⟨vs, hacc, ?_, gx⟩
          rw [ets]
          unfold nzI at ev ⊢
          rw [List.filter_append, List.filter_cons, hz]
          simpa using ev
        · have e : (!decide (V.int (cf z u) = V.int 0)) = true := by rw [decide_eq_false (fun z => hz (V.int.inj z))]; rfl
          show if (!decide (V.int (cf z u) = V.int 0)) = true then _ else _
          rw [e]
          have hvl := ev.length
          rw [List.length_map, List.length_map] at hvl
          have hfl : (nzI (cf z) (us'.take i)).length ≤ 6 := by
            have := List.length_filter_le (fun u => !decide (cf z u = 0)) (us'.take i)
            rw [List.length_take] at this
            unfold nzI
            omega
          refine iteT ⟨_, rfl, _, rfl, _, rfl, D0, _, rfl, hget, (by show 2 ≤ sizeLine; decide), fun T hT => ?_⟩
          have gT := Grow.new (o := .tup [.int u, .int (cf z u)]) hT
          have hacc' := gT.lst hacc
          have eT : EncT (upd Hx T (.tup [.int u, .int (cf z u)])) (tmD (u, cf z u)) (.ref T) := .tup upd_same (.cons (.int u) (.cons (.int _) .nil))
          refine ⟨vs, hacc', ?_, _, upd_same, ?_, (gx.trans gT).upd' hDn⟩
          · rw [sizeLine_eq]
            omega
          · rw [ets]
            unfold nzI at ev ⊢
            rw [List.filter_append, List.filter_cons, decide_eq_false hz, List.map_append, List.map_append]
            exact encs_push ((ev.grow gT).gwT GrowW.upd hacc') (eT.gwT GrowW.upd hacc')
      · obtain ⟨vs, hacc, ev, gx⟩ := hq
        rw [List.length_map, List.take_length] at ev
        refine ⟨_, rfl, _, rfl, D, _, rfl, .inl ⟨SqL.of hacc, fun t1 h1 => ⟨(by show 2 ≤ sizeLine; decide), fun T hT => ?_⟩⟩⟩
        have g1 := Grow.new (o := .tup vs) h1
        have g2 := Grow.new (o := .tup [.int (sumC z), .ref t1]) hT
        refine k T t1 _ _ upd_same (.tup (g2.tup upd_same) (((ev.grow g1)).grow g2)) ?_ (((gH.trans gx).trans g1).trans g2)
        have hnd : us'.Nodup := hperm.nodup_iff.mpr ko.nd
        have hlt : us'.Pairwise (· < ·) := by
          have := hpw.and hnd
          exact this.imp fun {a b} h => by have := h.1; have := h.2; omega
        refine ⟨?_, fun t ht => ?_, fun u hu => ?_⟩
        · rw [List.pairwise_map]
          exact List.Pairwise.filter _ hlt
        · obtain ⟨u, hu, rfl⟩ := List.mem_map.mp ht
          obtain ⟨h1, h2⟩ := List.mem_filter.mp hu
          have h3 := ko.rg u (hperm.mem_iff.mp h1)
          exact ⟨rfl, by simpa using h2, h3.1, h3.2⟩
        · refine List.mem_map.mpr ⟨u, List.mem_filter.mpr ⟨?_, by simpa using hu⟩, rfl⟩
          refine hperm.mem_iff.mpr ?_
          by_cases q : u ∈ us
          · exact q
          · exact absurd (ko.no u q) hu
theorem SumT.nil {z : List (Rw × Int)} {ts : List Tm} (h : SumT z ts) : ts = [] ↔ ∀ u, cf z u = 0 := by
  constructor
  · intro e u
    by_cases q : cf z u = 0
    · exact q
    · have := h.all u q
      rw [e] at this
      cases this
  · intro g
    cases ts with
    | nil => rfl
    | cons t ts =>
      have := h.is t List.mem_cons_self
      rw [g t.1] at this
      exact absurd this.1 this.2.1
theorem refB_tup (rs : List Rw) (l : List Da) : refB rs (.tup l) = (isMu rs (.tup l) && decide (sumC (rs.zip (l.map inOf)) < 0) && decide (∀ r ∈ rs, ∀ t ∈ r.1.2, cf (rs.zip (l.map inOf)) t.1 = 0)) := rfl
theorem ok_lref {f fM fS : Addr} {fd fdM fdS : FuncData} (F : Fun K "_law_refutes" "_law_refutes" lLf f fd)
    (GM : FnOk P w K mg base CX0 2 fM fdM ["_law_rows", "_law_thing"] spLm) (DM : Df K mg "_law_multipliers" ["_law_rows", "_law_thing"] fM fdM)
    (GS : FnOk P w K mg base CX0 1 fS fdS ["_law_rows", "_law_multipliers_here"] spLs) (DS : Df K mg "_law_summed" ["_law_rows", "_law_multipliers_here"] fS fdS) : FnOk P w K mg base CX0 3 f fd ["_law_rows", "_law_thing"] spLf := by
  refine F.ok (k := 2) cLf (fun vs H Q E h => ?_) (fun cdv A outer s H vs Q E hr h => ?_)
  · obtain ⟨_, _, _, _, _, rfl, _⟩ := h
    rfl
  · obtain ⟨xr, x, rs, d, c, rfl, er, en, hle, ok, md, k⟩ := h
    refine ⟨_, (pss_cons (ps_if (pt_not (pt_val (pe_call (GM.mono (by decide)) hr (by rfl) DM.g DM.k DM.b .nil pass0 (pa_cons (pv 0) (pa_cons (pv 1) pa_nil))))) (pss_one (ps_ret pe_bl)) pss_nil) (pss_cons (ps_asg (pe_call (GS.mono (by decide)) hr (by rfl) DS.g DS.k DS.b .nil pass0 (pa_cons (pv 0) (pa_cons (pv 1) pa_nil))) (pg_tup (by rfl) (pgs_cons (pg_name (i := 2) cLf.nd rfl (Or.inl rfl)) (pgs_cons (pg_name (i := 3) cLf.nd rfl (Or.inl rfl)) pgs_nil)))) (pss_one (ps_ret (pe_and (pe_cmpR op_lt (pv 2) pe_int (nomark _)) (pe_one (pe_cmpR (op_eqNilT (Nat.lt_of_succ_lt (hu_of hr))) (pv 3) (pe_tup pa_nil) (nomark _)))))))), ?_⟩
    refine ⟨_, rfl, _, rfl, xr, x, rs, d, rfl, er, en, hle, _, rfl, ?_⟩
    cases hmu : isMu rs d with
    | false =>
      have e : refB rs d = false := by
        unfold refB
        rw [hmu]
        rfl
      rw [e] at k
      exact iteT (k _ (Grow.refl _))
    | true =>
    have hmu0 := hmu
    unfold isMu at hmu
    split at hmu
    · rename_i l
      rw [Bool.and_eq_true, Bool.and_eq_true, decide_eq_true_iff] at hmu
      have e := ints_shape hmu.1.2
      rw [refB_tup, hmu0, Bool.true_and] at k
      obtain ⟨p, xs, rfl, hp, es⟩ := encT er
      obtain ⟨pm, ys, rfl, hpm, ems⟩ := encT en
      have hmb : MuB (l.map inOf) := fun m hm => by
        refine md l rfl m ?_
        rw [e]
        exact List.mem_map.mpr ⟨m, hm, rfl⟩
      generalize hL : l.map inOf = ms at e k hmb
      subst e
      have ey : ys = ms.map V.int := by
        have : ∀ {ms : List Int} {ys : List V}, Encs H (ms.map .int) ys → ys = ms.map V.int := fun {ms} => by
          induction ms with
          | nil => intro ys h; cases h; rfl
          | cons m ms ih =>
            intro ys h
            cases h with
            | cons h t =>
              cases h
              rw [List.map_cons, ih t]
        exact this ems
      subst ey
      refine iteF ⟨_, rfl, _, rfl, p, pm, xs, rs, ms, c, rfl, .inr hp, es, .inr hpm, by rw [← hmu.1.1, List.length_map], hle, ok, hmb, fun T tt ts H1 hT et st g => ?_⟩
      refine ⟨T, _, rfl, SqT.of hT, rfl, _, _, rfl, _, _, rfl, rfl, ?_⟩
      obtain ⟨_, zs, htt, hzs, ez⟩ := encT et
      cases htt
      have hzl := ez.length
      rw [List.length_map] at hzl
      have hk : zs.isEmpty = decide (∀ r ∈ rs, ∀ t ∈ r.1.2, cf (rs.zip ms) t.1 = 0) := by
        have h1 : zs.isEmpty = decide (ts = []) := by
          cases zs with
          | nil => rw [List.length_nil] at hzl; rw [List.eq_nil_of_length_eq_zero hzl]; rfl
          | cons z zs =>
            cases ts with
            | nil => cases hzl
            | cons t ts => rfl
        rw [h1]
        refine decide_eq_decide.mpr ⟨fun e r _ t _ => st.nil.mp e t.1, fun q => st.nil.mpr (cf_zero fun p hp t ht => q p.1 (List.of_mem_zip hp).1 t ht)⟩
      refine ⟨_, rfl, _, _, rfl, rfl, _, rfl, ?_⟩
      by_cases hn : sumC (rs.zip ms) < 0
      · rw [decide_eq_true hn, Bool.true_and] at k
        refine ifT hn ⟨_, rfl, Nat.zero_le _, fun t0 h0 => ⟨tt, t0, zs, rfl, rfl, SqT.of ((Grow.new h0).tup hzs), SqT.of upd_same, ?_⟩⟩
        rw [hk]
        exact k _ (g.trans (Grow.new h0))
      · rw [decide_eq_false hn, Bool.false_and] at k
        exact ifF hn (k _ g)
    · cases hmu
end
end J1
set_option Elab.async false
set_option linter.all false
set_option maxRecDepth 100000
set_option maxHeartbeats 4000000
namespace J1
open PySem PySem.Spec PyProof.Rows L2 GxR GA RZ
abbrev lLo : Stmt := top 67
theorem cLo : FnScope ["_law_top", "_law_bottom", "_law_common"] ["_law_top", "_law_bottom"] (defScope lLo) := ⟨rfl, rfl, rfl, by decide +kernel, rfl, by decide +kernel, by decide +kernel⟩
abbrev lPo : Stmt := top 68
theorem cPo : FnScope ["_law_well_here", "_law_count", "_law_point_here", "_law_k", "_law_bottom", "_law_top"] ["_law_well_here", "_law_count"] (defScope lPo) := ⟨rfl, rfl, rfl, by decide +kernel, rfl, by decide +kernel, by decide +kernel⟩
structure PrOk (t : Tm) : Prop where
  b0 : 1 ≤ t.2
  g : Nat.gcd t.1.natAbs t.2.natAbs = 1
  tb : t.1.natAbs < 2 ^ 70
  bb : t.2.natAbs < 2 ^ 31
theorem PrOk.rat {t : Tm} (h : PrOk t) : isRat (tmD t) = true := by
  show (decide (1 ≤ t.2) && decide (Nat.gcd t.1.natAbs t.2.natAbs = 1)) = true
  rw [decide_eq_true h.b0, decide_eq_true h.g]
  rfl
theorem div_ok {t b : Int} (h : 0 < b) (ht : t.natAbs < 2 ^ 70) (hb : b.natAbs < 2 ^ 31) : PrOk (t / gI t b, b / gI t b) := by
  have g0 := gI_pos (a := t) h
  have e1 : (t / gI t b).natAbs = t.natAbs / Nat.gcd t.natAbs b.natAbs := by
    rw [Int.natAbs_ediv_of_dvd (gI_l t b)]
    rfl
  have e2 : (b / gI t b).natAbs = b.natAbs / Nat.gcd t.natAbs b.natAbs := by
    rw [Int.natAbs_ediv_of_dvd (gI_r t b)]
    rfl
  have p := Int.ediv_pos_of_pos_of_dvd h (by omega) (gI_r t b)
  refine ⟨by show 1 ≤ b / gI t b; omega, ?_, ?_, ?_⟩
  · show Nat.gcd (t / gI t b).natAbs (b / gI t b).natAbs = 1
    rw [e1, e2]
    exact Nat.gcd_div_gcd_div_gcd_of_pos_right (by omega)
  · exact Nat.lt_of_le_of_lt (Int.natAbs_ediv_le_natAbs _ _) ht
  · exact Nat.lt_of_le_of_lt (Int.natAbs_ediv_le_natAbs _ _) hb
def spLo : Sp := fun vs H Q _ => ∃ t b : Int, vs = [.int t, .int b] ∧ 0 < b ∧ t.natAbs < 2 ^ 70 ∧ b.natAbs < 2 ^ 31 ∧ ∀ (T : Addr) (r : Tm) (H' : Hp), PrOk r → H' T = some (.tup [.int r.1, .int r.2]) → Grow H H' → Q (.ref T) H'
def BIG : Nat := 1000000000000000000000000000000
def spPo : Sp := fun vs H Q _ => ∃ (p l : Addr) (ns : List Int) (n : Nat) (c : Nat), vs = [.ref p, .int (c : Nat)] ∧ c ≤ 6 ∧ Wl H p l ns n ∧ n + 100 ≤ BIG ∧
  ∀ (x : V) (pr : List Tm) (H' : Hp), EncT H' (.tup (pr.map tmD)) x → pr.length = c → (∀ t ∈ pr, PrOk t) → Wl H' p l ns (n + 60) → GrowW p H H' → Q x H'
section
variable {P : Program} {w : World} {K : PySem.W.Frag} {mg : Str → Option Value} {base : Heap}
theorem ok_lowest {f fG : Addr} {fd fdG : FuncData} (F : Fun K "_law_lowest" "_law_lowest" lLo f fd)
    (GG : FnOk P w K mg base CX0 1 fG fdG ["_law_a", "_law_b"] spGc) (DG : Df K mg "_law_gcd" ["_law_a", "_law_b"] fG fdG) : FnOk P w K mg base CX0 2 f fd ["_law_top", "_law_bottom"] spLo := by
  refine F.ok (k := 1) cLo (fun vs H Q E h => ?_) (fun cdv A outer s H vs Q E hr h => ?_)
  · obtain ⟨_, _, rfl, _⟩ := h
    rfl
  · obtain ⟨t, b, rfl, hb, ht, hbb, k⟩ := h
    refine ⟨_, (pss_cons (ps_if (pt_cmpR op_lt (pv 1) pe_int (nomark _)) (pss_cons (ps_set (i := 0) cLo.nd rfl (Or.inl rfl) (pe_un un_neg (pv 0))) (pss_one (ps_set (i := 1) cLo.nd rfl (Or.inl rfl) (pe_un un_neg (pv 1))))) pss_nil) (pss_cons (ps_set (i := 2) cLo.nd rfl (Or.inl rfl) (pe_call GG hr (by rfl) DG.g DG.k DG.b .nil pass0 (pa_cons (pv 0) (pa_cons (pv 1) pa_nil)))) (pss_one (ps_ret (pe_tup (pa_cons (pe_op op_fdivW (pv 0) (pv 2)) (pa_cons (pe_op op_fdivW (pv 1) (pv 2)) pa_nil))))))), ?_⟩
    have g0 := gI_pos (a := t) hb
    have hw : CDivW 0 (gI t b) := wide_div g0 (Nat.lt_of_le_of_lt (gI_le hb) hbb) (by decide) (by decide)
    refine ⟨_, rfl, _, _, rfl, rfl, _, rfl, ifF (by omega) ?_⟩
    refine ⟨_, rfl, _, rfl, t, b, rfl, ?_⟩
    refine ⟨_, rfl, _, rfl, _, _, rfl, rfl, hw, _, rfl, _, rfl, _, _, rfl, rfl, hw, (by show 2 ≤ sizeLine; decide), fun T hT => ?_⟩
    exact k T _ _ (div_ok hb ht hbb) upd_same (Grow.new hT)
theorem ok_point2 {f fD fL : Addr} {fd fdD fdL : FuncData} (F : Fun K "_law_point" "_law_point" lPo f fd) (M : Gd mg)
    (GD : FnOk P w K mg base CX0 1 fD fdD ["_law_well_here", "_law_many"] spDr) (DD : Df K mg "_law_draw" ["_law_well_here", "_law_many"] fD fdD)
    (GL : FnOk P w K mg base CX0 2 fL fdL ["_law_top", "_law_bottom"] spLo) (DL : Df K mg "_law_lowest" ["_law_top", "_law_bottom"] fL fdL) : FnOk P w K mg base CX0 3 f fd ["_law_well_here", "_law_count"] spPo := by
  refine F.ok (k := 2) cPo (fun vs H Q E h => ?_) (fun cdv A outer s H vs Q E hr h => ?_)
  · obtain ⟨_, _, _, _, _, rfl, _⟩ := h
    rfl
  · obtain ⟨p, l, ns, n, c, rfl, hc6, W, hn, k⟩ := h
    refine ⟨_, (pss_cons (ps_set (i := 2) cPo.nd rfl (Or.inl rfl) (pe_lst pa_nil)) (pss_cons (ps_for PassesOwn.never rfl (pi_range1 (by rfl) M.range (pa_cons (pv 1) pa_nil)) (pg_name (i := 3) cPo.nd rfl (Or.inl rfl)) (pss_cons (ps_set (i := 4) cPo.nd rfl (Or.inl rfl) pe_int) (C8.pss_cut (ps_if (pt_cmpR op_eq (pe_call (GD.mono (by decide)) hr (by rfl) DD.g DD.k DD.b .nil pass0 (pa_cons (pv 0) (pa_cons pe_int pa_nil))) pe_int (nomark _)) (pss_one (ps_set (i := 4) cPo.nd rfl (Or.inl rfl) (pe_op op_add pe_int (pe_call (GD.mono (by decide)) hr (by rfl) DD.g DD.k DD.b .nil pass0 (pa_cons (pv 0) (pa_cons pe_int pa_nil)))))) pss_nil) (pss_cons (ps_set (i := 5) cPo.nd rfl (Or.inl rfl) (pe_op op_sub (pe_call (GD.mono (by decide)) hr (by rfl) DD.g DD.k DD.b .nil pass0 (pa_cons (pv 0) (pa_cons pe_int pa_nil))) pe_int)) (C8.pss_cut (ps_if (pt_cmpR op_eq (pe_call (GD.mono (by decide)) hr (by rfl) DD.g DD.k DD.b .nil pass0 (pa_cons (pv 0) (pa_cons pe_int pa_nil))) pe_int (nomark _)) (pss_cons (ps_set (i := 5) cPo.nd rfl (Or.inl rfl) (pe_op op_sub (pe_call (GD.mono (by decide)) hr (by rfl) DD.g DD.k DD.b .nil pass0 (pa_cons (pv 0) (pa_cons (pe_op op_mul pe_int (pe_op op_pow pe_int pe_int)) pa_nil))) (pe_op op_pow pe_int pe_int))) (pss_one (ps_set (i := 4) cPo.nd rfl (Or.inl rfl) (pe_op op_add pe_int (pe_call (GD.mono (by decide)) hr (by rfl) DD.g DD.k DD.b .nil pass0 (pa_cons (pv 0) (pa_cons (pe_op op_pow pe_int pe_int) pa_nil))))))) pss_nil) (pss_one (ps_expr (pe_bm PySem.F.plainAttrs_list PySem.F.slot_list_append PySem.F.type_list_append mt_append (pv 2) (pa_cons (pe_call (GL.mono (by decide)) hr (by rfl) DL.g DL.k DL.b .nil pass0 (pa_cons (pv 5) (pa_cons (pv 4) pa_nil))) pa_nil))))))))) (pss_one (ps_ret (pe_callTy call_tuple_of (by rfl) M.tuple (by decide +kernel) (pa_cons (pv 2) pa_nil)))))), ?_⟩
    unfold BIG at hn
    refine ⟨Nat.zero_le _, fun L hL => ?_⟩
    obtain ⟨nLp, nLl⟩ := W.np hL
    have g0 := Grow.new (o := .lst []) hL
    refine ⟨_, rfl, c, rfl, by omega, by omega, ?_⟩
    refine for_range (n := c) (fun i σ' Hc => ∃ (v3 v4 v5 : Option V) (xs : List V) (pr : List Tm), σ' = [some (.ref p), some (.int (c : Nat)), some (.ref L), v3, v4, v5] ∧ Hc L = some (.lst xs) ∧ EncsT Hc (pr.map tmD) xs ∧ pr.length = i ∧ (∀ t ∈ pr, PrOk t) ∧ Wl Hc p l ns (n + 8 * i) ∧ GrowW p H Hc)
      ⟨_, _, _, [], [], rfl, upd_same, .nil, rfl, (fun t ht => absurd ht List.not_mem_nil), W.upd nLp nLl, GrowW.new hL⟩ (fun i σ' Hc hi hq => ?_) (fun σ' Hc hq => ?_)
    · obtain ⟨v3, v4, v5, xs, pr, rfl, hLc, ex, hpl, po, Wc, g⟩ := hq
      refine ⟨fun σ' H' => ∃ b : Int, 1 ≤ b ∧ b ≤ 10 ∧ σ' = [some (.ref p), some (.int (c : Nat)), some (.ref L), some (.int (0 + (i : Int))), some (.int b), v5] ∧ Wl H' p l ns (n + 8 * i + 2) ∧ GrowW p Hc H', ?_, ?_⟩
      · refine ⟨_, rfl, p, l, ns, _, 3, rfl, by decide, cdw (by decide) (by decide), Wc, by omega, fun r H1 r0 r1 W1 g1 => ?_⟩
        refine ⟨rfl, _, rfl, ?_⟩
        by_cases h0 : r = 0
        · refine ifT (by rw [h0]) ⟨_, rfl, p, l, ns, _, 7, rfl, by decide, cdw (by decide) (by decide), W1, by omega, fun r2 H2 q0 q1 W2 g2 => ?_⟩
          refine ⟨_, _, rfl, rfl, ?_⟩
          exact ⟨1 + r2, by omega, by omega, rfl, W2, g1.trans' g2⟩
        · exact ifF (fun z => h0 (V.int.inj z)) ⟨1, by decide, by decide, rfl, W1.more (by omega), g1⟩
      · rintro σ' H1 ⟨b, b1, b10, rfl, W1, g1⟩
        refine ⟨_, rfl, p, l, ns, _, 19, rfl, by decide, cdw (by decide) (by decide), W1, by omega, fun r H2 r0 r1 W2 g2 => ⟨_, _, rfl, rfl, ?_⟩⟩
        refine ⟨fun σ' H' => ∃ t b : Int, t.natAbs < 2 ^ 70 ∧ 1 ≤ b ∧ b.natAbs < 2 ^ 31 ∧ σ' = [some (.ref p), some (.int (c : Nat)), some (.ref L), some (.int (0 + (i : Int))), some (.int b), some (.int t)] ∧ Wl H' p l ns (n + 8 * i + 8) ∧ GrowW p Hc H', ?_, ?_⟩
        · refine ⟨_, rfl, p, l, ns, _, 9, rfl, by decide, cdw (by decide) (by decide), W2, by omega, fun r2 H3 q0 q1 W3 g3 => ⟨rfl, _, rfl, ?_⟩⟩
          by_cases h0 : r2 = 0
          · refine ifT (by rw [h0]) ⟨_, rfl, _, _, rfl, rfl, ⟨by decide, by decide, by decide⟩, _, _, rfl, rfl, .inl ⟨by decide, by decide⟩, p, l, ns, _, _, rfl, by decide, cdw (by decide) (by decide), W3, by omega, fun r3 H4 s0 s1 W4 g4 => ?_⟩
            have e20 : (10 : Int) ^ (Int.toNat 20) = 100000000000000000000 := by decide
            rw [e20] at s1
            refine ⟨_, _, rfl, rfl, ⟨by decide, by decide, by decide⟩, _, _, rfl, rfl, ?_⟩
            refine ⟨_, rfl, _, _, rfl, rfl, ⟨by decide, by decide, by decide⟩, p, l, ns, _, _, rfl, by decide, cdw (by decide) (by decide), W4, by omega, fun r4 H5 t0 t1 W5 g5 => ?_⟩
            have e9 : (10 : Int) ^ (Int.toNat 9) = 1000000000 := by decide
            rw [e9] at t1
            refine ⟨_, _, rfl, rfl, ?_⟩
            refine ⟨_, 1 + r4, ?_, by omega, ?_, rfl, W5.more (by omega), (((g1.trans' g2).trans' g3).trans' g4).trans' g5⟩
            · rw [e20]
              exact Nat.lt_of_le_of_lt (show (r3 - 100000000000000000000).natAbs ≤ 100000000000000000000 by omega) (by decide)
            · exact Nat.lt_of_le_of_lt (show (1 + r4).natAbs ≤ 1000000000 by omega) (by decide)
          · refine ifF (fun z => h0 (V.int.inj z)) ⟨r - 9, b, ?_, b1, ?_, rfl, W3.more (by omega), (g1.trans' g2).trans' g3⟩
            · exact Nat.lt_of_le_of_lt (show (r - 9).natAbs ≤ 10 by omega) (by decide)
            · exact Nat.lt_of_le_of_lt (show b.natAbs ≤ 10 by omega) (by decide)
        · rintro σ' H3 ⟨t, b, tb, b1, bb, rfl, W3, g3⟩
          have hL3 := g3.lst nLp hLc
          obtain ⟨ys0, hp0⟩ := W3.pl
          obtain ⟨ys1, hp1⟩ := Wc.pl
          refine ⟨_, rfl, .inl ⟨rfl, _, SqL.of hL3⟩, _, rfl, _, rfl, t, b, rfl, by omega, tb, bb, fun T r H4 ok hT g4 => ?_⟩
          have hL4 := g4.lst hL3
          have hxl := ex.length
          rw [List.length_map] at hxl
          refine ⟨L, _, _, rfl, rfl, hL4, by rw [sizeLine_eq]; omega, ?_⟩
          refine ⟨_, _, _, xs ++ [.ref T], pr ++ [r], rfl, upd_same, ?_, by rw [List.length_append, hpl]; rfl, fun t ht => ?_, ((W3.grow g4).upd nLp nLl).more (by omega), ((g.trans' g3).trans' g4.w).but hL⟩
          · rw [List.map_append]
            exact encs_push (((ex.gwT g3 hp1).grow g4).gwT GrowW.upd hL4) ((EncB.tup hT (.cons (.int r.1) (.cons (.int r.2) .nil)) : EncT H4 (tmD r) (.ref T)).gwT GrowW.upd hL4)
          · rcases List.mem_append.mp ht with h | h
            · exact po t h
            · rw [List.mem_singleton.mp h]
              exact ok
    · obtain ⟨v3, v4, v5, xs, pr, rfl, hLc, ex, hpl, po, Wc, g⟩ := hq
      refine ⟨_, rfl, L, xs, rfl, .inl ⟨SqL.of hLc, fun t1 h1 => ?_⟩⟩
      have g1 := Grow.new (o := .tup xs) h1
      exact k _ pr _ (.tup upd_same (ex.grow g1)) hpl po ((Wc.grow g1).more (by omega)) (g.trans' g1.w)
end
end J1
set_option Elab.async false
set_option linter.all false
set_option maxRecDepth 100000
set_option maxHeartbeats 4000000
namespace J1
open PySem PySem.Spec PyProof.Rows L2 GxR GA RZ
abbrev lTe : Stmt := top 69
theorem cTe : FnScope ["_law_well_here", "_law_count", "_law_most", "_law_terms_here", "_law_width", "_law_k", "_law_coefficient"] ["_law_well_here", "_law_count", "_law_most"] (defScope lTe) := ⟨rfl, rfl, rfl, by decide +kernel, rfl, by decide +kernel, by decide +kernel⟩
structure TsOk (c : Int) (ts : List Tm) : Prop where
  asc : ts.Pairwise (fun a b => a.1 < b.1)
  rg : ∀ t ∈ ts, 0 ≤ t.1 ∧ t.1 < c ∧ t.2 ≠ 0 ∧ t.2.natAbs ≤ 1000000000000
def spTe : Sp := fun vs H Q _ => ∃ (p l : Addr) (ns : List Int) (n : Nat) (c : Nat), vs = [.ref p, .int (c : Nat), .int 3] ∧ c ≤ 6 ∧ Wl H p l ns n ∧ n + 100 ≤ BIG ∧
  ∀ (L : Addr) (xs : List V) (ts : List Tm) (H' : Hp), H L = none → H' L = some (.lst xs) → EncsT H' (ts.map tmD) xs → TsOk c ts → Wl H' p l ns (n + 30) → GrowW p H H' → Q (.ref L) H'
section
variable {P : Program} {w : World} {K : PySem.W.Frag} {mg : Str → Option Value} {base : Heap}
theorem ok_terms {f fD : Addr} {fd fdD : FuncData} (F : Fun K "_law_terms" "_law_terms" lTe f fd) (M : Gd mg)
    (GD : FnOk P w K mg base CX0 1 fD fdD ["_law_well_here", "_law_many"] spDr) (DD : Df K mg "_law_draw" ["_law_well_here", "_law_many"] fD fdD) : FnOk P w K mg base CX0 2 f fd ["_law_well_here", "_law_count", "_law_most"] spTe := by
  refine F.ok (k := 1) cTe (fun vs H Q E h => ?_) (fun cdv A outer s H vs Q E hr h => ?_)
  · obtain ⟨_, _, _, _, _, rfl, _⟩ := h
    rfl
  · obtain ⟨p, l, ns, n, c, rfl, hc6, W, hn, k⟩ := h
    refine ⟨_, (pss_cons (ps_set (i := 3) cTe.nd rfl (Or.inl rfl) (pe_lst pa_nil)) (pss_cons (ps_set (i := 4) cTe.nd rfl (Or.inl rfl) (pe_call (GD.mono (by decide)) hr (by rfl) DD.g DD.k DD.b .nil pass0 (pa_cons (pv 0) (pa_cons (pe_op op_add (pv 2) pe_int) pa_nil)))) (pss_cons (ps_for PassesOwn.never rfl (pi_range1 (by rfl) M.range (pa_cons (pv 1) pa_nil)) (pg_name (i := 5) cTe.nd rfl (Or.inl rfl)) (pss_one (ps_if (PW.pt (pw_and (pt_cmpR op_gt (pv 4) pe_int (nomark _)) (pw_and1 (pt_cmpR op_eq (pe_call (GD.mono (by decide)) hr (by rfl) DD.g DD.k DD.b .nil pass0 (pa_cons (pv 0) (pa_cons (pe_callB (call_max2 rfl) (by rfl) M.max (by decide +kernel) (pa_cons pe_int (pa_cons (pe_op op_fdivW (pe_op op_add (pv 1) pe_int) (pv 4)) pa_nil))) pa_nil))) pe_int (nomark _))))) (pss_cons (ps_set (i := 6) cTe.nd rfl (Or.inl rfl) (pe_op op_sub (pe_call (GD.mono (by decide)) hr (by rfl) DD.g DD.k DD.b .nil pass0 (pa_cons (pv 0) (pa_cons pe_int pa_nil))) pe_int)) (C8.pss_cut (ps_if (pt_cmpR op_eq (pe_call (GD.mono (by decide)) hr (by rfl) DD.g DD.k DD.b .nil pass0 (pa_cons (pv 0) (pa_cons pe_int pa_nil))) pe_int (nomark _)) (pss_one (ps_set (i := 6) cTe.nd rfl (Or.inl rfl) (pe_op op_sub (pe_call (GD.mono (by decide)) hr (by rfl) DD.g DD.k DD.b .nil pass0 (pa_cons (pv 0) (pa_cons (pe_op op_mul pe_int (pe_op op_pow pe_int pe_int)) pa_nil))) (pe_op op_pow pe_int pe_int)))) pss_nil) (pss_one (ps_if (pt_cmpR op_ne (pv 6) pe_int (nomark _)) (pss_one (ps_expr (pe_bm PySem.F.plainAttrs_list PySem.F.slot_list_append PySem.F.type_list_append mt_append (pv 3) (pa_cons (pe_tup (pa_cons (pv 5) (pa_cons (pv 6) pa_nil))) pa_nil)))) pss_nil)))) pss_nil))) (pss_one (ps_ret (pv 3)))))), ?_⟩
    unfold BIG at hn
    refine ⟨Nat.zero_le _, fun L hL => ?_⟩
    obtain ⟨nLp, nLl⟩ := W.np hL
    have g0 := Grow.new (o := .lst []) hL
    refine ⟨_, rfl, _, rfl, _, _, rfl, rfl, p, l, ns, _, 4, rfl, by decide, cdw (by decide) (by decide), W.upd nLp nLl, by omega, fun wd H1 w0 w1 W1 g1 => ?_⟩
    obtain ⟨ys1, hp1⟩ := (W.upd (o := .lst []) nLp nLl).pl
    refine ⟨_, rfl, c, rfl, by omega, by omega, ?_⟩
    refine for_range (n := c) (fun i σ' Hc => ∃ (v5 v6 : Option V) (xs : List V) (ts : List Tm), σ' = [some (.ref p), some (.int (c : Nat)), some (.int 3), some (.ref L), some (.int wd), v5, v6] ∧ Hc L = some (.lst xs) ∧ EncsT Hc (ts.map tmD) xs ∧ ts.length ≤ i ∧ TsOk i ts ∧ Wl Hc p l ns (n + 1 + 4 * i) ∧ GrowW p H Hc)
      ⟨_, _, [], [], rfl, g1.lst nLp upd_same, .nil, by simp, ⟨.nil, fun t ht => absurd ht List.not_mem_nil⟩, W1.more (by omega), (GrowW.new hL).trans' g1⟩ (fun i σ' Hc hi hq => ?_) (fun σ' Hc hq => ?_)
    · obtain ⟨v5, v6, xs, ts, rfl, hLc, ex, hpl, to, Wc, g⟩ := hq
      have tom : TsOk ((i + 1 : Nat) : Int) ts := ⟨to.asc, fun t ht => by have := to.rg t ht; exact ⟨this.1, by omega, this.2.2⟩⟩
      have fin0 : ∀ (w5 w6 : Option V) (H' : Hp), Wl H' p l ns (n + 1 + 4 * (i + 1)) → GrowW p Hc H' → ∃ (v5 v6 : Option V) (xs : List V) (ts : List Tm), [some (.ref p), some (.int (c : Nat)), some (.int 3), some (.ref L), some (.int wd), w5, w6] = [some (.ref p), some (.int (c : Nat)), some (.int 3), some (.ref L), some (.int wd), v5, v6] ∧ H' L = some (.lst xs) ∧ EncsT H' (ts.map tmD) xs ∧ ts.length ≤ i + 1 ∧ TsOk ((i + 1 : Nat) : Int) ts ∧ Wl H' p l ns (n + 1 + 4 * (i + 1)) ∧ GrowW p H H' := fun w5 w6 H' W' g' => by
        obtain ⟨ys, hpc⟩ := Wc.pl
        exact ⟨w5, w6, xs, ts, rfl, g'.lst nLp hLc, ex.gwT g' hpc, by omega, tom, W', g.trans' g'⟩
      refine ⟨_, rfl, _, _, rfl, rfl, _, rfl, ?_⟩
      by_cases hw : 0 < wd
      · have hcd : CDivW 0 wd := cdw hw (Nat.lt_of_le_of_lt (show wd.natAbs ≤ 4 by omega) (by decide))
        have hq0 : 0 ≤ ((c : Int) + 1) / wd := Int.ediv_nonneg (by omega) (by omega)
        have hq7 : ((c : Int) + 1) / wd ≤ 7 := Int.le_trans (Int.ediv_le_self wd (by omega)) (by omega)
        have hm : 0 < (if ((c : Int) + 1) / wd > 1 then ((c : Int) + 1) / wd else 1) ∧ (if ((c : Int) + 1) / wd > 1 then ((c : Int) + 1) / wd else 1).natAbs ≤ 7 := by split <;> omega
        refine ifT hw ⟨_, rfl, _, rfl, _, _, rfl, rfl, _, rfl, _, _, rfl, rfl, hcd, _, _, rfl, p, l, ns, _, _, rfl, hm.1, cdw hm.1 (Nat.lt_of_le_of_lt hm.2 (by decide)), Wc, by omega, fun r H2 r0 r1 W2 g2 => ⟨rfl, _, rfl, ?_⟩⟩
        by_cases h0 : r = 0
        · refine ifT (by rw [h0]) ⟨_, rfl, p, l, ns, _, 11, rfl, by decide, cdw (by decide) (by decide), W2, by omega, fun r2 H3 q0 q1 W3 g3 => ⟨_, _, rfl, rfl, ?_⟩⟩
          refine ⟨fun σ' H' => ∃ co : Int, co.natAbs ≤ 1000000000000 ∧ σ' = [some (.ref p), some (.int (c : Nat)), some (.int 3), some (.ref L), some (.int wd), some (.int (0 + (i : Int))), some (.int co)] ∧ Wl H' p l ns (n + 1 + 4 * (i + 1)) ∧ GrowW p Hc H', ?_, ?_⟩
          · refine ⟨_, rfl, p, l, ns, _, 12, rfl, by decide, cdw (by decide) (by decide), W3, by omega, fun r3 H4 s0 s1 W4 g4 => ⟨rfl, _, rfl, ?_⟩⟩
            by_cases h1 : r3 = 0
            · refine ifT (by rw [h1]) ⟨_, rfl, _, _, rfl, rfl, ⟨by decide, by decide, by decide⟩, _, _, rfl, rfl, .inl ⟨by decide, by decide⟩, p, l, ns, _, _, rfl, by decide, cdw (by decide) (by decide), W4, by omega, fun r4 H5 t0 t1 W5 g5 => ?_⟩
              have e12 : (10 : Int) ^ (Int.toNat 12) = 1000000000000 := by decide
              rw [e12] at t1
              refine ⟨_, _, rfl, rfl, ⟨by decide, by decide, by decide⟩, _, _, rfl, rfl, ?_⟩
              refine ⟨_, ?_, rfl, W5.more (by omega), ((g2.trans' g3).trans' g4).trans' g5⟩
              rw [e12]
              omega
            · exact ifF (fun z => h1 (V.int.inj z)) ⟨r2 - 5, by omega, rfl, W4.more (by omega), (g2.trans' g3).trans' g4⟩
          · rintro σ' H4 ⟨co, hco, rfl, W4, g4⟩
            refine ⟨_, rfl, rfl, _, rfl, ?_⟩
            by_cases h1 : co = 0
            · refine ifNF (by rw [h1]) ?_
              exact fin0 _ _ H4 W4 g4
            · obtain ⟨ys, hpc⟩ := Wc.pl
              have hL4 := g4.lst nLp hLc
              have hxl := ex.length
              rw [List.length_map] at hxl
              refine ifNT (fun z => h1 (V.int.inj z)) ⟨_, rfl, .inl ⟨rfl, _, SqL.of hL4⟩, _, rfl, _, rfl, (by show 2 ≤ sizeLine; decide), fun T hT => ?_⟩
              have gT := Grow.new (o := .tup [.int (0 + (i : Int)), .int co]) hT
              have hL5 := gT.lst hL4
              have e0 : (0 : Int) + (i : Int) = (i : Int) := by omega
              refine ⟨L, _, _, rfl, rfl, hL5, by rw [sizeLine_eq]; omega, ?_⟩
              refine ⟨_, _, xs ++ [.ref T], ts ++ [((i : Int), co)], rfl, upd_same, ?_, by rw [List.length_append]; simp; exact hpl, ⟨?_, fun t ht => ?_⟩, (W4.grow gT).upd nLp nLl, ((g.trans' g4).trans' gT.w).but hL⟩
              · rw [List.map_append]
                have eT : EncT (upd H4 T (.tup [.int (0 + (i : Int)), .int co])) (tmD ((i : Int), co)) (.ref T) := by
                  have := EncB.tup (B := fun _ => False) (upd_same (H := H4) (a := T) (o := .tup [.int (0 + (i : Int)), .int co])) (.cons (.int _) (.cons (.int co) .nil))
                  rw [e0] at this ⊢
                  exact this
                exact encs_push (((ex.gwT g4 hpc).grow gT).gwT GrowW.upd hL5) (eT.gwT GrowW.upd hL5)
              · rw [List.pairwise_append]
                refine ⟨to.asc, List.pairwise_singleton _ _, fun a ha b hb => ?_⟩
                rw [List.mem_singleton.mp hb]
                exact (to.rg a ha).2.1
              · rcases List.mem_append.mp ht with h | h
                · exact tom.rg t h
                · rw [List.mem_singleton.mp h]
                  exact ⟨by show 0 ≤ (i : Int); omega, by show (i : Int) < ((i + 1 : Nat) : Int); omega, h1, hco⟩
        · exact ifF (fun z => h0 (V.int.inj z)) (fin0 _ _ H2 (W2.more (by omega)) g2)
      · exact ifF hw (fin0 _ _ Hc (Wc.more (by omega)) (GrowW.refl' p Hc))
    · obtain ⟨v5, v6, xs, ts, rfl, hLc, ex, hpl, to, Wc, g⟩ := hq
      exact ⟨_, rfl, k L xs ts Hc hL hLc ex to (Wc.more (by omega)) g⟩
end
end J1
set_option Elab.async false
set_option linter.all false
set_option maxRecDepth 100000
set_option maxHeartbeats 4000000
namespace J1
open PySem PySem.Spec PyProof.Rows L2 GxR GA RZ
abbrev lRa : Stmt := top 70
theorem cRa : FnScope ["_law_well_here", "_law_point_here", "_law_exact", "_law_most", "_law_const", "_law_terms_here", "_law_unknown", "_law_coefficient"] ["_law_well_here", "_law_point_here", "_law_exact", "_law_most"] (defScope lRa) := ⟨rfl, rfl, rfl, by decide +kernel, rfl, by decide +kernel, by decide +kernel⟩
abbrev lKr : Stmt := top 71
theorem cKr : FnScope ["_law_well_here", "_law_point_here", "_law_many", "_law_most", "_law_rows", "_law_k"] ["_law_well_here", "_law_point_here", "_law_many", "_law_most"] (defScope lKr) := ⟨rfl, rfl, rfl, by decide +kernel, rfl, by decide +kernel, by decide +kernel⟩
def sA (pr ts : List Tm) : Int := (ts.map fun t => t.2 * (ptAt pr t.1).1).sum
def tB (pr ts : List Tm) : List Tm := ts.map fun t => (t.1, t.2 * (ptAt pr t.1).2)
theorem sA_snoc (pr ts : List Tm) (t : Tm) : sA pr (ts ++ [t]) = sA pr ts + t.2 * (ptAt pr t.1).1 := by
  unfold sA
  rw [List.map_append, List.sum_append]
  simp
theorem fold_at {pr ts : List Tm} (hp : ∀ t ∈ ts, 0 < (ptAt pr t.1).2) : ∀ {s : Int × Int} {v : Int}, 0 < s.2 → s.1 = v * s.2 → 0 < ((tB pr ts).foldl (stL pr) s).2 ∧ ((tB pr ts).foldl (stL pr) s).1 = (v + sA pr ts) * ((tB pr ts).foldl (stL pr) s).2 := by
  induction ts with
  | nil => intro s v h e; exact ⟨h, show s.1 = (v + 0) * s.2 by rw [Int.add_zero]; exact e⟩
  | cons t ts ih =>
    intro s v h e
    have b0 := hp t List.mem_cons_self
    have q := ih (fun u hu => hp u (List.mem_cons_of_mem _ hu)) (s := stL pr s (t.1, t.2 * (ptAt pr t.1).2)) (v := v + t.2 * (ptAt pr t.1).1) (Int.mul_pos h b0) (by
      show s.1 * (ptAt pr t.1).2 + t.2 * (ptAt pr t.1).2 * (ptAt pr t.1).1 * s.2 = (v + t.2 * (ptAt pr t.1).1) * (s.2 * (ptAt pr t.1).2)
      rw [e, Int.add_mul]
      congr 1
      · rw [Int.mul_assoc]
      · simp only [Int.mul_assoc, Int.mul_left_comm, Int.mul_comm])
    refine ⟨q.1, ?_⟩
    have : sA pr (t :: ts) = t.2 * (ptAt pr t.1).1 + sA pr ts := by
      unfold sA
      rw [List.map_cons, List.sum_cons]
    rw [this, ← Int.add_assoc]
    exact q.2
def PrA (pr : List Tm) : Prop := ∀ t ∈ pr, PrOk t
theorem PrA.at {pr : List Tm} (h : PrA pr) (u : Int) : (ptAt pr u).1.natAbs < 2 ^ 70 ∧ 1 ≤ (ptAt pr u).2 ∧ (ptAt pr u).2.natAbs < 2 ^ 31 := by
  unfold ptAt
  by_cases q : u.toNat < pr.length
  · rw [List.getD_eq_getElem?_getD, List.getElem?_eq_getElem q]
    have := h _ (List.getElem_mem q)
    exact ⟨this.tb, this.b0, this.bb⟩
  · rw [List.getD_eq_getElem?_getD, List.getElem?_eq_none (by omega)]
    exact ⟨by decide, by decide, by decide⟩
theorem PrA.ptB {pr : List Tm} (h : PrA pr) : PtB pr := fun t ht => by
  have := h t ht
  exact ⟨lt2 this.tb (by decide), by have := this.b0; omega, lt2 this.bb (by decide)⟩
theorem sA_le {pr ts : List Tm} (hp : PrA pr) (ht : ∀ t ∈ ts, t.2.natAbs ≤ 1000000000000) : (sA pr ts).natAbs ≤ ts.length * 2 ^ 110 := by
  induction ts with
  | nil => show (0 : Int).natAbs ≤ _; simp
  | cons t ts ih =>
    have e : sA pr (t :: ts) = t.2 * (ptAt pr t.1).1 + sA pr ts := by
      unfold sA
      rw [List.map_cons, List.sum_cons]
    have q := ih fun u hu => ht u (List.mem_cons_of_mem _ hu)
    have h1 : t.2.natAbs < 2 ^ 40 := Nat.lt_of_le_of_lt (ht t List.mem_cons_self) (by decide)
    have h2 := wide_lt h1 (hp.at t.1).1
    have := Int.natAbs_add_le (t.2 * (ptAt pr t.1).1) (sA pr ts)
    rw [e, List.length_cons, Nat.succ_mul]
    have e3 : (2 : Nat) ^ (40 + 70) = 2 ^ 110 := rfl
    omega
def spRa : Sp := fun vs H Q _ => ∃ (p l : Addr) (ns : List Int) (n : Nat) (xp : V) (pr : List Tm) (ex : Bool), vs = [.ref p, xp, .bl ex, .int 3] ∧ EncT H (.tup (pr.map tmD)) xp ∧ PrA pr ∧ pr.length ≤ 6 ∧ Wl H p l ns n ∧ n + 200 ≤ BIG ∧
  ∀ (x : V) (r : Rw) (H' : Hp), EncT H' (rwD r) x → LnOk pr.length r.1 → rowOk pr r = true → Wl H' p l ns (n + 40) → GrowW p H H' → Q x H'
def spKr : Sp := fun vs H Q _ => ∃ (p l : Addr) (ns : List Int) (n : Nat) (xp : V) (pr : List Tm) (m : Nat), vs = [.ref p, xp, .int (m : Nat), .int 3] ∧ m ≤ 7 ∧ EncT H (.tup (pr.map tmD)) xp ∧ PrA pr ∧ pr.length ≤ 6 ∧ Wl H p l ns n ∧ n + 1000 ≤ BIG ∧
  ∀ (L : Addr) (xs : List V) (rs : List Rw) (H' : Hp), H L = none → H' L = some (.lst xs) → EncsT H' (rs.map rwD) xs → rs.length = m → (∀ r ∈ rs, LnOk pr.length r.1 ∧ rowOk pr r = true) → Wl H' p l ns (n + 350) → GrowW p H H' → Q (.ref L) H'
section
variable {P : Program} {w : World} {K : PySem.W.Frag} {mg : Str → Option Value} {base : Heap}
theorem ok_rowat {f fD fT : Addr} {fd fdD fdT : FuncData} (F : Fun K "_law_row_at" "_law_row_at" lRa f fd) (M : Gd mg)
    (GD : FnOk P w K mg base CX0 1 fD fdD ["_law_well_here", "_law_many"] spDr) (DD : Df K mg "_law_draw" ["_law_well_here", "_law_many"] fD fdD)
    (GT : FnOk P w K mg base CX0 2 fT fdT ["_law_well_here", "_law_count", "_law_most"] spTe) (DT : Df K mg "_law_terms" ["_law_well_here", "_law_count", "_law_most"] fT fdT) : FnOk P w K mg base CX0 3 f fd ["_law_well_here", "_law_point_here", "_law_exact", "_law_most"] spRa := by
  refine F.ok (k := 2) cRa (fun vs H Q E h => ?_) (fun cdv A outer s H vs Q E hr h => ?_)
  · obtain ⟨_, _, _, _, _, _, _, rfl, _⟩ := h
    rfl
  · obtain ⟨p, l, ns, n, xp, pr, ex, rfl, ep, pa, hp6, W, hn, k⟩ := h
    refine ⟨_, (pss_cons (ps_set (i := 4) cRa.nd rfl (Or.inl rfl) pe_int) (C8.pss_cut (ps_if (PW.pt (pw_and (pt_not (pt_val (pv 2))) (pw_and1 (pt_cmpR op_eq (pe_call (GD.mono (by decide)) hr (by rfl) DD.g DD.k DD.b .nil pass0 (pa_cons (pv 0) (pa_cons pe_int pa_nil))) pe_int (nomark _))))) (pss_one (ps_set (i := 4) cRa.nd rfl (Or.inl rfl) (pe_call (GD.mono (by decide)) hr (by rfl) DD.g DD.k DD.b .nil pass0 (pa_cons (pv 0) (pa_cons pe_int pa_nil))))) pss_nil) (pss_cons (ps_set (i := 5) cRa.nd rfl (Or.inl rfl) (pe_lst pa_nil)) (pss_cons (ps_for PassesOwn.never rfl (pi_list (pe_call (GT.mono (by decide)) hr (by rfl) DT.g DT.k DT.b .nil pass0 (pa_cons (pv 0) (pa_cons (pe_callB call_len_seq (by rfl) M.len PySem.boot_len (pa_cons (pv 1) pa_nil)) (pa_cons (pv 3) pa_nil))))) (pg_tup (by rfl) (pgs_cons (pg_name (i := 6) cRa.nd rfl (Or.inl rfl)) (pgs_cons (pg_name (i := 7) cRa.nd rfl (Or.inl rfl)) pgs_nil))) (pss_cons (ps_expr (pe_bm PySem.F.plainAttrs_list PySem.F.slot_list_append PySem.F.type_list_append mt_append (pv 5) (pa_cons (pe_tup (pa_cons (pv 6) (pa_cons (pe_op op_mulW (pv 7) (pe_ix ix_tup (pe_ix ix_tup (pv 1) (pv 6) (fun _ _ => rfl)) pe_int (fun _ _ => rfl))) pa_nil))) pa_nil))) (pss_one (ps_set (i := 4) cRa.nd rfl (Or.inl rfl) (pe_op op_sub (pv 4) (pe_op op_mulW (pv 7) (pe_ix ix_tup (pe_ix ix_tup (pv 1) (pv 6) (fun _ _ => rfl)) pe_int (fun _ _ => rfl)))))))) (pss_one (ps_ret (pe_tup (pa_cons (pe_tup (pa_cons (pv 4) (pa_cons (pe_callTy call_tuple_of (by rfl) M.tuple (by decide +kernel) (pa_cons (pv 5) pa_nil)) pa_nil))) (pa_cons (pv 2) pa_nil))))))))), ?_⟩
    unfold BIG at hn
    obtain ⟨pp, ps, rfl, hpp, eps⟩ := encT ep
    have hpl := eps.length
    rw [List.length_map] at hpl
    refine ⟨fun σ' H' => ∃ c0 : Int, 0 ≤ c0 ∧ c0 < 30 ∧ (ex = true → c0 = 0) ∧ σ' = [some (.ref p), some (.ref pp), some (.bl ex), some (.int 3), some (.int c0), none, none, none] ∧ Wl H' p l ns (n + 2) ∧ GrowW p H H', ?_, ?_⟩
    · refine ⟨_, rfl, _, rfl, ?_⟩
      cases ex with
      | true => exact iteF ⟨0, by decide, by decide, fun _ => rfl, rfl, W.more (by omega), GrowW.refl' p H⟩
      | false =>
        refine iteT ⟨_, rfl, p, l, ns, _, 2, rfl, by decide, cdw (by decide) (by decide), W, by omega, fun r H1 r0 r1 W1 g1 => ⟨rfl, _, rfl, ?_⟩⟩
        by_cases h0 : r = 0
        · refine ifT (by rw [h0]) ⟨_, rfl, p, l, ns, _, 30, rfl, by decide, cdw (by decide) (by decide), W1, by omega, fun r2 H2 q0 q1 W2 g2 => ?_⟩
          exact ⟨r2, q0, q1, (fun z => by cases z), rfl, W2, g1.trans' g2⟩
        · exact ifF (fun z => h0 (V.int.inj z)) ⟨0, by decide, by decide, fun _ => rfl, rfl, W1.more (by omega), g1⟩
    rintro σ' H1 ⟨c0, c00, c30, hex, rfl, W1, g1⟩
    obtain ⟨ysp, hwp⟩ := W.pl
    have hpp1 := g1.tup hwp hpp
    have eps1 := eps.gwT g1 hwp
    refine ⟨Nat.zero_le _, fun L hL => ?_⟩
    obtain ⟨nLp, nLl⟩ := W1.np hL
    have g2 := Grow.new (o := .lst []) hL
    refine ⟨_, rfl, _, rfl, pp, ps, rfl, .inr (SqT.of (g2.tup hpp1)), _, rfl, p, l, ns, _, pr.length, by rw [hpl]; rfl, hp6, W1.upd nLp nLl, by unfold BIG; omega, fun L0 xs ts H3 hL0 hL0' ex3 tok W3 g3 => ?_⟩
    obtain ⟨ysp1, hwp1⟩ := (W1.upd (o := .lst []) nLp nLl).pl
    have hL3 := g3.lst nLp upd_same
    have hpp3 := g3.tup hwp1 (g2.tup hpp1)
    have eps3 := (eps1.grow g2).gwT g3 hwp1
    have nL0 : L0 ≠ L := fun z => by rw [z, upd_same] at hL0; cases hL0
    have hL0b : H1 L0 = none := none_upd hL0
    obtain ⟨nL0p, nL0l⟩ := W1.np hL0b
    have hxl := ex3.length
    rw [List.length_map] at hxl
    have htl : ts.length ≤ 6 := by
      have := asc_len (lo := 0) (hi := 6) tok.asc fun t ht => ⟨(tok.rg t ht).1, by have := (tok.rg t ht).2.1; omega⟩
      omega
    refine ⟨L0, rfl, ⟨_, SqL.of hL0'⟩, ?_⟩
    refine for_list (K := K) (a := L0) (xs := xs) (fun j σ' Hc => ∃ (v6 v7 : Option V) (ys : List V), σ' = [some (.ref p), some (.ref pp), some (.bl ex), some (.int 3), some (.int (c0 - sA pr (ts.take j))), some (.ref L), v6, v7] ∧ Hc L = some (.lst ys) ∧ EncsT Hc ((tB pr (ts.take j)).map tmD) ys ∧ Hc L0 = some (.lst xs) ∧ EncsT Hc (ts.map tmD) xs ∧ Hc pp = some (.tup ps) ∧ EncsT Hc (pr.map tmD) ps ∧ Wl Hc p l ns (n + 40) ∧ GrowW p H Hc)
      ⟨_, _, [], (by rw [show sA pr (ts.take 0) = 0 from rfl, Int.sub_zero]; rfl), hL3, .nil, hL0', ex3, hpp3, eps3, W3.more (by omega), (g1.trans' g2.w).trans' g3⟩ (fun j σ' Hc _ hq => ?_) (fun j z σ' Hc hz hq => ?_) (fun σ' Hc hq => ?_)
    · obtain ⟨_, _, _, _, _, _, q, _⟩ := hq
      exact SqL.of q
    · obtain ⟨v6, v7, ys, rfl, hLc, ey, hL0c, exc, hppc, epc, Wc, g⟩ := hq
      obtain ⟨d1, hd1, ez⟩ := exc.get hz
      obtain ⟨t, ht, rfl⟩ := map_get hd1
      have hm := List.mem_of_getElem? ht
      obtain ⟨q, u, v, rfl, hq, f0, f1⟩ := enc2 ez
      cases encI f0
      cases encI f1
      obtain ⟨r0, r1, r2, r3⟩ := tok.rg t hm
      have hlt : t.1.toNat < pr.length := by omega
      obtain ⟨y, hy, ey2⟩ := epc.got (i := t.1.toNat) (d := tmD (ptAt pr t.1)) (by
        rw [List.getElem?_map]
        unfold ptAt
        rw [List.getD_eq_getElem?_getD, List.getElem?_eq_getElem hlt]
        rfl)
      obtain ⟨q2, u2, v2, rfl, hq2, f2, f3⟩ := enc2 ey2
      cases encI f2
      cases encI f3
      obtain ⟨a1, b1, b2⟩ := pa.at t.1
      have tb : t.2.natAbs < 2 ^ 40 := Nat.lt_of_le_of_lt r3 (by decide)
      have cm1 : CMulW t.2 (ptAt pr t.1).2 := wide_mul tb b2 (by decide) (by decide) (by decide)
      have cm2 : CMulW t.2 (ptAt pr t.1).1 := wide_mul tb a1 (by decide) (by decide) (by decide)
      have hat : atI ps t.1 = some (V.ref q2) := at_g (j := t.1.toNat) (by omega) hy
      have hyl := ey.length
      have htk : ts.take (j + 1) = ts.take j ++ [t] := by rw [List.take_succ, ht]; rfl
      have hj := (List.getElem?_eq_some_iff.mp ht).1
      rw [List.length_map] at hyl
      unfold tB at hyl
      rw [List.length_map, List.length_take] at hyl
      refine ⟨q, _, rfl, SqT.of hq, rfl, _, _, rfl, _, _, rfl, rfl, ?_⟩
      refine ⟨_, rfl, .inl ⟨rfl, _, SqL.of hLc⟩, _, rfl, _, rfl, _, rfl, _, rfl, pp, _, _, _, rfl, rfl, SqT.of hppc, hat, q2, _, _, _, rfl, rfl, SqT.of hq2, at_of (j := 1) rfl rfl, _, _, rfl, rfl, cm1, (by show 2 ≤ sizeLine; decide), fun T hT => ?_⟩
      have gT := Grow.new (o := .tup [.int t.1, .int (t.2 * (ptAt pr t.1).2)]) hT
      have hL4 := gT.lst hLc
      have eT : EncT (upd Hc T (.tup [.int t.1, .int (t.2 * (ptAt pr t.1).2)])) (tmD (t.1, t.2 * (ptAt pr t.1).2)) (.ref T) := .tup upd_same (.cons (.int _) (.cons (.int _) .nil))
      have wT := Wc.grow gT
      have hL0T := gT.lst hL0c
      have exT := exc.grow gT
      have hppT := gT.tup hppc
      have epT := epc.grow gT
      have eyT := ey.grow gT
      have hq2T := gT.tup hq2
      have gg := (g.trans' gT.w)
      refine ⟨L, _, _, rfl, rfl, hL4, by rw [sizeLine_eq]; omega, ?_⟩
      generalize upd Hc T (.tup [.int t.1, .int (t.2 * (ptAt pr t.1).2)]) = HT at hL4 eT wT hL0T exT hppT epT eyT hq2T gg ⊢
      have npp : pp ≠ L := fun z => by rw [z, hL4] at hppT; cases hppT
      have nq2 : q2 ≠ L := fun z => by rw [z, hL4] at hq2T; cases hq2T
      refine ⟨_, rfl, _, rfl, _, rfl, _, rfl, pp, _, _, _, rfl, rfl, SqT.of (by rw [upd_ne npp]; exact hppT), hat, q2, _, _, _, rfl, rfl, SqT.of (by rw [upd_ne nq2]; exact hq2T), at_of (j := 0) rfl rfl, _, _, rfl, rfl, cm2, _, _, rfl, rfl, ?_⟩
      refine ⟨some (.int t.1), some (.int t.2), ys ++ [.ref T], ?_, upd_same, ?_, by rw [upd_ne nL0]; exact hL0T, exT.gwT GrowW.upd hL4, by rw [upd_ne npp]; exact hppT, epT.gwT GrowW.upd hL4, wT.upd nLp nLl, ?_⟩
      · rw [htk, sA_snoc, ← Int.sub_sub]
        rfl
      · rw [htk]
        unfold tB at eyT ⊢
        rw [List.map_append, List.map_append]
        exact encs_push (eyT.gwT GrowW.upd hL4) (eT.gwT GrowW.upd hL4)
      · have hLH : H L = none := by
          cases e : H L with
          | none => rfl
          | some o =>
            rcases g1 L o nLp e with z | ⟨_, ps, z, _⟩
            · rw [hL] at z; cases z
            · rw [hL] at z; cases z
        exact gg.but hLH
    · obtain ⟨v6, v7, ys, rfl, hLc, ey, hL0c, exc, hppc, epc, Wc, g⟩ := hq
      rw [← hxl, List.take_length] at ey ⊢
      refine ⟨_, rfl, _, rfl, L, ys, rfl, .inl ⟨SqL.of hLc, fun t1 h1 => ⟨(by show 2 ≤ sizeLine; decide), fun t2 h2 => ⟨_, rfl, (by show 2 ≤ sizeLine; decide), fun t3 h3 => ?_⟩⟩⟩⟩
      have k1 := Grow.new (o := .tup ys) h1
      have k2 := Grow.new (o := .tup [.int (c0 - sA pr ts), .ref t1]) h2
      have k3 := Grow.new (o := .tup [.ref t2, .bl ex]) h3
      have kk := (k1.trans k2).trans k3
      have sl := sA_le pa (ts := ts) fun t ht => (tok.rg t ht).2.2.2
      refine k _ ((c0 - sA pr ts, tB pr ts), ex) _ ?_ ⟨?_, fun t ht => ?_, ?_, fun t ht => ?_⟩ ?_ (Wc.grow kk) (g.trans' kk.w)
      · exact .tup upd_same (.cons ((EncB.tup upd_same (.cons (.int _) (.cons (((EncB.tup upd_same (ey.grow k1)).grow k2)) .nil))).grow k3) (.cons (.bl ex) .nil))
      · show (tB pr ts).Pairwise _
        unfold tB
        rw [List.pairwise_map]
        exact tok.asc
      · obtain ⟨t0, h0, rfl⟩ := List.mem_map.mp (show t ∈ ts.map _ from ht)
        obtain ⟨r0, r1, r2, r3⟩ := tok.rg t0 h0
        obtain ⟨a1, b1, b2⟩ := pa.at t0.1
        exact ⟨r0, r1, by show t0.1 < 6; omega, Int.mul_ne_zero r2 (by omega)⟩
      · show (c0 - sA pr ts).natAbs < 2 ^ 130
        have e1 : ts.length * 2 ^ 110 ≤ 6 * 2 ^ 110 := Nat.mul_le_mul_right _ htl
        have e2 : (6 * 2 ^ 110 + 30 : Nat) < 2 ^ 130 := by decide
        generalize (2 : Nat) ^ 130 = X at e2 ⊢
        generalize (2 : Nat) ^ 110 = Y at e1 e2 sl
        omega
      · obtain ⟨t0, h0, rfl⟩ := List.mem_map.mp (show t ∈ ts.map _ from ht)
        have tb : t0.2.natAbs < 2 ^ 40 := Nat.lt_of_le_of_lt (tok.rg t0 h0).2.2.2 (by decide)
        exact lt2 (wide_lt tb (pa.at t0.1).2.2) (by decide)
      · have q := fold_at (pr := pr) (ts := ts) (fun t _ => by have := (pa.at t.1).2.1; omega) (s := (c0 - sA pr ts, 1)) (v := c0 - sA pr ts) (by show (0 : Int) < 1; decide) (by show c0 - sA pr ts = (c0 - sA pr ts) * 1; rw [Int.mul_one])
        rw [show c0 - sA pr ts + sA pr ts = c0 by omega] at q
        show sgnOk ex ((tB pr ts).foldl (stL pr) (c0 - sA pr ts, 1)).1 = true
        rw [q.2]
        generalize ((tB pr ts).foldl (stL pr) (c0 - sA pr ts, 1)).2 = bt at q
        have hnn := Int.mul_nonneg c00 (by omega : 0 ≤ bt)
        unfold sgnOk
        rw [decide_eq_false (by omega : ¬ c0 * bt < 0)]
        cases ex with
        | false => rfl
        | true =>
          rw [hex rfl, Int.zero_mul]
          rfl
theorem ok_kept2 {f fD fR : Addr} {fd fdD fdR : FuncData} (F : Fun K "_law_kept_rows" "_law_kept_rows" lKr f fd) (M : Gd mg)
    (GD : FnOk P w K mg base CX0 1 fD fdD ["_law_well_here", "_law_many"] spDr) (DD : Df K mg "_law_draw" ["_law_well_here", "_law_many"] fD fdD)
    (GR : FnOk P w K mg base CX0 3 fR fdR ["_law_well_here", "_law_point_here", "_law_exact", "_law_most"] spRa) (DR : Df K mg "_law_row_at" ["_law_well_here", "_law_point_here", "_law_exact", "_law_most"] fR fdR) : FnOk P w K mg base CX0 4 f fd ["_law_well_here", "_law_point_here", "_law_many", "_law_most"] spKr := by
  refine F.ok (k := 3) cKr (fun vs H Q E h => ?_) (fun cdv A outer s H vs Q E hr h => ?_)
  · obtain ⟨_, _, _, _, _, _, _, rfl, _⟩ := h
    rfl
  · obtain ⟨p, l, ns, n, xp, pr, m, rfl, hm7, ep, pa, hp6, W, hn, k⟩ := h
    refine ⟨_, (pss_cons (ps_set (i := 4) cKr.nd rfl (Or.inl rfl) (pe_lst pa_nil)) (pss_cons (ps_for PassesOwn.never rfl (pi_range1 (by rfl) M.range (pa_cons (pv 2) pa_nil)) (pg_name (i := 5) cKr.nd rfl (Or.inl rfl)) (pss_one (ps_expr (pe_bm PySem.F.plainAttrs_list PySem.F.slot_list_append PySem.F.type_list_append mt_append (pv 4) (pa_cons (pe_call (GR.mono (by decide)) hr (by rfl) DR.g DR.k DR.b .nil pass0 (pa_cons (pv 0) (pa_cons (pv 1) (pa_cons (pe_cmpR op_eq (pe_call (GD.mono (by decide)) hr (by rfl) DD.g DD.k DD.b .nil pass0 (pa_cons (pv 0) (pa_cons pe_int pa_nil))) pe_int (nomark _)) (pa_cons (pv 3) pa_nil))))) pa_nil))))) (pss_one (ps_ret (pv 4))))), ?_⟩
    unfold BIG at hn
    refine ⟨Nat.zero_le _, fun L hL => ?_⟩
    obtain ⟨nLp, nLl⟩ := W.np hL
    have g0 := Grow.new (o := .lst []) hL
    refine ⟨_, rfl, m, rfl, by omega, by omega, ?_⟩
    refine for_range (n := m) (fun i σ' Hc => ∃ (v5 : Option V) (xs : List V) (rs : List Rw), σ' = [some (.ref p), some xp, some (.int (m : Nat)), some (.int 3), some (.ref L), v5] ∧ Hc L = some (.lst xs) ∧ EncsT Hc (rs.map rwD) xs ∧ rs.length = i ∧ (∀ r ∈ rs, LnOk pr.length r.1 ∧ rowOk pr r = true) ∧ EncT Hc (.tup (pr.map tmD)) xp ∧ Wl Hc p l ns (n + 50 * i) ∧ GrowW p H Hc)
      ⟨_, [], [], rfl, upd_same, .nil, rfl, (fun t ht => absurd ht List.not_mem_nil), ep.grow g0, W.upd nLp nLl, GrowW.new hL⟩ (fun i σ' Hc hi hq => ?_) (fun σ' Hc hq => ?_)
    · obtain ⟨v5, xs, rs, rfl, hLc, ex, hpl, po, epc, Wc, g⟩ := hq
      obtain ⟨ysc, hwc⟩ := Wc.pl
      refine ⟨_, rfl, .inl ⟨rfl, _, SqL.of hLc⟩, _, rfl, _, rfl, _, rfl, p, l, ns, _, 4, rfl, by decide, cdw (by decide) (by decide), Wc, by omega, fun r H1 r0 r1 W1 g1 => ⟨rfl, _, rfl, p, l, ns, _, xp, pr, _, rfl, epc.gwT g1 hwc, pa, hp6, W1, by unfold BIG; omega, fun x rw' H2 ex2 lo ro W2 g2 => ?_⟩⟩
      obtain ⟨ys1, hw1⟩ := W1.pl
      have hL2 := g2.lst nLp (g1.lst nLp hLc)
      have hxl := ex.length
      rw [List.length_map] at hxl
      refine ⟨L, _, _, rfl, rfl, hL2, by rw [sizeLine_eq]; omega, ?_⟩
      refine ⟨_, xs ++ [x], rs ++ [rw'], rfl, upd_same, ?_, by rw [List.length_append, hpl]; rfl, fun t ht => ?_, ((epc.gwT g1 hwc).gwT g2 hw1).gwT GrowW.upd hL2, ((W2.upd nLp nLl).more (by omega)), ((g.trans' g1).trans' g2).but hL⟩
      · rw [List.map_append]
        exact encs_push (((ex.gwT g1 hwc).gwT g2 hw1).gwT GrowW.upd hL2) (ex2.gwT GrowW.upd hL2)
      · rcases List.mem_append.mp ht with h | h
        · exact po t h
        · rw [List.mem_singleton.mp h]
          exact ⟨lo, ro⟩
    · obtain ⟨v5, xs, rs, rfl, hLc, ex, hpl, po, epc, Wc, g⟩ := hq
      exact ⟨_, rfl, k L xs rs Hc hL hLc ex hpl po (Wc.more (by omega)) g⟩
end
end J1
set_option Elab.async false
set_option linter.all false
set_option maxRecDepth 100000
set_option maxHeartbeats 4000000
namespace J1
open PySem PySem.Spec PyProof.Rows L2 GxR GA RZ
abbrev lTo : Stmt := top 72
theorem cTo : FnScope ["_law_well_here", "_law_count", "_law_many", "_law_most", "_law_rows", "_law_numbers", "_law_k", "_law_exact", "_law_number", "_law_const", "_law_terms_here", "_law_last", "_law_unknown", "_law_c", "_law_at"] ["_law_well_here", "_law_count", "_law_many", "_law_most"] (defScope lTo) := ⟨rfl, rfl, rfl, by decide +kernel, rfl, by decide +kernel, by decide +kernel⟩
theorem cutV_take (xs : List V) (n : Nat) (h : n ≤ xs.length) : cutV xs none (some (n : Int)) = xs.take n := by
  unfold cutV
  have h1 : HT.sIx xs.length 0 none = 0 := rfl
  rw [h1, HT.sIx_nat, List.drop_zero, Nat.sub_zero, Nat.min_eq_left h]
theorem cutV_drop (xs : List V) (n : Nat) (h : n ≤ xs.length) : cutV xs (some (n : Int)) none = xs.drop n := by
  unfold cutV
  rw [HT.sIx_none, HT.sIx_nat, Nat.min_eq_left h, List.take_of_length_le]
  rw [List.length_drop]
  exact Nat.le_refl _
theorem encs_drop {B : Addr → Prop} {H : Hp} : ∀ {d : List Da} {x : List V} (_ : EncsB B H d x) (n : Nat), EncsB B H (d.drop n) (x.drop n)
  | _, _, h, 0 => h
  | _, _, .nil, _ + 1 => .nil
  | _, _, .cons _ t, n + 1 => encs_drop t n
theorem encs_take {B : Addr → Prop} {H : Hp} : ∀ {d : List Da} {x : List V} (_ : EncsB B H d x) (n : Nat), EncsB B H (d.take n) (x.take n)
  | _, _, _, 0 => .nil
  | _, _, .nil, _ + 1 => .nil
  | _, _, .cons h t, n + 1 => .cons h (encs_take t n)
theorem encs_app {B : Addr → Prop} {H : Hp} : ∀ {d e : List Da} {x y : List V}, EncsB B H d x → EncsB B H e y → EncsB B H (d ++ e) (x ++ y)
  | _, _, _, _, .nil, h => h
  | _, _, _, _, .cons h t, g => .cons h (encs_app t g)
theorem take_zip' {α β : Type} : ∀ (a : List α) (b : List β) (n : Nat), (a.zip b).take n = (a.take n).zip (b.take n)
  | _, _, 0 => rfl
  | [], _, _ + 1 => rfl
  | _ :: _, [], _ + 1 => rfl
  | x :: a, y :: b, n + 1 => by
    show (x, y) :: (a.zip b).take n = (x, y) :: (a.take n).zip (b.take n)
    rw [take_zip' a b n]
theorem drop_zip' {α β : Type} : ∀ (a : List α) (b : List β) (n : Nat), (a.zip b).drop n = (a.drop n).zip (b.drop n)
  | _, _, 0 => rfl
  | [], _, _ + 1 => by simp
  | _ :: _, [], _ + 1 => by simp
  | x :: a, y :: b, n + 1 => by
    show (a.zip b).drop n = (a.drop n).zip (b.drop n)
    rw [drop_zip' a b n]
theorem coef_le {l : List Tm} {B : Nat} (ha : l.Pairwise (fun a b => a.1 < b.1)) (hb : ∀ t ∈ l, t.2.natAbs ≤ B) (u : Int) : (coef l u).natAbs ≤ B := by
  induction l with
  | nil => show (0 : Int).natAbs ≤ B; simp
  | cons t l ih =>
    obtain ⟨h1, h2⟩ := List.pairwise_cons.mp ha
    have e : coef (t :: l) u = (if t.1 = u then t.2 else 0) + coef l u := by
      unfold coef
      rw [List.map_cons, List.sum_cons]
    rw [e]
    by_cases q : t.1 = u
    · rw [if_pos q, coef_none fun s hs z => by have := h1 s hs; omega, Int.add_zero]
      exact hb t List.mem_cons_self
    · rw [if_neg q, Int.zero_add]
      exact ih h2 fun s hs => hb s (List.mem_cons_of_mem _ hs)
theorem coef_at {l : List Tm} (ha : l.Pairwise (fun a b => a.1 < b.1)) {t : Tm} (ht : t ∈ l) : coef l t.1 = t.2 := by
  induction l with
  | nil => cases ht
  | cons s l ih =>
    obtain ⟨h1, h2⟩ := List.pairwise_cons.mp ha
    have e : coef (s :: l) t.1 = (if s.1 = t.1 then s.2 else 0) + coef l t.1 := by
      unfold coef
      rw [List.map_cons, List.sum_cons]
    rw [e]
    rcases List.mem_cons.mp ht with z | z
    · subst z
      rw [if_pos rfl, coef_none fun s hs z => by have := h1 s hs; omega, Int.add_zero]
    · rw [if_neg (by have := h1 t z; omega), Int.zero_add]
      exact ih h2 z
theorem cf_le {z : List (Rw × Int)} {A B : Nat} {u : Int} (h : ∀ p ∈ z, p.2.natAbs ≤ A ∧ (coef p.1.1.2 u).natAbs ≤ B) : (cf z u).natAbs ≤ z.length * (A * B) := by
  induction z with
  | nil => show (0 : Int).natAbs ≤ _; simp
  | cons p z ih =>
    have e : cf (p :: z) u = p.2 * coef p.1.1.2 u + cf z u := by
      unfold cf
      rw [List.map_cons, List.sum_cons]
    have q := ih fun x hx => h x (List.mem_cons_of_mem _ hx)
    have h1 := h p List.mem_cons_self
    have := Int.natAbs_add_le (p.2 * coef p.1.1.2 u) (cf z u)
    rw [e, List.length_cons, Nat.succ_mul]
    have h2 : (p.2 * coef p.1.1.2 u).natAbs ≤ A * B := by rw [Int.natAbs_mul]; exact Nat.mul_le_mul h1.1 h1.2
    omega
theorem sumC_le {z : List (Rw × Int)} {A B : Nat} (h : ∀ p ∈ z, p.2.natAbs ≤ A ∧ p.1.1.1.natAbs ≤ B) : (sumC z).natAbs ≤ z.length * (A * B) := by
  induction z with
  | nil => show (0 : Int).natAbs ≤ _; simp
  | cons p z ih =>
    have e : sumC (p :: z) = p.2 * p.1.1.1 + sumC z := by
      unfold sumC
      rw [List.map_cons, List.sum_cons]
    have q := ih fun x hx => h x (List.mem_cons_of_mem _ hx)
    have h1 := h p List.mem_cons_self
    have := Int.natAbs_add_le (p.2 * p.1.1.1) (sumC z)
    rw [e, List.length_cons, Nat.succ_mul]
    have h2 : (p.2 * p.1.1.1).natAbs ≤ A * B := by rw [Int.natAbs_mul]; exact Nat.mul_le_mul h1.1 h1.2
    omega
theorem cf_some {z : List (Rw × Int)} {u : Int} (h : cf z u ≠ 0) : ∃ p ∈ z, ∃ t ∈ p.1.1.2, t.1 = u := by
  refine Classical.byContradiction fun q => h ?_
  clear h
  induction z with
  | nil => rfl
  | cons p z ih =>
    have e : cf (p :: z) u = p.2 * coef p.1.1.2 u + cf z u := by
      unfold cf
      rw [List.map_cons, List.sum_cons]
    rw [e, coef_none fun t ht z => q ⟨p, List.mem_cons_self, t, ht, z⟩, ih fun ⟨p, hp, r⟩ => q ⟨p, List.mem_cons_of_mem _ hp, r⟩]
    simp
theorem cf_app (a b : List (Rw × Int)) (u : Int) : cf (a ++ b) u = cf a u + cf b u := by
  unfold cf
  rw [List.map_append, List.sum_append]
theorem sumC_app (a b : List (Rw × Int)) : sumC (a ++ b) = sumC a + sumC b := by
  unfold sumC
  rw [List.map_append, List.sum_append]
/-- rows and numbers that are drawn -/
structure TornA (c : Nat) (rs : List Rw) (ms : List Int) : Prop where
  len : rs.length = ms.length
  asc : ∀ r ∈ rs, r.1.2.Pairwise (fun a b => a.1 < b.1)
  rg : ∀ r ∈ rs, ∀ t ∈ r.1.2, 0 ≤ t.1 ∧ t.1 < c ∧ t.2 ≠ 0 ∧ t.2.natAbs ≤ 1000000000000
  cb : ∀ r ∈ rs, r.1.1.natAbs ≤ 10
  mb : ∀ m ∈ ms, m.natAbs ≤ 4
  ge : ∀ p ∈ rs.zip ms, p.1.2 = true ∨ 0 ≤ p.2
/-- rows and numbers that refute them -/
structure Torn (c : Nat) (rs : List Rw) (ms : List Int) : Prop where
  len : rs.length = ms.length
  ln : ∀ r ∈ rs, LnOk c r.1
  mb : ∀ m ∈ ms, m.natAbs ≤ 4
  ge : ∀ p ∈ rs.zip ms, p.1.2 = true ∨ 0 ≤ p.2
  neg : sumC (rs.zip ms) < 0
  zero : ∀ u, cf (rs.zip ms) u = 0
theorem TornA.ln {c : Nat} (hc : c ≤ 6) {rs : List Rw} {ms : List Int} (h : TornA c rs ms) : ∀ r ∈ rs, LnOk c r.1 := fun r hr =>
  ⟨h.asc r hr, fun t ht => by have := h.rg r hr t ht; exact ⟨this.1, this.2.1, by omega, this.2.2.1⟩, Nat.lt_of_le_of_lt (h.cb r hr) (by decide), fun t ht => Nat.lt_of_le_of_lt (h.rg r hr t ht).2.2.2 (by decide)⟩
/-- what is put in beside them -/
theorem TornA.torn {c : Nat} (hc : c ≤ 6) {rs : List Rw} {ms : List Int} (h : TornA c rs ms) (h5 : rs.length ≤ 5) {ts : List Tm} (st : SumT (rs.zip ms) ts) {d : Int} (d0 : 0 ≤ d) (d5 : d < 5) (ex : Bool) (j : Nat) (hj : j ≤ rs.length) :
    Torn c (rs.take j ++ [((-(sumC (rs.zip ms)) - 1 - d, ts.map fun t => (t.1, -t.2)), ex)] ++ rs.drop j) (ms.take j ++ [1] ++ ms.drop j) := by
  have hz : (rs.take j ++ [((-(sumC (rs.zip ms)) - 1 - d, ts.map fun t => (t.1, -t.2)), ex)] ++ rs.drop j).zip (ms.take j ++ [1] ++ ms.drop j) = (rs.zip ms).take j ++ [(((-(sumC (rs.zip ms)) - 1 - d, ts.map fun t => (t.1, -t.2)), ex), 1)] ++ (rs.zip ms).drop j := by
    have hl := h.len
    rw [List.zip_append (by simp; omega), List.zip_append (by simp; omega), take_zip', drop_zip']
    rfl
  have hlen := h.len
  have hzb : ∀ p ∈ rs.zip ms, p.2.natAbs ≤ 4 ∧ p.1.1.1.natAbs ≤ 10 ∧ ∀ u, (coef p.1.1.2 u).natAbs ≤ 1000000000000 := fun p hp => by
    obtain ⟨h1, h2⟩ := List.of_mem_zip hp
    exact ⟨h.mb _ h2, h.cb _ h1, coef_le (h.asc _ h1) fun t ht => (h.rg _ h1 t ht).2.2.2⟩
  have hzl : (rs.zip ms).length ≤ 5 := by rw [List.length_zip]; omega
  have sb := sumC_le (z := rs.zip ms) (A := 4) (B := 10) fun p hp => ⟨(hzb p hp).1, (hzb p hp).2.1⟩
  have e1 : (rs.zip ms).length * (4 * 10) ≤ 5 * (4 * 10) := Nat.mul_le_mul_right _ hzl
  refine ⟨by simp; omega, fun r hr => ?_, fun m hm => ?_, fun p hp => ?_, ?_, fun u => ?_⟩
  · rcases List.mem_append.mp hr with hr | hr
    · rcases List.mem_append.mp hr with hr | hr
      · exact h.ln hc r (List.mem_of_mem_take hr)
      · rw [List.mem_singleton.mp hr]
        refine ⟨?_, fun t ht => ?_, ?_, fun t ht => ?_⟩
        · show (ts.map _).Pairwise _
          rw [List.pairwise_map]
          exact st.asc
        · obtain ⟨t0, h0, rfl⟩ := List.mem_map.mp (show t ∈ ts.map _ from ht)
          obtain ⟨i1, i2, i3, i4⟩ := st.is t0 h0
          have hne : cf (rs.zip ms) t0.1 ≠ 0 := fun z => i2 (i1.trans z)
          obtain ⟨p, hp, t1, ht1, e⟩ := cf_some hne
          have := (h.rg _ (List.of_mem_zip hp).1 t1 ht1).2.1
          exact ⟨i3, by show t0.1 < _; omega, i4, by show -t0.2 ≠ 0; omega⟩
        · show (-(sumC (rs.zip ms)) - 1 - d).natAbs < 2 ^ 130
          exact Nat.lt_of_le_of_lt (show _ ≤ 1000 by omega) (by decide)
        · obtain ⟨t0, h0, rfl⟩ := List.mem_map.mp (show t ∈ ts.map _ from ht)
          obtain ⟨i1, i2, i3, i4⟩ := st.is t0 h0
          have cb := cf_le (z := rs.zip ms) (u := t0.1) (A := 4) (B := 1000000000000) fun p hp => ⟨(hzb p hp).1, (hzb p hp).2.2 _⟩
          rw [← i1] at cb
          have e2 : (rs.zip ms).length * (4 * 1000000000000) ≤ 5 * (4 * 1000000000000) := Nat.mul_le_mul_right _ hzl
          have hb : t0.2.natAbs ≤ 20000000000000 := by omega
          show (-t0.2).natAbs < 2 ^ 100
          rw [Int.natAbs_neg]
          exact Nat.lt_of_le_of_lt hb (by decide)
    · exact h.ln hc r (List.mem_of_mem_drop hr)
  · rcases List.mem_append.mp hm with hm | hm
    · rcases List.mem_append.mp hm with hm | hm
      · exact h.mb m (List.mem_of_mem_take hm)
      · rw [List.mem_singleton.mp hm]; decide
    · exact h.mb m (List.mem_of_mem_drop hm)
  · rw [hz] at hp
    rcases List.mem_append.mp hp with hp | hp
    · rcases List.mem_append.mp hp with hp | hp
      · exact h.ge p (List.mem_of_mem_take hp)
      · rw [List.mem_singleton.mp hp]; exact .inr (show (0 : Int) ≤ 1 by decide)
    · exact h.ge p (List.mem_of_mem_drop hp)
  · rw [hz, sumC_app, sumC_app]
    have e := sumC_app ((rs.zip ms).take j) ((rs.zip ms).drop j)
    rw [List.take_append_drop] at e
    have e3 : sumC [(((-(sumC (rs.zip ms)) - 1 - d, ts.map fun t => (t.1, -t.2)), ex), 1)] = -(sumC (rs.zip ms)) - 1 - d := by
      unfold sumC
      simp
    rw [e3]
    omega
  · rw [hz, cf_app, cf_app]
    have e := cf_app ((rs.zip ms).take j) ((rs.zip ms).drop j) u
    rw [List.take_append_drop] at e
    have e3 : cf [(((-(sumC (rs.zip ms)) - 1 - d, ts.map fun t => (t.1, -t.2)), ex), 1)] u = coef (ts.map fun t => (t.1, -t.2)) u := by
      unfold cf
      simp
    rw [e3]
    have e4 : coef (ts.map fun t => (t.1, -t.2)) u = - cf (rs.zip ms) u := by
      have asc' : (ts.map fun t => (t.1, -t.2)).Pairwise (fun a b => a.1 < b.1) := by
        rw [List.pairwise_map]
        exact st.asc
      by_cases q : cf (rs.zip ms) u = 0
      · rw [q, coef_none fun t ht z => ?_]
        · rfl
        · obtain ⟨t0, h0, rfl⟩ := List.mem_map.mp ht
          obtain ⟨i1, i2, _⟩ := st.is t0 h0
          have z : t0.1 = u := z
          rw [z, q] at i1
          exact i2 i1
      · have hm := st.all u q
        exact coef_at asc' (t := (u, -cf (rs.zip ms) u)) (List.mem_map.mpr ⟨_, hm, rfl⟩)
    rw [e4]
    omega
end J1
set_option Elab.async false
set_option linter.all false
set_option maxRecDepth 100000
set_option maxHeartbeats 4000000
namespace J1
open PySem PySem.Spec PyProof.Rows L2 GxR GA RZ
def spTo : Sp := fun vs H Q _ => ∃ (p l : Addr) (ns : List Int) (n c m : Nat), vs = [.ref p, .int (c : Nat), .int (m : Nat), .int 3] ∧ c ≤ 6 ∧ m ≤ 5 ∧ Wl H p l ns n ∧ n + 1000 ≤ BIG ∧
  ∀ (T R Nm : Addr) (xs : List V) (rs : List Rw) (ms : List Int) (H' : Hp), H' T = some (.tup [.ref R, .ref Nm]) → H R = none → H' R = some (.lst xs) → EncsT H' (rs.map rwD) xs → H' Nm = some (.tup (ms.map V.int)) → rs.length = m + 1 → Torn c rs ms → Wl H' p l ns (n + 300) → GrowW p H H' → Q (.ref T) H'
theorem TornA.push {c : Nat} {rs : List Rw} {ms : List Int} (h : TornA c rs ms) {r : Rw} {m : Int} (h1 : r.1.2.Pairwise (fun a b => a.1 < b.1)) (h2 : ∀ t ∈ r.1.2, 0 ≤ t.1 ∧ t.1 < c ∧ t.2 ≠ 0 ∧ t.2.natAbs ≤ 1000000000000) (h3 : r.1.1.natAbs ≤ 10) (h4 : m.natAbs ≤ 4) (h5 : r.2 = true ∨ 0 ≤ m) : TornA c (rs ++ [r]) (ms ++ [m]) := by
  refine ⟨by simp [h.len], fun x hx => ?_, fun x hx => ?_, fun x hx => ?_, fun x hx => ?_, fun p hp => ?_⟩
  · rcases List.mem_append.mp hx with z | z
    · exact h.asc x z
    · rw [List.mem_singleton.mp z]; exact h1
  · rcases List.mem_append.mp hx with z | z
    · exact h.rg x z
    · rw [List.mem_singleton.mp z]; exact h2
  · rcases List.mem_append.mp hx with z | z
    · exact h.cb x z
    · rw [List.mem_singleton.mp z]; exact h3
  · rcases List.mem_append.mp hx with z | z
    · exact h.mb x z
    · rw [List.mem_singleton.mp z]; exact h4
  · rw [List.zip_append h.len] at hp
    rcases List.mem_append.mp hp with z | z
    · exact h.ge p z
    · rw [List.mem_singleton.mp (show p ∈ [(r, m)] from z)]; exact h5
section
variable {P : Program} {w : World} {K : PySem.W.Frag} {mg : Str → Option Value} {base : Heap}
theorem ok_torn {f fD fT fS : Addr} {fd fdD fdT fdS : FuncData} (F : Fun K "_law_torn_rows" "_law_torn_rows" lTo f fd) (M : Gd mg)
    (GD : FnOk P w K mg base CX0 1 fD fdD ["_law_well_here", "_law_many"] spDr) (DD : Df K mg "_law_draw" ["_law_well_here", "_law_many"] fD fdD)
    (GT : FnOk P w K mg base CX0 2 fT fdT ["_law_well_here", "_law_count", "_law_most"] spTe) (DT : Df K mg "_law_terms" ["_law_well_here", "_law_count", "_law_most"] fT fdT)
    (GS : FnOk P w K mg base CX0 1 fS fdS ["_law_rows", "_law_multipliers_here"] spLs) (DS : Df K mg "_law_summed" ["_law_rows", "_law_multipliers_here"] fS fdS) : FnOk P w K mg base CX0 3 f fd ["_law_well_here", "_law_count", "_law_many", "_law_most"] spTo := by
  refine F.ok (k := 2) cTo (fun vs H Q E h => ?_) (fun cdv A outer s H vs Q E hr h => ?_)
  · obtain ⟨_, _, _, _, _, _, rfl, _⟩ := h
    rfl
  · obtain ⟨p, l, ns, n, c, m, rfl, hc6, hm5, W, hn, k⟩ := h
    refine ⟨_, (pss_cons (ps_set (i := 4) cTo.nd rfl (Or.inl rfl) (pe_lst pa_nil)) (pss_cons (ps_set (i := 5) cTo.nd rfl (Or.inl rfl) (pe_lst pa_nil)) (pss_cons (ps_for PassesOwn.never rfl (pi_range1 (by rfl) M.range (pa_cons (pv 2) pa_nil)) (pg_name (i := 6) cTo.nd rfl (Or.inl rfl)) (pss_cons (ps_set (i := 7) cTo.nd rfl (Or.inl rfl) (pe_cmpR op_eq (pe_call (GD.mono (by decide)) hr (by rfl) DD.g DD.k DD.b .nil pass0 (pa_cons (pv 0) (pa_cons pe_int pa_nil))) pe_int (nomark _))) (pss_cons (ps_set (i := 8) cTo.nd rfl (Or.inl rfl) (pe_call (GD.mono (by decide)) hr (by rfl) DD.g DD.k DD.b .nil pass0 (pa_cons (pv 0) (pa_cons pe_int pa_nil)))) (C8.pss_cut (ps_if (pt_val (pv 7)) (pss_one (ps_set (i := 8) cTo.nd rfl (Or.inl rfl) (pe_op op_sub (pv 8) pe_int))) pss_nil) (pss_cons (ps_expr (pe_bm PySem.F.plainAttrs_list PySem.F.slot_list_append PySem.F.type_list_append mt_append (pv 4) (pa_cons (pe_tup (pa_cons (pe_tup (pa_cons (pe_op op_sub (pe_call (GD.mono (by decide)) hr (by rfl) DD.g DD.k DD.b .nil pass0 (pa_cons (pv 0) (pa_cons pe_int pa_nil))) pe_int) (pa_cons (pe_callTy call_tuple_of (by rfl) M.tuple (by decide +kernel) (pa_cons (pe_call (GT.mono (by decide)) hr (by rfl) DT.g DT.k DT.b .nil pass0 (pa_cons (pv 0) (pa_cons (pv 1) (pa_cons (pv 3) pa_nil)))) pa_nil)) pa_nil))) (pa_cons (pv 7) pa_nil))) pa_nil))) (pss_one (ps_expr (pe_bm PySem.F.plainAttrs_list PySem.F.slot_list_append PySem.F.type_list_append mt_append (pv 5) (pa_cons (pv 8) pa_nil))))))))) (pss_cons (ps_asg (pe_call (GS.mono (by decide)) hr (by rfl) DS.g DS.k DS.b .nil pass0 (pa_cons (pv 4) (pa_cons (pv 5) pa_nil))) (pg_tup (by rfl) (pgs_cons (pg_name (i := 9) cTo.nd rfl (Or.inl rfl)) (pgs_cons (pg_name (i := 10) cTo.nd rfl (Or.inl rfl)) pgs_nil)))) (pss_cons (ps_set (i := 11) cTo.nd rfl (Or.inl rfl) (pe_tup (pa_cons (pe_op op_sub (pe_op op_sub (pe_un un_neg (pv 9)) pe_int) (pe_call (GD.mono (by decide)) hr (by rfl) DD.g DD.k DD.b .nil pass0 (pa_cons (pv 0) (pa_cons pe_int pa_nil)))) (pa_cons (pe_callTy call_tuple_of (by rfl) M.tuple (by decide +kernel) (pa_cons (pe_lc (own := [("_law_unknown", 12), ("_law_c", 13)]) (g := gTup K 2 (gCons (gName 12) (gCons (gName 13) gNil))) (tt := tYes) (by rfl) cTo.nd (pi_tup (pv 10)) (blkOk_by (own := [("_law_unknown", 12), ("_law_c", 13)]) (N := ["_law_well_here", "_law_count", "_law_many", "_law_most", "_law_rows", "_law_numbers", "_law_k", "_law_exact", "_law_number", "_law_const", "_law_terms_here", "_law_last", "_law_unknown", "_law_c", "_law_at"]) (sc := defScope lTo) (by decide +kernel)) (fun _ _ _ _ _ => (pg_tup (by rfl) (pgs_cons (pg_name (i := 12) cTo.nd rfl (Or.inl rfl)) (pgs_cons (pg_name (i := 13) cTo.nd rfl (Or.inl rfl)) pgs_nil)))) (fun _ _ _ _ _ => pts_nil) (fun _ _ _ _ _ => (pe_tup (pa_cons (pv 12) (pa_cons (pe_un un_neg (pv 13)) pa_nil))))) pa_nil)) pa_nil)))) (pss_cons (ps_set (i := 14) cTo.nd rfl (Or.inl rfl) (pe_call (GD.mono (by decide)) hr (by rfl) DD.g DD.k DD.b .nil pass0 (pa_cons (pv 0) (pa_cons (pe_op op_add (pv 2) pe_int) pa_nil)))) (pss_one (ps_ret (pe_tup (pa_cons (pe_op op_cat (pe_op op_cat (pe_slice sl_list (pv 4) po_none (po_some (pv 14))) (pe_lst (pa_cons (pe_tup (pa_cons (pv 11) (pa_cons (pe_cmpR op_eq (pe_call (GD.mono (by decide)) hr (by rfl) DD.g DD.k DD.b .nil pass0 (pa_cons (pv 0) (pa_cons pe_int pa_nil))) pe_int (nomark _)) pa_nil))) pa_nil))) (pe_slice sl_list (pv 4) (po_some (pv 14)) po_none)) (pa_cons (pe_callTy call_tuple_of (by rfl) M.tuple (by decide +kernel) (pa_cons (pe_op op_cat (pe_op op_cat (pe_slice sl_list (pv 5) po_none (po_some (pv 14))) (pe_lst (pa_cons pe_int pa_nil))) (pe_slice sl_list (pv 5) (po_some (pv 14)) po_none)) pa_nil)) pa_nil))))))))))), ?_⟩
    unfold BIG at hn
    refine ⟨Nat.zero_le _, fun R hR => ⟨Nat.zero_le _, fun N hN => ?_⟩⟩
    obtain ⟨nRp, nRl⟩ := W.np hR
    have W0 := W.upd (o := .lst []) nRp nRl
    obtain ⟨nNp, nNl⟩ := W0.np hN
    have hN0 : H N = none := none_upd hN
    have nRN : R ≠ N := fun z => by rw [← z, upd_same] at hN; cases hN
    have g0 := (Grow.new (o := .lst []) hR).trans (Grow.new (o := .lst []) hN)
    have hR1 := (Grow.new (o := .lst []) hN).lst (upd_same (H := H) (a := R))
    have hN1 := upd_same (H := upd H R (.lst [])) (a := N) (o := .lst [])
    have W1 := W0.upd (o := .lst []) nNp nNl
    generalize upd (upd H R (.lst [])) N (.lst []) = H1 at g0 hR1 hN1 W1 ⊢
    refine ⟨_, rfl, m, rfl, by omega, by omega, ?_⟩
    refine for_range (n := m) (fun i σ' Hc => ∃ (v6 v7 v8 : Option V) (xs : List V) (rs : List Rw) (ms : List Int), σ' = [some (.ref p), some (.int (c : Nat)), some (.int (m : Nat)), some (.int 3), some (.ref R), some (.ref N), v6, v7, v8, none, none, none, none, none, none] ∧ Hc R = some (.lst xs) ∧ EncsT Hc (rs.map rwD) xs ∧ Hc N = some (.lst (ms.map V.int)) ∧ rs.length = i ∧ TornA c rs ms ∧ Wl Hc p l ns (n + 40 * i) ∧ GrowW p H Hc)
      ⟨_, _, _, [], [], [], rfl, hR1, .nil, hN1, rfl, ⟨rfl, (fun t ht => absurd ht List.not_mem_nil), (fun t ht => absurd ht List.not_mem_nil), (fun t ht => absurd ht List.not_mem_nil), (fun t ht => absurd ht List.not_mem_nil), (fun t ht => absurd ht List.not_mem_nil)⟩, W1, g0.w⟩ (fun i σ' Hc hi hq => ?_) (fun σ' Hc hq => ?_)
    · obtain ⟨v6, v7, v8, xs, rs, ms, rfl, hRc, ex, hNc, hrl, ta, Wc, g⟩ := hq
      obtain ⟨ysc, hwc⟩ := Wc.pl
      refine ⟨_, rfl, p, l, ns, _, 4, rfl, by decide, cdw (by decide) (by decide), Wc, by omega, fun r H2 r0 r1 W2 g2 => ⟨rfl, ?_⟩⟩
      obtain ⟨ys2, hw2⟩ := W2.pl
      refine ⟨_, rfl, p, l, ns, _, 5, rfl, by decide, cdw (by decide) (by decide), W2, by omega, fun q H3 q0 q1 W3 g3 => ?_⟩
      generalize decide (V.int r = V.int 0) = ex1
      refine ⟨fun σ' H' => ∃ mm : Int, mm.natAbs ≤ 4 ∧ (ex1 = true ∨ 0 ≤ mm) ∧ σ' = [some (.ref p), some (.int (c : Nat)), some (.int (m : Nat)), some (.int 3), some (.ref R), some (.ref N), some (.int (0 + (i : Int))), some (.bl ex1), some (.int mm), none, none, none, none, none, none] ∧ H' = H3, ?_, ?_⟩
      · refine ⟨_, rfl, _, rfl, ?_⟩
        cases ex1 with
        | true => exact iteT ⟨_, rfl, _, _, rfl, rfl, q - 2, by omega, .inl rfl, rfl, rfl⟩
        | false => exact iteF ⟨q, by omega, .inr q0, rfl, rfl⟩
      rintro σ' H3' ⟨mm, hmm, hge, rfl, rfl⟩
      obtain ⟨ys3, hw3⟩ := W3.pl
      have hR3 := g3.lst nRp (g2.lst nRp hRc)
      have hN3 := g3.lst nNp (g2.lst nNp hNc)
      have ex3 := (ex.gwT g2 hwc).gwT g3 hw2
      refine ⟨_, rfl, .inl ⟨rfl, _, SqL.of hR3⟩, _, rfl, p, l, ns, _, 21, rfl, by decide, cdw (by decide) (by decide), W3, by omega, fun r4 H4 s0 s1 W4 g4 => ⟨_, _, rfl, rfl, ?_⟩⟩
      obtain ⟨ys4, hw4⟩ := W4.pl
      refine ⟨_, rfl, _, rfl, _, rfl, p, l, ns, _, c, rfl, hc6, W4, by unfold BIG; omega, fun L ys ts H5 hL hL' ey tok W5 g5 => ⟨L, _, rfl, .inl ⟨SqL.of hL', fun t1 h1 => ⟨(by show 2 ≤ sizeLine; decide), fun t2 h2 => ⟨_, rfl, (by show 2 ≤ sizeLine; decide), fun t3 h3 => ?_⟩⟩⟩⟩⟩
      have k1 := Grow.new (o := .tup ys) h1
      have k2 := Grow.new (o := .tup [.int (r4 - 10), .ref t1]) h2
      have k3 := Grow.new (o := .tup [.ref t2, .bl ex1]) h3
      have eT : EncT _ (rwD ((r4 - 10, ts), ex1)) (.ref t3) := .tup (upd_same (a := t3) (o := .tup [.ref t2, .bl ex1])) (.cons ((EncB.tup upd_same (.cons (.int _) (.cons (((EncB.tup upd_same (ey.grow k1)).grow k2)) .nil))).grow k3) (.cons (.bl ex1) .nil))
      have kk := (k1.trans k2).trans k3
      have g45 := g4.trans' (g5.trans' kk.w)
      have hR5 := g45.lst nRp hR3
      have hN5 := g45.lst nNp hN3
      have ex5 := ex3.gwT g45 hw3
      have W6 := W5.grow kk
      have gg := ((g.trans' g2).trans' g3).trans' g45
      generalize upd (upd (upd H5 t1 (.tup ys)) t2 (.tup [.int (r4 - 10), .ref t1])) t3 (.tup [.ref t2, .bl ex1]) = H6 at eT hR5 hN5 ex5 W6 gg ⊢
      have hxl := ex.length
      rw [List.length_map] at hxl
      refine ⟨R, _, _, rfl, rfl, hR5, by rw [sizeLine_eq]; omega, ?_⟩
      have gu := gg.but hR (o := .lst (xs ++ [.ref t3]))
      refine ⟨_, rfl, .inl ⟨rfl, _, SqL.of (by rw [upd_ne nRN.symm]; exact hN5)⟩, _, rfl, N, _, _, rfl, rfl, by rw [upd_ne nRN.symm]; exact hN5, ?_, ?_⟩
      · have := ta.len
        rw [List.length_map, sizeLine_eq]
        omega
      have hR7 : upd H6 R (.lst (xs ++ [.ref t3])) R = some (.lst (xs ++ [.ref t3])) := upd_same
      have hN7 : upd H6 R (.lst (xs ++ [.ref t3])) N = some (.lst (ms.map V.int)) := by rw [upd_ne nRN.symm]; exact hN5
      refine ⟨_, _, _, xs ++ [.ref t3], rs ++ [((r4 - 10, ts), ex1)], ms ++ [mm], rfl, by rw [upd_ne nRN]; exact upd_same, ?_, ?_, by rw [List.length_append, hrl]; rfl, ta.push tok.asc tok.rg (by show (r4 - 10).natAbs ≤ 10; omega) hmm hge, ((W6.upd nRp nRl).upd nNp nNl).more (by omega), gu.but hN0⟩
      · rw [List.map_append]
        exact (encs_push (ex5.gwT GrowW.upd hR5) (eT.gwT GrowW.upd hR5)).gwT GrowW.upd hN7
      · rw [upd_same, List.map_append]
        rfl
    · obtain ⟨v6, v7, v8, xs, rs, ms, rfl, hRc, ex, hNc, hrl, ta, Wc, g⟩ := hq
      obtain ⟨ysc, hwc⟩ := Wc.pl
      have hxl := ex.length
      rw [List.length_map] at hxl
      refine ⟨_, rfl, _, rfl, R, N, xs, rs, ms, c, rfl, .inl hRc, ex.any, .inl hNc, ta.len.symm, by omega, ta.ln hc6, (fun x hx => Nat.lt_of_le_of_lt (ta.mb x hx) (by decide)), fun T tt ts H1 hT et st g1 => ?_⟩
      refine ⟨T, _, rfl, SqT.of hT, rfl, _, _, rfl, _, _, rfl, rfl, ?_⟩
      obtain ⟨_, zs, htt, hzs, ez⟩ := encT et
      cases htt
      have W1c := Wc.grow g1
      obtain ⟨ys1, hw1⟩ := W1c.pl
      refine ⟨_, rfl, _, rfl, _, _, rfl, rfl, _, rfl, p, l, ns, _, 5, rfl, by decide, cdw (by decide) (by decide), W1c, by omega, fun d H2 d0 d5 W2 g2 => ⟨_, _, rfl, rfl, ?_⟩⟩
      have hzs2 := g2.tup hw1 hzs
      have ez2 := ez.gwT g2 hw1
      have hzl := ez.length
      rw [List.length_map] at hzl
      have hts : ts.length ≤ 6 := by
        have := asc_len (lo := 0) (hi := 6) st.asc fun t ht => ⟨(st.is t ht).2.2.1, (st.is t ht).2.2.2⟩
        omega
      refine ⟨_, rfl, tt, rfl, ⟨_, SqT.of hzs2⟩, fun D hD => ?_⟩
      refine lc_tup (K := K) (xs := zs) (fun j Hx => ∃ vs, Hx D = some (.lst vs) ∧ EncsT Hx (((ts.map fun t => (t.1, -t.2)).take j).map tmD) vs ∧ Grow H2 Hx) ⟨[], upd_same, .nil, Grow.new hD⟩ (fun j Hx _ hq => SqT.of (hq.choose_spec.2.2.tup hzs2)) (fun j z Hx hz hq => ?_) (fun H3 hq => ?_)
      · obtain ⟨vs, hacc, ev, gx⟩ := hq
        obtain ⟨d1, hd1, ezz⟩ := ez2.get hz
        obtain ⟨t, ht, rfl⟩ := map_get hd1
        obtain ⟨b, _, _, rfl, hb, f0, f1⟩ := enc2 (ezz.grow gx)
        cases encI f0
        cases encI f1
        have hvl := ev.length
        rw [List.length_map, List.length_take, List.length_map] at hvl
        refine ⟨b, _, rfl, SqT.of hb, rfl, _, _, rfl, _, _, rfl, rfl, (by rw [wipe_put (by decide), wipe_put (by decide), wipe_again]), ?_⟩
        unfold tYes
        refine iteT ⟨_, rfl, _, rfl, _, rfl, (by show 2 ≤ sizeLine; decide), fun T hT => ?_⟩
        have gT := Grow.new (o := .tup [.int t.1, .int (-t.2)]) hT
        have hacc' := gT.lst hacc
        have eT : EncT (upd Hx T (.tup [.int t.1, .int (-t.2)])) (tmD (t.1, -t.2)) (.ref T) := .tup upd_same (.cons (.int _) (.cons (.int _) .nil))
        refine ⟨vs, hacc', by rw [sizeLine_eq]; omega, _, upd_same, ?_, (gx.trans gT).upd' hD⟩
        rw [List.take_succ, List.getElem?_map, ht, List.map_append]
        exact encs_push ((ev.grow gT).gwT GrowW.upd hacc') (eT.gwT GrowW.upd hacc')
      obtain ⟨vs, hacc, ev, gx⟩ := hq
      rw [List.take_of_length_le (by rw [List.length_map]; omega)] at ev
      refine ⟨D, _, rfl, .inl ⟨SqL.of hacc, fun t1 h1 => ⟨(by show 2 ≤ sizeLine; decide), fun t2 h2 => ?_⟩⟩⟩
      have k1 := Grow.new (o := .tup vs) h1
      have k2 := Grow.new (o := .tup [.int (-sumC (rs.zip ms) - 1 - d), .ref t1]) h2
      have eL : EncT _ (lnD (-sumC (rs.zip ms) - 1 - d, ts.map fun t => (t.1, -t.2))) (.ref t2) := .tup (upd_same (a := t2) (o := .tup [.int (-sumC (rs.zip ms) - 1 - d), .ref t1])) (.cons (.int _) (.cons (((EncB.tup upd_same (ev.grow k1)).grow k2)) .nil))
      have gg := (((g.trans' g1.w).trans' g2).trans' ((gx.trans k1).trans k2).w)
      have W3 := W2.grow ((gx.trans k1).trans k2)
      have kk := ((gx.trans k1).trans k2)
      have hR3 := kk.lst (g2.lst nRp (g1.lst hRc))
      have hN3 := kk.lst (g2.lst nNp (g1.lst hNc))
      have ex3 := ((ex.grow g1).gwT g2 hw1).grow kk
      generalize upd (upd H3 t1 (.tup vs)) t2 (.tup [.int (-sumC (rs.zip ms) - 1 - d), .ref t1]) = H4 at eL gg W3 hR3 hN3 ex3 ⊢
      obtain ⟨ys4, hw4⟩ := W3.pl
      refine ⟨_, rfl, _, rfl, _, _, rfl, rfl, p, l, ns, _, _, rfl, by omega, cdw (by omega) (Nat.lt_of_le_of_lt (show _ ≤ 6 by omega) (by decide)), W3, by omega, fun j H5 j0 j1 W5 g5 => ?_⟩
      obtain ⟨jn, rfl⟩ := Int.eq_ofNat_of_zero_le j0
      have hR5 := g5.lst nRp hR3
      have hN5 := g5.lst nNp hN3
      have ex5 := ex3.gwT g5 hw4
      have eL5 := eL.gwT g5 hw4
      obtain ⟨ys5, hw5⟩ := W5.pl
      have hjx : jn ≤ xs.length := by omega
      have hjm : jn ≤ (ms.map V.int).length := by rw [List.length_map, ← ta.len]; omega
      refine ⟨_, rfl, ?_⟩
      dsimp only [tNoPart]
      refine ⟨_, rfl, _, rfl, R, _, rfl, SqL.of hR5, fun q1 hq1 => ?_⟩
      rw [cutV_take xs jn hjx]
      have j1' := Grow.new (o := .lst (xs.take jn)) hq1
      have hR6 := j1'.lst hR5
      have hN6 := j1'.lst hN5
      have hq1' := upd_same (H := H5) (a := q1) (o := .lst (xs.take jn))
      have ex6 := ex5.grow j1'
      have eL6 := eL5.grow j1'
      have W6 := W5.grow j1'
      have gg6 := (gg.trans' g5).trans' j1'.w
      have nq1p := (W5.np hq1).1
      generalize upd H5 q1 (.lst (xs.take jn)) = H6 at hR6 hN6 hq1' ex6 eL6 W6 gg6 ⊢
      obtain ⟨ys6, hw6⟩ := W6.pl
      refine ⟨_, rfl, _, rfl, p, l, ns, _, 4, rfl, by decide, cdw (by decide) (by decide), W6, by omega, fun r H7 r0 r1 W7 g7 => ⟨rfl, (by show 2 ≤ sizeLine; decide), fun t3 h3 => ⟨(by show 1 ≤ sizeLine; decide), fun l4 h4 => ?_⟩⟩⟩
      have hR7 := g7.lst nRp hR6
      have hN7 := g7.lst nNp hN6
      have hq17 := g7.lst nq1p hq1'
      have ex7 := ex6.gwT g7 hw6
      have eL7 := eL6.gwT g7 hw6
      have gg7 := gg6.trans' g7
      generalize decide (V.int r = V.int 0) = exb at h4 ⊢
      have a3 := Grow.new (o := .tup [.ref t2, .bl exb]) h3
      have eT3 : EncT (upd H7 t3 (.tup [.ref t2, .bl exb])) (rwD ((-sumC (rs.zip ms) - 1 - d, ts.map fun t => (t.1, -t.2)), exb)) (.ref t3) := .tup (upd_same (H := H7) (a := t3) (o := .tup [.ref t2, .bl exb])) (.cons (eL7.grow a3) (.cons (.bl exb) .nil))
      have a4 := Grow.new (o := .lst [.ref t3]) h4
      have hl4 := upd_same (H := upd H7 t3 (.tup [.ref t2, .bl exb])) (a := l4) (o := .lst [V.ref t3])
      have eAll : EncsT (upd (upd H7 t3 (.tup [.ref t2, .bl exb])) l4 (.lst [.ref t3])) ((rs.take jn ++ [((-sumC (rs.zip ms) - 1 - d, ts.map fun t => (t.1, -t.2)), exb)] ++ rs.drop jn).map rwD) (xs.take jn ++ [.ref t3] ++ xs.drop jn) := by
        have e1 := ex7.grow (a3.trans a4)
        have e2 := encs_app (encs_app (encs_take e1 jn) (.cons (eT3.grow a4) .nil)) (encs_drop e1 jn)
        rw [List.map_append, List.map_append, List.map_take, List.map_drop]
        exact e2
      have a34 := a3.trans a4
      have hR8 := a34.lst hR7
      have hN8 := a34.lst hN7
      have hq18 := a34.lst hq17
      have W8 := W7.grow a34
      have gg8 := gg7.trans' a34.w
      generalize upd (upd H7 t3 (.tup [.ref t2, .bl exb])) l4 (.lst [.ref t3]) = H8 at hl4 eAll hR8 hN8 hq18 W8 gg8 ⊢
      refine ⟨q1, l4, _, _, rfl, rfl, hq18, hl4, ?_, fun q5 h5 => ?_⟩
      · rw [List.length_take, sizeLine_eq]
        show _ + 1 ≤ _
        omega
      have a5 := Grow.new (o := .lst (xs.take jn ++ [.ref t3])) h5
      refine ⟨_, rfl, _, rfl, _, rfl, ?_⟩
      dsimp only [tNoPart]
      refine ⟨R, _, rfl, SqL.of (a5.lst hR8), fun q6 h6 => ?_⟩
      rw [cutV_drop xs jn hjx]
      have a6 := Grow.new (o := .lst (xs.drop jn)) h6
      refine ⟨q5, q6, _, _, rfl, rfl, a6.lst upd_same, upd_same, ?_, fun q7 h7 => ?_⟩
      · rw [List.length_append, List.length_take, List.length_drop, sizeLine_eq]
        show _ + 1 + _ ≤ _
        omega
      have a7 := Grow.new (o := .lst (xs.take jn ++ [.ref t3] ++ xs.drop jn)) h7
      have a57 := (a5.trans a6).trans a7
      have hN9 := a57.lst hN8
      have hq7 := upd_same (H := upd (upd H8 q5 (.lst (xs.take jn ++ [.ref t3]))) q6 (.lst (xs.drop jn))) (a := q7) (o := .lst (xs.take jn ++ [V.ref t3] ++ xs.drop jn))
      have eAll9 := eAll.grow a57
      have W9 := W8.grow a57
      have gg9 := gg8.trans' a57.w
      have hq7n : H q7 = none := by
        have e1 := (a5.trans a6).none' h7
        exact gg8.none' (fun z => by obtain ⟨⟨c, a, b, hh, _⟩, _⟩ := W8; rw [z, hh] at e1; cases e1) e1
      generalize upd (upd (upd H8 q5 (.lst (xs.take jn ++ [.ref t3]))) q6 (.lst (xs.drop jn))) q7 (.lst (xs.take jn ++ [.ref t3] ++ xs.drop jn)) = H9 at hN9 hq7 eAll9 W9 gg9 ⊢
      refine ⟨_, rfl, ?_⟩
      dsimp only [tNoPart]
      refine ⟨_, rfl, _, rfl, N, _, rfl, SqL.of hN9, fun q8 h8 => ?_⟩
      rw [cutV_take _ jn hjm]
      have a8 := Grow.new (o := .lst ((ms.map V.int).take jn)) h8
      refine ⟨(by show 1 ≤ sizeLine; decide), fun l9 h9 => ?_⟩
      have a9 := Grow.new (o := .lst [.int 1]) h9
      refine ⟨q8, l9, _, _, rfl, rfl, a9.lst upd_same, upd_same, ?_, fun q10 h10 => ?_⟩
      · rw [List.length_take, sizeLine_eq]
        show _ + 1 ≤ _
        omega
      have a10 := Grow.new (o := .lst ((ms.map V.int).take jn ++ [.int 1])) h10
      refine ⟨_, rfl, _, rfl, _, rfl, ?_⟩
      dsimp only [tNoPart]
      refine ⟨N, _, rfl, SqL.of (((a8.trans a9).trans a10).lst hN9), fun q11 h11 => ?_⟩
      rw [cutV_drop _ jn hjm]
      have a11 := Grow.new (o := .lst ((ms.map V.int).drop jn)) h11
      refine ⟨q10, q11, _, _, rfl, rfl, a11.lst upd_same, upd_same, ?_, fun q12 h12 => ?_⟩
      · have := ta.len
        rw [List.length_append, List.length_take, List.length_drop, List.length_map, sizeLine_eq]
        show _ + 1 + _ ≤ _
        omega
      have a12 := Grow.new (o := .lst ((ms.map V.int).take jn ++ [.int 1] ++ (ms.map V.int).drop jn)) h12
      refine ⟨q12, _, rfl, .inl ⟨SqL.of upd_same, fun t13 h13 => ⟨(by show 2 ≤ sizeLine; decide), fun T h14 => ?_⟩⟩⟩
      have a13 := Grow.new (o := .tup ((ms.map V.int).take jn ++ [.int 1] ++ (ms.map V.int).drop jn)) h13
      have a14 := Grow.new (o := .tup [.ref q7, .ref t13]) h14
      have aa := (((((a8.trans a9).trans a10).trans a11).trans a12).trans a13).trans a14
      refine k T q7 t13 _ _ (ms.take jn ++ [1] ++ ms.drop jn) _ upd_same hq7n (aa.lst hq7) (eAll9.grow aa) ?_ ?_ (ta.torn hc6 (by omega) st d0 d5 exb jn (by omega)) ((W9.grow aa).more (by omega)) (gg9.trans' aa.w)
      · have := a14.tup (upd_same (a := t13) (o := .tup ((ms.map V.int).take jn ++ [V.int 1] ++ (ms.map V.int).drop jn)))
        rw [this, List.map_append, List.map_append, List.map_take, List.map_drop]
        rfl
      · rw [List.length_append, List.length_append, List.length_take, List.length_drop]
        show _ + 1 + _ = _
        omega
end
end J1
set_option Elab.async false
set_option linter.all false
set_option maxRecDepth 100000
set_option maxHeartbeats 4000000
namespace L2
open PySem PySem.Spec PyProof.Rows
theorem tuple_mulNil (l : Addr) (items : Array Value) (n : Nat) (dd : Option Addr) (sl : Array (Option Value)) (x : Int) (u : Tok) (c0 : (decide (x < -(2 ^ 63)) || decide (x ≥ 2 ^ 63)) = false) (c1 : (items.isEmpty || x == 1) = false) (c2 : (decide (x ≤ 0) || items.isEmpty) = true) :
    Meets (Builtin.«tuple.__mul__» ⟨[.ref l, .int x u], []⟩) (fun _ R s => s.heap.get? l = some { cls := .type "tuple", dict := dd, data := .seq items n, slots := sl } ∧
      R (.ok (.ret (Value.ref s.heap.objs.size))) { s with heap := s.heap.push { cls := Value.type "tuple", data := Data.seq #[] }, toks := s.toks }) :=
  .of_wp fun prog w A R s h => by
    obtain ⟨hp, g, d, tk, os⟩ := s
    obtain ⟨hl, h⟩ := h
    have f1 := AutoSeq1.idx_int
    wp_walk using wpAny_loadPart' hl
    repeat (first
      | (refine wpAny_ite_false (decide_eq_false (by rw [c0]; exact Bool.false_ne_true)) ?_; wp_walk using wpAny_loadPart' hl)
      | (refine wpAny_ite_false (decide_eq_false (by rw [c1]; exact Bool.false_ne_true)) ?_; wp_walk using wpAny_loadPart' hl)
      | (refine wpAny_ite_true (decide_eq_true c2) ?_; wp_walk using wpAny_loadPart' hl))
    exact ⟨_, rfl, h⟩
theorem tuple_mulSame (l : Addr) (items : Array Value) (n : Nat) (dd : Option Addr) (sl : Array (Option Value)) (u : Tok) :
    Meets (Builtin.«tuple.__mul__» ⟨[.ref l, .int 1 u], []⟩) (fun _ R s => s.heap.get? l = some { cls := .type "tuple", dict := dd, data := .seq items n, slots := sl } ∧
      R (.ok (.ret (Value.ref l))) s) :=
  .of_wp fun prog w A R s h => by
    obtain ⟨hp, g, d, tk, os⟩ := s
    obtain ⟨hl, h⟩ := h
    have f1 := AutoSeq1.idx_int
    have c1 : (items.isEmpty || (1 : Int) == 1) = true := by simp
    wp_walk using wpAny_loadPart' hl
    repeat (first
      | (refine wpAny_ite_true (decide_eq_true c1) ?_; wp_walk using wpAny_loadPart' hl))
    exact ⟨_, rfl, h⟩
theorem rep_one {α : Type} (a : α) : ∀ m : Nat, (List.replicate m [a]).flatten = List.replicate m a
  | 0 => rfl
  | m + 1 => by rw [List.replicate_succ, List.flatten_cons, rep_one a m]; rfl
theorem vals_rep1 {x : V} {v : Value} (h : RelV x v) : ∀ m : Nat, Vals (List.replicate m x) (List.replicate m v)
  | 0 => .nil
  | m + 1 => .cons h (vals_rep1 h m)
/-- (x,) * k, whatever k -/
def rRepX (K : PySem.W.Frag) : R2 := fun x y H Q => ∃ l k x0, x = .ref l ∧ y = .int k ∧ SqT K H l [x0] ∧ k.natAbs ≤ 100000 ∧ (k = 1 → Q (.ref l) H) ∧ (k ≠ 1 → ∀ p, H p = none → Q (.ref p) (upd H p (.tup (List.replicate k.toNat x0))))
theorem op_repX {X : Cx} : OpR X (binaryOp .Mult) (rRepX X.K) := by
  intro pins s σ H x y v u Q I rx ry h
  obtain ⟨l, k, x0, rfl, rfl, hT, h1, q1, q2⟩ := h
  cases rx
  obtain ⟨t, rfl⟩ := ry
  obtain ⟨its, r, ⟨⟨cls, dd, data, sl⟩, ho, hc, n, hd⟩, _⟩ := I.tuple hT
  simp only at hc hd
  subst hc hd
  obtain ⟨v0, rfl, r0⟩ := vals1 r
  have b0 : (decide (k < -(2 ^ 63)) || decide (k ≥ 2 ^ 63)) = false := by
    rw [Bool.or_eq_false_iff, decide_eq_false_iff_not, decide_eq_false_iff_not]
    omega
  by_cases hk1 : k = 1
  · subst hk1
    have mul := tuple_mulSame l [v0].toArray n dd sl t
    refine wpAny_binaryOp_repeat_ref (T := "tuple") (U := "int") (by decide) ⟨_, ho, rfl⟩ (fun s' => typeIs_int s' 1 t) noFill_tuple_mul F.fills_int_mul F.slot_int_rmul repeat_tuple F.slot_int_index.lookup
      (call_meets F.slot_int_rmul (typeIs_int s 1 t) F.entry_int_rmul (F.args_int_rmul_2 _ _) (int_rmul_tuple 1 t l [v0].toArray n dd sl)
        ⟨ho, rfl, ⟨_, ho, rfl⟩, call_meets F.slot_tuple_mul ⟨_, ho, rfl⟩ F.entry_tuple_mul (F.args_tuple_mul_2 _ _) mul ⟨ho, ?_⟩⟩)
    exact ⟨.ref l, H, I, rfl, q1 rfl⟩
  have b1 : ([v0].toArray.isEmpty || k == 1) = false := beq_eq_false_iff_ne.mpr hk1
  by_cases hk0 : k ≤ 0
  · have b2 : (decide (k ≤ 0) || [v0].toArray.isEmpty) = true := by rw [decide_eq_true hk0]; rfl
    have mul := tuple_mulNil l [v0].toArray n dd sl k t b0 b1 b2
    refine wpAny_binaryOp_repeat_ref (T := "tuple") (U := "int") (by decide) ⟨_, ho, rfl⟩ (fun s' => typeIs_int s' k t) noFill_tuple_mul F.fills_int_mul F.slot_int_rmul repeat_tuple F.slot_int_index.lookup
      (call_meets F.slot_int_rmul (typeIs_int s k t) F.entry_int_rmul (F.args_int_rmul_2 _ _) (int_rmul_tuple k t l [v0].toArray n dd sl)
        ⟨ho, rfl, ⟨_, ho, rfl⟩, call_meets F.slot_tuple_mul ⟨_, ho, rfl⟩ F.entry_tuple_mul (F.args_tuple_mul_2 _ _) mul ⟨ho, ?_⟩⟩)
    have e : k.toNat = 0 := by omega
    have q2 := q2 hk1
    rw [e] at q2
    refine ⟨.ref s.heap.objs.size, _, I.laid (t' := s.toks) (o := .tup []) (fun _ _ z => Heap.get?_push_of_some _ z) (Nat.le_refl _) ?_, rfl, q2 _ (I.hok.fresh (Nat.le_refl _))⟩
    exact ⟨Nat.zero_le _, _, .nil, IsTup.new _ _⟩
  have len : (List.foldl (fun x1 x2 => x1 ++ x2) #[] (List.replicate k.toNat [v0].toArray)) = (List.replicate k.toNat v0).toArray := by rw [size_rep, rep_one]
  have few : (List.replicate k.toNat v0).length ≤ sizeLine := by rw [List.length_replicate, sizeLine_eq]; omega
  have big : ((([v0].toArray.size : Nat)) : Int) * k ≤ 100000 := by show (1 : Int) * k ≤ 100000; omega
  have b2 : (decide (k ≤ 0) || [v0].toArray.isEmpty) = false := by
    rw [Bool.or_eq_false_iff]
    exact ⟨decide_eq_false hk0, rfl⟩
  have b4 : Builtin.Tuple.tupleTooMany (((([v0].toArray.size : Nat)) : Int) * k) = false := by
    unfold Builtin.Tuple.tupleTooMany
    rw [sizeLine_eq]
    exact decide_eq_false (by omega)
  have mul := tuple_mulW l [v0].toArray n dd sl k t b0 b1 b2 (by omega) b4 (by rw [len, List.size_toArray]; exact few)
  refine wpAny_binaryOp_repeat_ref (T := "tuple") (U := "int") (by decide) ⟨_, ho, rfl⟩ (fun s' => typeIs_int s' k t) noFill_tuple_mul F.fills_int_mul F.slot_int_rmul repeat_tuple F.slot_int_index.lookup
    (call_meets F.slot_int_rmul (typeIs_int s k t) F.entry_int_rmul (F.args_int_rmul_2 _ _) (int_rmul_tuple k t l [v0].toArray n dd sl)
      ⟨ho, rfl, ⟨_, ho, rfl⟩, call_meets F.slot_tuple_mul ⟨_, ho, rfl⟩ F.entry_tuple_mul (F.args_tuple_mul_2 _ _) mul ⟨ho, ?_⟩⟩)
  rw [len]
  refine ⟨.ref s.heap.objs.size, _, I.laid (t' := s.toks) (o := .tup (List.replicate k.toNat x0)) (fun _ _ z => Heap.get?_push_of_some _ z) (Nat.le_refl _) ?_, rfl, q2 hk1 _ (I.hok.fresh (Nat.le_refl _))⟩
  exact ⟨by rw [List.length_replicate, sizeLine_eq]; omega, _, vals_rep1 r0 _, IsTup.new _ _⟩
end L2
set_option Elab.async false
set_option linter.all false
set_option maxRecDepth 100000
set_option maxHeartbeats 4000000
namespace J1
open PySem PySem.Spec PyProof.Rows L2 GxR GA RZ
/-! ### displays of things: what they lay down holds what they say -/
def MkE (B : Addr → Prop) (σ : L2.St) (H : Hp) (t : TE) (d : Da) : Prop := ∀ H1, Grow H H1 → ∀ Q : VK, (∀ x H', Grow H1 H' → EncB B H' d x → Q x H') → t σ H1 Q
def MkA (B : Addr → Prop) (σ : L2.St) (H : Hp) (t : TA) (ds : List Da) : Prop := ∀ H1, Grow H H1 → ∀ Q : List V → Hp → Prop, (∀ xs H', Grow H1 H' → EncsB B H' ds xs → Q xs H') → t σ H1 Q
section
variable {B : Addr → Prop} {σ : L2.St} {H : Hp}
theorem mk_int {k : Int} : MkE B σ H (tC (.int k)) (.int k) := fun H1 _ Q q => q _ H1 (Grow.refl _) (.int k)
theorem mk_bl {k : Bool} : MkE B σ H (tC (.bl k)) (.bl k) := fun H1 _ Q q => q _ H1 (Grow.refl _) (.bl k)
theorem mk_non : MkE B σ H (tC .non) .non := fun H1 _ Q q => q _ H1 (Grow.refl _) .non
theorem mk_str {s : Str} (h : SOk s) : MkE B σ H (tC (.str s)) (.str s) := fun H1 _ Q q => q _ H1 (Grow.refl _) (.str s h)
theorem mk_neg {k : Int} : MkE B σ H (tUn (rU fun i => .int (-i)) (tC (.int k))) (.int (-k)) := fun H1 _ Q q => ⟨k, rfl, q _ H1 (Grow.refl _) (.int _)⟩
theorem mk_v {i : Nat} {x : V} {d : Da} (e : σ[i]? = some (some x)) (h : EncB B H d x) : MkE B σ H (tVar i) d := fun H1 g Q q => ⟨x, e, q x H1 (Grow.refl _) (h.grow g)⟩
theorem mk_i {t : TE} {v : Int} (h : ∀ (H1 : Hp) (Q : VK), Q (.int v) H1 → t σ H1 Q) : MkE B σ H t (.int v) := fun H1 _ Q q => h H1 Q (q _ H1 (Grow.refl _) (.int v))
theorem mk_b {t : TE} {v : Bool} (h : ∀ (H1 : Hp) (Q : VK), Q (.bl v) H1 → t σ H1 Q) : MkE B σ H t (.bl v) := fun H1 _ Q q => h H1 Q (q _ H1 (Grow.refl _) (.bl v))
theorem mks_nil : MkA B σ H tNil [] := fun H1 _ Q q => q [] H1 (Grow.refl _) .nil
theorem mks_cons {t : TE} {ts : TA} {d : Da} {ds : List Da} (h : MkE B σ H t d) (r : MkA B σ H ts ds) : MkA B σ H (tCons t ts) (d :: ds) := fun H1 g Q q =>
  h H1 g _ fun x H2 g2 e => r H2 (g.trans g2) _ fun xs H3 g3 es => q (x :: xs) H3 (g2.trans g3) (.cons (e.grow g3) es)
theorem mk_tup {ts : TA} {ds : List Da} (h : MkA B σ H ts ds) (z : ds.length ≤ 1000) : MkE B σ H (tTup ts) (.tup ds) := fun H1 g Q q =>
  h H1 g _ fun xs H2 g2 es => ⟨by have := es.length; rw [sizeLine_eq]; omega, fun p hp => q _ _ (g2.trans (Grow.new hp)) (.tup upd_same (es.grow (Grow.new hp)))⟩
theorem mk_lst {ts : TA} {ds : List Da} (hB : ∀ a H', Grow H H' → H' a = none → B a) (h : MkA B σ H ts ds) (z : ds.length ≤ 1000) : MkE B σ H (tLst ts) (.lst ds) := fun H1 g Q q =>
  h H1 g _ fun xs H2 g2 es => ⟨by have := es.length; rw [sizeLine_eq]; omega, fun p hp => q _ _ (g2.trans (Grow.new hp)) (.lst upd_same (es.grow (Grow.new hp)) (hB p H2 (g.trans g2) hp))⟩
theorem mk_run {t : TE} {d : Da} (h : MkE B σ H t d) {Q : VK} (q : ∀ x H', Grow H H' → EncB B H' d x → Q x H') : t σ H Q := h H (Grow.refl _) Q q
theorem lst_run {ts : TA} {ds : List Da} (h : MkA B σ H ts ds) (z : ds.length ≤ 1000) {Q : VK} (q : ∀ a xs H', H' a = some (.lst xs) → H a = none → EncsB B H' ds xs → Grow H H' → Q (.ref a) H') : tLst ts σ H Q :=
  h H (Grow.refl _) _ fun xs H2 g2 es => ⟨by have := es.length; rw [sizeLine_eq]; omega, fun p hp => q p xs _ upd_same (g2.none' hp) (es.grow (Grow.new hp)) (g2.trans (Grow.new hp))⟩
end
/-- nothing that is laid down stands at a list that stood -/
theorem newP {p : Addr} {H : Hp} {ys : List V} (h : H p = some (.lst ys)) : ∀ a H', Grow H H' → H' a = none → a ≠ p := fun a H' g e z => by
  rw [z, g.lst h] at e
  cases e
end J1
set_option Elab.async false
set_option linter.all false
set_option maxRecDepth 100000
set_option maxHeartbeats 4000000
namespace J1
open PySem PySem.Spec PyProof.Rows L2 GxR GA RZ
abbrev lBd : Stmt := top 73
theorem cBd : FnScope ["_law_well_here", "_law_count", "_law_rows", "_law_wide", "_law_good", "_law_rest", "_law_at", "_law_bad", "_law_pick", "_law_whole"] ["_law_well_here", "_law_count", "_law_rows"] (defScope lBd) := ⟨rfl, rfl, rfl, by decide +kernel, rfl, by decide +kernel, by decide +kernel⟩
theorem isSy_bad {w : Int} {l : List Da} {d : Da} (hd : d ∈ l) (h : isRw w d = false) : isSy (.tup [.int w, .tup l]) = false := by
  show (decide (0 ≤ w) && decide (w ≤ 4000) && decide ((l.length : Int) ≤ 12000) && l.all (isRw w)) = false
  have : l.all (isRw w) = false := by
    cases e : l.all (isRw w) with
    | false => rfl
    | true => rw [List.all_eq_true.mp e d hd] at h; cases h
  rw [this, Bool.and_false]
theorem all_bad {wd : Nat} (h : 3 ≤ wd) : ∀ d ∈ (([(.tup [(.tup [(.int 1), (.tup [(.tup [(.int (wd : Nat)), (.int 1)])])]), (.bl false)]), (.tup [(.tup [(.int 1), (.tup [(.tup [(.int (-1)), (.int 1)])])]), (.bl false)]), (.tup [(.tup [(.int 1), (.tup [(.tup [(.int 0), (.int 0)])])]), (.bl false)]), (.tup [(.tup [(.int 1), (.tup [(.tup [(.int 0), (.bl true)])])]), (.bl false)])] : List Da) ++ ([(.tup [(.tup [(.bl true), (.tup [])]), (.bl false)]), (.tup [(.tup [(.int 1), (.lst [(.tup [(.int 0), (.int 1)])])]), (.bl false)]), (.tup [(.tup [(.int 1), (.tup [(.tup [(.int 0), (.int 1)]), (.tup [(.int 0), (.int 2)])])]), (.bl false)]), (.tup [(.tup [(.int 1), (.tup [])]), (.int 1)])] : List Da) ++ ([(.lst [(.tup [(.int 1), (.tup [])]), (.bl false)]), (.tup [(.tup [(.int 1), (.tup [])])]), (.tup [(.tup [(.int 1), (.tup [])]), (.bl false), .non]), (.tup [(.int 1), (.bl false)]), (.tup [.non, (.bl false)]), (.tup [(.tup [(.int 1), (.tup [(.int 0), (.int 1)])]), (.bl true)])] : List Da) ++ ([(.tup [(.tup [(.int 1), (.tup [(.tup [(.bl true), (.int 1)])])]), (.bl false)]), (.tup [(.tup [(.int 1), (.tup [(.tup [(.int 1), (.int 1)]), (.tup [(.int 0), (.int 1)])])]), (.bl true)]), (.tup [(.tup [(.int 1), (.tup [(.tup [(.int 0), (.int 1), (.int 1)])])]), (.bl true)]), (.tup [(.tup [(.int 1), (.tup [])]), .non])] : List Da) ++ ([(.tup [(.tup [(.int 1), (.tup [.non])]), (.bl true)]), (.tup [(.lst [(.int 1), (.tup [])]), (.bl true)]), (.tup [(.tup [(.int 1)]), (.bl true)]), (.tup [(.tup [(.int 1), (.tup []), (.tup [])]), (.bl false)]), (.tup [(.tup [(.str "1"), (.tup [])]), (.bl true)]), .non] : List Da) : List Da), isRw (wd : Nat) d = false := by
  intro d hd
  simp only [List.mem_append, List.mem_cons, List.not_mem_nil, or_false] at hd
  have h1 : ¬ ((wd : Nat) : Int) ≤ (wd : Int) - 1 := by omega
  rcases hd with (((((hd | hd | hd | hd) | (hd | hd | hd | hd)) | (hd | hd | hd | hd | hd | hd)) | (hd | hd | hd | hd)) | (hd | hd | hd | hd | hd | hd))
  all_goals (subst hd; first | rfl | simp [isRw, isLn, isTms, h1] | skip)
theorem all_whole : ∀ d ∈ ([(.tup [(.bl true), (.tup [])]), (.tup [(.int (-1)), (.tup [])]), (.tup [(.int 4001), (.tup [])]), (.tup [(.int 3), (.lst [(.tup [.tup [.int (-3), .tup [.tup [.int 0, .int 2], .tup [.int 2, .int (-1)]]], .bl false])])]), (.lst [(.int 3), (.tup [(.tup [.tup [.int (-3), .tup [.tup [.int 0, .int 2], .tup [.int 2, .int (-1)]]], .bl false])])]), (.tup [(.int 3), (.tup [(.tup [.tup [.int (-3), .tup [.tup [.int 0, .int 2], .tup [.int 2, .int (-1)]]], .bl false])]), (.tup [])]), (.tup [(.int 3)]), .non, (.tup [.non, (.tup [])])] : List Da), isSy d = false := by
  intro d hd
  simp only [List.mem_cons, List.not_mem_nil, or_false] at hd
  rcases hd with hd | hd | hd | hd | hd | hd | hd | hd | hd
  all_goals (subst hd; first | rfl | simp [isSy])
def spBd : Sp := fun vs H Q _ => ∃ (p l L : Addr) (ns : List Int) (n c : Nat) (xs : List V) (rs : List Rw), vs = [.ref p, .int (c : Nat), .ref L] ∧ c ≤ 6 ∧ H L = some (.lst xs) ∧ L ≠ p ∧ EncsT H (rs.map rwD) xs ∧ rs.length ≤ 7 ∧ Wl H p l ns n ∧ n + 1000 ≤ BIG ∧
  ∀ (x : V) (d : Da) (H' : Hp), EncP p H' d x → isSy d = false → Wl H' p l ns (n + 2) → GrowW p H H' → Q x H'
section
variable {P : Program} {w : World} {K : PySem.W.Frag} {mg : Str → Option Value} {base : Heap}
theorem ok_bad {f fD : Addr} {fd fdD : FuncData} (F : Fun K "_law_no_system" "_law_no_system" lBd f fd) (M : Gd mg)
    (GD : FnOk P w K mg base CX0 1 fD fdD ["_law_well_here", "_law_many"] spDr) (DD : Df K mg "_law_draw" ["_law_well_here", "_law_many"] fD fdD) : FnOk P w K mg base CX0 2 f fd ["_law_well_here", "_law_count", "_law_rows"] spBd := by
  refine F.ok (k := 1) cBd (fun vs H Q E h => ?_) (fun cdv A outer s H vs Q E hr h => ?_)
  · obtain ⟨_, _, _, _, _, _, _, _, rfl, _⟩ := h
    rfl
  · obtain ⟨p, l, L, ns, n, c, xs, rs, rfl, hc6, hL, nLp, ex, hrs, W, hn, k⟩ := h
    refine ⟨_, (pss_cons (ps_set (i := 3) cBd.nd rfl (Or.inl rfl) (pe_callB (call_max2 rfl) (by rfl) M.max (by decide +kernel) (pa_cons (pv 1) (pa_cons pe_int pa_nil)))) (pss_cons (ps_set (i := 4) cBd.nd rfl (Or.inl rfl) (pe_tup (pa_cons (pe_tup (pa_cons (pe_un un_neg pe_int) (pa_cons (pe_tup (pa_cons (pe_tup (pa_cons pe_int (pa_cons pe_int pa_nil))) (pa_cons (pe_tup (pa_cons pe_int (pa_cons (pe_un un_neg pe_int) pa_nil))) pa_nil))) pa_nil))) (pa_cons pe_bl pa_nil)))) (pss_cons (ps_set (i := 5) cBd.nd rfl (Or.inl rfl) (pe_callTy call_list_of (by rfl) M.list (by decide +kernel) (pa_cons (pv 2) pa_nil))) (pss_cons (ps_set (i := 6) cBd.nd rfl (Or.inl rfl) (pe_call (GD.mono (by decide)) hr (by rfl) DD.g DD.k DD.b .nil pass0 (pa_cons (pv 0) (pa_cons (pe_op op_add (pe_callB call_len_seq (by rfl) M.len PySem.boot_len (pa_cons (pv 5) pa_nil)) pe_int) pa_nil)))) (pss_cons (ps_set (i := 7) cBd.nd rfl (Or.inl rfl) (pe_lst (pa_cons (pe_tup (pa_cons (pe_tup (pa_cons pe_int (pa_cons (pe_tup (pa_cons (pe_tup (pa_cons (pv 3) (pa_cons pe_int pa_nil))) pa_nil)) pa_nil))) (pa_cons pe_bl pa_nil))) (pa_cons (pe_tup (pa_cons (pe_tup (pa_cons pe_int (pa_cons (pe_tup (pa_cons (pe_tup (pa_cons (pe_un un_neg pe_int) (pa_cons pe_int pa_nil))) pa_nil)) pa_nil))) (pa_cons pe_bl pa_nil))) (pa_cons (pe_tup (pa_cons (pe_tup (pa_cons pe_int (pa_cons (pe_tup (pa_cons (pe_tup (pa_cons pe_int (pa_cons pe_int pa_nil))) pa_nil)) pa_nil))) (pa_cons pe_bl pa_nil))) (pa_cons (pe_tup (pa_cons (pe_tup (pa_cons pe_int (pa_cons (pe_tup (pa_cons (pe_tup (pa_cons pe_int (pa_cons pe_bl pa_nil))) pa_nil)) pa_nil))) (pa_cons pe_bl pa_nil))) pa_nil)))))) (pss_cons (ps_set (i := 7) cBd.nd rfl (Or.inl rfl) (pe_op op_cat (pv 7) (pe_lst (pa_cons (pe_tup (pa_cons (pe_tup (pa_cons pe_bl (pa_cons (pe_tup pa_nil) pa_nil))) (pa_cons pe_bl pa_nil))) (pa_cons (pe_tup (pa_cons (pe_tup (pa_cons pe_int (pa_cons (pe_lst (pa_cons (pe_tup (pa_cons pe_int (pa_cons pe_int pa_nil))) pa_nil)) pa_nil))) (pa_cons pe_bl pa_nil))) (pa_cons (pe_tup (pa_cons (pe_tup (pa_cons pe_int (pa_cons (pe_tup (pa_cons (pe_tup (pa_cons pe_int (pa_cons pe_int pa_nil))) (pa_cons (pe_tup (pa_cons pe_int (pa_cons pe_int pa_nil))) pa_nil))) pa_nil))) (pa_cons pe_bl pa_nil))) (pa_cons (pe_tup (pa_cons (pe_tup (pa_cons pe_int (pa_cons (pe_tup pa_nil) pa_nil))) (pa_cons pe_int pa_nil))) pa_nil))))))) (pss_cons (ps_set (i := 7) cBd.nd rfl (Or.inl rfl) (pe_op op_cat (pv 7) (pe_lst (pa_cons (pe_lst (pa_cons (pe_tup (pa_cons pe_int (pa_cons (pe_tup pa_nil) pa_nil))) (pa_cons pe_bl pa_nil))) (pa_cons (pe_tup (pa_cons (pe_tup (pa_cons pe_int (pa_cons (pe_tup pa_nil) pa_nil))) pa_nil)) (pa_cons (pe_tup (pa_cons (pe_tup (pa_cons pe_int (pa_cons (pe_tup pa_nil) pa_nil))) (pa_cons pe_bl (pa_cons pe_non pa_nil)))) (pa_cons (pe_tup (pa_cons pe_int (pa_cons pe_bl pa_nil))) (pa_cons (pe_tup (pa_cons pe_non (pa_cons pe_bl pa_nil))) (pa_cons (pe_tup (pa_cons (pe_tup (pa_cons pe_int (pa_cons (pe_tup (pa_cons pe_int (pa_cons pe_int pa_nil))) pa_nil))) (pa_cons pe_bl pa_nil))) pa_nil))))))))) (pss_cons (ps_set (i := 7) cBd.nd rfl (Or.inl rfl) (pe_op op_cat (pv 7) (pe_lst (pa_cons (pe_tup (pa_cons (pe_tup (pa_cons pe_int (pa_cons (pe_tup (pa_cons (pe_tup (pa_cons pe_bl (pa_cons pe_int pa_nil))) pa_nil)) pa_nil))) (pa_cons pe_bl pa_nil))) (pa_cons (pe_tup (pa_cons (pe_tup (pa_cons pe_int (pa_cons (pe_tup (pa_cons (pe_tup (pa_cons pe_int (pa_cons pe_int pa_nil))) (pa_cons (pe_tup (pa_cons pe_int (pa_cons pe_int pa_nil))) pa_nil))) pa_nil))) (pa_cons pe_bl pa_nil))) (pa_cons (pe_tup (pa_cons (pe_tup (pa_cons pe_int (pa_cons (pe_tup (pa_cons (pe_tup (pa_cons pe_int (pa_cons pe_int (pa_cons pe_int pa_nil)))) pa_nil)) pa_nil))) (pa_cons pe_bl pa_nil))) (pa_cons (pe_tup (pa_cons (pe_tup (pa_cons pe_int (pa_cons (pe_tup pa_nil) pa_nil))) (pa_cons pe_non pa_nil))) pa_nil))))))) (pss_cons (ps_set (i := 7) cBd.nd rfl (Or.inl rfl) (pe_op op_cat (pv 7) (pe_lst (pa_cons (pe_tup (pa_cons (pe_tup (pa_cons pe_int (pa_cons (pe_tup (pa_cons pe_non pa_nil)) pa_nil))) (pa_cons pe_bl pa_nil))) (pa_cons (pe_tup (pa_cons (pe_lst (pa_cons pe_int (pa_cons (pe_tup pa_nil) pa_nil))) (pa_cons pe_bl pa_nil))) (pa_cons (pe_tup (pa_cons (pe_tup (pa_cons pe_int pa_nil)) (pa_cons pe_bl pa_nil))) (pa_cons (pe_tup (pa_cons (pe_tup (pa_cons pe_int (pa_cons (pe_tup pa_nil) (pa_cons (pe_tup pa_nil) pa_nil)))) (pa_cons pe_bl pa_nil))) (pa_cons (pe_tup (pa_cons (pe_tup (pa_cons pe_str (pa_cons (pe_tup pa_nil) pa_nil))) (pa_cons pe_bl pa_nil))) (pa_cons pe_non pa_nil))))))))) (pss_cons (ps_set (i := 8) cBd.nd rfl (Or.inl rfl) (pe_call (GD.mono (by decide)) hr (by rfl) DD.g DD.k DD.b .nil pass0 (pa_cons (pv 0) (pa_cons (pe_op op_add (pe_callB call_len_seq (by rfl) M.len PySem.boot_len (pa_cons (pv 7) pa_nil)) pe_int) pa_nil)))) (pss_cons (ps_if (pt_cmpR op_lt (pv 8) (pe_callB call_len_seq (by rfl) M.len PySem.boot_len (pa_cons (pv 7) pa_nil)) (nomark _)) (pss_one (ps_ret (pe_tup (pa_cons (pv 3) (pa_cons (pe_callTy call_tuple_of (by rfl) M.tuple (by decide +kernel) (pa_cons (pe_op op_cat (pe_op op_cat (pe_op op_cat (pe_slice sl_list (pv 5) po_none (po_some (pv 6))) (pe_lst (pa_cons (pe_ix ix_list (pv 7) (pv 8) (fun _ _ => rfl)) pa_nil))) (pe_slice sl_list (pv 5) (po_some (pv 6)) po_none)) (pe_lst (pa_cons (pv 4) pa_nil))) pa_nil)) pa_nil))))) pss_nil) (pss_cons (ps_set (i := 9) cBd.nd rfl (Or.inl rfl) (pe_lst (pa_cons (pe_tup (pa_cons pe_bl (pa_cons (pe_tup pa_nil) pa_nil))) (pa_cons (pe_tup (pa_cons (pe_un un_neg pe_int) (pa_cons (pe_tup pa_nil) pa_nil))) (pa_cons (pe_tup (pa_cons pe_int (pa_cons (pe_tup pa_nil) pa_nil))) (pa_cons (pe_tup (pa_cons pe_int (pa_cons (pe_lst (pa_cons (pv 4) pa_nil)) pa_nil))) (pa_cons (pe_lst (pa_cons pe_int (pa_cons (pe_tup (pa_cons (pv 4) pa_nil)) pa_nil))) (pa_cons (pe_tup (pa_cons pe_int (pa_cons (pe_tup (pa_cons (pv 4) pa_nil)) (pa_cons (pe_tup pa_nil) pa_nil)))) (pa_cons (pe_tup (pa_cons pe_int pa_nil)) (pa_cons pe_non (pa_cons (pe_tup (pa_cons pe_non (pa_cons (pe_tup pa_nil) pa_nil))) pa_nil))))))))))) (pss_one (ps_ret (pe_ix ix_list (pv 9) (pe_op op_sub (pv 8) (pe_callB call_len_seq (by rfl) M.len PySem.boot_len (pa_cons (pv 7) pa_nil))) (fun _ _ => rfl)))))))))))))))), ?_⟩
    unfold BIG at hn
    have hxl := ex.length
    rw [List.length_map] at hxl
    refine ⟨_, rfl, _, _, rfl, ?_⟩
    have hw : (if (3 : Int) > (c : Int) then (3 : Int) else (c : Int)) = (((if c < 3 then 3 else c) : Nat) : Int) := by split <;> split <;> omega
    rw [hw]
    have w3 : 3 ≤ (if c < 3 then 3 else c) ∧ (if c < 3 then 3 else c) ≤ 6 := by split <;> omega
    generalize (if c < 3 then 3 else c) = wd at w3
    obtain ⟨ysp, hwp⟩ := W.pl
    dsimp only [gName, tSeq, tAsg]
    refine mk_run (B := fun a => a ≠ p) (d := .tup [.tup [.int (-3), .tup [.tup [.int 0, .int 2], .tup [.int 2, .int (-1)]]], .bl false]) ?_ fun xg H1 g1 eg => ?_
    · repeat (first | exact mks_nil | refine mks_cons ?_ ?_ | exact mk_int | exact mk_bl | exact mk_neg | exact mk_non | refine mk_tup ?_ (Nat.le_of_ble_eq_true rfl))
    have hL1 := g1.lst hL
    have ex1 := ex.grow g1
    have W1 := W.grow g1
    refine ⟨_, rfl, L, _, rfl, .inl (SqL.of hL1), fun R hR => ?_⟩
    have a0 := Grow.new (o := .lst xs) hR
    have nRp := (W1.np hR).1
    have hR1 := upd_same (H := H1) (a := R) (o := .lst xs)
    have ex2 := ex1.grow a0
    have W2 := W1.grow a0
    have eg2 := eg.grow a0
    have gg := (g1.trans a0).w (w := p)
    generalize upd H1 R (.lst xs) = H2 at hR1 ex2 W2 eg2 gg ⊢
    obtain ⟨ys2, hw2⟩ := W2.pl
    refine ⟨_, rfl, _, rfl, R, _, rfl, .inl (SqL.of hR1), _, _, rfl, rfl, p, l, ns, _, _, rfl, by omega, cdw (by omega) (Nat.lt_of_le_of_lt (show _ ≤ 8 by omega) (by decide)), W2, by omega, fun at0 H3 j0 j1 W3 g3 => ?_⟩
    obtain ⟨jn, rfl⟩ := Int.eq_ofNat_of_zero_le j0
    have hR3 := g3.lst nRp hR1
    have ex3 := ex2.gwT g3 hw2
    have eg3 := EncP.gw eg2 g3 hw2
    have gg3 := gg.trans' g3
    obtain ⟨ys3, hw3⟩ := W3.pl
    refine lst_run (B := fun a => a ≠ p) (ds := [(.tup [(.tup [(.int 1), (.tup [(.tup [(.int (wd : Nat)), (.int 1)])])]), (.bl false)]), (.tup [(.tup [(.int 1), (.tup [(.tup [(.int (-1)), (.int 1)])])]), (.bl false)]), (.tup [(.tup [(.int 1), (.tup [(.tup [(.int 0), (.int 0)])])]), (.bl false)]), (.tup [(.tup [(.int 1), (.tup [(.tup [(.int 0), (.bl true)])])]), (.bl false)])]) ?h1 ?z1 fun q1 zs1 K1 hq1 hn1 es1 k1 => ?_
    case h1 => repeat (first | exact mks_nil | refine mks_cons ?_ ?_ | exact mk_int | exact mk_bl | exact mk_neg | exact mk_non | exact mk_str ⟨by decide, by decide⟩ | exact mk_v rfl (EncB.int _) | refine mk_tup ?_ (Nat.le_of_ble_eq_true rfl) | refine mk_lst (newP hw3) ?_ (Nat.le_of_ble_eq_true rfl))
    case z1 => exact Nat.le_of_ble_eq_true rfl
    have hb1 := hq1
    have eb1 := es1
    have G1 := k1
    have hwk1 := G1.lst hw3
    refine ⟨_, rfl, lst_run (B := fun a => a ≠ p) (ds := [(.tup [(.tup [(.bl true), (.tup [])]), (.bl false)]), (.tup [(.tup [(.int 1), (.lst [(.tup [(.int 0), (.int 1)])])]), (.bl false)]), (.tup [(.tup [(.int 1), (.tup [(.tup [(.int 0), (.int 1)]), (.tup [(.int 0), (.int 2)])])]), (.bl false)]), (.tup [(.tup [(.int 1), (.tup [])]), (.int 1)])]) ?h2 ?z2 fun q2 zs2 K2 hq2 hn2 es2 k2 => ?_⟩
    case h2 => repeat (first | exact mks_nil | refine mks_cons ?_ ?_ | exact mk_int | exact mk_bl | exact mk_neg | exact mk_non | exact mk_str ⟨by decide, by decide⟩ | exact mk_v rfl (EncB.int _) | refine mk_tup ?_ (Nat.le_of_ble_eq_true rfl) | refine mk_lst (newP hwk1) ?_ (Nat.le_of_ble_eq_true rfl))
    case z2 => exact Nat.le_of_ble_eq_true rfl
    refine ⟨q1, q2, _, _, rfl, rfl, k2.lst hb1, hq2, (by have h1 := eb1.length; have h2 := es2.length; rw [← h1, ← h2, sizeLine_eq]; exact Nat.le_of_ble_eq_true rfl), fun b2 hb2n => ?_⟩
    have c2 := Grow.new (o := .lst (zs1 ++ zs2)) hb2n
    have eb2 := (encs_app (eb1.grow k2) es2).grow c2
    have hb2 := upd_same (H := K2) (a := b2) (o := .lst (zs1 ++ zs2))
    have G2 := (G1.trans k2).trans c2
    have hwk2 := G2.lst hw3
    generalize upd K2 b2 (.lst (zs1 ++ zs2)) = M2 at c2 eb2 hb2 G2 hwk2 ⊢
    refine ⟨_, rfl, lst_run (B := fun a => a ≠ p) (ds := [(.lst [(.tup [(.int 1), (.tup [])]), (.bl false)]), (.tup [(.tup [(.int 1), (.tup [])])]), (.tup [(.tup [(.int 1), (.tup [])]), (.bl false), .non]), (.tup [(.int 1), (.bl false)]), (.tup [.non, (.bl false)]), (.tup [(.tup [(.int 1), (.tup [(.int 0), (.int 1)])]), (.bl true)])]) ?h3 ?z3 fun q3 zs3 K3 hq3 hn3 es3 k3 => ?_⟩
    case h3 => repeat (first | exact mks_nil | refine mks_cons ?_ ?_ | exact mk_int | exact mk_bl | exact mk_neg | exact mk_non | exact mk_str ⟨by decide, by decide⟩ | exact mk_v rfl (EncB.int _) | refine mk_tup ?_ (Nat.le_of_ble_eq_true rfl) | refine mk_lst (newP hwk2) ?_ (Nat.le_of_ble_eq_true rfl))
    case z3 => exact Nat.le_of_ble_eq_true rfl
    refine ⟨b2, q3, _, _, rfl, rfl, k3.lst hb2, hq3, (by have h1 := eb2.length; have h2 := es3.length; rw [← h1, ← h2, sizeLine_eq]; exact Nat.le_of_ble_eq_true rfl), fun b3 hb3n => ?_⟩
    have c3 := Grow.new (o := .lst (zs1 ++ zs2 ++ zs3)) hb3n
    have eb3 := (encs_app (eb2.grow k3) es3).grow c3
    have hb3 := upd_same (H := K3) (a := b3) (o := .lst (zs1 ++ zs2 ++ zs3))
    have G3 := (G2.trans k3).trans c3
    have hwk3 := G3.lst hw3
    generalize upd K3 b3 (.lst (zs1 ++ zs2 ++ zs3)) = M3 at c3 eb3 hb3 G3 hwk3 ⊢
    refine ⟨_, rfl, lst_run (B := fun a => a ≠ p) (ds := [(.tup [(.tup [(.int 1), (.tup [(.tup [(.bl true), (.int 1)])])]), (.bl false)]), (.tup [(.tup [(.int 1), (.tup [(.tup [(.int 1), (.int 1)]), (.tup [(.int 0), (.int 1)])])]), (.bl true)]), (.tup [(.tup [(.int 1), (.tup [(.tup [(.int 0), (.int 1), (.int 1)])])]), (.bl true)]), (.tup [(.tup [(.int 1), (.tup [])]), .non])]) ?h4 ?z4 fun q4 zs4 K4 hq4 hn4 es4 k4 => ?_⟩
    case h4 => repeat (first | exact mks_nil | refine mks_cons ?_ ?_ | exact mk_int | exact mk_bl | exact mk_neg | exact mk_non | exact mk_str ⟨by decide, by decide⟩ | exact mk_v rfl (EncB.int _) | refine mk_tup ?_ (Nat.le_of_ble_eq_true rfl) | refine mk_lst (newP hwk3) ?_ (Nat.le_of_ble_eq_true rfl))
    case z4 => exact Nat.le_of_ble_eq_true rfl
    refine ⟨b3, q4, _, _, rfl, rfl, k4.lst hb3, hq4, (by have h1 := eb3.length; have h2 := es4.length; rw [← h1, ← h2, sizeLine_eq]; exact Nat.le_of_ble_eq_true rfl), fun b4 hb4n => ?_⟩
    have c4 := Grow.new (o := .lst (zs1 ++ zs2 ++ zs3 ++ zs4)) hb4n
    have eb4 := (encs_app (eb3.grow k4) es4).grow c4
    have hb4 := upd_same (H := K4) (a := b4) (o := .lst (zs1 ++ zs2 ++ zs3 ++ zs4))
    have G4 := (G3.trans k4).trans c4
    have hwk4 := G4.lst hw3
    generalize upd K4 b4 (.lst (zs1 ++ zs2 ++ zs3 ++ zs4)) = M4 at c4 eb4 hb4 G4 hwk4 ⊢
    refine ⟨_, rfl, lst_run (B := fun a => a ≠ p) (ds := [(.tup [(.tup [(.int 1), (.tup [.non])]), (.bl true)]), (.tup [(.lst [(.int 1), (.tup [])]), (.bl true)]), (.tup [(.tup [(.int 1)]), (.bl true)]), (.tup [(.tup [(.int 1), (.tup []), (.tup [])]), (.bl false)]), (.tup [(.tup [(.str "1"), (.tup [])]), (.bl true)]), .non]) ?h5 ?z5 fun q5 zs5 K5 hq5 hn5 es5 k5 => ?_⟩
    case h5 => repeat (first | exact mks_nil | refine mks_cons ?_ ?_ | exact mk_int | exact mk_bl | exact mk_neg | exact mk_non | exact mk_str ⟨by decide, by decide⟩ | exact mk_v rfl (EncB.int _) | refine mk_tup ?_ (Nat.le_of_ble_eq_true rfl) | refine mk_lst (newP hwk4) ?_ (Nat.le_of_ble_eq_true rfl))
    case z5 => exact Nat.le_of_ble_eq_true rfl
    refine ⟨b4, q5, _, _, rfl, rfl, k5.lst hb4, hq5, (by have h1 := eb4.length; have h2 := es5.length; rw [← h1, ← h2, sizeLine_eq]; exact Nat.le_of_ble_eq_true rfl), fun b5 hb5n => ?_⟩
    have c5 := Grow.new (o := .lst (zs1 ++ zs2 ++ zs3 ++ zs4 ++ zs5)) hb5n
    have eb5 := (encs_app (eb4.grow k5) es5).grow c5
    have hb5 := upd_same (H := K5) (a := b5) (o := .lst (zs1 ++ zs2 ++ zs3 ++ zs4 ++ zs5))
    have G5 := (G4.trans k5).trans c5
    have hwk5 := G5.lst hw3
    generalize upd K5 b5 (.lst (zs1 ++ zs2 ++ zs3 ++ zs4 ++ zs5)) = M5 at c5 eb5 hb5 G5 hwk5 ⊢
    have hzl : (zs1 ++ zs2 ++ zs3 ++ zs4 ++ zs5).length = 24 := by
      have h1 : zs1.length = 4 := by rw [← es1.length]; rfl
      have h2 : zs2.length = 4 := by rw [← es2.length]; rfl
      have h3 : zs3.length = 6 := by rw [← es3.length]; rfl
      have h4 : zs4.length = 4 := by rw [← es4.length]; rfl
      have h5 : zs5.length = 6 := by rw [← es5.length]; rfl
      rw [List.length_append, List.length_append, List.length_append, List.length_append, h1, h2, h3, h4, h5]
    have key := all_bad w3.1
    generalize hzb : zs1 ++ zs2 ++ zs3 ++ zs4 ++ zs5 = zb at hb5 eb5 hzl
    have hR5 := G5.lst hR3
    have ex5 := ex3.grow G5
    have egW0 := eg3.grow G5
    have W5 := W3.grow G5
    have gg5 := gg3.trans' G5.w
    obtain ⟨ys5, hw5⟩ := W5.pl
    have nb5p : b5 ≠ p := fun z => by
      rw [z, G5.lst hw3] at hb5
      have := hw3
      obtain ⟨⟨cc, aa, bb, hh, _⟩, _⟩ := W5
      rw [G5.lst hw3] at hh
      have e1 := HO.lst.inj (Option.some.inj hb5)
      have e2 := HO.lst.inj (Option.some.inj hh)
      rw [e2] at e1
      rw [← e1] at hzl
      cases hzl
    refine ⟨_, rfl, _, rfl, b5, _, rfl, .inl (SqL.of hb5), _, _, rfl, rfl, p, l, ns, _, _, rfl, by omega, cdw (by omega) (Nat.lt_of_le_of_lt (show _ ≤ 40 by omega) (by decide)), W5, by omega, fun pk H6 p0 p1 W6 g6 => ?_⟩
    obtain ⟨pn, rfl⟩ := Int.eq_ofNat_of_zero_le p0
    have hR6 := g6.lst nRp hR5
    have ex6 := ex5.gwT g6 hw5
    have egW := EncP.gw egW0 g6 hw5
    have hb6 := g6.lst nb5p hb5
    have eb6 := EncsP.gw eb5 g6 hw5
    have gg6 := gg5.trans' g6
    obtain ⟨ys6, hw6⟩ := W6.pl
    refine ⟨_, rfl, _, rfl, b5, _, rfl, .inl (SqL.of hb6), _, _, rfl, rfl, _, rfl, ?_⟩
    by_cases hpk : ((pn : Nat) : Int) < ((zb.length : Nat) : Int)
    · refine ifT hpk ?_
      have hpn : pn < zb.length := by omega
      obtain ⟨d, hd, ed⟩ := eb6.get (List.getElem?_eq_getElem hpn)
      have hbad := key d (List.mem_of_getElem? hd)
      generalize hx : zb[pn] = x at ed
      have hjx : jn ≤ xs.length := by omega
      refine ⟨_, rfl, ?_⟩
      refine ⟨_, rfl, ?_⟩
      dsimp only [tNoPart]
      refine ⟨_, rfl, _, rfl, R, _, rfl, SqL.of hR6, fun q1 hq1 => ?_⟩
      rw [cutV_take xs jn hjx]
      have a1 := Grow.new (o := .lst (xs.take jn)) hq1
      refine ⟨_, rfl, _, rfl, b5, _, _, _, rfl, rfl, SqL.of (a1.lst hb6), at_g (j := pn) rfl (by rw [List.getElem?_eq_getElem hpn, hx]), (by show 1 ≤ sizeLine; decide), fun l2 h2 => ?_⟩
      have a2 := Grow.new (o := .lst [x]) h2
      refine ⟨q1, l2, _, _, rfl, rfl, a2.lst upd_same, upd_same, ?_, fun q3 h3 => ?_⟩
      · rw [List.length_take, sizeLine_eq]
        show _ + 1 ≤ _
        omega
      have a3 := Grow.new (o := .lst (xs.take jn ++ [x])) h3
      refine ⟨_, rfl, _, rfl, _, rfl, ?_⟩
      dsimp only [tNoPart]
      refine ⟨R, _, rfl, SqL.of (((a1.trans a2).trans a3).lst hR6), fun q4 h4 => ?_⟩
      rw [cutV_drop xs jn hjx]
      have a4 := Grow.new (o := .lst (xs.drop jn)) h4
      refine ⟨q3, q4, _, _, rfl, rfl, a4.lst upd_same, upd_same, ?_, fun q5 h5 => ?_⟩
      · rw [List.length_append, List.length_take, List.length_drop, sizeLine_eq]
        show _ + 1 + _ ≤ _
        omega
      have a5 := Grow.new (o := .lst (xs.take jn ++ [x] ++ xs.drop jn)) h5
      refine ⟨_, rfl, (by show 1 ≤ sizeLine; decide), fun l6 h6 => ?_⟩
      have a6 := Grow.new (o := .lst [xg]) h6
      refine ⟨q5, l6, _, _, rfl, rfl, a6.lst upd_same, upd_same, ?_, fun q7 h7 => ?_⟩
      · rw [List.length_append, List.length_append, List.length_take, List.length_drop, sizeLine_eq]
        show _ + 1 + _ + 1 ≤ _
        omega
      have a7 := Grow.new (o := .lst (xs.take jn ++ [x] ++ xs.drop jn ++ [xg])) h7
      refine ⟨q7, _, rfl, .inl ⟨SqL.of upd_same, fun t8 h8 => ⟨(by show 2 ≤ sizeLine; decide), fun T h9 => ?_⟩⟩⟩
      have a8 := Grow.new (o := .tup (xs.take jn ++ [x] ++ xs.drop jn ++ [xg])) h8
      have a9 := Grow.new (o := .tup [.int (wd : Nat), .ref t8]) h9
      have aa := (((((((a1.trans a2).trans a3).trans a4).trans a5).trans a6).trans a7).trans a8)
      have e6 : EncsP p H6 (rs.map rwD) xs := ex6.imp fun _ h => h.elim
      have eAll := (encs_app (encs_app (encs_app (encs_take e6 jn) (.cons ed .nil)) (encs_drop e6 jn)) (.cons egW .nil)).grow aa
      have eT := EncB.tup (a9.tup (upd_same (a := t8) (o := .tup (xs.take jn ++ [x] ++ xs.drop jn ++ [xg])))) (eAll.grow a9)
      refine k _ _ _ (.tup upd_same (.cons (.int _) (.cons eT .nil))) (isSy_bad (d := d) (by simp) hbad) ((W6.grow (aa.trans a9)).more (by omega)) (gg6.trans' (aa.trans a9).w)
    · refine ifF hpk ?_
      have hpn : pn < 33 := by omega
      dsimp only [tNext, tSeq, tAsg, gName]
      refine lst_run (B := fun a => a ≠ p) (ds := [(.tup [(.bl true), (.tup [])]), (.tup [(.int (-1)), (.tup [])]), (.tup [(.int 4001), (.tup [])]), (.tup [(.int 3), (.lst [(.tup [.tup [.int (-3), .tup [.tup [.int 0, .int 2], .tup [.int 2, .int (-1)]]], .bl false])])]), (.lst [(.int 3), (.tup [(.tup [.tup [.int (-3), .tup [.tup [.int 0, .int 2], .tup [.int 2, .int (-1)]]], .bl false])])]), (.tup [(.int 3), (.tup [(.tup [.tup [.int (-3), .tup [.tup [.int 0, .int 2], .tup [.int 2, .int (-1)]]], .bl false])]), (.tup [])]), (.tup [(.int 3)]), .non, (.tup [.non, (.tup [])])]) ?hw ?zw fun q8 zs8 K8 hq8 hn8 es8 k8 => ?_
      case hw => repeat (first | exact mks_nil | refine mks_cons ?_ ?_ | exact mk_int | exact mk_bl | exact mk_neg | exact mk_non | exact mk_str ⟨by decide, by decide⟩ | exact mk_v rfl (EncB.int _) | exact mk_v rfl egW | refine mk_tup ?_ (Nat.le_of_ble_eq_true rfl) | refine mk_lst (newP hw6) ?_ (Nat.le_of_ble_eq_true rfl))
      case zw => exact Nat.le_of_ble_eq_true rfl
      have hz8 : zs8.length = 9 := by rw [← es8.length]; rfl
      have hpz : pn - 24 < zs8.length := by omega
      obtain ⟨d, hd, ed⟩ := es8.get (List.getElem?_eq_getElem hpz)
      refine ⟨_, rfl, _, rfl, _, rfl, b5, _, rfl, .inl (SqL.of (k8.lst hb6)), _, _, rfl, rfl, q8, _, _, _, rfl, rfl, SqL.of hq8, at_g (j := pn - 24) (by omega) (List.getElem?_eq_getElem hpz), ?_⟩
      exact k _ d _ ed (all_whole d (List.mem_of_getElem? hd)) ((W6.grow k8).more (by omega)) (gg6.trans' k8.w)
end
end J1
set_option Elab.async false
set_option linter.all false
set_option maxRecDepth 100000
set_option maxHeartbeats 4000000
namespace J1
open PySem PySem.Spec PyProof.Rows L2 GxR GA RZ
abbrev lSw : Stmt := top 74
theorem cSw : FnScope ["_law_row", "_law_at", "_law_thing"] ["_law_row", "_law_at", "_law_thing"] (defScope lSw) := ⟨rfl, rfl, rfl, by decide +kernel, rfl, by decide +kernel, by decide +kernel⟩
/-- what holds at a tuple that is new or stood -/
def spSw : Sp := fun vs H Q _ => ∃ (p : Addr) (xr x : V) (j : Nat) (l : List Da) (d : Da), vs = [xr, .int (j : Nat), x] ∧ EncP p H (.tup l) xr ∧ j < l.length ∧ l.length ≤ 4001 ∧ EncP p H d x ∧
  ∀ (y : V) (H' : Hp), EncP p H' (.tup (l.take j ++ [d] ++ l.drop (j + 1))) y → Grow H H' → Q y H'
theorem nil_app {α : Type} {a b : List α} : a = [] → a ++ b = b := fun e => by rw [e]; rfl
theorem app_nil' {α : Type} {a b : List α} : b = [] → a ++ b = a := fun e => by rw [e, List.append_nil]
/-- a concatenation of two tuples that stand -/
theorem cat_run {B : Addr → Prop} {K : PySem.W.Frag} {H : Hp} {a b : Addr} {xs ys : List V} {ds es : List Da} (ha : H a = some (.tup xs)) (hb : H b = some (.tup ys)) (ea : EncsB B H ds xs) (eb : EncsB B H es ys) (z : ds.length + es.length ≤ 20000) {Q : VK}
    (q : ∀ c H', H' c = some (.tup (xs ++ ys)) → EncsB B H' (ds ++ es) (xs ++ ys) → Grow H H' → Q (.ref c) H') : rCatA K (.ref a) (.ref b) H Q := by
  refine ⟨a, b, xs, ys, rfl, rfl, SqT.of ha, SqT.of hb, by rw [← ea.length, ← eb.length, sizeLine_eq]; omega, fun e => ?_, fun _ e => ?_, fun _ _ c hc => ?_⟩
  · exact q b H (by rw [e]; exact hb) (encs_app ea eb) (Grow.refl _)
  · exact q a H (by rw [e, List.append_nil]; exact ha) (encs_app ea eb) (Grow.refl _)
  · exact q c _ upd_same ((encs_app ea eb).grow (Grow.new hc)) (Grow.new hc)
/-- a slice of a tuple that stands, its beginning or its end -/
theorem slA_take {B : Addr → Prop} {K : PySem.W.Frag} {H : Hp} {a : Addr} {xs : List V} {ds : List Da} {n : Nat} (ha : H a = some (.tup xs)) (ea : EncsB B H ds xs) (hn : n ≤ xs.length) {Q : VK}
    (q : ∀ c H', H' c = some (.tup (xs.take n)) → EncsB B H' (ds.take n) (xs.take n) → Grow H H' → Q (.ref c) H') : rSlA K (.ref a) none (some (n : Int)) H Q := by
  refine ⟨a, xs, rfl, SqT.of ha, fun e => ?_, fun _ c hc => ?_⟩
  · have e2 : n = xs.length := by
      have := e.2
      rw [HT.sIx_nat, Nat.min_eq_left hn] at this
      exact this
    have e3 : xs.take n = xs := by rw [e2, List.take_length]
    have e4 := encs_take ea n
    exact q a H (by rw [e3]; exact ha) e4 (Grow.refl _)
  · rw [cutV_take xs n hn]
    exact q c _ upd_same ((encs_take ea n).grow (Grow.new hc)) (Grow.new hc)
theorem encs_drop' {B : Addr → Prop} {H : Hp} {d : List Da} {x : List V} (h : EncsB B H d x) (n : Nat) : EncsB B H (d.drop n) (x.drop n) := encs_drop h n
theorem slA_drop {B : Addr → Prop} {K : PySem.W.Frag} {H : Hp} {a : Addr} {xs : List V} {ds : List Da} {n : Nat} (ha : H a = some (.tup xs)) (ea : EncsB B H ds xs) (hn : n ≤ xs.length) {Q : VK}
    (q : ∀ c H', H' c = some (.tup (xs.drop n)) → EncsB B H' (ds.drop n) (xs.drop n) → Grow H H' → Q (.ref c) H') : rSlA K (.ref a) (some (n : Int)) none H Q := by
  refine ⟨a, xs, rfl, SqT.of ha, fun e => ?_, fun _ c hc => ?_⟩
  · have e2 : n = 0 := by
      have := e.1
      rw [HT.sIx_nat, Nat.min_eq_left hn] at this
      exact this
    subst e2
    exact q a H ha (encs_drop ea 0) (Grow.refl _)
  · rw [cutV_drop xs n hn]
    exact q c _ upd_same ((encs_drop ea n).grow (Grow.new hc)) (Grow.new hc)
section
variable {P : Program} {w : World} {K : PySem.W.Frag} {mg : Str → Option Value} {base : Heap}
theorem ok_swap {f : Addr} {fd : FuncData} (F : Fun K "_law_swapped" "_law_swapped" lSw f fd) : FnOk P w K mg base CX0 1 f fd ["_law_row", "_law_at", "_law_thing"] spSw := by
  refine F.ok (k := 0) cSw (fun vs H Q E h => ?_) (fun cdv A outer s H vs Q E hr h => ?_)
  · obtain ⟨_, _, _, _, _, _, rfl, _⟩ := h
    rfl
  · obtain ⟨p, xr, x, j, l, d, rfl, er, hj, hl4, ex, k⟩ := h
    refine ⟨_, (pss_one (ps_ret (pe_op op_catA (pe_op op_catA (pe_slice sl_tupA (pv 0) po_none (po_some (pv 1))) (pe_tup (pa_cons (pv 2) pa_nil))) (pe_slice sl_tupA (pv 0) (po_some (pe_op op_add (pv 1) pe_int)) po_none)))), ?_⟩
    obtain ⟨a, xs, rfl, ha, es⟩ := encT er
    have hxl := es.length
    refine ⟨_, rfl, ?_⟩
    dsimp only [tNoPart]
    refine ⟨_, rfl, _, rfl, slA_take ha es (n := j) (by omega) fun q1 H1 h1 e1 g1 => ?_⟩
    refine ⟨_, rfl, (by show 1 ≤ sizeLine; decide), fun q2 hq2 => ?_⟩
    have g2 := Grow.new (o := .tup [x]) hq2
    refine cat_run (g2.tup h1) upd_same (e1.grow g2) (.cons ((ex.grow g1).grow g2) .nil) ?_ fun q3 H3 h3 e3 g3 => ?_
    · rw [List.length_take]
      show _ + 1 ≤ _
      omega
    have g123 := (g1.trans g2).trans g3
    refine ⟨_, rfl, _, rfl, _, _, rfl, rfl, _, rfl, ?_⟩
    dsimp only [tNoPart]
    have ej : ((j : Nat) : Int) + 1 = ((j + 1 : Nat) : Int) := by omega
    rw [ej]
    refine slA_drop (g123.tup ha) (es.grow g123) (n := j + 1) (by omega) fun q4 H4 h4 e4 g4 => ?_
    refine cat_run (g4.tup h3) h4 (e3.grow g4) e4 ?_ fun q5 H5 h5 e5 g5 => ?_
    · rw [List.length_append, List.length_take, List.length_drop]
      show _ + 1 + _ ≤ _
      omega
    exact k _ _ (.tup h5 e5) ((g123.trans g4).trans g5)
end
end J1
set_option Elab.async false
set_option linter.all false
set_option maxRecDepth 100000
set_option maxHeartbeats 4000000
namespace J1
open PySem PySem.Spec PyProof.Rows L2 GxR GA RZ
abbrev lSp : Stmt := top 75
theorem cSp : FnScope ["_law_well_here", "_law_point_here", "_law_at", "_law_top", "_law_bottom", "_law_things", "_law_pick"] ["_law_well_here", "_law_point_here"] (defScope lSp) := ⟨rfl, rfl, rfl, by decide +kernel, rfl, by decide +kernel, by decide +kernel⟩
/-- a part with bounds, if it is one -/
def PB (d : Da) : Prop := ∀ a b : Int, d = .tup [.int a, .int b] → a.natAbs < 2 ^ 100 ∧ b.natAbs < 2 ^ 100
theorem PtD.of {l : List Da} (h : ∀ d ∈ l, PB d) : PtD (.tup l) := fun l' e a b hm => by
  cases e
  exact h _ hm a b rfl
theorem PB.no {d : Da} (h : ∀ a b : Int, d ≠ .tup [.int a, .int b]) : PB d := fun a b e => absurd e (h a b)
theorem PB.is {a b : Int} (ha : a.natAbs < 2 ^ 100) (hb : b.natAbs < 2 ^ 100) : PB (.tup [.int a, .int b]) := fun x y e => by
  cases e
  exact ⟨ha, hb⟩
theorem pt_things {t : Tm} (ht : t.1.natAbs < 2 ^ 70) (hb : t.2.natAbs < 2 ^ 31) : ∀ d ∈ ([(.tup [(.int (t.1 + 1)), (.int t.2)]), (.tup [(.int (t.1 - 1)), (.int t.2)]), (.tup [(.int (2 * t.1)), (.int (2 * t.2))]), (.tup [(.int t.1), (.int 0)]), (.tup [(.int (-t.1)), (.int (-t.2))]), (.lst [(.int t.1), (.int t.2)])] ++ [(.tup [(.int t.1), (.int t.2), (.int 1)]), (.tup [(.int t.1)]), .non, (.int t.1), (.tup [(.int t.1), (.bl true)]), (.tup [(.bl true), (.int t.2)]), (.tup [(.int (3 * t.1)), (.int (3 * t.2))])] : List Da), PB d := by
  have e70 : (2 : Nat) ^ 70 = 1180591620717411303424 := by decide
  have e31 : (2 : Nat) ^ 31 = 2147483648 := by decide
  have e100 : (2 : Nat) ^ 100 = 1267650600228229401496703205376 := by decide
  rw [e70] at ht
  rw [e31] at hb
  intro d hd
  simp only [List.mem_append, List.mem_cons, List.not_mem_nil, or_false] at hd
  rcases hd with (hd | hd | hd | hd | hd | hd) | (hd | hd | hd | hd | hd | hd | hd)
  all_goals subst hd
  all_goals first
    | (refine PB.is ?_ ?_ <;> (rw [e100]; omega))
    | exact PB.no fun a b z => by cases z
theorem pt_nil : ∀ d ∈ ([(.lst []), (.tup [(.tup [(.int 0), (.int 1)])]), .non, (.str ""), (.int 0)] : List Da), PtD d := by
  intro d hd
  simp only [List.mem_cons, List.not_mem_nil, or_false] at hd
  rcases hd with hd | hd | hd | hd | hd
  all_goals subst hd
  all_goals first
    | exact PtD.of fun d hd => by rw [List.mem_singleton.mp hd]; exact PB.is (by decide) (by decide)
    | exact fun l e => nomatch e
theorem prB {pr : List Tm} (h : PrA pr) : ∀ d ∈ pr.map tmD, PB d := fun d hd => by
  obtain ⟨t, ht, rfl⟩ := List.mem_map.mp hd
  have := h t ht
  exact PB.is (lt2 this.tb (by decide)) (lt2 this.bb (by decide))
def spSp : Sp := fun vs H Q _ => ∃ (p l : Addr) (ns : List Int) (n : Nat) (xp : V) (pr : List Tm), vs = [.ref p, xp] ∧ EncT H (.tup (pr.map tmD)) xp ∧ PrA pr ∧ pr.length ≤ 4000 ∧ Wl H p l ns n ∧ n + 1000 ≤ BIG ∧
  ∀ (x : V) (d : Da) (H' : Hp), EncP p H' d x → PtD d → Wl H' p l ns (n + 2) → GrowW p H H' → Q x H'
section
variable {P : Program} {w : World} {K : PySem.W.Frag} {mg : Str → Option Value} {base : Heap}
theorem ok_spoilt {f fD fW : Addr} {fd fdD fdW : FuncData} (F : Fun K "_law_spoilt_point" "_law_spoilt_point" lSp f fd) (M : Gd mg)
    (GD : FnOk P w K mg base CX0 1 fD fdD ["_law_well_here", "_law_many"] spDr) (DD : Df K mg "_law_draw" ["_law_well_here", "_law_many"] fD fdD)
    (GW : FnOk P w K mg base CX0 1 fW fdW ["_law_row", "_law_at", "_law_thing"] spSw) (DW : Df K mg "_law_swapped" ["_law_row", "_law_at", "_law_thing"] fW fdW) : FnOk P w K mg base CX0 2 f fd ["_law_well_here", "_law_point_here"] spSp := by
  refine F.ok (k := 1) cSp (fun vs H Q E h => ?_) (fun cdv A outer s H vs Q E hr h => ?_)
  · obtain ⟨_, _, _, _, _, _, rfl, _⟩ := h
    rfl
  · obtain ⟨p, l, ns, n, xp, pr, rfl, ep, pa, hl4, W, hn, k⟩ := h
    refine ⟨_, (pss_cons (ps_if (pt_cmpR (op_eqNilT (Nat.lt_of_succ_lt (hu_of hr))) (pv 1) (pe_tup pa_nil) (nomark _)) (pss_one (ps_ret (pe_ix ix_list (pe_lst (pa_cons (pe_lst pa_nil) (pa_cons (pe_tup (pa_cons (pe_tup (pa_cons pe_int (pa_cons pe_int pa_nil))) pa_nil)) (pa_cons pe_non (pa_cons pe_str (pa_cons pe_int pa_nil)))))) (pe_call (GD.mono (by decide)) hr (by rfl) DD.g DD.k DD.b .nil pass0 (pa_cons (pv 0) (pa_cons pe_int pa_nil))) (fun _ _ => rfl)))) pss_nil) (pss_cons (ps_set (i := 2) cSp.nd rfl (Or.inl rfl) (pe_call (GD.mono (by decide)) hr (by rfl) DD.g DD.k DD.b .nil pass0 (pa_cons (pv 0) (pa_cons (pe_callB call_len_seq (by rfl) M.len PySem.boot_len (pa_cons (pv 1) pa_nil)) pa_nil)))) (pss_cons (ps_asg (pe_ix ix_tup (pv 1) (pv 2) (fun _ _ => rfl)) (pg_tup (by rfl) (pgs_cons (pg_name (i := 3) cSp.nd rfl (Or.inl rfl)) (pgs_cons (pg_name (i := 4) cSp.nd rfl (Or.inl rfl)) pgs_nil)))) (pss_cons (ps_set (i := 5) cSp.nd rfl (Or.inl rfl) (pe_lst (pa_cons (pe_tup (pa_cons (pe_op op_add (pv 3) pe_int) (pa_cons (pv 4) pa_nil))) (pa_cons (pe_tup (pa_cons (pe_op op_sub (pv 3) pe_int) (pa_cons (pv 4) pa_nil))) (pa_cons (pe_tup (pa_cons (pe_op op_mul pe_int (pv 3)) (pa_cons (pe_op op_mul pe_int (pv 4)) pa_nil))) (pa_cons (pe_tup (pa_cons (pv 3) (pa_cons pe_int pa_nil))) (pa_cons (pe_tup (pa_cons (pe_un un_neg (pv 3)) (pa_cons (pe_un un_neg (pv 4)) pa_nil))) (pa_cons (pe_lst (pa_cons (pv 3) (pa_cons (pv 4) pa_nil))) pa_nil)))))))) (pss_cons (ps_set (i := 5) cSp.nd rfl (Or.inl rfl) (pe_op op_cat (pv 5) (pe_lst (pa_cons (pe_tup (pa_cons (pv 3) (pa_cons (pv 4) (pa_cons pe_int pa_nil)))) (pa_cons (pe_tup (pa_cons (pv 3) pa_nil)) (pa_cons pe_non (pa_cons (pv 3) (pa_cons (pe_tup (pa_cons (pv 3) (pa_cons pe_bl pa_nil))) (pa_cons (pe_tup (pa_cons pe_bl (pa_cons (pv 4) pa_nil))) (pa_cons (pe_tup (pa_cons (pe_op op_mul pe_int (pv 3)) (pa_cons (pe_op op_mul pe_int (pv 4)) pa_nil))) pa_nil)))))))))) (pss_cons (ps_set (i := 6) cSp.nd rfl (Or.inl rfl) (pe_call (GD.mono (by decide)) hr (by rfl) DD.g DD.k DD.b .nil pass0 (pa_cons (pv 0) (pa_cons (pe_op op_add (pe_callB call_len_seq (by rfl) M.len PySem.boot_len (pa_cons (pv 5) pa_nil)) pe_int) pa_nil)))) (pss_cons (ps_if (pt_cmpR op_lt (pv 6) (pe_callB call_len_seq (by rfl) M.len PySem.boot_len (pa_cons (pv 5) pa_nil)) (nomark _)) (pss_one (ps_ret (pe_call (GW.mono (by decide)) hr (by rfl) DW.g DW.k DW.b .nil pass0 (pa_cons (pv 1) (pa_cons (pv 2) (pa_cons (pe_ix ix_list (pv 5) (pv 6) (fun _ _ => rfl)) pa_nil)))))) pss_nil) (pss_one (ps_ret (pe_ix ix_list (pe_lst (pa_cons (pe_callTy call_list_of (by rfl) M.list (by decide +kernel) (pa_cons (pv 1) pa_nil)) (pa_cons (pe_op op_catA (pe_slice sl_tupA (pv 1) po_none (po_some (pv 2))) (pe_slice sl_tupA (pv 1) (po_some (pe_op op_add (pv 2) pe_int)) po_none)) (pa_cons (pe_op op_catA (pv 1) (pe_tup (pa_cons (pe_tup (pa_cons pe_int (pa_cons pe_int pa_nil))) pa_nil))) (pa_cons pe_non (pa_cons (pe_tup (pa_cons (pv 1) pa_nil)) pa_nil)))))) (pe_op op_sub (pv 6) (pe_callB call_len_seq (by rfl) M.len PySem.boot_len (pa_cons (pv 5) pa_nil))) (fun _ _ => rfl))))))))))), ?_⟩
    unfold BIG at hn
    obtain ⟨pp, ps, rfl, hpp, eps⟩ := encT ep
    have hpl := eps.length
    rw [List.length_map] at hpl
    obtain ⟨ysp, hwp⟩ := W.pl
    refine ⟨_, rfl, Nat.zero_le _, fun t0 h0 => ⟨pp, t0, ps, rfl, rfl, SqT.of ((Grow.new h0).tup hpp), SqT.of upd_same, _, rfl, ?_⟩⟩
    have g0 := Grow.new (o := .tup []) h0
    have hpp1 := g0.tup hpp
    have eps1 := eps.grow g0
    have W1 := W.grow g0
    have hwp1 := g0.lst hwp
    generalize upd H t0 (.tup []) = H1 at g0 hpp1 eps1 W1 hwp1 ⊢
    cases ps with
    | nil =>
      refine iteT ?_
      dsimp only [tRet, tOp]
      refine lst_run (B := fun a => a ≠ p) (ds := [(.lst []), (.tup [(.tup [(.int 0), (.int 1)])]), .non, (.str ""), (.int 0)]) ?h1 ?z1 fun q1 zs1 H2 hq1 hn1 es1 g1 => ?_
      case h1 => repeat (first | exact mks_nil | refine mks_cons ?_ ?_ | exact mk_int | exact mk_non | exact mk_str ⟨by decide, by decide⟩ | refine mk_tup ?_ (Nat.le_of_ble_eq_true rfl) | refine mk_lst (newP hwp1) ?_ (Nat.le_of_ble_eq_true rfl))
      case z1 => exact Nat.le_of_ble_eq_true rfl
      have hz : zs1.length = 5 := by rw [← es1.length]; rfl
      have W2 := W1.grow g1
      have hwp2 := g1.lst hwp1
      refine ⟨_, rfl, p, l, ns, _, 5, rfl, by decide, cdw (by decide) (by decide), W2, by omega, fun r H3 r0 r1 W3 g3 => ?_⟩
      obtain ⟨rn, rfl⟩ := Int.eq_ofNat_of_zero_le r0
      have hrn : rn < zs1.length := by omega
      have nq1 : q1 ≠ p := fun z => by rw [z, hwp1] at hn1; cases hn1
      obtain ⟨d, hd, ed⟩ := (EncsP.gw es1 g3 hwp2).get (List.getElem?_eq_getElem hrn)
      refine ⟨q1, _, _, _, rfl, rfl, SqL.of (g3.lst nq1 hq1), at_g (j := rn) rfl (List.getElem?_eq_getElem hrn), ?_⟩
      exact k _ d _ ed (pt_nil d (List.mem_of_getElem? hd)) (W3.more (by omega)) (((g0.trans g1).w).trans' g3)
    | cons x0 ps0 =>
      refine iteF ?_
      dsimp only [tNext, tSeq, tAsg, gName]
      have hlen : 0 < (x0 :: ps0).length := by rw [List.length_cons]; omega
      generalize hps : x0 :: ps0 = ps at hpl hpp1 eps1 hlen ⊢
      refine ⟨_, rfl, _, rfl, pp, _, rfl, .inr (SqT.of hpp1), p, l, ns, _, _, rfl, by omega, cdw (by omega) (Nat.lt_of_le_of_lt (show _ ≤ 4000 by omega) (by decide)), W1, by omega, fun at0 H2 j0 j1 W2 g2 => ?_⟩
      obtain ⟨jn, rfl⟩ := Int.eq_ofNat_of_zero_le j0
      have hjn : jn < ps.length := by omega
      have hpp2 := g2.tup hwp1 hpp1
      have eps2 := eps1.gwT g2 hwp1
      obtain ⟨ysw, hwp2⟩ := W2.pl
      obtain ⟨y, hy⟩ : ∃ y, ps[jn]? = some y := ⟨_, List.getElem?_eq_getElem hjn⟩
      obtain ⟨d1, hd1, ey⟩ := eps2.get hy
      obtain ⟨t, ht, rfl⟩ := map_get hd1
      have tok := pa t (List.mem_of_getElem? ht)
      obtain ⟨q, _, _, rfl, hq, f0, f1⟩ := enc2 ey
      cases encI f0
      cases encI f1
      refine ⟨_, rfl, _, rfl, pp, _, _, _, rfl, rfl, SqT.of hpp2, at_g (j := jn) rfl hy, q, _, rfl, SqT.of hq, rfl, _, _, rfl, _, _, rfl, rfl, ?_⟩
      dsimp only [tSeq, tAsg, gName]
      refine lst_run (B := fun a => a ≠ p) (ds := [(.tup [(.int (t.1 + 1)), (.int t.2)]), (.tup [(.int (t.1 - 1)), (.int t.2)]), (.tup [(.int (2 * t.1)), (.int (2 * t.2))]), (.tup [(.int t.1), (.int 0)]), (.tup [(.int (-t.1)), (.int (-t.2))]), (.lst [(.int t.1), (.int t.2)])]) ?h1 ?z1 fun q1 zs1 H3 hq1 hn1 es1 g3 => ?_
      case h1 => repeat (first | exact mks_nil | refine mks_cons ?_ ?_ | exact mk_int | exact mk_bl | exact mk_non | exact mk_v rfl (EncB.int _) | refine mk_tup ?_ (Nat.le_of_ble_eq_true rfl) | refine mk_lst (newP hwp2) ?_ (Nat.le_of_ble_eq_true rfl) | exact mk_i (fun H1 Q q => ⟨_, rfl, _, _, rfl, rfl, q⟩) | exact mk_i (fun H1 Q q => ⟨_, rfl, _, _, rfl, rfl, .inl ⟨by decide, by decide⟩, q⟩) | exact mk_i (fun H1 Q q => ⟨_, rfl, _, rfl, q⟩))
      case z1 => exact Nat.le_of_ble_eq_true rfl
      have hwp3 := g3.lst hwp2
      refine ⟨_, rfl, lst_run (B := fun a => a ≠ p) (ds := [(.tup [(.int t.1), (.int t.2), (.int 1)]), (.tup [(.int t.1)]), .non, (.int t.1), (.tup [(.int t.1), (.bl true)]), (.tup [(.bl true), (.int t.2)]), (.tup [(.int (3 * t.1)), (.int (3 * t.2))])]) ?h2 ?z2 fun q2 zs2 H4 hq2 hn2 es2 g4 => ?_⟩
      case h2 => repeat (first | exact mks_nil | refine mks_cons ?_ ?_ | exact mk_int | exact mk_bl | exact mk_non | exact mk_v rfl (EncB.int _) | refine mk_tup ?_ (Nat.le_of_ble_eq_true rfl) | exact mk_i (fun H1 Q q => ⟨_, rfl, _, _, rfl, rfl, q⟩) | exact mk_i (fun H1 Q q => ⟨_, rfl, _, _, rfl, rfl, .inl ⟨by decide, by decide⟩, q⟩) | exact mk_i (fun H1 Q q => ⟨_, rfl, _, rfl, q⟩))
      case z2 => exact Nat.le_of_ble_eq_true rfl
      have hz1 : zs1.length = 6 := by rw [← es1.length]; rfl
      have hz2 : zs2.length = 7 := by rw [← es2.length]; rfl
      refine ⟨q1, q2, _, _, rfl, rfl, g4.lst hq1, hq2, by rw [hz1, hz2, sizeLine_eq]; exact Nat.le_of_ble_eq_true rfl, fun q3 h3 => ?_⟩
      have g5 := Grow.new (o := .lst (zs1 ++ zs2)) h3
      have eA := (encs_app (es1.grow g4) es2).grow g5
      have hq3 := upd_same (H := H4) (a := q3) (o := .lst (zs1 ++ zs2))
      have hzl : (zs1 ++ zs2).length = 13 := by rw [List.length_append, hz1, hz2]
      have gA := (g3.trans g4).trans g5
      have hwp5 := gA.lst hwp2
      have nq3 : q3 ≠ p := fun z => by rw [z, (g3.trans g4).lst hwp2] at h3; cases h3
      have hpp5 := gA.tup hpp2
      have eps5 := eps2.grow gA
      have W5 := W2.grow gA
      have gg5 := (g0.w.trans' g2).trans' gA.w
      have key := pt_things tok.tb tok.bb
      generalize upd H4 q3 (.lst (zs1 ++ zs2)) = H5 at g5 eA hq3 gA hwp5 hpp5 eps5 W5 gg5 ⊢
      generalize zs1 ++ zs2 = zs at eA hq3 hzl
      refine ⟨_, rfl, _, rfl, q3, _, rfl, .inl (SqL.of hq3), _, _, rfl, rfl, p, l, ns, _, _, rfl, by omega, cdw (by omega) (Nat.lt_of_le_of_lt (show _ ≤ 20 by omega) (by decide)), W5, by omega, fun pk H6 p0 p1 W6 g6 => ?_⟩
      obtain ⟨pn, rfl⟩ := Int.eq_ofNat_of_zero_le p0
      have hq6 := g6.lst nq3 hq3
      have eA6 := EncsP.gw eA g6 hwp5
      have hpp6 := g6.tup hwp5 hpp5
      have eps6 := eps5.gwT g6 hwp5
      have gg6 := gg5.trans' g6
      obtain ⟨yw6, hwp6⟩ := W6.pl
      have es6 : EncsP p H6 (pr.map tmD) ps := eps6.imp fun _ h => h.elim
      have ep6 : EncP p H6 (.tup (pr.map tmD)) (.ref pp) := .tup hpp6 (eps6.imp fun _ h => h.elim)
      refine ⟨_, rfl, _, rfl, q3, _, rfl, .inl (SqL.of hq6), _, _, rfl, rfl, _, rfl, ?_⟩
      by_cases hpk : ((pn : Nat) : Int) < ((zs.length : Nat) : Int)
      · have hpn : pn < zs.length := by omega
        obtain ⟨d, hd, ed⟩ := eA6.get (List.getElem?_eq_getElem hpn)
        have hdB := key d (List.mem_of_getElem? hd)
        generalize hx : zs[pn] = x at ed
        refine ifT hpk ⟨_, rfl, _, rfl, _, rfl, _, rfl, q3, _, _, _, rfl, rfl, SqL.of hq6, at_g (j := pn) rfl (by rw [List.getElem?_eq_getElem hpn, hx]), p, .ref pp, x, jn, pr.map tmD, d, rfl, ep6, by rw [List.length_map]; omega, by rw [List.length_map]; omega, ed, fun y H7 ey g7 => ?_⟩
        refine k y _ H7 ey (PtD.of fun d' hd' => ?_) ((W6.grow g7).more (by omega)) (gg6.trans' g7.w)
        rcases List.mem_append.mp hd' with h | h
        · rcases List.mem_append.mp h with h | h
          · exact prB pa d' (List.mem_of_mem_take h)
          · rw [List.mem_singleton.mp h]; exact hdB
        · exact prB pa d' (List.mem_of_mem_drop h)
      · have hpn : pn < 18 := by omega
        refine ifF hpk ?_
        dsimp only [tNext, tRet, tOp]
        refine lst_run (B := fun a => a ≠ p) (ds := [(.lst (pr.map tmD)), (.tup ((pr.map tmD).take jn ++ (pr.map tmD).drop (jn + 1))), (.tup (pr.map tmD ++ [.tup [.int 0, .int 1]])), .non, (.tup [(.tup (pr.map tmD))])]) ?h9 ?z9 fun q8 zs8 K8 hq8 hn8 es8 k8 => ?_
        case h9 =>
          refine mks_cons ?_ (mks_cons ?_ (mks_cons ?_ (mks_cons mk_non (mks_cons ?_ mks_nil))))
          · intro H7 g7 Q7 q7
            refine ⟨_, rfl, pp, _, rfl, .inr (SqT.of (g7.tup hpp6)), fun a ha => ?_⟩
            have ga := Grow.new (o := .lst ps) ha
            exact q7 _ _ ga (.lst upd_same ((((eps6.grow g7).grow ga)).imp fun _ h => h.elim) (newP hwp6 a H7 g7 ha))
          · intro H7 g7 Q7 q7
            refine ⟨_, rfl, ?_⟩
            dsimp only [tNoPart]
            refine ⟨_, rfl, _, rfl, slA_take (g7.tup hpp6) (es6.grow g7) (n := jn) (by omega) fun q1 H1 h1 e1 g1 => ?_⟩
            refine ⟨_, rfl, _, rfl, _, _, rfl, rfl, _, rfl, ?_⟩
            dsimp only [tNoPart]
            have ej : ((jn : Nat) : Int) + 1 = ((jn + 1 : Nat) : Int) := by omega
            rw [ej]
            refine slA_drop ((g7.trans g1).tup hpp6) (es6.grow (g7.trans g1)) (n := jn + 1) (by omega) fun q2 H2 h2 e2 g2 => ?_
            refine cat_run (g2.tup h1) h2 (e1.grow g2) e2 ?_ fun q5 H5 h5 e5 g5 => ?_
            · rw [List.length_take, List.length_drop, List.length_map]
              omega
            exact q7 _ _ ((g1.trans g2).trans g5) (.tup h5 e5)
          · intro H7 g7 Q7 q7
            refine ⟨_, rfl, (by show 2 ≤ sizeLine; decide), fun a ha => ⟨(by show 1 ≤ sizeLine; decide), fun b hb => ?_⟩⟩
            have ga := Grow.new (o := .tup [.int 0, .int 1]) ha
            have gb := Grow.new (o := .tup [.ref a]) hb
            have ea : EncB (fun a => a ≠ p) (upd H7 a (.tup [.int 0, .int 1])) (.tup [.int 0, .int 1]) (.ref a) := .tup upd_same (.cons (.int 0) (.cons (.int 1) .nil))
            refine cat_run (((g7.trans ga).trans gb).tup hpp6) upd_same (es6.grow ((g7.trans ga).trans gb)) (.cons (ea.grow gb) .nil) ?_ fun q5 H5 h5 e5 g5 => ?_
            · rw [List.length_map]
              show _ + 1 ≤ _
              omega
            exact q7 _ _ ((ga.trans gb).trans g5) (.tup h5 e5)
          · exact mk_tup (mks_cons (mk_v rfl ep6) mks_nil) (Nat.le_of_ble_eq_true rfl)
        case z9 => exact Nat.le_of_ble_eq_true rfl
        have hz8 : zs8.length = 5 := by rw [← es8.length]; rfl
        have hpz : pn - 13 < zs8.length := by omega
        obtain ⟨d, hd, ed⟩ := es8.get (List.getElem?_eq_getElem hpz)
        refine ⟨_, rfl, _, rfl, q3, _, rfl, .inl (SqL.of (k8.lst hq6)), _, _, rfl, rfl, q8, _, _, _, rfl, rfl, SqL.of hq8, at_g (j := pn - 13) (by omega) (List.getElem?_eq_getElem hpz), ?_⟩
        refine k _ d _ ed ?_ ((W6.grow k8).more (by omega)) (gg6.trans' k8.w)
        have hm := List.mem_of_getElem? hd
        simp only [List.mem_cons, List.not_mem_nil, or_false] at hm
        rcases hm with hm | hm | hm | hm | hm
        · rw [hm]
          exact fun l e => nomatch e
        · rw [hm]
          refine PtD.of fun d' hd' => ?_
          rcases List.mem_append.mp hd' with h | h
          · exact prB pa d' (List.mem_of_mem_take h)
          · exact prB pa d' (List.mem_of_mem_drop h)
        · rw [hm]
          refine PtD.of fun d' hd' => ?_
          rcases List.mem_append.mp hd' with h | h
          · exact prB pa d' h
          · rw [List.mem_singleton.mp h]
            exact PB.is (by decide) (by decide)
        · rw [hm]
          exact fun l e => nomatch e
        · rw [hm]
          refine PtD.of fun d' hd' => ?_
          rw [List.mem_singleton.mp hd']
          refine PB.no fun a b e => ?_
          have e1 := Da.tup.inj e
          cases pr with
          | nil => cases e1
          | cons t0 pr => cases e1
end
end J1
set_option Elab.async false
set_option linter.all false
set_option maxRecDepth 100000
set_option maxHeartbeats 4000000
namespace J1
open PySem PySem.Spec PyProof.Rows L2 GxR GA RZ
abbrev lSn : Stmt := top 76
theorem cSn : FnScope ["_law_well_here", "_law_numbers", "_law_at", "_law_n", "_law_things", "_law_pick", "_law_made", "_law_number"] ["_law_well_here", "_law_numbers"] (defScope lSn) := ⟨rfl, rfl, rfl, by decide +kernel, rfl, by decide +kernel, by decide +kernel⟩
/-- an integer with bounds, if it is one -/
def IB (d : Da) : Prop := ∀ i : Int, d = .int i → i.natAbs < 2 ^ 110
theorem MuD.of {l : List Da} (h : ∀ d ∈ l, IB d) : MuD (.tup l) := fun l' e i hm => by
  cases e
  exact h _ hm i rfl
theorem IB.no {d : Da} (h : ∀ i : Int, d ≠ .int i) : IB d := fun i e => absurd e (h i)
theorem IB.is {i : Int} (h : i.natAbs < 2 ^ 110) : IB (.int i) := fun j e => by
  cases e
  exact h
theorem mu_things {m : Int} (hm : m.natAbs ≤ 4) : ∀ d ∈ ([.int (m + 1), .int (m - 1), .int (-m), .bl (decide (V.int m = V.int 1)), .non, .tup [.int m], .int (-1 - m), .int (m + (10 : Int) ^ (Int.toNat 30)), .str "1", .int 0] : List Da), IB d := by
  have e110 : (2 : Nat) ^ 110 = 1298074214633706907132624082305024 := by decide
  have e30 : (10 : Int) ^ (Int.toNat 30) = 1000000000000000000000000000000 := by decide
  rw [e30]
  intro d hd
  simp only [List.mem_cons, List.not_mem_nil, or_false] at hd
  rcases hd with hd | hd | hd | hd | hd | hd | hd | hd | hd | hd
  all_goals subst hd
  all_goals first
    | (refine IB.is ?_; rw [e110]; omega)
    | exact IB.no fun i z => by cases z
def Mu4 (ms : List Int) : Prop := ∀ m ∈ ms, m.natAbs ≤ 4
theorem muB {ms : List Int} (h : Mu4 ms) : ∀ d ∈ ms.map Da.int, IB d := fun d hd => by
  obtain ⟨m, hm, rfl⟩ := List.mem_map.mp hd
  exact IB.is (Nat.lt_of_le_of_lt (h m hm) (by decide))
def spSn : Sp := fun vs H Q _ => ∃ (p l : Addr) (ns : List Int) (n : Nat) (xm : V) (ms : List Int), vs = [.ref p, xm] ∧ EncT H (.tup (ms.map .int)) xm ∧ Mu4 ms ∧ 1 ≤ ms.length ∧ ms.length ≤ 100 ∧ Wl H p l ns n ∧ n + 1000 ≤ BIG ∧
  ∀ (x : V) (d : Da) (H' : Hp), EncP p H' d x → MuD d → Wl H' p l ns (n + 2) → GrowW p H H' → Q x H'
section
variable {P : Program} {w : World} {K : PySem.W.Frag} {mg : Str → Option Value} {base : Heap}
theorem ok_spnum {f fD fW : Addr} {fd fdD fdW : FuncData} (F : Fun K "_law_spoilt_numbers" "_law_spoilt_numbers" lSn f fd) (M : Gd mg)
    (GD : FnOk P w K mg base CX0 1 fD fdD ["_law_well_here", "_law_many"] spDr) (DD : Df K mg "_law_draw" ["_law_well_here", "_law_many"] fD fdD)
    (GW : FnOk P w K mg base CX0 1 fW fdW ["_law_row", "_law_at", "_law_thing"] spSw) (DW : Df K mg "_law_swapped" ["_law_row", "_law_at", "_law_thing"] fW fdW) : FnOk P w K mg base CX0 2 f fd ["_law_well_here", "_law_numbers"] spSn := by
  refine F.ok (k := 1) cSn (fun vs H Q E h => ?_) (fun cdv A outer s H vs Q E hr h => ?_)
  · obtain ⟨_, _, _, _, _, _, rfl, _⟩ := h
    rfl
  · obtain ⟨p, l, ns, n, xm, ms, rfl, em, m4, hl1, hl4, W, hn, k⟩ := h
    refine ⟨_, (pss_cons (ps_set (i := 2) cSn.nd rfl (Or.inl rfl) (pe_call (GD.mono (by decide)) hr (by rfl) DD.g DD.k DD.b .nil pass0 (pa_cons (pv 0) (pa_cons (pe_callB call_len_seq (by rfl) M.len PySem.boot_len (pa_cons (pv 1) pa_nil)) pa_nil)))) (pss_cons (ps_set (i := 3) cSn.nd rfl (Or.inl rfl) (pe_ix ix_tup (pv 1) (pv 2) (fun _ _ => rfl))) (pss_cons (ps_set (i := 4) cSn.nd rfl (Or.inl rfl) (pe_lst (pa_cons (pe_op op_add (pv 3) pe_int) (pa_cons (pe_op op_sub (pv 3) pe_int) (pa_cons (pe_un un_neg (pv 3)) (pa_cons (pe_cmpR op_eq (pv 3) pe_int (nomark _)) (pa_cons pe_non (pa_cons (pe_tup (pa_cons (pv 3) pa_nil)) (pa_cons (pe_op op_sub (pe_un un_neg pe_int) (pv 3)) (pa_cons (pe_op op_add (pv 3) (pe_op op_pow pe_int pe_int)) (pa_cons pe_str (pa_cons pe_int pa_nil)))))))))))) (pss_cons (ps_set (i := 5) cSn.nd rfl (Or.inl rfl) (pe_call (GD.mono (by decide)) hr (by rfl) DD.g DD.k DD.b .nil pass0 (pa_cons (pv 0) (pa_cons (pe_op op_add (pe_callB call_len_seq (by rfl) M.len PySem.boot_len (pa_cons (pv 4) pa_nil)) pe_int) pa_nil)))) (pss_cons (ps_if (pt_cmpR op_lt (pv 5) (pe_callB call_len_seq (by rfl) M.len PySem.boot_len (pa_cons (pv 4) pa_nil)) (nomark _)) (pss_one (ps_ret (pe_call (GW.mono (by decide)) hr (by rfl) DW.g DW.k DW.b .nil pass0 (pa_cons (pv 1) (pa_cons (pv 2) (pa_cons (pe_ix ix_list (pv 4) (pv 5) (fun _ _ => rfl)) pa_nil)))))) pss_nil) (pss_cons (ps_set (i := 6) cSn.nd rfl (Or.inl rfl) (pe_lst (pa_cons (pe_callTy call_list_of (by rfl) M.list (by decide +kernel) (pa_cons (pv 1) pa_nil)) (pa_cons (pe_op op_catA (pe_slice sl_tupA (pv 1) po_none (po_some (pv 2))) (pe_slice sl_tupA (pv 1) (po_some (pe_op op_add (pv 2) pe_int)) po_none)) (pa_cons (pe_op op_catA (pv 1) (pe_tup (pa_cons pe_int pa_nil))) (pa_cons pe_non pa_nil)))))) (pss_cons (ps_set (i := 6) cSn.nd rfl (Or.inl rfl) (pe_op op_cat (pv 6) (pe_lst (pa_cons (pe_callTy call_tuple_of (by rfl) M.tuple (by decide +kernel) (pa_cons (pe_lc (own := [("_law_number", 7)]) (g := gName 7) (tt := tYes) (by rfl) cSn.nd (pi_tup (pv 1)) (blkOk_by (own := [("_law_number", 7)]) (N := ["_law_well_here", "_law_numbers", "_law_at", "_law_n", "_law_things", "_law_pick", "_law_made", "_law_number"]) (sc := defScope lSn) (by decide +kernel)) (fun _ _ _ _ _ => (pg_name (i := 7) cSn.nd rfl (Or.inl rfl))) (fun _ _ _ _ _ => pts_nil) (fun _ _ _ _ _ => (pe_op op_mul pe_int (pv 7)))) pa_nil)) (pa_cons (pe_callTy call_tuple_of (by rfl) M.tuple (by decide +kernel) (pa_cons (pe_lc (own := [("_law_number", 7)]) (g := gName 7) (tt := tYes) (by rfl) cSn.nd (pi_tup (pv 1)) (blkOk_by (own := [("_law_number", 7)]) (N := ["_law_well_here", "_law_numbers", "_law_at", "_law_n", "_law_things", "_law_pick", "_law_made", "_law_number"]) (sc := defScope lSn) (by decide +kernel)) (fun _ _ _ _ _ => (pg_name (i := 7) cSn.nd rfl (Or.inl rfl))) (fun _ _ _ _ _ => pts_nil) (fun _ _ _ _ _ => pe_int)) pa_nil)) pa_nil))))) (pss_one (ps_ret (pe_ix ix_list (pv 6) (pe_op op_sub (pv 5) (pe_callB call_len_seq (by rfl) M.len PySem.boot_len (pa_cons (pv 4) pa_nil))) (fun _ _ => rfl))))))))))), ?_⟩
    unfold BIG at hn
    obtain ⟨pp, ps, rfl, hpp, eps⟩ := encT em
    have hpl := eps.length
    rw [List.length_map] at hpl
    obtain ⟨ysp, hwp⟩ := W.pl
    refine ⟨_, rfl, _, rfl, pp, _, rfl, .inr (SqT.of hpp), p, l, ns, _, _, rfl, by omega, cdw (by omega) (Nat.lt_of_le_of_lt (show _ ≤ 4000 by omega) (by decide)), W, by omega, fun at0 H2 j0 j1 W2 g2 => ?_⟩
    obtain ⟨jn, rfl⟩ := Int.eq_ofNat_of_zero_le j0
    have hjn : jn < ps.length := by omega
    have hpp2 := g2.tup hwp hpp
    have eps2 := eps.gwT g2 hwp
    obtain ⟨ysw, hwp2⟩ := W2.pl
    obtain ⟨y, hy⟩ : ∃ y, ps[jn]? = some y := ⟨_, List.getElem?_eq_getElem hjn⟩
    obtain ⟨d1, hd1, ey⟩ := eps2.get hy
    obtain ⟨m, hm, rfl⟩ := map_get hd1
    cases encI ey
    refine ⟨_, rfl, _, rfl, pp, _, _, _, rfl, rfl, SqT.of hpp2, at_g (j := jn) rfl hy, ?_⟩
    dsimp only [tSeq, tAsg, gName]
    refine lst_run (B := fun a => a ≠ p) (ds := [.int (m + 1), .int (m - 1), .int (-m), .bl (decide (V.int m = V.int 1)), .non, .tup [.int m], .int (-1 - m), .int (m + (10 : Int) ^ (Int.toNat 30)), .str "1", .int 0]) ?h1 ?z1 fun q3 zs H5 hq3 hn1 eA gA => ?_
    case h1 => repeat (first | exact mks_nil | refine mks_cons ?_ ?_ | exact mk_int | exact mk_bl | exact mk_non | exact mk_str ⟨by decide, by decide⟩ | exact mk_v rfl (EncB.int _) | refine mk_tup ?_ (Nat.le_of_ble_eq_true rfl) | exact mk_i (fun H1 Q q => ⟨_, rfl, _, _, rfl, rfl, q⟩) | exact mk_i (fun H1 Q q => ⟨_, rfl, _, rfl, q⟩) | exact mk_b (fun H1 Q q => ⟨_, rfl, rfl, q⟩) | exact mk_i (fun H1 Q q => ⟨_, rfl, _, rfl, _, _, rfl, rfl, q⟩) | exact mk_i (fun H1 Q q => ⟨_, rfl, _, _, rfl, rfl, ⟨by decide, by decide, by decide⟩, _, _, rfl, rfl, q⟩))
    case z1 => exact Nat.le_of_ble_eq_true rfl
    have hzl : zs.length = 10 := by rw [← eA.length]; rfl
    have hwp5 := gA.lst hwp2
    have nq3 : q3 ≠ p := fun z => by rw [z, hwp2] at hn1; cases hn1
    have hpp5 := gA.tup hpp2
    have eps5 := eps2.grow gA
    have W5 := W2.grow gA
    have gg5 := g2.trans' gA.w
    have key := mu_things (m4 m (List.mem_of_getElem? hm))
    refine ⟨_, rfl, _, rfl, q3, _, rfl, .inl (SqL.of hq3), _, _, rfl, rfl, p, l, ns, _, _, rfl, by omega, cdw (by omega) (Nat.lt_of_le_of_lt (show _ ≤ 20 by omega) (by decide)), W5, by omega, fun pk H6 p0 p1 W6 g6 => ?_⟩
    obtain ⟨pn, rfl⟩ := Int.eq_ofNat_of_zero_le p0
    have hq6 := g6.lst nq3 hq3
    have eA6 := EncsP.gw eA g6 hwp5
    have hpp6 := g6.tup hwp5 hpp5
    have eps6 := eps5.gwT g6 hwp5
    have gg6 := gg5.trans' g6
    obtain ⟨yw6, hwp6⟩ := W6.pl
    have es6 : EncsP p H6 (ms.map .int) ps := eps6.imp fun _ h => h.elim
    have ep6 : EncP p H6 (.tup (ms.map .int)) (.ref pp) := .tup hpp6 es6
    refine ⟨_, rfl, _, rfl, q3, _, rfl, .inl (SqL.of hq6), _, _, rfl, rfl, _, rfl, ?_⟩
    by_cases hpk : ((pn : Nat) : Int) < ((zs.length : Nat) : Int)
    · have hpn : pn < zs.length := by omega
      obtain ⟨d, hd, ed⟩ := eA6.get (List.getElem?_eq_getElem hpn)
      have hdB := key d (List.mem_of_getElem? hd)
      generalize hx : zs[pn] = x at ed
      refine ifT hpk ⟨_, rfl, _, rfl, _, rfl, _, rfl, q3, _, _, _, rfl, rfl, SqL.of hq6, at_g (j := pn) rfl (by rw [List.getElem?_eq_getElem hpn, hx]), p, .ref pp, x, jn, ms.map .int, d, rfl, ep6, by rw [List.length_map]; omega, by rw [List.length_map]; omega, ed, fun y H7 ey g7 => ?_⟩
      refine k y _ H7 ey (MuD.of fun d' hd' => ?_) ((W6.grow g7).more (by omega)) (gg6.trans' g7.w)
      rcases List.mem_append.mp hd' with h | h
      · rcases List.mem_append.mp h with h | h
        · exact muB m4 d' (List.mem_of_mem_take h)
        · rw [List.mem_singleton.mp h]; exact hdB
      · exact muB m4 d' (List.mem_of_mem_drop h)
    · have hpn : pn < 16 := by omega
      refine ifF hpk ?_
      dsimp only [tNext, tSeq, tAsg, gName]
      refine lst_run (B := fun a => a ≠ p) (ds := [.lst (ms.map .int), .tup ((ms.map .int).take jn ++ (ms.map .int).drop (jn + 1)), .tup (ms.map .int ++ [.int 0]), .non]) ?h9 ?z9 fun q8 zs8 K8 hq8 hn8 es8 k8 => ?_
      case h9 =>
        refine mks_cons ?_ (mks_cons ?_ (mks_cons ?_ (mks_cons mk_non mks_nil)))
        · intro H7 g7 Q7 q7
          refine ⟨_, rfl, pp, _, rfl, .inr (SqT.of (g7.tup hpp6)), fun a ha => ?_⟩
          have ga := Grow.new (o := .lst ps) ha
          exact q7 _ _ ga (.lst upd_same ((((eps6.grow g7).grow ga)).imp fun _ h => h.elim) (newP hwp6 a H7 g7 ha))
        · intro H7 g7 Q7 q7
          refine ⟨_, rfl, ?_⟩
          dsimp only [tNoPart]
          refine ⟨_, rfl, _, rfl, slA_take (g7.tup hpp6) (es6.grow g7) (n := jn) (by omega) fun q1 H1 h1 e1 g1 => ?_⟩
          refine ⟨_, rfl, _, rfl, _, _, rfl, rfl, _, rfl, ?_⟩
          dsimp only [tNoPart]
          have ej : ((jn : Nat) : Int) + 1 = ((jn + 1 : Nat) : Int) := by omega
          rw [ej]
          refine slA_drop ((g7.trans g1).tup hpp6) (es6.grow (g7.trans g1)) (n := jn + 1) (by omega) fun q2 H2 h2 e2 g2 => ?_
          refine cat_run (g2.tup h1) h2 (e1.grow g2) e2 ?_ fun q5 H5 h5 e5 g5 => ?_
          · rw [List.length_take, List.length_drop, List.length_map]
            omega
          exact q7 _ _ ((g1.trans g2).trans g5) (.tup h5 e5)
        · intro H7 g7 Q7 q7
          refine ⟨_, rfl, (by show 1 ≤ sizeLine; decide), fun b hb => ?_⟩
          have gb := Grow.new (o := .tup [.int 0]) hb
          refine cat_run ((g7.trans gb).tup hpp6) upd_same (es6.grow (g7.trans gb)) (.cons (.int 0) .nil) ?_ fun q5 H5 h5 e5 g5 => ?_
          · rw [List.length_map]
            show _ + 1 ≤ _
            omega
          exact q7 _ _ (gb.trans g5) (.tup h5 e5)
      case z9 => exact Nat.le_of_ble_eq_true rfl
      have hz8 : zs8.length = 4 := by rw [← es8.length]; rfl
      have hwp8 := k8.lst hwp6
      refine ⟨_, rfl, lst_run (B := fun a => a ≠ p) (ds := [.tup (ms.map fun m => .int (3 * m)), .tup (ms.map fun _ => .int 0)]) ?h2 ?z2 fun q9 zs9 K9 hq9 hn9 es9 k9 => ?_⟩
      case h2 =>
        refine mks_cons ?_ (mks_cons ?_ mks_nil)
        · intro H7 g7 Q7 q7
          have hpp7 := (k8.trans g7).tup hpp6
          refine ⟨_, rfl, pp, rfl, ⟨_, SqT.of hpp7⟩, fun D hD => ?_⟩
          refine lc_tup (K := K) (xs := ps) (fun i Hx => Hx D = some (.lst (((ms.take i).map fun m => 3 * m).map V.int)) ∧ Grow H7 Hx) ⟨upd_same, Grow.new hD⟩ (fun i Hx _ hq => SqT.of (hq.2.tup hpp7)) (fun i z Hx hz hq => ?_) (fun Hx hq => ?_)
          · obtain ⟨hacc, gx⟩ := hq
            obtain ⟨dz, hdz, ez⟩ := eps6.get hz
            obtain ⟨mz, hmz, rfl⟩ := map_get hdz
            cases encI ez
            have hi := (List.getElem?_eq_some_iff.mp hmz).1
            refine ⟨wipe_set, ?_⟩
            unfold tYes
            refine iteT ⟨_, rfl, _, _, rfl, rfl, .inl ⟨by decide, by decide⟩, _, hacc, ?_, ?_, gx.upd' hD⟩
            · rw [List.length_map, List.length_map, List.length_take, sizeLine_eq]
              omega
            · rw [upd_same, List.take_succ, hmz, List.map_append, List.map_append]
              rfl
          · obtain ⟨hacc, gx⟩ := hq
            rw [← hpl, List.take_length] at hacc
            refine ⟨D, _, rfl, .inl ⟨SqL.of hacc, fun t1 h1 => ?_⟩⟩
            have g1 := Grow.new (o := .tup ((ms.map fun m => 3 * m).map V.int)) h1
            have ee : ∀ l : List Int, EncsP p (upd Hx t1 (.tup ((ms.map fun m => 3 * m).map V.int))) (l.map fun m => Da.int (3 * m)) ((l.map fun m => 3 * m).map V.int) := fun l => by
              induction l with
              | nil => exact .nil
              | cons a l ih => exact .cons (.int _) ih
            exact q7 _ _ (gx.trans g1) (.tup upd_same (ee ms))
        · intro H7 g7 Q7 q7
          have hpp7 := (k8.trans g7).tup hpp6
          refine ⟨_, rfl, pp, rfl, ⟨_, SqT.of hpp7⟩, fun D hD => ?_⟩
          refine lc_tup (K := K) (xs := ps) (fun i Hx => Hx D = some (.lst (((ms.take i).map fun _ => (0 : Int)).map V.int)) ∧ Grow H7 Hx) ⟨upd_same, Grow.new hD⟩ (fun i Hx _ hq => SqT.of (hq.2.tup hpp7)) (fun i z Hx hz hq => ?_) (fun Hx hq => ?_)
          · obtain ⟨hacc, gx⟩ := hq
            obtain ⟨dz, hdz, ez⟩ := eps6.get hz
            obtain ⟨mz, hmz, rfl⟩ := map_get hdz
            have hi := (List.getElem?_eq_some_iff.mp hmz).1
            refine ⟨wipe_set, ?_⟩
            unfold tYes
            refine iteT ⟨_, hacc, ?_, ?_, gx.upd' hD⟩
            · rw [List.length_map, List.length_map, List.length_take, sizeLine_eq]
              omega
            · rw [upd_same, List.take_succ, hmz, List.map_append, List.map_append]
              rfl
          · obtain ⟨hacc, gx⟩ := hq
            rw [← hpl, List.take_length] at hacc
            refine ⟨D, _, rfl, .inl ⟨SqL.of hacc, fun t1 h1 => ?_⟩⟩
            have g1 := Grow.new (o := .tup ((ms.map fun _ => (0 : Int)).map V.int)) h1
            have ee : ∀ l : List Int, EncsP p (upd Hx t1 (.tup ((ms.map fun _ => (0 : Int)).map V.int))) (l.map fun _ => Da.int 0) ((l.map fun _ => (0 : Int)).map V.int) := fun l => by
              induction l with
              | nil => exact .nil
              | cons a l ih => exact .cons (.int _) ih
            exact q7 _ _ (gx.trans g1) (.tup upd_same (ee ms))
      case z2 => exact Nat.le_of_ble_eq_true rfl
      have hz9 : zs9.length = 2 := by rw [← es9.length]; rfl
      refine ⟨q8, q9, _, _, rfl, rfl, k9.lst hq8, hq9, by rw [hz8, hz9, sizeLine_eq]; exact Nat.le_of_ble_eq_true rfl, fun q10 h10 => ?_⟩
      have k10 := Grow.new (o := .lst (zs8 ++ zs9)) h10
      have kk := (k8.trans k9).trans k10
      have eB := (encs_app (es8.grow k9) es9).grow k10
      have hzl2 : (zs8 ++ zs9).length = 6 := by rw [List.length_append, hz8, hz9]
      have hpz : pn - 10 < (zs8 ++ zs9).length := by omega
      obtain ⟨d, hd, ed⟩ := eB.get (List.getElem?_eq_getElem hpz)
      refine ⟨_, rfl, _, rfl, _, rfl, q3, _, rfl, .inl (SqL.of (kk.lst hq6)), _, _, rfl, rfl, q10, _, _, _, rfl, rfl, SqL.of upd_same, at_g (j := pn - 10) (by omega) (List.getElem?_eq_getElem hpz), ?_⟩
      refine k _ d _ ed ?_ ((W6.grow kk).more (by omega)) (gg6.trans' kk.w)
      have hm := List.mem_of_getElem? hd
      simp only [List.mem_append, List.mem_cons, List.not_mem_nil, or_false] at hm
      rcases hm with (hm | hm | hm | hm) | (hm | hm)
      · rw [hm]
        exact fun l e => nomatch e
      · rw [hm]
        refine MuD.of fun d' hd' => ?_
        rcases List.mem_append.mp hd' with h | h
        · exact muB m4 d' (List.mem_of_mem_take h)
        · exact muB m4 d' (List.mem_of_mem_drop h)
      · rw [hm]
        refine MuD.of fun d' hd' => ?_
        rcases List.mem_append.mp hd' with h | h
        · exact muB m4 d' h
        · rw [List.mem_singleton.mp h]
          exact IB.is (by decide)
      · rw [hm]
        exact fun l e => nomatch e
      · rw [hm]
        refine MuD.of fun d' hd' => ?_
        obtain ⟨x, hx, rfl⟩ := List.mem_map.mp hd'
        have := m4 x hx
        exact IB.is (Nat.lt_of_le_of_lt (show (3 * x).natAbs ≤ 12 by omega) (by decide))
      · rw [hm]
        refine MuD.of fun d' hd' => ?_
        obtain ⟨x, hx, rfl⟩ := List.mem_map.mp hd'
        exact IB.is (by decide)
end
end J1
set_option Elab.async false
set_option linter.all false
set_option maxRecDepth 100000
set_option maxHeartbeats 4000000
namespace J1
open PySem PySem.Spec PyProof.Rows L2 GxR GA RZ
abbrev lWo : Stmt := top 77
theorem cWo : FnScope ["_law_pick", "_law_system", "_law_thing", "_law_word_here", "e"] ["_law_pick", "_law_system", "_law_thing"] (defScope lWo) := ⟨rfl, rfl, rfl, by decide +kernel, rfl, by decide +kernel, by decide +kernel⟩
/-- statements whose promise says what they need -/
theorem pss_and {X : Cx} {b : List Stmt} {P : Prop} {t : TS} (h : P → PSs X b t) : PSs X b (fun D σ H => ∃ _ : P, t D σ H) := ⟨fun pins s σ H D I q => (h q.1).run pins s σ H D I q.2⟩
/-- what is told of the errors' classes -/
structure IsB (K : PySem.W.Frag) (mg : Str → Option Value) (CB CL CS : Addr) : Prop where
  e : ExcC K CB
  k1 : PySem.W.kitOne K (.ref CB) (.ref CS) = some true
  k2 : PySem.W.kitOne K (.ref CB) (.type "ValueError") = some true
  k3 : PySem.W.kitOne K (.ref CB) (.ref CL) = some false
  mB : mg "BadSystem" = some (.ref CB)
  mS : mg "StepError" = some (.ref CS)
  mL : mg "BadLine" = some (.ref CL)
  mV : mg "ValueError" = none
  x : PySem.W.exmOne K (.ref CB) (.ref CB) = some true
def spWo : Sp := fun vs H Q _ => ∃ (pick : Int) (xs xt : V) (ds dt : Da), vs = [.int pick, xs, xt] ∧ Enc H ds xs ∧ Enc H dt xt ∧ ((isSy ds = false ∧ ∀ H', Grow H H' → Q (.str "bad") H') ∨
  (∃ c rs, ds = syD c rs ∧ SyOk c rs ∧ dt = .non ∧ (pick = 0 ∨ pick = 1) ∧ ∀ H', Grow H H' → Q (.str "none") H'))
def woSuite (K : PySem.W.Frag) (CB CL CS : Addr) (a : Addr) : TS :=
  tSeq (tAsg (tC (.str "bad")) (gName 3)) (tIfS (tOr (tNot (L2.tB (tCB (rIsE K CB a) (tCons (tVar 4) (tCons (tC (.ref CS)) tNil))))) (tOr (tNot (L2.tB (tCB (rIsE K CB a) (tCons (tVar 4) (tCons (tC (.ty "ValueError")) tNil))))) (L2.tB (tCB (rIsE K CB a) (tCons (tVar 4) (tCons (tC (.ref CL)) tNil))))))
    (tAsg (tC (.str "wrong")) (gName 3)) tNext)
section
variable {P : Program} {w : World} {K : PySem.W.Frag} {mg : Str → Option Value} {base : Heap}
theorem ok_word {f fK fR fS fL fI CB CL CS : Addr} {fd fdK fdR fdS fdL fdI : FuncData} (F : Fun K "_law_word" "_law_word" lWo f fd) (N : Gn K mg) (S : IsB K mg CB CL CS)
    (GK : FnOk P w K mg base (L2.CX P w) 7 fK fdK ["system", "thing"] (spKe CB)) (DK : Df K mg "keeps" ["system", "thing"] fK fdK)
    (GR : FnOk P w K mg base (L2.CX P w) 7 fR fdR ["system", "thing"] (spRe CB)) (DR : Df K mg "refutes" ["system", "thing"] fR fdR)
    (GS : FnOk P w K mg base (L2.CX P w) 7 fS fdS ["system"] (spB1 CB)) (DS : Df K mg "solve" ["system"] fS fdS)
    (GL : FnOk P w K mg base (L2.CX P w) 7 fL fdL ["system", "line"] (spB2 CB)) (DL : Df K mg "least" ["system", "line"] fL fdL)
    (GI : FnOk P w K mg base (L2.CX P w) 7 fI fdI ["system", "line", "thing"] (spB3 CB)) (DI : Df K mg "is_least" ["system", "line", "thing"] fI fdI) :
    FnOk P w K mg base CX0 8 f fd ["_law_pick", "_law_system", "_law_thing"] spWo := by
  refine F.ok (k := 7) cWo (fun vs H Q E h => ?_) (fun cdv A outer s H vs Q E hr h => ?_)
  · obtain ⟨_, _, _, _, _, rfl, _⟩ := h
    rfl
  · obtain ⟨pick, xs, xt, ds, dt, rfl, es, et, hk⟩ := h
    refine ⟨_, (pss_cons (ps_set (i := 3) cWo.nd rfl (Or.inl rfl) pe_str) (C8.pss_cut (ps_try_as (c := .ref CB) (i := 4)
      (tb := fun W => tIfS (tTest (tOp rEq (tVar 0) (tC (.int 0)))) (tDrop (tCallS (spKe CB) (WE W) (tCons (tVar 1) (tCons (tVar 2) tNil))))
        (tIfS (tTest (tOp rEq (tVar 0) (tC (.int 1)))) (tDrop (tCallS (spRe CB) (WE W) (tCons (tVar 1) (tCons (tVar 2) tNil))))
        (tIfS (tTest (tOp rEq (tVar 0) (tC (.int 2)))) (tDrop (tCallS (spB1 CB) (WE W) (tCons (tVar 1) tNil)))
        (tIfS (tTest (tOp rEq (tVar 0) (tC (.int 3)))) (tDrop (tCallS (spB2 CB) (WE W) (tCons (tVar 1) (tCons (tVar 2) tNil))))
          (tDrop (tCallS (spB3 CB) (WE W) (tCons (tVar 1) (tCons (tVar 2) (tCons (tVar 2) tNil)))))))))
      (ts := fun a cls d D σ H => ∃ _ : cls = .ref CB ∧ d = none, woSuite K CB CL CS a D σ H) (Wout := fun _ _ _ _ => False) rfl rfl cWo.nd rfl rfl ⟨rfl, by decide, .inl S.mB⟩ takes0
      (fun W pn xe tk _ => (pss_one (ps_if (pt_cmpR op_eq (pv 0) pe_int (nomark _)) (pss_one (ps_expr (by exact (pe_callS GK hr rfl DK.g DK.k DK.b (fun σ => passAt tk σ) (by exact (pa_cons (pv 1) (pa_cons (pv 2) pa_nil))))))) (pss_one (ps_if (pt_cmpR op_eq (pv 0) pe_int (nomark _)) (pss_one (ps_expr (by exact (pe_callS GR hr rfl DR.g DR.k DR.b (fun σ => passAt tk σ) (by exact (pa_cons (pv 1) (pa_cons (pv 2) pa_nil))))))) (pss_one (ps_if (pt_cmpR op_eq (pv 0) pe_int (nomark _)) (pss_one (ps_expr (by exact (pe_callS GS hr rfl DS.g DS.k DS.b (fun σ => passAt tk σ) (by exact (pa_cons (pv 1) pa_nil)))))) (pss_one (ps_if (pt_cmpR op_eq (pv 0) pe_int (nomark _)) (pss_one (ps_expr (by exact (pe_callS GL hr rfl DL.g DL.k DL.b (fun σ => passAt tk σ) (by exact (pa_cons (pv 1) (pa_cons (pv 2) pa_nil))))))) (pss_one (ps_expr (by exact (pe_callS GI hr rfl DI.g DI.k DI.b (fun σ => passAt tk σ) (by exact (pa_cons (pv 1) (pa_cons (pv 2) (pa_cons (pv 2) pa_nil)))))))))))))))))
      (fun a oe cls d pn hz hf => pss_and fun ⟨e1, e2⟩ => by
        subst e1
        subst e2
        exact pss_cons (ps_set (i := 3) cWo.nd rfl (Or.inl rfl) pe_str)
          (pss_one (ps_if (PW.pt (pw_or (pt_not (pt_val (pe_callB (call_isE S.e hz hf) (by rfl) N.nI boot_isinstance (pa_cons (pv 4) (pa_cons (pe_glob (v := .ref CS) (by rfl) S.mS rfl) pa_nil)))))
            (pw_or (pt_not (pt_val (pe_callB (call_isE S.e hz hf) (by rfl) N.nI boot_isinstance (pa_cons (pv 4) (pa_cons (pe_bltn (v := .ty "ValueError") rfl S.mV (by decide +kernel) rfl) pa_nil)))))
            (pw_or1 (pt_val (pe_callB (call_isE S.e hz hf) (by rfl) N.nI boot_isinstance (pa_cons (pv 4) (pa_cons (pe_glob (v := .ref CL) (by rfl) S.mL rfl) pa_nil))))))))
            (pss_one (ps_set (i := 3) cWo.nd rfl (Or.inl rfl) pe_str)) pss_nil))))
      (pss_one (ps_ret (pv 3))))), ?_⟩
    have suite : ∀ (a : Addr) (H' : Hp) (D : Ends) (σ : L2.St), (σ.set 3 (some (.str "bad")))[4]? = some (some (.ref a)) → D.nx (σ.set 3 (some (.str "bad"))) H' → woSuite K CB CL CS a D σ H' := by
      intro a H' D σ h4 k
      refine ⟨_, h4, .ref CS, .ref CS, true, rfl, (fun u h => h), S.k1, _, rfl, ?_⟩
      refine ⟨_, h4, .ty "ValueError", .type "ValueError", true, rfl, (fun u h => h), S.k2, _, rfl, ?_⟩
      refine ⟨_, h4, .ref CL, .ref CL, false, rfl, (fun u h => h), S.k3, _, rfl, ?_⟩
      exact k
    refine ⟨fun σ' H' => ∃ z : Str, σ' = [some (.int pick), some xs, some xt, some (.str z), none] ∧ Q (.str z) H', ?_, ?_⟩
    · rcases hk with ⟨hb, hk⟩ | ⟨c, rs, rfl, so, rfl, hp, hk⟩
      · have leave : ∀ (R : Prop) (H' : Hp), Grow H H' → True := fun _ _ _ => trivial
        refine ⟨_, rfl, rfl, _, rfl, ite2 (fun _ => ?_) (fun _ => ⟨_, rfl, rfl, _, rfl, ite2 (fun _ => ?_) (fun _ => ⟨_, rfl, rfl, _, rfl, ite2 (fun _ => ?_) (fun _ => ⟨_, rfl, rfl, _, rfl, ite2 (fun _ => ?_) (fun _ => ?_)⟩)⟩)⟩)⟩
        · exact ⟨_, rfl, _, rfl, xs, xt, ds, dt, rfl, es, et, .inl ⟨hb, fun H' g => ⟨true, S.x, fun _ a na => ⟨⟨rfl, rfl⟩, suite a H' _ _ rfl ⟨"bad", rfl, hk H' g⟩⟩, fun z => Bool.noConfusion z⟩⟩⟩
        · exact ⟨_, rfl, _, rfl, xs, xt, ds, dt, rfl, es, et, .inl ⟨hb, fun H' g => ⟨true, S.x, fun _ a na => ⟨⟨rfl, rfl⟩, suite a H' _ _ rfl ⟨"bad", rfl, hk H' g⟩⟩, fun z => Bool.noConfusion z⟩⟩⟩
        · exact ⟨_, rfl, xs, ds, rfl, es, hb, fun H' g => ⟨true, S.x, fun _ a na => ⟨⟨rfl, rfl⟩, suite a H' _ _ rfl ⟨"bad", rfl, hk H' g⟩⟩, fun z => Bool.noConfusion z⟩⟩
        · exact ⟨_, rfl, _, rfl, xs, xt, ds, rfl, es, hb, fun H' g => ⟨true, S.x, fun _ a na => ⟨⟨rfl, rfl⟩, suite a H' _ _ rfl ⟨"bad", rfl, hk H' g⟩⟩, fun z => Bool.noConfusion z⟩⟩
        · exact ⟨_, rfl, _, rfl, _, rfl, xs, xt, xt, ds, rfl, es, hb, fun H' g => ⟨true, S.x, fun _ a na => ⟨⟨rfl, rfl⟩, suite a H' _ _ rfl ⟨"bad", rfl, hk H' g⟩⟩, fun z => Bool.noConfusion z⟩⟩
      · refine ⟨_, rfl, rfl, _, rfl, ?_⟩
        have nP : PtD .non := fun l e => nomatch e
        have nM : MuD .non := fun l e => nomatch e
        rcases hp with rfl | rfl
        · exact ifT rfl ⟨_, rfl, _, rfl, xs, xt, _, _, rfl, es, et, .inr ⟨c, rs, rfl, so, nP, fun H' g => ⟨"none", rfl, hk H' g⟩⟩⟩
        · refine ifF (fun z => by cases z) ⟨_, rfl, rfl, _, rfl, ifT rfl ⟨_, rfl, _, rfl, xs, xt, _, _, rfl, es, et, .inr ⟨c, rs, rfl, so, nM, fun H' g => ⟨"none", rfl, hk H' g⟩⟩⟩⟩
    · rintro σ' H' ⟨z, rfl, q⟩
      exact ⟨_, rfl, q⟩
end
end J1
set_option Elab.async false
set_option linter.all false
set_option maxRecDepth 100000
set_option maxHeartbeats 4000000
namespace J1
open PySem PySem.Spec PyProof.Rows L2 GxR GA RZ
abbrev lAk : Stmt := top 78
theorem cAk : FnScope ["_law_well_here", "_law_system", "_law_point_here", "_law_numbers", "_law_thing", "_law_due", "_law_some"] ["_law_well_here", "_law_system", "_law_point_here", "_law_numbers"] (defScope lAk) := ⟨rfl, rfl, rfl, by decide +kernel, rfl, by decide +kernel, by decide +kernel⟩
def tKws (n : Nat) (sp : Sp) (gV : List V → List V → List V) (W : XK) (tk : TA) : TE := fun σ H Q => tk σ H fun zs H1 => zs.length = n ∧ sp (gV [] zs) H1 Q W
theorem pe_kws {X : Cx} {CX : CXT} {j : Nat} {fa : Addr} {fdt : FuncData} {prs kns : List Str} {sp : Sp} {W : XK} {nm : Str} {p0 p1 : Pos} {kv : List Keyword} {tk : TA} {g : List Value → List Value → List Value} {gV : List V → List V → List V}
    (G : FnOk X.prog X.w X.K X.mg X.base CX j fa fdt prs sp) (room : Room j X.A) (gl : Gl X nm) (at_ : X.mg nm = some (.ref fa)) (kp : PySem.W.keepIn X.K (.ref fa) = true) (bnd : KBn X.K fdt prs 0 kns g gV) (out : Passes CX X W) (pk : PK X kv tk)
    (h1 : (backToKw p1 (keywordEach kv X.env)).all (·.1.isSome) = true := by rfl) (h2 : (backToKw p1 (keywordEach kv X.env)).filterMap (·.1) = kns := by rfl)
    (h3 : (nm == ("__debug__" : Str)) = false := by decide) (h4 : ((backTo p1 (starEach [] X.env)).any (·.1) || (backToKw p1 (keywordEach kv X.env)).any (·.1.isNone)) = false := by rfl) :
    PE X (.Call (.Name nm p0) [] kv p1) (tKws kns.length sp gV W tk) := by
  constructor
  intro pins s σ H Q I h
  apply wpAny_Call_Name_kw
  refine ld_glob I gl at_ (PySem.W.callWith_KW0 (h₀ := X.base) I.ok.mod.kin kp h1 ?_ h4) h3
  refine thn (pk.run p1 pins s σ H _ I h) fun ws s2 got => ?_
  obtain ⟨zs, H2, I2, rz, len, want⟩ := got
  refine ⟨I2.kIn, ?_⟩
  rw [h2]
  exact run_fnN (us := []) (vs := []) G room bnd out I2 .nil rz rfl len want
/-! ### several clauses, each with its name -/
theorem passX {P : Program} {w : World} {X : Cx} : Passes (L2.CX P w) X E0 := fun _ _ _ _ _ _ _ h => by
  obtain ⟨_, _, _, _, _, _, _, _, _, _, _, _, z⟩ := h
  exact z.elim
def spAk : Sp := fun vs H Q _ => ∃ (p l : Addr) (ns : List Int) (n : Nat) (xs xp xn : V) (c : Int) (rs : List Rw) (pr : List Tm) (ms : List Int), vs = [.ref p, xs, xp, xn] ∧ EncT H (syD c rs) xs ∧ SyOk c rs ∧ EncT H (.tup (pr.map tmD)) xp ∧ PrA pr ∧ pr.length ≤ 4000 ∧ EncT H (.tup (ms.map .int)) xn ∧ Mu4 ms ∧ 1 ≤ ms.length ∧ ms.length ≤ 100 ∧ Wl H p l ns n ∧ n + 5000 ≤ BIG ∧
  ∀ H', Wl H' p l ns (n + 10) → GrowW p H H' → Q (.bl true) H'
section
variable {P : Program} {w : World} {K : PySem.W.Frag} {mg : Str → Option Value} {base : Heap}
theorem ok_asked {f fK fR fLk fLf fTr fSp fSn fSh CB : Addr} {fd fdK fdR fdLk fdLf fdTr fdSp fdSn fdSh : FuncData} {g1 g2 : List Value → List Value → List Value} (F : Fun K "_law_asked" "_law_asked" lAk f fd)
    (GK : FnOk P w K mg base (L2.CX P w) 7 fK fdK ["system", "thing"] (spKe CB)) (DK : Df K mg "keeps" ["system", "thing"] fK fdK) (KK : KBn K fdK ["system", "thing"] 0 ["thing", "system"] g1 (fun _ zs => zs.reverse))
    (GR : FnOk P w K mg base (L2.CX P w) 7 fR fdR ["system", "thing"] (spRe CB)) (DR : Df K mg "refutes" ["system", "thing"] fR fdR) (KR : KBn K fdR ["system", "thing"] 0 ["thing", "system"] g2 (fun _ zs => zs.reverse))
    (GLk : FnOk P w K mg base CX0 3 fLk fdLk ["_law_system", "_law_thing"] spLk) (DLk : Df K mg "_law_keeps" ["_law_system", "_law_thing"] fLk fdLk)
    (GLf : FnOk P w K mg base CX0 3 fLf fdLf ["_law_rows", "_law_thing"] spLf) (DLf : Df K mg "_law_refutes" ["_law_rows", "_law_thing"] fLf fdLf)
    (GTr : FnOk P w K mg base CX0 1 fTr fdTr ["_law_told", "_law_due"] spTr) (DTr : Df K mg "_law_truth" ["_law_told", "_law_due"] fTr fdTr)
    (GSp : FnOk P w K mg base CX0 2 fSp fdSp ["_law_well_here", "_law_point_here"] spSp) (DSp : Df K mg "_law_spoilt_point" ["_law_well_here", "_law_point_here"] fSp fdSp)
    (GSn : FnOk P w K mg base CX0 2 fSn fdSn ["_law_well_here", "_law_numbers"] spSn) (DSn : Df K mg "_law_spoilt_numbers" ["_law_well_here", "_law_numbers"] fSn fdSn)
    (GSh : FnOk P w K mg base CX0 1 fSh fdSh [] spSh) (DSh : Df K mg "_law_shared" [] fSh fdSh) : FnOk P w K mg base CX0 8 f fd ["_law_well_here", "_law_system", "_law_point_here", "_law_numbers"] spAk := by
  refine F.ok (k := 7) cAk (fun vs H Q E h => ?_) (fun cdv A outer s H vs Q E hr h => ?_)
  · obtain ⟨_, _, _, _, _, _, _, _, _, _, _, rfl, _⟩ := h
    rfl
  · obtain ⟨p, l, ns, n, xs, xp, xn, c, rs, pr, ms, rfl, es, so, ep, pa, hpl, em, m4, hm1, hm2, W, hn, k⟩ := h
    refine ⟨_, (pss_cons (ps_for PassesOwn.never rfl (pi_list (pe_lst (pa_cons (pv 2) (pa_cons (pe_call (GSp.mono (by decide)) hr (by rfl) DSp.g DSp.k DSp.b .nil pass0 (pa_cons (pv 0) (pa_cons (pv 2) pa_nil))) (pa_cons (pe_call (GSp.mono (by decide)) hr (by rfl) DSp.g DSp.k DSp.b .nil pass0 (pa_cons (pv 0) (pa_cons (pv 2) pa_nil))) (pa_cons (pv 2) (pa_cons (pe_tup pa_nil) (pa_cons (pe_call0 (GSh.mono (by decide)) hr (by rfl) DSh.g DSh.k DSh.b .nil pass0) pa_nil)))))))) (pg_name (i := 4) cAk.nd rfl (Or.inl rfl)) (pss_cons (ps_set (i := 5) cAk.nd rfl (Or.inl rfl) (pe_call (GLk.mono (by decide)) hr (by rfl) DLk.g DLk.k DLk.b .nil pass0 (pa_cons (pv 1) (pa_cons (pv 4) pa_nil)))) (pss_one (ps_if (PW.pt (pw_or (pt_not (pt_val (pe_call (GTr.mono (by decide)) hr (by rfl) DTr.g DTr.k DTr.b .nil pass0 (pa_cons (pe_call GK hr (by rfl) DK.g DK.k DK.b .nil passX (pa_cons (pv 1) (pa_cons (pv 4) pa_nil))) (pa_cons (pv 5) pa_nil))))) (pw_or1 (pt_not (pt_val (pe_call (GTr.mono (by decide)) hr (by rfl) DTr.g DTr.k DTr.b .nil pass0 (pa_cons (pe_kws (kns := ["thing", "system"]) GK hr (by rfl) DK.g DK.k KK passX (pk_cons (pv 4) (pk_cons (pv 1) pk_nil))) (pa_cons (pv 5) pa_nil)))))))) (pss_one (ps_ret pe_bl)) pss_nil)))) (pss_cons (ps_set (i := 6) cAk.nd rfl (Or.inl rfl) (pe_lst (pa_cons (pe_call (GSn.mono (by decide)) hr (by rfl) DSn.g DSn.k DSn.b .nil pass0 (pa_cons (pv 0) (pa_cons (pv 3) pa_nil))) (pa_cons (pe_call (GSn.mono (by decide)) hr (by rfl) DSn.g DSn.k DSn.b .nil pass0 (pa_cons (pv 0) (pa_cons (pv 3) pa_nil))) pa_nil)))) (pss_cons (ps_for PassesOwn.never rfl (pi_list (pe_op op_cat (pe_op op_cat (pe_lst (pa_cons (pv 3) pa_nil)) (pv 6)) (pe_lst (pa_cons (pv 3) (pa_cons (pe_call0 (GSh.mono (by decide)) hr (by rfl) DSh.g DSh.k DSh.b .nil pass0) pa_nil))))) (pg_name (i := 4) cAk.nd rfl (Or.inl rfl)) (pss_cons (ps_set (i := 5) cAk.nd rfl (Or.inl rfl) (pe_call (GLf.mono (by decide)) hr (by rfl) DLf.g DLf.k DLf.b .nil pass0 (pa_cons (pe_ix ix_tup (pv 1) pe_int (fun _ _ => rfl)) (pa_cons (pv 4) pa_nil)))) (pss_one (ps_if (PW.pt (pw_or (pt_not (pt_val (pe_call (GTr.mono (by decide)) hr (by rfl) DTr.g DTr.k DTr.b .nil pass0 (pa_cons (pe_call GR hr (by rfl) DR.g DR.k DR.b .nil passX (pa_cons (pv 1) (pa_cons (pv 4) pa_nil))) (pa_cons (pv 5) pa_nil))))) (pw_or1 (pt_not (pt_val (pe_call (GTr.mono (by decide)) hr (by rfl) DTr.g DTr.k DTr.b .nil pass0 (pa_cons (pe_kws (kns := ["thing", "system"]) GR hr (by rfl) DR.g DR.k KR passX (pk_cons (pv 4) (pk_cons (pv 1) pk_nil))) (pa_cons (pv 5) pa_nil)))))))) (pss_one (ps_ret pe_bl)) pss_nil)))) (pss_one (ps_ret pe_bl))))), ?_⟩
    unfold BIG at hn
    obtain ⟨ys0, hw0⟩ := W.pl
    have npt : PtD (.tup (pr.map tmD)) := PtD.of (prB pa)
    have nmu : MuD (.tup (ms.map .int)) := MuD.of (muB m4)
    refine ⟨_, rfl, _, rfl, _, rfl, p, l, ns, n, xp, pr, rfl, ep, pa, hpl, W, by unfold BIG; omega, fun x1 d1 H1 e1 P1 W1 gw1 => ?_⟩
    obtain ⟨ys1, hw1⟩ := W1.pl
    have es1 := es.gwT gw1 hw0
    have ep1 := ep.gwT gw1 hw0
    have em1 := em.gwT gw1 hw0
    refine ⟨_, rfl, _, rfl, p, l, ns, _, xp, pr, rfl, ep1, pa, hpl, W1, by unfold BIG; omega, fun x2 d2 H2 e2 P2 W2 gw2 => ?_⟩
    obtain ⟨ys2, hw2⟩ := W2.pl
    have es2 := es1.gwT gw2 hw1
    have ep2 := ep1.gwT gw2 hw1
    have em2 := em1.gwT gw2 hw1
    have e12 := EncP.gw e1 gw2 hw1
    refine ⟨_, rfl, Nat.zero_le _, fun t0 h0 => ⟨rfl, fun x3 d3 H3 e3 P3 M3 g3 => ⟨(by show 6 ≤ sizeLine; decide), fun L hL => ?_⟩⟩⟩
    have a0 := Grow.new (o := .tup []) h0
    have aL := Grow.new (o := .lst [xp, x1, x2, xp, .ref t0, x3]) hL
    have aa := (a0.trans g3).trans aL
    have eL : EncsP p (upd H3 L (.lst [xp, x1, x2, xp, .ref t0, x3])) [.tup (pr.map tmD), d1, d2, .tup (pr.map tmD), .tup [], d3] [xp, x1, x2, xp, .ref t0, x3] :=
      .cons (EncB.ofT (ep2.grow aa)) (.cons (e12.grow aa) (.cons (e2.grow aa) (.cons (EncB.ofT (ep2.grow aa)) (.cons (((EncB.tup (upd_same (H := H2) (a := t0) (o := .tup [])) .nil).grow g3).grow aL) (.cons (EncB.ofT (e3.grow aL)) .nil)))))
    have pL : ∀ d ∈ ([.tup (pr.map tmD), d1, d2, .tup (pr.map tmD), .tup [], d3] : List Da), PtD d := fun d hd => by
      simp only [List.mem_cons, List.not_mem_nil, or_false] at hd
      rcases hd with hd | hd | hd | hd | hd | hd
      · rw [hd]; exact npt
      · rw [hd]; exact P1
      · rw [hd]; exact P2
      · rw [hd]; exact npt
      · rw [hd]; exact PtD.of fun d hd => absurd hd List.not_mem_nil
      · rw [hd]; exact P3
    have hLL := upd_same (H := H3) (a := L) (o := .lst [xp, x1, x2, xp, V.ref t0, x3])
    have es3 := es2.grow aa
    have ep3 := ep2.grow aa
    have em3 := em2.grow aa
    have W3 := W2.grow aa
    have gw3 := (gw1.trans' gw2).trans' aa.w
    generalize upd H3 L (.lst [xp, x1, x2, xp, .ref t0, x3]) = HL at eL hLL es3 ep3 em3 W3 gw3 ⊢
    generalize ([.tup (pr.map tmD), d1, d2, .tup (pr.map tmD), .tup [], d3] : List Da) = dL at eL pL
    generalize ([xp, x1, x2, xp, .ref t0, x3] : List V) = vL at eL hLL ⊢
    refine ⟨L, rfl, ⟨_, SqL.of hLL⟩, ?_⟩
    refine for_list (K := K) (a := L) (xs := vL) (fun i σ' Hc => ∃ (v4 v5 : Option V), σ' = [some (.ref p), some xs, some xp, some xn, v4, v5, none] ∧ Grow HL Hc) ⟨_, _, rfl, Grow.refl _⟩ (fun i σ' Hc _ hq => ?_) (fun i z σ' Hc hz hq => ?_) (fun σ' Hc hq => ?_)
    · obtain ⟨_, _, _, g⟩ := hq
      exact SqL.of (g.lst hLL)
    · obtain ⟨v4, v5, rfl, g⟩ := hq
      obtain ⟨d, hd, ed⟩ := eL.get hz
      have pd := pL d (List.mem_of_getElem? hd)
      have ed := (ed.grow g).any
      have esc := (es3.grow g).any
      refine ⟨_, rfl, _, rfl, xs, z, c, rs, d, rfl, esc, ed, so, pd, fun H4 g4 => ?_⟩
      refine ⟨_, rfl, _, rfl, xs, z, _, d, rfl, esc.grow g4, ed.grow g4, .inr ⟨c, rs, rfl, so, pd, fun H5 g5 => ⟨_, rfl, _, _, rfl, _, rfl, ?_⟩⟩⟩
      rw [beq_self_eq_true]
      have g45 := g4.trans g5
      refine iteF ⟨_, rfl, _, rfl, rfl, xs, z, _, d, rfl, esc.grow g45, ed.grow g45, .inr ⟨c, rs, rfl, so, pd, fun H6 g6 => ⟨_, rfl, _, _, rfl, _, rfl, ?_⟩⟩⟩
      rw [beq_self_eq_true]
      exact iteF ⟨_, _, rfl, (g.trans g45).trans g6⟩
    · obtain ⟨v4, v5, rfl, g⟩ := hq
      have esA := es3.grow g
      have emA := em3.grow g
      have WA := W3.grow g
      have gA := gw3.trans' g.w
      clear eL hLL pL
      obtain ⟨ysA, hwA⟩ := WA.pl
      refine ⟨_, rfl, _, rfl, p, l, ns, _, xn, ms, rfl, emA, m4, hm1, hm2, WA, by unfold BIG; omega, fun y1 f1 K1 k1 Q1 U1 kw1 => ?_⟩
      obtain ⟨yu1, hu1⟩ := U1.pl
      have es4 := esA.gwT kw1 hwA
      have em4 := emA.gwT kw1 hwA
      refine ⟨_, rfl, _, rfl, p, l, ns, _, xn, ms, rfl, em4, m4, hm1, hm2, U1, by unfold BIG; omega, fun y2 f2 K2 k2 Q2 U2 kw2 => ⟨(by show 2 ≤ sizeLine; decide), fun S hS => ?_⟩⟩
      obtain ⟨yu2, hu2⟩ := U2.pl
      have es5 := es4.gwT kw2 hu1
      have em5 := em4.gwT kw2 hu1
      have k12 := EncP.gw k1 kw2 hu1
      have b1 := Grow.new (o := .lst [y1, y2]) hS
      have hS1 := upd_same (H := K2) (a := S) (o := .lst [y1, y2])
      have eS : EncsP p (upd K2 S (.lst [y1, y2])) [f1, f2] [y1, y2] := .cons (k12.grow b1) (.cons (k2.grow b1) .nil)
      have es6 := es5.grow b1
      have em6 := em5.grow b1
      have W6 := U2.grow b1
      have gw6 := ((gA.trans' kw1).trans' kw2).trans' b1.w
      generalize upd K2 S (.lst [y1, y2]) = H6 at hS1 eS es6 em6 W6 gw6 ⊢
      refine ⟨_, rfl, (by show 1 ≤ sizeLine; decide), fun l1 hl1 => ?_⟩
      have c1 := Grow.new (o := .lst [xn]) hl1
      refine ⟨_, rfl, l1, S, _, _, rfl, rfl, upd_same, c1.lst hS1, (by show 1 + 2 ≤ sizeLine; decide), fun l2 hl2 => ?_⟩
      have c2 := Grow.new (o := .lst ([xn] ++ [y1, y2])) hl2
      refine ⟨_, rfl, rfl, fun x3 d3 H8 e3 P3 M3 g8 => ⟨(by show 2 ≤ sizeLine; decide), fun l3 hl3 => ?_⟩⟩
      have c3 := Grow.new (o := .lst [xn, x3]) hl3
      refine ⟨l2, l3, _, _, rfl, rfl, c3.lst (g8.lst upd_same), upd_same, (by show 3 + 2 ≤ sizeLine; decide), fun L hL => ?_⟩
      have c4 := Grow.new (o := .lst ([xn] ++ [y1, y2] ++ [xn, x3])) hL
      have cc := (((c1.trans c2).trans g8).trans c3).trans c4
      have eL : EncsP p (upd (upd H8 l3 (.lst [xn, x3])) L (.lst ([xn] ++ [y1, y2] ++ [xn, x3]))) ([.tup (ms.map .int)] ++ [f1, f2] ++ [.tup (ms.map .int), d3]) ([xn] ++ [y1, y2] ++ [xn, x3]) :=
        encs_app (encs_app (.cons (EncB.ofT (em6.grow cc)) .nil) (eS.grow cc)) (.cons (EncB.ofT (em6.grow cc)) (.cons (EncB.ofT ((e3.grow c3).grow c4)) .nil))
      have pL : ∀ d ∈ ([.tup (ms.map .int)] ++ [f1, f2] ++ [.tup (ms.map .int), d3] : List Da), MuD d := fun d hd => by
        simp only [List.mem_append, List.mem_cons, List.not_mem_nil, or_false] at hd
        rcases hd with (hd | hd | hd) | (hd | hd)
        · rw [hd]; exact nmu
        · rw [hd]; exact Q1
        · rw [hd]; exact Q2
        · rw [hd]; exact nmu
        · rw [hd]; exact M3
      have hLL := upd_same (H := upd H8 l3 (.lst [xn, x3])) (a := L) (o := .lst ([xn] ++ [y1, y2] ++ [xn, x3]))
      have es7 := es6.grow cc
      have W7 := W6.grow cc
      have gw7 := gw6.trans' cc.w
      generalize upd (upd H8 l3 (.lst [xn, x3])) L (.lst ([xn] ++ [y1, y2] ++ [xn, x3])) = HL2 at eL hLL es7 W7 gw7 ⊢
      generalize ([.tup (ms.map .int)] ++ [f1, f2] ++ [.tup (ms.map .int), d3] : List Da) = dL at eL pL
      generalize ([xn] ++ [y1, y2] ++ [xn, x3] : List V) = vL at eL hLL ⊢
      obtain ⟨q, u, v, rfl, hq0, f0, f1'⟩ := enc2 es7
      refine ⟨L, rfl, ⟨_, SqL.of hLL⟩, ?_⟩
      refine for_list (K := K) (a := L) (xs := vL) (fun i σ' Hc => ∃ (v4 v5 : Option V), σ' = [some (.ref p), some (.ref q), some xp, some xn, v4, v5, some (.ref S)] ∧ Grow HL2 Hc) ⟨_, _, rfl, Grow.refl _⟩ (fun i σ' Hc _ hq => ?_) (fun i z σ' Hc hz hq => ?_) (fun σ' Hc hq => ?_)
      · obtain ⟨_, _, _, g⟩ := hq
        exact SqL.of (g.lst hLL)
      · obtain ⟨v4, v5, rfl, g⟩ := hq
        obtain ⟨d, hd, ed⟩ := eL.get hz
        have pd := pL d (List.mem_of_getElem? hd)
        have ed := (ed.grow g).any
        have esc := (es7.grow g).any
        refine ⟨_, rfl, q, _, _, _, rfl, rfl, SqT.of (g.tup hq0), at_of (j := 1) rfl rfl, _, rfl, v, z, rs, d, c, rfl, (f1'.grow g).any, ed, so.le, so.ln, pd, fun H4 g4 => ?_⟩
        refine ⟨_, rfl, _, rfl, .ref q, z, _, d, rfl, esc.grow g4, ed.grow g4, .inr ⟨c, rs, rfl, so, pd, fun H5 g5 => ⟨_, rfl, _, _, rfl, _, rfl, ?_⟩⟩⟩
        rw [beq_self_eq_true]
        have g45 := g4.trans g5
        refine iteF ⟨_, rfl, _, rfl, rfl, .ref q, z, _, d, rfl, esc.grow g45, ed.grow g45, .inr ⟨c, rs, rfl, so, pd, fun H6 g6 => ⟨_, rfl, _, _, rfl, _, rfl, ?_⟩⟩⟩
        rw [beq_self_eq_true]
        exact iteF ⟨_, _, rfl, (g.trans g45).trans g6⟩
      · obtain ⟨v4, v5, rfl, g⟩ := hq
        exact k _ ((W7.grow g).more (by omega)) (gw7.trans' g.w)
end
end J1
set_option Elab.async false
set_option linter.all false
set_option maxRecDepth 100000
set_option maxHeartbeats 4000000
namespace J1
open PySem PySem.Spec PyProof.Rows L2 GxR GA RZ
/-! ### what the law leans on -/
theorem LnOk.mono {c d : Int} {l : Ln} (h : LnOk c l) (hd : c ≤ d) : LnOk d l := ⟨h.asc, fun t ht => by have := h.rng t ht; exact ⟨this.1, by omega, this.2.2⟩, h.cb, h.tb⟩
theorem ptAt_app {pr ex : List Tm} {u : Int} (h0 : 0 ≤ u) (h : u < pr.length) : ptAt (pr ++ ex) u = ptAt pr u := by
  unfold ptAt
  rw [List.getD_eq_getElem?_getD, List.getD_eq_getElem?_getD, List.getElem?_append_left (by omega)]
theorem fold_app {pr ex : List Tm} {ts : List Tm} : ∀ {s : Int × Int}, (∀ t ∈ ts, 0 ≤ t.1 ∧ t.1 < pr.length) → ts.foldl (stL (pr ++ ex)) s = ts.foldl (stL pr) s := by
  induction ts with
  | nil => intro s _; rfl
  | cons t ts ih =>
    intro s h
    have q := h t List.mem_cons_self
    rw [List.foldl_cons, List.foldl_cons, show stL (pr ++ ex) s t = stL pr s t by unfold stL; rw [ptAt_app q.1 q.2]]
    exact ih fun u hu => h u (List.mem_cons_of_mem _ hu)
theorem rowOk_app {pr ex : List Tm} {r : Rw} (h : LnOk pr.length r.1) : rowOk (pr ++ ex) r = rowOk pr r := by
  unfold rowOk
  rw [fold_app fun t ht => ⟨(h.rng t ht).1, (h.rng t ht).2.1⟩]
theorem prOf_map (pr : List Tm) : (pr.map tmD).map prOf = pr := by
  rw [List.map_map]
  exact (List.map_congr_left fun t _ => rfl).trans (List.map_id pr)
theorem keepsB_true {c : Int} {rs : List Rw} {pr : List Tm} (hl : (pr.length : Int) = c) (hp : PrA pr) (hr : ∀ r ∈ rs, rowOk pr r = true) : keepsB c rs (.tup (pr.map tmD)) = true := by
  rw [keepsB_tup, prOf_map, List.length_map, decide_eq_true hl]
  have h1 : (pr.map tmD).all isRat = true := by
    rw [List.all_eq_true]
    intro d hd
    obtain ⟨t, ht, rfl⟩ := List.mem_map.mp hd
    exact (hp t ht).rat
  rw [h1, List.all_eq_true.mpr hr]
  rfl
theorem inOf_map (ms : List Int) : (ms.map Da.int).map inOf = ms := by
  rw [List.map_map]
  exact (List.map_congr_left fun t _ => rfl).trans (List.map_id ms)
theorem refB_true {c : Nat} {rs : List Rw} {ms : List Int} (h : Torn c rs ms) : refB rs (.tup (ms.map .int)) = true := by
  rw [refB_tup, inOf_map, decide_eq_true h.neg, decide_eq_true (show ∀ r ∈ rs, ∀ t ∈ r.1.2, cf (rs.zip ms) t.1 = 0 from fun r _ t _ => h.zero t.1)]
  have h0 : isMu rs (.tup (ms.map .int)) = (decide ((ms.map Da.int).length = rs.length) && (ms.map Da.int).all isInt && (rs.zip (ms.map Da.int)).all fun p => p.1.2 || geD p.2) := rfl
  rw [h0, List.length_map, decide_eq_true h.len.symm]
  have h1 : (ms.map Da.int).all isInt = true := by
    rw [List.all_eq_true]
    intro d hd
    obtain ⟨m, _, rfl⟩ := List.mem_map.mp hd
    rfl
  have h2 : ((rs.zip (ms.map Da.int)).all fun p => p.1.2 || geD p.2) = true := by
    rw [List.all_eq_true]
    intro p hp
    rw [List.zip_map_right] at hp
    obtain ⟨q, hq, rfl⟩ := List.mem_map.mp hp
    show (q.1.2 || decide (0 ≤ q.2)) = true
    rcases h.ge q hq with e | e
    · rw [e]; rfl
    · rw [decide_eq_true e, Bool.or_true]
  rw [h1, h2]
  rfl
theorem encs_rep {B : Addr → Prop} {H : Hp} {d : Da} {x : V} (h : EncB B H d x) : ∀ n : Nat, EncsB B H (List.replicate n d) (List.replicate n x)
  | 0 => .nil
  | n + 1 => .cons h (encs_rep h n)
theorem rep_run {B : Addr → Prop} {K : PySem.W.Frag} {H : Hp} {l : Addr} {x0 : V} {d : Da} {k : Int} (hl : H l = some (.tup [x0])) (e : EncB B H d x0) (hk : k.natAbs ≤ 100000) {Q : VK}
    (q : ∀ c H', H' c = some (.tup (List.replicate k.toNat x0)) → EncsB B H' (List.replicate k.toNat d) (List.replicate k.toNat x0) → Grow H H' → Q (.ref c) H') : rRepX K (.ref l) (.int k) H Q :=
  ⟨l, k, x0, rfl, rfl, SqT.of hl, hk, fun e1 => q l H (by rw [e1]; exact hl) (encs_rep e _) (Grow.refl _), fun _ p hp => q p _ upd_same ((encs_rep e _).grow (Grow.new hp)) (Grow.new hp)⟩
theorem PrA.wide {pr : List Tm} (h : PrA pr) (n : Nat) : PrA (pr ++ List.replicate n (0, 1)) := fun t ht => by
  rcases List.mem_append.mp ht with z | z
  · exact h t z
  · rw [(List.mem_replicate.mp z).2]
    exact ⟨by decide, rfl, by decide, by decide⟩
theorem Mu4.wide {ms : List Int} (h : Mu4 ms) (n : Nat) : Mu4 (ms ++ List.replicate n 0) := fun t ht => by
  rcases List.mem_append.mp ht with z | z
  · exact h t z
  · rw [(List.mem_replicate.mp z).2]
    decide
theorem Mu4.wide' {ms : List Int} (h : Mu4 ms) (n : Nat) : Mu4 (List.replicate n 0 ++ ms) := fun t ht => by
  rcases List.mem_append.mp ht with z | z
  · rw [(List.mem_replicate.mp z).2]
    decide
  · exact h t z
theorem Mu4.take {ms : List Int} (h : Mu4 ms) (n : Nat) : Mu4 (ms.take n) := fun t ht => h t (List.mem_of_mem_take ht)
theorem mem_rep {α : Type} {a b : α} : ∀ {n : Nat}, b ∈ List.replicate n a → b = a := fun h => (List.mem_replicate.mp h).2
theorem encs_ints {B : Addr → Prop} {H : Hp} : ∀ ms : List Int, EncsB B H (ms.map Da.int) (ms.map V.int)
  | [] => .nil
  | m :: ms => .cons (.int m) (encs_ints ms)
/-- many rows of a const alone -/
theorem syRep {k : Nat} (hk : k ≤ 12000) {c : Int} (c0 : 0 ≤ c) (c3 : c < 3) : SyOk 0 (List.replicate k ((c, []), false)) ∧ keepsB 0 (List.replicate k ((c, []), false)) (.tup []) = true := by
  refine ⟨⟨by decide, by decide, by rw [List.length_replicate]; exact hk, fun r hr => ?_⟩, ?_⟩
  · rw [mem_rep hr]
    exact ⟨.nil, fun t ht => absurd ht List.not_mem_nil, Nat.lt_of_le_of_lt (show c.natAbs ≤ 3 by omega) (by decide), fun t ht => absurd ht List.not_mem_nil⟩
  · rw [keepsB_tup]
    have h : (List.replicate k (((c, []), false) : Rw)).all (rowOk ([].map prOf)) = true := by
      rw [List.all_eq_true]
      intro r hr
      rw [mem_rep hr]
      show sgnOk false c = true
      unfold sgnOk
      rw [decide_eq_false (by omega)]
      rfl
    rw [h]
    rfl
theorem syD_rep (n : Nat) (r : Rw) : syD 0 (List.replicate n r) = .tup [.int 0, .tup (List.replicate n (rwD r))] := by
  show Da.tup [.int 0, .tup ((List.replicate n r).map rwD)] = _
  rw [List.map_replicate]
theorem syRep_no {k : Nat} (hk : 12000 < k) {d : Da} : isSy (.tup [.int 0, .tup (List.replicate k d)]) = false := by
  show (decide ((0 : Int) ≤ 0) && decide ((0 : Int) ≤ 4000) && decide (((List.replicate k d).length : Int) ≤ 12000) && _) = false
  rw [List.length_replicate, decide_eq_false (show ¬ ((k : Nat) : Int) ≤ 12000 by omega)]
  simp
end J1
set_option Elab.async false
set_option linter.all false
set_option maxRecDepth 100000
set_option maxHeartbeats 8000000
namespace J1
open PySem PySem.Spec PyProof.Rows L2 GxR GA RZ
abbrev lLaw : Stmt := top 79
theorem cLaw : FnScope ["_law_script", "_law_well_here", "_law_count", "_law_point_here", "_law_rows", "_law_torn", "_law_numbers", "_law_wide", "_law_one", "_law_two", "_law_more", "_law_both", "_law_bad", "_law_pick", "_law_row"] ["_law_script"] (defScope lLaw) := ⟨rfl, rfl, rfl, by decide +kernel, rfl, by decide +kernel, by decide +kernel⟩
def spLaw (K : PySem.W.Frag) : Sp := fun vs H Q _ => ∃ (a : Addr) (ns : List Int), vs = [.ref a] ∧ SqL K H a (ns.map V.int) ∧ ∀ H', Q (.bl true) H'
section
variable {P : Program} {w : World} {K : PySem.W.Frag} {mg : Str → Option Value} {base : Heap}
theorem ok_law {f fWl fD fPo fKr fTo fLk fLf fTr fAk fBd fWo fK CB : Addr} {fd fdWl fdD fdPo fdKr fdTo fdLk fdLf fdTr fdAk fdBd fdWo fdK : FuncData} (F : Fun K "law" "law" lLaw f fd) (M : Gd mg)
    (GWl : FnOk P w K mg base CX0 1 fWl fdWl ["_law_script", "_law_at"] (spWell K)) (DWl : Df K mg "_law_well" ["_law_script", "_law_at"] fWl fdWl)
    (GD : FnOk P w K mg base CX0 1 fD fdD ["_law_well_here", "_law_many"] spDr) (DD : Df K mg "_law_draw" ["_law_well_here", "_law_many"] fD fdD)
    (GPo : FnOk P w K mg base CX0 3 fPo fdPo ["_law_well_here", "_law_count"] spPo) (DPo : Df K mg "_law_point" ["_law_well_here", "_law_count"] fPo fdPo)
    (GKr : FnOk P w K mg base CX0 4 fKr fdKr ["_law_well_here", "_law_point_here", "_law_many", "_law_most"] spKr) (DKr : Df K mg "_law_kept_rows" ["_law_well_here", "_law_point_here", "_law_many", "_law_most"] fKr fdKr)
    (GTo : FnOk P w K mg base CX0 3 fTo fdTo ["_law_well_here", "_law_count", "_law_many", "_law_most"] spTo) (DTo : Df K mg "_law_torn_rows" ["_law_well_here", "_law_count", "_law_many", "_law_most"] fTo fdTo)
    (GLk : FnOk P w K mg base CX0 3 fLk fdLk ["_law_system", "_law_thing"] spLk) (DLk : Df K mg "_law_keeps" ["_law_system", "_law_thing"] fLk fdLk)
    (GLf : FnOk P w K mg base CX0 3 fLf fdLf ["_law_rows", "_law_thing"] spLf) (DLf : Df K mg "_law_refutes" ["_law_rows", "_law_thing"] fLf fdLf)
    (GTr : FnOk P w K mg base CX0 1 fTr fdTr ["_law_told", "_law_due"] spTr) (DTr : Df K mg "_law_truth" ["_law_told", "_law_due"] fTr fdTr)
    (GAk : FnOk P w K mg base CX0 8 fAk fdAk ["_law_well_here", "_law_system", "_law_point_here", "_law_numbers"] spAk) (DAk : Df K mg "_law_asked" ["_law_well_here", "_law_system", "_law_point_here", "_law_numbers"] fAk fdAk)
    (GBd : FnOk P w K mg base CX0 2 fBd fdBd ["_law_well_here", "_law_count", "_law_rows"] spBd) (DBd : Df K mg "_law_no_system" ["_law_well_here", "_law_count", "_law_rows"] fBd fdBd)
    (GWo : FnOk P w K mg base CX0 8 fWo fdWo ["_law_pick", "_law_system", "_law_thing"] spWo) (DWo : Df K mg "_law_word" ["_law_pick", "_law_system", "_law_thing"] fWo fdWo)
    (GK : FnOk P w K mg base (L2.CX P w) 7 fK fdK ["system", "thing"] (spKe CB)) (DK : Df K mg "keeps" ["system", "thing"] fK fdK) : FnOk P w K mg base CX0 9 f fd ["_law_script"] (spLaw K) := by
  refine F.ok (k := 8) cLaw (fun vs H Q E h => ?_) (fun cdv A outer s H vs Q E hr h => ?_)
  · obtain ⟨_, _, rfl, _⟩ := h
    rfl
  · obtain ⟨a, ns, rfl, hS, kq⟩ := h
    refine ⟨_, (pss_cons (ps_set (i := 1) cLaw.nd rfl (Or.inl rfl) (pe_call (GWl.mono (by decide)) hr (by rfl) DWl.g DWl.k DWl.b .nil pass0 (pa_cons (pv 0) (pa_cons pe_int pa_nil)))) (pss_cons (ps_set (i := 2) cLaw.nd rfl (Or.inl rfl) (pe_call (GD.mono (by decide)) hr (by rfl) DD.g DD.k DD.b .nil pass0 (pa_cons (pv 1) (pa_cons pe_int pa_nil)))) (pss_cons (ps_set (i := 3) cLaw.nd rfl (Or.inl rfl) (pe_call (GPo.mono (by decide)) hr (by rfl) DPo.g DPo.k DPo.b .nil pass0 (pa_cons (pv 1) (pa_cons (pv 2) pa_nil)))) (pss_cons (ps_set (i := 4) cLaw.nd rfl (Or.inl rfl) (pe_call (GKr.mono (by decide)) hr (by rfl) DKr.g DKr.k DKr.b .nil pass0 (pa_cons (pv 1) (pa_cons (pv 3) (pa_cons (pe_call (GD.mono (by decide)) hr (by rfl) DD.g DD.k DD.b .nil pass0 (pa_cons (pv 1) (pa_cons pe_int pa_nil))) (pa_cons pe_int pa_nil)))))) (pss_cons (ps_asg (pe_call (GTo.mono (by decide)) hr (by rfl) DTo.g DTo.k DTo.b .nil pass0 (pa_cons (pv 1) (pa_cons (pv 2) (pa_cons (pe_call (GD.mono (by decide)) hr (by rfl) DD.g DD.k DD.b .nil pass0 (pa_cons (pv 1) (pa_cons pe_int pa_nil))) (pa_cons pe_int pa_nil))))) (pg_tup (by rfl) (pgs_cons (pg_name (i := 5) cLaw.nd rfl (Or.inl rfl)) (pgs_cons (pg_name (i := 6) cLaw.nd rfl (Or.inl rfl)) pgs_nil)))) (pss_cons (ps_set (i := 7) cLaw.nd rfl (Or.inl rfl) (pv 2)) (C8.pss_cut (ps_if (pt_cmpR op_eq (pe_call (GD.mono (by decide)) hr (by rfl) DD.g DD.k DD.b .nil pass0 (pa_cons (pv 1) (pa_cons pe_int pa_nil))) pe_int (nomark _)) (pss_one (ps_set (i := 7) cLaw.nd rfl (Or.inl rfl) pe_int)) pss_nil) (pss_cons (ps_set (i := 3) cLaw.nd rfl (Or.inl rfl) (pe_op op_catA (pv 3) (pe_op op_repX (pe_tup (pa_cons (pe_tup (pa_cons pe_int (pa_cons pe_int pa_nil))) pa_nil)) (pe_op op_sub (pv 7) (pv 2))))) (pss_cons (ps_set (i := 8) cLaw.nd rfl (Or.inl rfl) (pe_tup (pa_cons (pv 7) (pa_cons (pe_callTy call_tuple_of (by rfl) M.tuple (by decide +kernel) (pa_cons (pv 4) pa_nil)) pa_nil)))) (pss_cons (ps_set (i := 9) cLaw.nd rfl (Or.inl rfl) (pe_tup (pa_cons (pv 7) (pa_cons (pe_callTy call_tuple_of (by rfl) M.tuple (by decide +kernel) (pa_cons (pv 5) pa_nil)) pa_nil)))) (C8.pss_cut (ps_if (PW.pt (pw_or (pt_not (pt_val (pe_call (GLk.mono (by decide)) hr (by rfl) DLk.g DLk.k DLk.b .nil pass0 (pa_cons (pv 8) (pa_cons (pv 3) pa_nil))))) (pw_or1 (pt_not (pt_val (pe_call (GLf.mono (by decide)) hr (by rfl) DLf.g DLf.k DLf.b .nil pass0 (pa_cons (pe_ix ix_tup (pv 9) pe_int (fun _ _ => rfl)) (pa_cons (pv 6) pa_nil)))))))) (pss_one (ps_ret pe_bl)) pss_nil) (pss_cons (ps_set (i := 10) cLaw.nd rfl (Or.inl rfl) (pe_op op_catA (pv 6) (pe_op op_repX (pe_tup (pa_cons pe_int pa_nil)) (pe_op op_sub (pe_callB call_len_seq (by rfl) M.len PySem.boot_len (pa_cons (pv 4) pa_nil)) (pe_callB call_len_seq (by rfl) M.len PySem.boot_len (pa_cons (pv 6) pa_nil)))))) (C8.pss_cut (ps_if (PW.pt (pw_or (pt_not (pt_val (pe_call GAk hr (by rfl) DAk.g DAk.k DAk.b .nil pass0 (pa_cons (pv 1) (pa_cons (pv 8) (pa_cons (pv 3) (pa_cons (pe_slice sl_tupA (pv 10) po_none (po_some (pe_callB (call_max2 rfl) (by rfl) M.max (by decide +kernel) (pa_cons pe_int (pa_cons (pe_callB call_len_seq (by rfl) M.len PySem.boot_len (pa_cons (pv 4) pa_nil)) pa_nil))))) pa_nil))))))) (pw_or1 (pt_not (pt_val (pe_call GAk hr (by rfl) DAk.g DAk.k DAk.b .nil pass0 (pa_cons (pv 1) (pa_cons (pv 9) (pa_cons (pv 3) (pa_cons (pv 6) pa_nil)))))))))) (pss_one (ps_ret pe_bl)) pss_nil) (pss_cons (ps_set (i := 11) cLaw.nd rfl (Or.inl rfl) (pe_tup (pa_cons (pv 7) (pa_cons (pe_op op_catA (pe_ix ix_tup (pv 8) pe_int (fun _ _ => rfl)) (pe_ix ix_tup (pv 9) pe_int (fun _ _ => rfl))) pa_nil)))) (C8.pss_cut (ps_if (pt_not (pt_val (pe_call GAk hr (by rfl) DAk.g DAk.k DAk.b .nil pass0 (pa_cons (pv 1) (pa_cons (pv 11) (pa_cons (pv 3) (pa_cons (pe_op op_catA (pe_op op_repX (pe_tup (pa_cons pe_int pa_nil)) (pe_callB call_len_seq (by rfl) M.len PySem.boot_len (pa_cons (pv 4) pa_nil))) (pv 6)) pa_nil))))))) (pss_one (ps_ret pe_bl)) pss_nil) (pss_cons (ps_set (i := 12) cLaw.nd rfl (Or.inl rfl) (pe_call (GBd.mono (by decide)) hr (by rfl) DBd.g DBd.k DBd.b .nil pass0 (pa_cons (pv 1) (pa_cons (pv 2) (pa_cons (pv 4) pa_nil))))) (C8.pss_cut (ps_for PassesOwn.never rfl (pi_range1 (by rfl) M.range (pa_cons pe_int pa_nil)) (pg_name (i := 13) cLaw.nd rfl (Or.inl rfl)) (pss_one (ps_if (pt_cmpR op_ne (pe_call GWo hr (by rfl) DWo.g DWo.k DWo.b .nil pass0 (pa_cons (pv 13) (pa_cons (pv 12) (pa_cons (pe_ix ix_list (pe_lst (pa_cons (pv 3) (pa_cons pe_non (pa_cons (pe_tup (pa_cons pe_int (pa_cons (pe_tup pa_nil) pa_nil))) (pa_cons pe_int pa_nil))))) (pe_call (GD.mono (by decide)) hr (by rfl) DD.g DD.k DD.b .nil pass0 (pa_cons (pv 1) (pa_cons pe_int pa_nil))) (fun _ _ => rfl)) pa_nil)))) pe_str (nomark _)) (pss_one (ps_ret pe_bl)) pss_nil))) (C8.pss_cut (ps_if (pt_cmpR op_eq (pe_call (GD.mono (by decide)) hr (by rfl) DD.g DD.k DD.b .nil pass0 (pa_cons (pv 1) (pa_cons pe_int pa_nil))) pe_int (nomark _)) (pss_cons (ps_set (i := 14) cLaw.nd rfl (Or.inl rfl) (pe_tup (pa_cons (pe_tup (pa_cons (pe_call (GD.mono (by decide)) hr (by rfl) DD.g DD.k DD.b .nil pass0 (pa_cons (pv 1) (pa_cons pe_int pa_nil))) (pa_cons (pe_tup pa_nil) pa_nil))) (pa_cons pe_bl pa_nil)))) (C8.pss_cut (ps_if (pt_not (pt_val (pe_call (GTr.mono (by decide)) hr (by rfl) DTr.g DTr.k DTr.b .nil pass0 (pa_cons (pe_call (GK.mono (by decide)) hr (by rfl) DK.g DK.k DK.b .nil passX (pa_cons (pe_tup (pa_cons pe_int (pa_cons (pe_op op_repX (pe_tup (pa_cons (pv 14) pa_nil)) pe_int) pa_nil))) (pa_cons (pe_tup pa_nil) pa_nil))) (pa_cons pe_bl pa_nil))))) (pss_one (ps_ret pe_bl)) pss_nil) (pss_one (ps_if (PW.pt (pw_or (pt_cmpR op_ne (pe_call GWo hr (by rfl) DWo.g DWo.k DWo.b .nil pass0 (pa_cons pe_int (pa_cons (pe_tup (pa_cons pe_int (pa_cons (pe_op op_repX (pe_tup (pa_cons (pv 14) pa_nil)) pe_int) pa_nil))) (pa_cons (pe_tup pa_nil) pa_nil)))) pe_str (nomark _)) (pw_or1 (pt_cmpR op_ne (pe_call GWo hr (by rfl) DWo.g DWo.k DWo.b .nil pass0 (pa_cons pe_int (pa_cons (pe_tup (pa_cons pe_int (pa_cons (pe_op op_repX (pe_tup (pa_cons (pv 14) pa_nil)) pe_int) pa_nil))) (pa_cons (pe_tup pa_nil) pa_nil)))) pe_str (nomark _))))) (pss_one (ps_ret pe_bl)) pss_nil)))) pss_nil) (pss_one (ps_ret (pe_and (pe_cmpR op_eq (pe_call GWo hr (by rfl) DWo.g DWo.k DWo.b .nil pass0 (pa_cons pe_int (pa_cons (pv 8) (pa_cons pe_non pa_nil)))) pe_str (nomark _)) (pe_one (pe_cmpR op_eq (pe_call GWo hr (by rfl) DWo.g DWo.k DWo.b .nil pass0 (pa_cons pe_int (pa_cons (pv 9) (pa_cons pe_non pa_nil)))) pe_str (nomark _)))))))))))))))))))))))), ?_⟩
    refine ⟨_, rfl, a, ns, rfl, hS, fun p l H1 W1 g1 => ?_⟩
    refine ⟨_, rfl, p, l, ns, 0, 7, rfl, by decide, cdw (by decide) (by decide), W1, by omega, fun cc H2 c0 c7 W2 g2 => ?_⟩
    obtain ⟨c, rfl⟩ := Int.eq_ofNat_of_zero_le c0
    have hc6 : c ≤ 6 := by omega
    refine ⟨_, rfl, _, rfl, p, l, ns, _, c, rfl, hc6, W2, by unfold BIG; omega, fun xp pr H3 ep hpl pa W3 g3 => ?_⟩
    have pa : PrA pr := pa
    obtain ⟨y3, hw3⟩ := W3.pl
    refine ⟨_, rfl, _, rfl, _, rfl, p, l, ns, _, 8, rfl, by decide, cdw (by decide) (by decide), W3, by omega, fun r4 H4 q4 u4 W4 g4 => ?_⟩
    obtain ⟨m4, rfl⟩ := Int.eq_ofNat_of_zero_le q4
    have ep4 := ep.gwT g4 hw3
    obtain ⟨y4, hw4⟩ := W4.pl
    refine ⟨p, l, ns, _, xp, pr, m4, rfl, by omega, ep4, pa, by omega, W4, by unfold BIG; omega, fun L xs rs H5 hL0 hL exs hrl hrs W5 g5 => ?_⟩
    have nLp : L ≠ p := fun z => by rw [z, hw4] at hL0; cases hL0
    have ep5 := ep4.gwT g5 hw4
    obtain ⟨y5, hw5⟩ := W5.pl
    refine ⟨_, rfl, _, rfl, _, rfl, p, l, ns, _, 6, rfl, by decide, cdw (by decide) (by decide), W5, by omega, fun r6 H6 q6 u6 W6 g6 => ?_⟩
    obtain ⟨m6, rfl⟩ := Int.eq_ofNat_of_zero_le q6
    have ep6 := ep5.gwT g6 hw5
    have hL6 := g6.lst nLp hL
    have exs6 := exs.gwT g6 hw5
    obtain ⟨y6, hw6⟩ := W6.pl
    refine ⟨p, l, ns, _, c, m6, rfl, hc6, by omega, W6, by unfold BIG; omega, fun T R Nm zs rt ms H7 hT hR0 hR eR hNm hrl2 torn W7 g7 => ?_⟩
    have ep7 := ep6.gwT g7 hw6
    have hL7 := g7.lst nLp hL6
    have exs7 := exs6.gwT g7 hw6
    refine ⟨T, _, rfl, SqT.of hT, rfl, _, _, rfl, _, _, rfl, rfl, ?_⟩
    refine ⟨_, rfl, ?_⟩
    have nRp : R ≠ p := fun z => by rw [z, hw6] at hR0; cases hR0
    obtain ⟨y7, hw7⟩ := W7.pl
    have nNp : Nm ≠ p := fun z => by rw [z, hw7] at hNm; cases hNm
    refine ⟨fun σ' H' => ∃ wd : Nat, (wd = c ∨ wd = 4000) ∧ σ' = [some (.ref a), some (.ref p), some (.int (c : Nat)), some xp, some (.ref L), some (.ref R), some (.ref Nm), some (.int (wd : Nat)), none, none, none, none, none, none, none] ∧ Wl H' p l ns 800 ∧ GrowW p H7 H', ?_, fun σ' H8 hm => ?_⟩
    · refine ⟨_, rfl, p, l, ns, _, 40, rfl, by decide, cdw (by decide) (by decide), W7, by omega, fun r8 H8 q8 u8 W8 g8 => ⟨rfl, _, rfl, ?_⟩⟩
      cases decide (V.int r8 = V.int 0) with
      | true => exact iteT ⟨4000, .inr rfl, rfl, W8.more (by omega), g8⟩
      | false => exact iteF ⟨c, .inl rfl, rfl, W8.more (by omega), g8⟩
    obtain ⟨wd, hwd, rfl, W8, g8⟩ := hm
    have ep8 := ep7.gwT g8 hw7
    have hL8 := g8.lst nLp hL7
    have exs8 := exs7.gwT g8 hw7
    have hR8 := g8.lst nRp hR
    have eR8 := eR.gwT g8 hw7
    have hN8 := g8.tup hw7 hNm
    clear ep ep4 ep5 ep6 ep7 hL hL6 hL7 exs exs6 exs7 hR eR hNm hw3 hw4 hw5 hw6 hw7 W1 W2 W3 W4 W5 W6 W7 g1 g2 g3 g4 g5 g6 g7 g8
    have hcw : c ≤ wd := by omega
    have hw4k : wd ≤ 4000 := by omega
    -- the point as wide as the system
    obtain ⟨xq, xps, rfl, hxq, exq⟩ := encT ep8
    refine ⟨_, rfl, (by show 2 ≤ sizeLine; decide), fun q1 hq1 => ⟨(by show 1 ≤ sizeLine; decide), fun q2 hq2 => ?_⟩⟩
    have a1 := Grow.new (o := .tup [.int 0, .int 1]) hq1
    have a2 := Grow.new (o := .tup [.ref q1]) hq2
    have e01 : EncT (upd (upd H8 q1 (.tup [.int 0, .int 1])) q2 (.tup [.ref q1])) (tmD (0, 1)) (.ref q1) := EncB.grow a2 (.tup upd_same (.cons (.int _) (.cons (.int _) .nil)))
    refine ⟨_, rfl, _, rfl, _, _, rfl, rfl, rep_run upd_same e01 (by omega) fun q3 H9 hq3 eq3 a3 => ?_⟩
    have a13 := (a1.trans a2).trans a3
    refine cat_run (a13.tup hxq) hq3 (exq.grow a13) eq3 (by rw [List.length_map, List.length_replicate]; omega) fun q4 H10 hq4 eq4 a4 => ?_
    have a14 := a13.trans a4
    have hL10 := a14.lst hL8
    have exs10 := exs8.grow a14
    have hR10 := a14.lst hR8
    have eR10 := eR8.grow a14
    have hN10 := a14.tup hN8
    have W10 := W8.grow a14
    have eP : EncT H10 (.tup ((pr ++ List.replicate (wd - c) (0, 1)).map tmD)) (.ref q4) := by
      rw [List.map_append, List.map_replicate]
      rw [show ((wd : Nat) : Int) - ((c : Nat) : Int) = ((wd - c : Nat) : Int) by omega, Int.toNat_natCast] at eq4 hq4
      exact .tup hq4 eq4
    generalize hprw : pr ++ List.replicate (wd - c) (0, 1) = prw at eP
    have paw : PrA prw := by rw [← hprw]; exact pa.wide _
    have hplw : prw.length = wd := by rw [← hprw, List.length_append, List.length_replicate, hpl]; omega
    have hrsw : ∀ r ∈ rs, rowOk prw r = true := fun r hr => by
      rw [← hprw, rowOk_app (hrs r hr).1]
      exact (hrs r hr).2
    have hlr : ∀ r ∈ rs, LnOk (wd : Nat) r.1 := fun r hr => (hrs r hr).1.mono (by omega)
    clear e01 eq3 hq3 exq hxq eq4 ep8 hrs
    -- the two systems
    refine ⟨_, rfl, _, rfl, L, xs, rfl, .inl ⟨SqL.of hL10, fun t1 ht1 => ⟨(by show 2 ≤ sizeLine; decide), fun o1 ho1 => ?_⟩⟩⟩
    have b1 := Grow.new (o := .tup xs) ht1
    have b2 := Grow.new (o := .tup [.int (wd : Nat), .ref t1]) ho1
    refine ⟨_, rfl, _, rfl, R, zs, rfl, .inl ⟨SqL.of (b2.lst (b1.lst hR10)), fun t2 ht2 => ⟨(by show 2 ≤ sizeLine; decide), fun o2 ho2 => ?_⟩⟩⟩
    have b3 := Grow.new (o := .tup zs) ht2
    have b4 := Grow.new (o := .tup [.int (wd : Nat), .ref t2]) ho2
    have b14 := ((b1.trans b2).trans b3).trans b4
    have ht1' := ((b2.trans b3).trans b4).tup upd_same
    have ho1' := (b3.trans b4).tup upd_same
    have ht2' := b4.tup upd_same
    have ho2' := upd_same (H := upd (upd (upd H10 t1 (.tup xs)) o1 (.tup [.int (wd : Nat), .ref t1])) t2 (.tup zs)) (a := o2) (o := .tup [.int (wd : Nat), .ref t2])
    have exsA := exs10.grow b14
    have eRA := eR10.grow b14
    have hLA := b14.lst hL10
    have hNA := b14.tup hN10
    have WA := W10.grow b14
    have ePA := eP.grow b14
    generalize upd (upd (upd (upd H10 t1 (.tup xs)) o1 (.tup [.int (wd : Nat), .ref t1])) t2 (.tup zs)) o2 (.tup [.int (wd : Nat), .ref t2]) = HA at ht1' ho1' ht2' ho2' exsA eRA hLA hNA WA ePA ⊢
    have eOne : EncT HA (syD (wd : Nat) rs) (.ref o1) := .tup ho1' (.cons (.int _) (.cons (.tup ht1' exsA) .nil))
    have eTwo : EncT HA (syD (wd : Nat) rt) (.ref o2) := .tup ho2' (.cons (.int _) (.cons (.tup ht2' eRA) .nil))
    have eRw : EncT HA (rwsD rt) (.ref t2) := .tup ht2' eRA
    have eRo : EncT HA (rwsD rs) (.ref t1) := .tup ht1' exsA
    have so1 : SyOk (wd : Nat) rs := ⟨by omega, by omega, by omega, hlr⟩
    have so2 : SyOk (wd : Nat) rt := ⟨by omega, by omega, by omega, fun r hr => (torn.ln r hr).mono (by omega)⟩
    have eNmA : EncsT HA (ms.map .int) (ms.map .int) := encs_ints ms
    have eNm : EncT HA (.tup (ms.map .int)) (.ref Nm) := .tup hNA eNmA
    have mu : Mu4 ms := torn.mb
    have hml : ms.length = m6 + 1 := by rw [← torn.len]; exact hrl2
    have npt : PtD (.tup (prw.map tmD)) := PtD.of (prB paw)
    have nmu : MuD (.tup (ms.map .int)) := MuD.of (muB mu)
    have kT : keepsB (wd : Nat) rs (.tup (prw.map tmD)) = true := keepsB_true (by omega) paw hrsw
    have rT : refB rt (.tup (ms.map .int)) = true := refB_true torn
    have hxl : xs.length = rs.length := by rw [← exsA.length, List.length_map]
    clear exs10 eR10 hL10 hN10 hR10 W10 eP
    refine ⟨fun σ' H' => σ' = [some (.ref a), some (.ref p), some (.int (c : Nat)), some (.ref q4), some (.ref L), some (.ref R), some (.ref Nm), some (.int (wd : Nat)), some (.ref o1), some (.ref o2), none, none, none, none, none] ∧ Grow HA H', ?_, fun σ' H1 hm => ?_⟩
    · refine ⟨_, rfl, _, rfl, .ref o1, .ref q4, (wd : Nat), rs, _, rfl, eOne.any, ePA.any, so1, npt, fun K1 k1 => ⟨_, rfl, ?_⟩⟩
      rw [kT]
      refine iteF ⟨_, rfl, o2, _, _, _, rfl, rfl, SqT.of (k1.tup ho2'), at_of (j := 1) rfl rfl, _, rfl, .ref t2, .ref Nm, rt, _, (wd : Nat), rfl, (eRw.grow k1).any, (eNm.grow k1).any, so2.le, so2.ln, nmu, fun K2 k2 => ⟨_, rfl, ?_⟩⟩
      rw [rT]
      exact iteF ⟨rfl, k1.trans k2⟩
    obtain ⟨rfl, c1⟩ := hm
    -- numbers as many as the rows, or more
    refine ⟨_, rfl, (by show 1 ≤ sizeLine; decide), fun r1 hr1 => ?_⟩
    have d1 := Grow.new (o := .tup [.int 0]) hr1
    refine ⟨_, rfl, L, xs, rfl, .inl (SqL.of (d1.lst (c1.lst hLA))), _, rfl, Nm, _, rfl, .inr (SqT.of (d1.tup (c1.tup hNA))), _, _, rfl, rfl, ?_⟩
    refine rep_run (B := fun _ => False) upd_same (.int 0) (by rw [List.length_map]; omega) fun r2 K1 hr2 er2 d2 => ?_
    rw [List.length_map] at hr2 er2
    obtain ⟨kz, hkz⟩ : ∃ kz : Nat, kz = (((xs.length : Nat) : Int) - ((ms.length : Nat) : Int)).toNat := ⟨_, rfl⟩
    rw [← hkz] at hr2 er2
    have d12 := (c1.trans d1).trans d2
    refine cat_run (d12.tup hNA) hr2 (eNmA.grow d12) er2 (by rw [List.length_map, List.length_replicate]; omega) fun r3 K2 hr3 er3 d3 => ?_
    have d13 := d12.trans d3
    obtain ⟨ns2, hns2⟩ : ∃ z : List Int, z = ms ++ List.replicate kz 0 := ⟨_, rfl⟩
    rw [show ms.map Da.int ++ List.replicate kz (.int 0) = ns2.map Da.int by rw [hns2, List.map_append, List.map_replicate]] at er3
    rw [show ms.map V.int ++ List.replicate kz (.int 0) = ns2.map V.int by rw [hns2, List.map_append, List.map_replicate]] at er3 hr3
    have mu2 : Mu4 ns2 := by rw [hns2]; exact mu.wide _
    have hnl : ns2.length = ms.length + kz := by rw [hns2, List.length_append, List.length_replicate]
    have eOneB := eOne.grow d13
    have eTwoB := eTwo.grow d13
    have ePB := ePA.grow d13
    have eNmB := eNm.grow d13
    have WB := WA.grow d13
    have hLB := d13.lst hLA
    have hNB := d13.tup hNA
    have ho1B := d13.tup ho1'
    have ho2B := d13.tup ho2'
    have ht1B := d13.tup ht1'
    have ht2B := d13.tup ht2'
    have exsB := exsA.grow d13
    have eRB := eRA.grow d13
    have hn2 : xs.length ≤ ns2.length := by rw [hnl, hkz]; omega
    clear hkz hns2 hr2 er2 d1 d2 d3 hr1 c1 d12 d13 eNmA eOne eTwo ePA eNm WA hLA hNA ho1' ho2' ht1' ht2' exsA eRA eRw eRo
    obtain ⟨yB, hwB⟩ := WB.pl
    refine ⟨fun σ' H' => σ' = [some (.ref a), some (.ref p), some (.int (c : Nat)), some (.ref q4), some (.ref L), some (.ref R), some (.ref Nm), some (.int (wd : Nat)), some (.ref o1), some (.ref o2), some (.ref r3), none, none, none, none] ∧ Wl H' p l ns 900 ∧ GrowW p K2 H', ?_, fun σ' H1 hm => ?_⟩
    · refine ⟨_, rfl, _, rfl, _, rfl, _, rfl, ?_⟩
      dsimp only [tNoPart]
      refine ⟨_, rfl, L, xs, rfl, .inl (SqL.of hLB), _, _, rfl, ?_⟩
      rw [show (if ((xs.length : Nat) : Int) > 1 then ((xs.length : Nat) : Int) else 1) = ((max 1 xs.length : Nat) : Int) by split <;> omega]
      refine ⟨_, rfl, slA_take (n := max 1 xs.length) hr3 er3 (by rw [List.length_map]; omega) fun s1 K3 hs1 es1 e1 => ?_⟩
      rw [← List.map_take] at es1
      have W3 := WB.grow e1
      obtain ⟨y3, hw3⟩ := W3.pl
      refine ⟨p, l, ns, _, .ref o1, .ref q4, .ref s1, (wd : Nat), rs, prw, ns2.take (max 1 xs.length), rfl, eOneB.grow e1, so1, ePB.grow e1, paw, by omega, .tup hs1 es1, mu2.take _, by rw [List.length_take]; omega, by rw [List.length_take]; omega, W3, by unfold BIG; omega, fun K4 W4 g4 => ⟨_, rfl, ?_⟩⟩
      refine iteF ⟨_, rfl, _, rfl, _, rfl, _, rfl, p, l, ns, _, .ref o2, .ref q4, .ref Nm, (wd : Nat), rt, prw, ms, rfl, (eTwoB.grow e1).gwT g4 hw3, so2, (ePB.grow e1).gwT g4 hw3, paw, by omega, (eNmB.grow e1).gwT g4 hw3, mu, by omega, by omega, W4, by unfold BIG; omega, fun K5 W5 g5 => ⟨_, rfl, ?_⟩⟩
      exact iteF ⟨rfl, W5.more (by omega), (e1.w.trans' g4).trans' g5⟩
    obtain ⟨rfl, WC, gC⟩ := hm
    have eOneC := eOneB.gwT gC hwB
    have eTwoC := eTwoB.gwT gC hwB
    have ePC := ePB.gwT gC hwB
    have eNC := eNmB.gwT gC hwB
    have hLC := gC.lst nLp hLB
    have hNC := gC.tup hwB hNB
    have ho1C := gC.tup hwB ho1B
    have ho2C := gC.tup hwB ho2B
    have ht1C := gC.tup hwB ht1B
    have ht2C := gC.tup hwB ht2B
    have exsC := exsB.gwT gC hwB
    have eRC := eRB.gwT gC hwB
    clear gC hwB eOneB eTwoB ePB eNmB hLB hNB ho1B ho2B ht1B ht2B exsB eRB WB er3 hr3 hnl hn2 mu2
    -- both systems as one
    refine ⟨_, rfl, _, rfl, o1, _, _, _, rfl, rfl, SqT.of ho1C, at_of (j := 1) rfl rfl, _, rfl, o2, _, _, _, rfl, rfl, SqT.of ho2C, at_of (j := 1) rfl rfl, ?_⟩
    refine cat_run ht1C ht2C exsC eRC (by rw [List.length_map, List.length_map]; omega) fun b1 K3 hb1 eb1 e1 => ⟨(by show 2 ≤ sizeLine; decide), fun b2 hb2 => ?_⟩
    have e2 := Grow.new (o := .tup [.int (wd : Nat), .ref b1]) hb2
    have e12 := e1.trans e2
    rw [← List.map_append] at eb1
    have eBo : EncT (upd K3 b2 (.tup [.int (wd : Nat), .ref b1])) (syD (wd : Nat) (rs ++ rt)) (.ref b2) := .tup upd_same (.cons (.int _) (.cons ((EncB.tup hb1 eb1).grow e2) .nil))
    have soB : SyOk (wd : Nat) (rs ++ rt) := ⟨by omega, by omega, by rw [List.length_append]; omega, fun r hr => (List.mem_append.mp hr).elim (so1.ln r) (so2.ln r)⟩
    have eOneD := eOneC.grow e12
    have eTwoD := eTwoC.grow e12
    have ePD := ePC.grow e12
    have eND := eNC.grow e12
    have hLD := e12.lst hLC
    have hND := e12.tup hNC
    have exsD := exsC.grow e12
    have WD := WC.grow e12
    clear e1 e2 e12 eOneC eTwoC ePC eNC hLC hNC exsC WC hb1 eb1 ho1C ho2C ht1C ht2C eRC
    generalize upd K3 b2 (.tup [.int (wd : Nat), .ref b1]) = HD at eBo eOneD eTwoD ePD eND hLD hND exsD WD ⊢
    obtain ⟨yD, hwD⟩ := WD.pl
    refine ⟨fun σ' H' => σ' = [some (.ref a), some (.ref p), some (.int (c : Nat)), some (.ref q4), some (.ref L), some (.ref R), some (.ref Nm), some (.int (wd : Nat)), some (.ref o1), some (.ref o2), some (.ref r3), some (.ref b2), none, none, none] ∧ Wl H' p l ns 1000 ∧ GrowW p HD H', ?_, fun σ' H1 hm => ?_⟩
    · refine ⟨_, rfl, _, rfl, _, rfl, (by show 1 ≤ sizeLine; decide), fun z1 hz1 => ?_⟩
      have d1 := Grow.new (o := .tup [.int 0]) hz1
      refine ⟨_, rfl, L, xs, rfl, .inl (SqL.of (d1.lst hLD)), ?_⟩
      refine rep_run (B := fun _ => False) upd_same (.int 0) (by omega) fun z2 K1 hz2 ez2 d2 => ⟨_, rfl, ?_⟩
      rw [Int.toNat_natCast] at hz2 ez2
      refine cat_run hz2 ((d1.trans d2).tup hND) ez2 (encs_ints ms) (by rw [List.length_map, List.length_replicate]; omega) fun z3 K2 hz3 ez3 d3 => ?_
      have d13 := (d1.trans d2).trans d3
      rw [show List.replicate xs.length (Da.int 0) ++ ms.map Da.int = (List.replicate xs.length 0 ++ ms).map Da.int by rw [List.map_append, List.map_replicate]] at ez3
      have W3 := WD.grow d13
      refine ⟨p, l, ns, _, .ref b2, .ref q4, .ref z3, (wd : Nat), rs ++ rt, prw, List.replicate xs.length 0 ++ ms, rfl, eBo.grow d13, soB, ePD.grow d13, paw, by omega, .tup hz3 ez3, mu.wide' _, by rw [List.length_append, List.length_replicate]; omega, by rw [List.length_append, List.length_replicate]; omega, W3, by unfold BIG; omega, fun K4 W4 g4 => ⟨_, rfl, ?_⟩⟩
      exact iteF ⟨rfl, W4.more (by omega), d13.w.trans' g4⟩
    obtain ⟨rfl, WE, gE⟩ := hm
    have eOneE := eOneD.gwT gE hwD
    have eTwoE := eTwoD.gwT gE hwD
    have ePE := ePD.gwT gE hwD
    have hLE := gE.lst nLp hLD
    have exsE := exsD.gwT gE hwD
    clear gE hwD eOneD eTwoD ePD eND hLD hND exsD WD eBo soB
    -- no systems
    obtain ⟨yE, hwE⟩ := WE.pl
    refine ⟨_, rfl, _, rfl, _, rfl, p, l, L, ns, _, c, xs, rs, rfl, hc6, hLE, nLp, exsE, by omega, WE, by unfold BIG; omega, fun x d HF ed nd WF gF => ?_⟩
    have eOneF := eOneE.gwT gF hwE
    have eTwoF := eTwoE.gwT gF hwE
    have ePF := ePE.gwT gF hwE
    clear gF hwE eOneE eTwoE ePE hLE exsE WE
    obtain ⟨yF, hwF⟩ := WF.pl
    refine ⟨fun σ' H' => ∃ v13 : Option V, σ' = [some (.ref a), some (.ref p), some (.int (c : Nat)), some (.ref q4), some (.ref L), some (.ref R), some (.ref Nm), some (.int (wd : Nat)), some (.ref o1), some (.ref o2), some (.ref r3), some (.ref b2), some x, v13, none] ∧ Wl H' p l ns 1100 ∧ GrowW p HF H', ?_, fun σ' H1 hm => ?_⟩
    · refine ⟨5, rfl, by decide, by decide, for_range (n := 5) (fun i σ' Hc => ∃ v13 : Option V, σ' = [some (.ref a), some (.ref p), some (.int (c : Nat)), some (.ref q4), some (.ref L), some (.ref R), some (.ref Nm), some (.int (wd : Nat)), some (.ref o1), some (.ref o2), some (.ref r3), some (.ref b2), some x, v13, none] ∧ Wl Hc p l ns (1010 + i) ∧ GrowW p HF Hc) ⟨_, rfl, WF.more (by omega), GrowW.refl' p HF⟩ (fun i σ' Hc hi hp => ?_) (fun σ' Hc hp => ?_)⟩
      · obtain ⟨v13, rfl, Wc, gc⟩ := hp
        have ePc := ePF.gwT gc hwF
        refine ⟨_, rfl, _, rfl, ?_⟩
        dsimp only [tCons, tOp]
        refine lst_run (B := fun a => a ≠ p) (ds := [.tup (prw.map tmD), .non, .tup [.int 0, .tup []], .int 7]) ?_ (by show 4 ≤ 1000; decide) fun LL ys HL hLL hLL0 eLL gL => ?_
        · exact mks_cons (mk_v (i := 3) rfl (EncB.ofT ePc)) (mks_cons mk_non (mks_cons (mk_tup (mks_cons mk_int (mks_cons (mk_tup mks_nil (by decide)) mks_nil)) (by decide)) (mks_cons mk_int mks_nil)))
        have WL := Wc.grow gL
        obtain ⟨yc, hwc⟩ := Wc.pl
        obtain ⟨yL, hwL⟩ := WL.pl
        have nLL : LL ≠ p := fun z => by rw [z, hwc] at hLL0; cases hLL0
        have hyl : ys.length = 4 := eLL.length.symm
        refine ⟨_, rfl, p, l, ns, _, 4, rfl, by decide, cdw (by decide) (by decide), WL, by omega, fun r HR r0 r4 WR gR => ?_⟩
        obtain ⟨r, rfl⟩ := Int.eq_ofNat_of_zero_le r0
        obtain ⟨v, hv⟩ : ∃ v, ys[r]? = some v := ⟨ys[r], List.getElem?_eq_getElem (by omega)⟩
        obtain ⟨dv, _, ev⟩ := eLL.get hv
        refine ⟨LL, ys, _, v, rfl, rfl, SqL.of (gR.lst nLL hLL), at_of (j := r) rfl hv, _, x, v, d, dv, rfl, (EncP.gw ed ((gc.trans' gL.w).trans' gR) hwF).any, (EncP.gw ev gR hwL).any, .inl ⟨nd, fun H2 g2 => ⟨rfl, _, rfl, ?_⟩⟩⟩
        rw [decide_eq_true rfl]
        exact iteF ⟨_, rfl, (WR.grow g2).more (by omega), ((gc.trans' gL.w).trans' gR).trans' g2.w⟩
      · obtain ⟨v13, rfl, Wc, gc⟩ := hp
        exact ⟨v13, rfl, Wc.more (by omega), gc⟩
    obtain ⟨v13, rfl, WG, gG⟩ := hm
    refine ⟨fun σ' H' => ∃ v13 v14 : Option V, σ' = [some (.ref a), some (.ref p), some (.int (c : Nat)), some (.ref q4), some (.ref L), some (.ref R), some (.ref Nm), some (.int (wd : Nat)), some (.ref o1), some (.ref o2), some (.ref r3), some (.ref b2), some x, v13, v14] ∧ GrowW p HF H', ?_, fun σ' HZ hm => ?_⟩
    · refine ⟨_, rfl, p, l, ns, _, 16, rfl, by decide, cdw (by decide) (by decide), WG, by omega, fun r8 H8 q8 u8 W8 g8 => ⟨rfl, _, rfl, ?_⟩⟩
      cases decide (V.int r8 = V.int 0) with
      | false => exact iteF ⟨_, _, rfl, gG.trans' g8⟩
      | true =>
        refine iteT ⟨_, rfl, p, l, ns, _, 3, rfl, by decide, cdw (by decide) (by decide), W8, by omega, fun r9 H9 q9 u9 W9 g9 => ?_⟩
        refine ⟨(by show 0 ≤ sizeLine; decide), fun n1 hn1 => ⟨(by show 2 ≤ sizeLine; decide), fun n2 hn2 => ⟨(by show 2 ≤ sizeLine; decide), fun n3 hn3 => ?_⟩⟩⟩
        have j1 := Grow.new (o := .tup []) hn1
        have j2 := Grow.new (o := .tup [.int r9, .ref n1]) hn2
        have j3 := Grow.new (o := .tup [.ref n2, .bl false]) hn3
        have j13 := (j1.trans j2).trans j3
        have eR : EncT (upd (upd (upd H9 n1 (.tup [])) n2 (.tup [.int r9, .ref n1])) n3 (.tup [.ref n2, .bl false])) (rwD ((r9, []), false)) (.ref n3) :=
          .tup upd_same (.cons (EncB.grow j3 (.tup upd_same (.cons (.int _) (.cons (EncB.grow j2 (.tup upd_same .nil)) .nil)))) (.cons (.bl _) .nil))
        have gN := ((gG.trans' g8).trans' g9).trans' j13.w
        generalize upd (upd (upd H9 n1 (.tup [])) n2 (.tup [.int r9, .ref n1])) n3 (.tup [.ref n2, .bl false]) = HN at eR gN ⊢
        refine ⟨fun σ' H' => σ' = [some (.ref a), some (.ref p), some (.int (c : Nat)), some (.ref q4), some (.ref L), some (.ref R), some (.ref Nm), some (.int (wd : Nat)), some (.ref o1), some (.ref o2), some (.ref r3), some (.ref b2), some x, v13, some (.ref n3)] ∧ Grow HN H', ?_, fun σ' H1 hm => ?_⟩
        · obtain ⟨nn, hnn⟩ : ∃ nn : Nat, nn = (12000 : Int).toNat := ⟨_, rfl⟩
          have hn12 : nn = 12000 := by rw [hnn]; rfl
          refine ⟨_, rfl, (by show 1 ≤ sizeLine; decide), fun w1 hw1 => ?_⟩
          have i1 := Grow.new (o := .tup [.ref n3]) hw1
          dsimp only [tC]
          refine rep_run (B := fun _ => False) (k := 12000) upd_same (eR.grow i1) (by decide) fun w2 K2 hw2 ew2 i2 => ?_
          rw [← hnn] at hw2 ew2
          clear hnn
          refine ⟨(by show 2 ≤ sizeLine; decide), fun w3 hw3 => ⟨(by show 0 ≤ sizeLine; decide), fun w4 hw4 => ?_⟩⟩
          have i3 := Grow.new (o := .tup [.int 0, .ref w2]) hw3
          have i4 := Grow.new (o := .tup []) hw4
          obtain ⟨sy, kp⟩ := syRep (k := nn) (by omega) q9 u9
          refine ⟨.ref w3, .ref w4, syD 0 (List.replicate nn ((r9, []), false)), .tup [], rfl, ?_, EncB.any (B := fun _ => False) (.tup upd_same .nil), .inr ⟨0, _, rfl, sy, PtD.of (fun d hd => absurd hd List.not_mem_nil), fun K5 i5 => ⟨_, _, rfl, ?_⟩⟩⟩
          · rw [syD_rep]
            exact EncB.any (EncB.grow i4 (.tup upd_same (.cons (.int _) (.cons (EncB.grow i3 (.tup hw2 ew2)) .nil))))
          · rw [kp]
            refine ⟨_, rfl, ?_⟩
            exact iteF ⟨rfl, ((((i1.trans i2).trans i3).trans i4).trans i5)⟩
        · obtain ⟨rfl, i0⟩ := hm
          have eR1 := eR.grow i0
          obtain ⟨nn, hnn⟩ : ∃ nn : Nat, nn = (12001 : Int).toNat := ⟨_, rfl⟩
          have hn12 : nn = 12001 := by rw [hnn]; rfl
          refine ⟨_, rfl, (by show 1 ≤ sizeLine; decide), fun w1 hw1 => ?_⟩
          have i1 := Grow.new (o := .tup [.ref n3]) hw1
          dsimp only [tC]
          refine rep_run (B := fun _ => False) (k := 12001) upd_same (eR1.grow i1) (by decide) fun w2 K2 hw2 ew2 i2 => ?_
          rw [← hnn] at hw2 ew2
          refine ⟨(by show 2 ≤ sizeLine; decide), fun w3 hw3 => ⟨(by show 0 ≤ sizeLine; decide), fun w4 hw4 => ?_⟩⟩
          have i3 := Grow.new (o := .tup [.int 0, .ref w2]) hw3
          have i4 := Grow.new (o := .tup []) hw4
          refine ⟨0, .ref w3, .ref w4, .tup [.int 0, .tup (List.replicate nn (rwD ((r9, []), false)))], .tup [], rfl, EncB.any (EncB.grow i4 (.tup upd_same (.cons (.int _) (.cons (EncB.grow i3 (.tup hw2 ew2)) .nil)))), EncB.any (B := fun _ => False) (.tup upd_same .nil), .inl ⟨syRep_no (by omega), fun K5 i5 => ⟨rfl, _, rfl, ?_⟩⟩⟩
          have i15 := (((i1.trans i2).trans i3).trans i4).trans i5
          have eR2 := eR1.grow i15
          clear hw2 ew2
          rw [decide_eq_true rfl]
          refine iteF ⟨_, rfl, (by show 1 ≤ sizeLine; decide), fun v1 hv1 => ?_⟩
          have m1 := Grow.new (o := .tup [.ref n3]) hv1
          dsimp only [tC]
          refine rep_run (B := fun _ => False) (k := 12001) upd_same (eR2.grow m1) (by decide) fun v2 K6 hv2 ev2 m2 => ?_
          rw [← hnn] at hv2 ev2
          clear hnn
          refine ⟨(by show 2 ≤ sizeLine; decide), fun v3 hv3 => ⟨(by show 0 ≤ sizeLine; decide), fun v4 hv4 => ?_⟩⟩
          have m3 := Grow.new (o := .tup [.int 0, .ref v2]) hv3
          have m4 := Grow.new (o := .tup []) hv4
          refine ⟨1, .ref v3, .ref v4, .tup [.int 0, .tup (List.replicate nn (rwD ((r9, []), false)))], .tup [], rfl, EncB.any (EncB.grow m4 (.tup upd_same (.cons (.int _) (.cons (EncB.grow m3 (.tup hv2 ev2)) .nil)))), EncB.any (B := fun _ => False) (.tup upd_same .nil), .inl ⟨syRep_no (by omega), fun K7 m5 => ⟨rfl, _, rfl, ?_⟩⟩⟩
          rw [decide_eq_true rfl]
          exact iteF ⟨_, _, rfl, gN.trans' ((i0.trans i15).trans ((((m1.trans m2).trans m3).trans m4).trans m5)).w⟩
    obtain ⟨v13', v14, rfl, gZ⟩ := hm
    have eOneZ := (eOneF.gwT gZ hwF).any
    have eTwoZ := (eTwoF.gwT gZ hwF).any
    refine ⟨_, rfl, 0, .ref o1, .non, _, .non, rfl, eOneZ, .non, .inr ⟨(wd : Nat), rs, rfl, so1, rfl, .inl rfl, fun H2 g2 => ?_⟩⟩
    refine ⟨rfl, ?_⟩
    rw [decide_eq_true rfl]
    refine ⟨_, rfl, iteT ?_⟩
    refine ⟨_, rfl, 1, .ref o2, .non, _, .non, rfl, eTwoZ.grow g2, .non, .inr ⟨(wd : Nat), rt, rfl, so2, rfl, .inr rfl, fun H3 g3 => ⟨rfl, ?_⟩⟩⟩
    rw [decide_eq_true rfl]
    exact kq _
end
end J1
set_option Elab.async false
set_option linter.all false
set_option maxRecDepth 100000
set_option maxHeartbeats 8000000
namespace J1
open PySem PySem.Spec PyProof.Rows L2 GxR GA RZ
theorem vals_rev : ∀ {zs : List V} {ws : List Value}, Vals zs ws → Vals zs.reverse ws.reverse
  | _, _, .nil => .nil
  | _, _, .cons h t => by
    rw [List.reverse_cons, List.reverse_cons]
    exact (vals_rev t).append (.cons h .nil)
theorem all_mk {l : PySem.W.OpenLaw} {w : World} {K : PySem.W.Frag} {h : Heap} {mg : Str → Option Value} {fa CB CL CS : Addr} (X : K.In h) (G : h.Ns mainGlobals mg) (hfa : mg "law" = some (.ref fa))
    {f0 : Addr} {od0 an0 : Option Addr} {sl0 : Array (Option Value)} {oc0 kV0 dc0 pm0 cd0 ct0 : Value}
    (a0 : PySem.W.nsIn K mainGlobals "is_integer" = some (some (.ref f0)))
    (l0 : K.lookup f0 = some ⟨oc0, od0, .func (PySem.W.fnOf "is_integer" "is_integer" (defArgs sInt) (defBody sInt) (defScope sInt) .none kV0 dc0 pm0 an0 cd0 ct0), sl0⟩) (c0 : PySem.W.codeIn K cd0 "is_integer" = true) (k0 : PySem.W.keepIn K (.ref f0) = true)
    {f1 : Addr} {od1 an1 : Option Addr} {sl1 : Array (Option Value)} {oc1 kV1 dc1 pm1 cd1 ct1 : Value}
    (a1 : PySem.W.nsIn K mainGlobals "is_between" = some (some (.ref f1)))
    (l1 : K.lookup f1 = some ⟨oc1, od1, .func (PySem.W.fnOf "is_between" "is_between" (defArgs sBet) (defBody sBet) (defScope sBet) .none kV1 dc1 pm1 an1 cd1 ct1), sl1⟩) (c1 : PySem.W.codeIn K cd1 "is_between" = true) (k1 : PySem.W.keepIn K (.ref f1) = true)
    {f2 : Addr} {od2 an2 : Option Addr} {sl2 : Array (Option Value)} {oc2 kV2 dc2 pm2 cd2 ct2 : Value}
    (a2 : PySem.W.nsIn K mainGlobals "is_tuple" = some (some (.ref f2)))
    (l2 : K.lookup f2 = some ⟨oc2, od2, .func (PySem.W.fnOf "is_tuple" "is_tuple" (defArgs sTup) (defBody sTup) (defScope sTup) .none kV2 dc2 pm2 an2 cd2 ct2), sl2⟩) (c2 : PySem.W.codeIn K cd2 "is_tuple" = true) (k2 : PySem.W.keepIn K (.ref f2) = true)
    {f3 : Addr} {od3 an3 : Option Addr} {sl3 : Array (Option Value)} {oc3 kV3 dc3 pm3 cd3 ct3 : Value}
    (a3 : PySem.W.nsIn K mainGlobals "is_ratio" = some (some (.ref f3)))
    (l3 : K.lookup f3 = some ⟨oc3, od3, .func (PySem.W.fnOf "is_ratio" "is_ratio" (defArgs sRt) (defBody sRt) (defScope sRt) .none kV3 dc3 pm3 an3 cd3 ct3), sl3⟩) (c3 : PySem.W.codeIn K cd3 "is_ratio" = true) (k3 : PySem.W.keepIn K (.ref f3) = true)
    {f4 : Addr} {od4 an4 : Option Addr} {sl4 : Array (Option Value)} {oc4 kV4 dc4 pm4 cd4 ct4 : Value}
    (a4 : PySem.W.nsIn K mainGlobals "is_system" = some (some (.ref f4)))
    (l4 : K.lookup f4 = some ⟨oc4, od4, .func (PySem.W.fnOf "is_system" "is_system" (defArgs sSy) (defBody sSy) (defScope sSy) .none kV4 dc4 pm4 an4 cd4 ct4), sl4⟩) (c4 : PySem.W.codeIn K cd4 "is_system" = true) (k4 : PySem.W.keepIn K (.ref f4) = true)
    {f5 : Addr} {od5 an5 : Option Addr} {sl5 : Array (Option Value)} {oc5 kV5 dc5 pm5 cd5 ct5 : Value}
    (a5 : PySem.W.nsIn K mainGlobals "_is_row" = some (some (.ref f5)))
    (l5 : K.lookup f5 = some ⟨oc5, od5, .func (PySem.W.fnOf "_is_row" "_is_row" (defArgs sRw) (defBody sRw) (defScope sRw) .none kV5 dc5 pm5 an5 cd5 ct5), sl5⟩) (c5 : PySem.W.codeIn K cd5 "_is_row" = true) (k5 : PySem.W.keepIn K (.ref f5) = true)
    {f6 : Addr} {od6 an6 : Option Addr} {sl6 : Array (Option Value)} {oc6 kV6 dc6 pm6 cd6 ct6 : Value}
    (a6 : PySem.W.nsIn K mainGlobals "is_line" = some (some (.ref f6)))
    (l6 : K.lookup f6 = some ⟨oc6, od6, .func (PySem.W.fnOf "is_line" "is_line" (defArgs sLn) (defBody sLn) (defScope sLn) .none kV6 dc6 pm6 an6 cd6 ct6), sl6⟩) (c6 : PySem.W.codeIn K cd6 "is_line" = true) (k6 : PySem.W.keepIn K (.ref f6) = true)
    {f7 : Addr} {od7 an7 : Option Addr} {sl7 : Array (Option Value)} {oc7 kV7 dc7 pm7 cd7 ct7 : Value}
    (a7 : PySem.W.nsIn K mainGlobals "is_point" = some (some (.ref f7)))
    (l7 : K.lookup f7 = some ⟨oc7, od7, .func (PySem.W.fnOf "is_point" "is_point" (defArgs sPt) (defBody sPt) (defScope sPt) .none kV7 dc7 pm7 an7 cd7 ct7), sl7⟩) (c7 : PySem.W.codeIn K cd7 "is_point" = true) (k7 : PySem.W.keepIn K (.ref f7) = true)
    {f8 : Addr} {od8 an8 : Option Addr} {sl8 : Array (Option Value)} {oc8 kV8 dc8 pm8 cd8 ct8 : Value}
    (a8 : PySem.W.nsIn K mainGlobals "are_multipliers" = some (some (.ref f8)))
    (l8 : K.lookup f8 = some ⟨oc8, od8, .func (PySem.W.fnOf "are_multipliers" "are_multipliers" (defArgs sMu) (defBody sMu) (defScope sMu) .none kV8 dc8 pm8 an8 cd8 ct8), sl8⟩) (c8 : PySem.W.codeIn K cd8 "are_multipliers" = true) (k8 : PySem.W.keepIn K (.ref f8) = true)
    {f9 : Addr} {od9 an9 : Option Addr} {sl9 : Array (Option Value)} {oc9 kV9 dc9 pm9 cd9 ct9 : Value}
    (a9 : PySem.W.nsIn K mainGlobals "value_at" = some (some (.ref f9)))
    (l9 : K.lookup f9 = some ⟨oc9, od9, .func (PySem.W.fnOf "value_at" "value_at" (defArgs sVa) (defBody sVa) (defScope sVa) .none kV9 dc9 pm9 an9 cd9 ct9), sl9⟩) (c9 : PySem.W.codeIn K cd9 "value_at" = true) (k9 : PySem.W.keepIn K (.ref f9) = true)
    {f10 : Addr} {od10 an10 : Option Addr} {sl10 : Array (Option Value)} {oc10 kV10 dc10 pm10 cd10 ct10 : Value}
    (a10 : PySem.W.nsIn K mainGlobals "is_kept" = some (some (.ref f10)))
    (l10 : K.lookup f10 = some ⟨oc10, od10, .func (PySem.W.fnOf "is_kept" "is_kept" (defArgs sKp) (defBody sKp) (defScope sKp) .none kV10 dc10 pm10 an10 cd10 ct10), sl10⟩) (c10 : PySem.W.codeIn K cd10 "is_kept" = true) (k10 : PySem.W.keepIn K (.ref f10) = true)
    {f11 : Addr} {od11 an11 : Option Addr} {sl11 : Array (Option Value)} {oc11 kV11 dc11 pm11 cd11 ct11 : Value}
    (a11 : PySem.W.nsIn K mainGlobals "summed" = some (some (.ref f11)))
    (l11 : K.lookup f11 = some ⟨oc11, od11, .func (PySem.W.fnOf "summed" "summed" (defArgs sSu) (defBody sSu) (defScope sSu) .none kV11 dc11 pm11 an11 cd11 ct11), sl11⟩) (c11 : PySem.W.codeIn K cd11 "summed" = true) (k11 : PySem.W.keepIn K (.ref f11) = true)
    {f12 : Addr} {od12 an12 : Option Addr} {sl12 : Array (Option Value)} {oc12 kV12 dc12 pm12 cd12 ct12 : Value}
    (a12 : PySem.W.nsIn K mainGlobals "keeps" = some (some (.ref f12)))
    (l12 : K.lookup f12 = some ⟨oc12, od12, .func (PySem.W.fnOf "keeps" "keeps" (defArgs sKe) (defBody sKe) (defScope sKe) .none kV12 dc12 pm12 an12 cd12 ct12), sl12⟩) (c12 : PySem.W.codeIn K cd12 "keeps" = true) (k12 : PySem.W.keepIn K (.ref f12) = true)
    {f13 : Addr} {od13 an13 : Option Addr} {sl13 : Array (Option Value)} {oc13 kV13 dc13 pm13 cd13 ct13 : Value}
    (a13 : PySem.W.nsIn K mainGlobals "refutes" = some (some (.ref f13)))
    (l13 : K.lookup f13 = some ⟨oc13, od13, .func (PySem.W.fnOf "refutes" "refutes" (defArgs sRe) (defBody sRe) (defScope sRe) .none kV13 dc13 pm13 an13 cd13 ct13), sl13⟩) (c13 : PySem.W.codeIn K cd13 "refutes" = true) (k13 : PySem.W.keepIn K (.ref f13) = true)
    {f14 : Addr} {od14 an14 : Option Addr} {sl14 : Array (Option Value)} {oc14 kV14 dc14 pm14 cd14 ct14 : Value}
    (a14 : PySem.W.nsIn K mainGlobals "is_least" = some (some (.ref f14)))
    (l14 : K.lookup f14 = some ⟨oc14, od14, .func (PySem.W.fnOf "is_least" "is_least" (defArgs sIl) (defBody sIl) (defScope sIl) .none kV14 dc14 pm14 an14 cd14 ct14), sl14⟩) (c14 : PySem.W.codeIn K cd14 "is_least" = true) (k14 : PySem.W.keepIn K (.ref f14) = true)
    {f15 : Addr} {od15 an15 : Option Addr} {sl15 : Array (Option Value)} {oc15 kV15 dc15 pm15 cd15 ct15 : Value}
    (a15 : PySem.W.nsIn K mainGlobals "solve" = some (some (.ref f15)))
    (l15 : K.lookup f15 = some ⟨oc15, od15, .func (PySem.W.fnOf "solve" "solve" (defArgs sSo) (defBody sSo) (defScope sSo) .none kV15 dc15 pm15 an15 cd15 ct15), sl15⟩) (c15 : PySem.W.codeIn K cd15 "solve" = true) (k15 : PySem.W.keepIn K (.ref f15) = true)
    {f16 : Addr} {od16 an16 : Option Addr} {sl16 : Array (Option Value)} {oc16 kV16 dc16 pm16 cd16 ct16 : Value}
    (a16 : PySem.W.nsIn K mainGlobals "least" = some (some (.ref f16)))
    (l16 : K.lookup f16 = some ⟨oc16, od16, .func (PySem.W.fnOf "least" "least" (defArgs sLe) (defBody sLe) (defScope sLe) .none kV16 dc16 pm16 an16 cd16 ct16), sl16⟩) (c16 : PySem.W.codeIn K cd16 "least" = true) (k16 : PySem.W.keepIn K (.ref f16) = true)
    {f17 : Addr} {od17 an17 : Option Addr} {sl17 : Array (Option Value)} {oc17 kV17 dc17 pm17 cd17 ct17 : Value}
    (a17 : PySem.W.nsIn K mainGlobals "need_system" = some (some (.ref f17)))
    (l17 : K.lookup f17 = some ⟨oc17, od17, .func (PySem.W.fnOf "need_system" "need_system" (defArgs sNs) (defBody sNs) (defScope sNs) .none kV17 dc17 pm17 an17 cd17 ct17), sl17⟩) (c17 : PySem.W.codeIn K cd17 "need_system" = true) (k17 : PySem.W.keepIn K (.ref f17) = true)
    {f18 : Addr} {od18 an18 : Option Addr} {sl18 : Array (Option Value)} {oc18 kV18 dc18 pm18 cd18 ct18 : Value}
    (a18 : PySem.W.nsIn K mainGlobals "_law_draw" = some (some (.ref f18)))
    (l18 : K.lookup f18 = some ⟨oc18, od18, .func (PySem.W.fnOf "_law_draw" "_law_draw" (defArgs lDr) (defBody lDr) (defScope lDr) .none kV18 dc18 pm18 an18 cd18 ct18), sl18⟩) (c18 : PySem.W.codeIn K cd18 "_law_draw" = true) (k18 : PySem.W.keepIn K (.ref f18) = true)
    {f19 : Addr} {od19 an19 : Option Addr} {sl19 : Array (Option Value)} {oc19 kV19 dc19 pm19 cd19 ct19 : Value}
    (a19 : PySem.W.nsIn K mainGlobals "_law_shared" = some (some (.ref f19)))
    (l19 : K.lookup f19 = some ⟨oc19, od19, .func (PySem.W.fnOf "_law_shared" "_law_shared" (defArgs lSh) (defBody lSh) (defScope lSh) .none kV19 dc19 pm19 an19 cd19 ct19), sl19⟩) (c19 : PySem.W.codeIn K cd19 "_law_shared" = true) (k19 : PySem.W.keepIn K (.ref f19) = true)
    {f20 : Addr} {od20 an20 : Option Addr} {sl20 : Array (Option Value)} {oc20 kV20 dc20 pm20 cd20 ct20 : Value}
    (a20 : PySem.W.nsIn K mainGlobals "_law_int" = some (some (.ref f20)))
    (l20 : K.lookup f20 = some ⟨oc20, od20, .func (PySem.W.fnOf "_law_int" "_law_int" (defArgs lIn) (defBody lIn) (defScope lIn) .none kV20 dc20 pm20 an20 cd20 ct20), sl20⟩) (c20 : PySem.W.codeIn K cd20 "_law_int" = true) (k20 : PySem.W.keepIn K (.ref f20) = true)
    {f21 : Addr} {od21 an21 : Option Addr} {sl21 : Array (Option Value)} {oc21 kV21 dc21 pm21 cd21 ct21 : Value}
    (a21 : PySem.W.nsIn K mainGlobals "_law_gcd" = some (some (.ref f21)))
    (l21 : K.lookup f21 = some ⟨oc21, od21, .func (PySem.W.fnOf "_law_gcd" "_law_gcd" (defArgs lGc) (defBody lGc) (defScope lGc) .none kV21 dc21 pm21 an21 cd21 ct21), sl21⟩) (c21 : PySem.W.codeIn K cd21 "_law_gcd" = true) (k21 : PySem.W.keepIn K (.ref f21) = true)
    {f22 : Addr} {od22 an22 : Option Addr} {sl22 : Array (Option Value)} {oc22 kV22 dc22 pm22 cd22 ct22 : Value}
    (a22 : PySem.W.nsIn K mainGlobals "_law_ratio" = some (some (.ref f22)))
    (l22 : K.lookup f22 = some ⟨oc22, od22, .func (PySem.W.fnOf "_law_ratio" "_law_ratio" (defArgs lLr) (defBody lLr) (defScope lLr) .none kV22 dc22 pm22 an22 cd22 ct22), sl22⟩) (c22 : PySem.W.codeIn K cd22 "_law_ratio" = true) (k22 : PySem.W.keepIn K (.ref f22) = true)
    {f23 : Addr} {od23 an23 : Option Addr} {sl23 : Array (Option Value)} {oc23 kV23 dc23 pm23 cd23 ct23 : Value}
    (a23 : PySem.W.nsIn K mainGlobals "_law_value" = some (some (.ref f23)))
    (l23 : K.lookup f23 = some ⟨oc23, od23, .func (PySem.W.fnOf "_law_value" "_law_value" (defArgs lVl) (defBody lVl) (defScope lVl) .none kV23 dc23 pm23 an23 cd23 ct23), sl23⟩) (c23 : PySem.W.codeIn K cd23 "_law_value" = true) (k23 : PySem.W.keepIn K (.ref f23) = true)
    {f24 : Addr} {od24 an24 : Option Addr} {sl24 : Array (Option Value)} {oc24 kV24 dc24 pm24 cd24 ct24 : Value}
    (a24 : PySem.W.nsIn K mainGlobals "_law_keeps" = some (some (.ref f24)))
    (l24 : K.lookup f24 = some ⟨oc24, od24, .func (PySem.W.fnOf "_law_keeps" "_law_keeps" (defArgs lLk) (defBody lLk) (defScope lLk) .none kV24 dc24 pm24 an24 cd24 ct24), sl24⟩) (c24 : PySem.W.codeIn K cd24 "_law_keeps" = true) (k24 : PySem.W.keepIn K (.ref f24) = true)
    {f25 : Addr} {od25 an25 : Option Addr} {sl25 : Array (Option Value)} {oc25 kV25 dc25 pm25 cd25 ct25 : Value}
    (a25 : PySem.W.nsIn K mainGlobals "_law_truth" = some (some (.ref f25)))
    (l25 : K.lookup f25 = some ⟨oc25, od25, .func (PySem.W.fnOf "_law_truth" "_law_truth" (defArgs lTr) (defBody lTr) (defScope lTr) .none kV25 dc25 pm25 an25 cd25 ct25), sl25⟩) (c25 : PySem.W.codeIn K cd25 "_law_truth" = true) (k25 : PySem.W.keepIn K (.ref f25) = true)
    {f26 : Addr} {od26 an26 : Option Addr} {sl26 : Array (Option Value)} {oc26 kV26 dc26 pm26 cd26 ct26 : Value}
    (a26 : PySem.W.nsIn K mainGlobals "_law_multipliers" = some (some (.ref f26)))
    (l26 : K.lookup f26 = some ⟨oc26, od26, .func (PySem.W.fnOf "_law_multipliers" "_law_multipliers" (defArgs lLm) (defBody lLm) (defScope lLm) .none kV26 dc26 pm26 an26 cd26 ct26), sl26⟩) (c26 : PySem.W.codeIn K cd26 "_law_multipliers" = true) (k26 : PySem.W.keepIn K (.ref f26) = true)
    {f27 : Addr} {od27 an27 : Option Addr} {sl27 : Array (Option Value)} {oc27 kV27 dc27 pm27 cd27 ct27 : Value}
    (a27 : PySem.W.nsIn K mainGlobals "_law_summed" = some (some (.ref f27)))
    (l27 : K.lookup f27 = some ⟨oc27, od27, .func (PySem.W.fnOf "_law_summed" "_law_summed" (defArgs lLs) (defBody lLs) (defScope lLs) .none kV27 dc27 pm27 an27 cd27 ct27), sl27⟩) (c27 : PySem.W.codeIn K cd27 "_law_summed" = true) (k27 : PySem.W.keepIn K (.ref f27) = true)
    {f28 : Addr} {od28 an28 : Option Addr} {sl28 : Array (Option Value)} {oc28 kV28 dc28 pm28 cd28 ct28 : Value}
    (a28 : PySem.W.nsIn K mainGlobals "_law_refutes" = some (some (.ref f28)))
    (l28 : K.lookup f28 = some ⟨oc28, od28, .func (PySem.W.fnOf "_law_refutes" "_law_refutes" (defArgs lLf) (defBody lLf) (defScope lLf) .none kV28 dc28 pm28 an28 cd28 ct28), sl28⟩) (c28 : PySem.W.codeIn K cd28 "_law_refutes" = true) (k28 : PySem.W.keepIn K (.ref f28) = true)
    {f29 : Addr} {od29 an29 : Option Addr} {sl29 : Array (Option Value)} {oc29 kV29 dc29 pm29 cd29 ct29 : Value}
    (a29 : PySem.W.nsIn K mainGlobals "_law_well" = some (some (.ref f29)))
    (l29 : K.lookup f29 = some ⟨oc29, od29, .func (PySem.W.fnOf "_law_well" "_law_well" (defArgs lWell) (defBody lWell) (defScope lWell) .none kV29 dc29 pm29 an29 cd29 ct29), sl29⟩) (c29 : PySem.W.codeIn K cd29 "_law_well" = true) (k29 : PySem.W.keepIn K (.ref f29) = true)
    {f30 : Addr} {od30 an30 : Option Addr} {sl30 : Array (Option Value)} {oc30 kV30 dc30 pm30 cd30 ct30 : Value}
    (a30 : PySem.W.nsIn K mainGlobals "_law_lowest" = some (some (.ref f30)))
    (l30 : K.lookup f30 = some ⟨oc30, od30, .func (PySem.W.fnOf "_law_lowest" "_law_lowest" (defArgs lLo) (defBody lLo) (defScope lLo) .none kV30 dc30 pm30 an30 cd30 ct30), sl30⟩) (c30 : PySem.W.codeIn K cd30 "_law_lowest" = true) (k30 : PySem.W.keepIn K (.ref f30) = true)
    {f31 : Addr} {od31 an31 : Option Addr} {sl31 : Array (Option Value)} {oc31 kV31 dc31 pm31 cd31 ct31 : Value}
    (a31 : PySem.W.nsIn K mainGlobals "_law_point" = some (some (.ref f31)))
    (l31 : K.lookup f31 = some ⟨oc31, od31, .func (PySem.W.fnOf "_law_point" "_law_point" (defArgs lPo) (defBody lPo) (defScope lPo) .none kV31 dc31 pm31 an31 cd31 ct31), sl31⟩) (c31 : PySem.W.codeIn K cd31 "_law_point" = true) (k31 : PySem.W.keepIn K (.ref f31) = true)
    {f32 : Addr} {od32 an32 : Option Addr} {sl32 : Array (Option Value)} {oc32 kV32 dc32 pm32 cd32 ct32 : Value}
    (a32 : PySem.W.nsIn K mainGlobals "_law_terms" = some (some (.ref f32)))
    (l32 : K.lookup f32 = some ⟨oc32, od32, .func (PySem.W.fnOf "_law_terms" "_law_terms" (defArgs lTe) (defBody lTe) (defScope lTe) .none kV32 dc32 pm32 an32 cd32 ct32), sl32⟩) (c32 : PySem.W.codeIn K cd32 "_law_terms" = true) (k32 : PySem.W.keepIn K (.ref f32) = true)
    {f33 : Addr} {od33 an33 : Option Addr} {sl33 : Array (Option Value)} {oc33 kV33 dc33 pm33 cd33 ct33 : Value}
    (a33 : PySem.W.nsIn K mainGlobals "_law_row_at" = some (some (.ref f33)))
    (l33 : K.lookup f33 = some ⟨oc33, od33, .func (PySem.W.fnOf "_law_row_at" "_law_row_at" (defArgs lRa) (defBody lRa) (defScope lRa) .none kV33 dc33 pm33 an33 cd33 ct33), sl33⟩) (c33 : PySem.W.codeIn K cd33 "_law_row_at" = true) (k33 : PySem.W.keepIn K (.ref f33) = true)
    {f34 : Addr} {od34 an34 : Option Addr} {sl34 : Array (Option Value)} {oc34 kV34 dc34 pm34 cd34 ct34 : Value}
    (a34 : PySem.W.nsIn K mainGlobals "_law_kept_rows" = some (some (.ref f34)))
    (l34 : K.lookup f34 = some ⟨oc34, od34, .func (PySem.W.fnOf "_law_kept_rows" "_law_kept_rows" (defArgs lKr) (defBody lKr) (defScope lKr) .none kV34 dc34 pm34 an34 cd34 ct34), sl34⟩) (c34 : PySem.W.codeIn K cd34 "_law_kept_rows" = true) (k34 : PySem.W.keepIn K (.ref f34) = true)
    {f35 : Addr} {od35 an35 : Option Addr} {sl35 : Array (Option Value)} {oc35 kV35 dc35 pm35 cd35 ct35 : Value}
    (a35 : PySem.W.nsIn K mainGlobals "_law_torn_rows" = some (some (.ref f35)))
    (l35 : K.lookup f35 = some ⟨oc35, od35, .func (PySem.W.fnOf "_law_torn_rows" "_law_torn_rows" (defArgs lTo) (defBody lTo) (defScope lTo) .none kV35 dc35 pm35 an35 cd35 ct35), sl35⟩) (c35 : PySem.W.codeIn K cd35 "_law_torn_rows" = true) (k35 : PySem.W.keepIn K (.ref f35) = true)
    {f36 : Addr} {od36 an36 : Option Addr} {sl36 : Array (Option Value)} {oc36 kV36 dc36 pm36 cd36 ct36 : Value}
    (a36 : PySem.W.nsIn K mainGlobals "_law_no_system" = some (some (.ref f36)))
    (l36 : K.lookup f36 = some ⟨oc36, od36, .func (PySem.W.fnOf "_law_no_system" "_law_no_system" (defArgs lBd) (defBody lBd) (defScope lBd) .none kV36 dc36 pm36 an36 cd36 ct36), sl36⟩) (c36 : PySem.W.codeIn K cd36 "_law_no_system" = true) (k36 : PySem.W.keepIn K (.ref f36) = true)
    {f37 : Addr} {od37 an37 : Option Addr} {sl37 : Array (Option Value)} {oc37 kV37 dc37 pm37 cd37 ct37 : Value}
    (a37 : PySem.W.nsIn K mainGlobals "_law_swapped" = some (some (.ref f37)))
    (l37 : K.lookup f37 = some ⟨oc37, od37, .func (PySem.W.fnOf "_law_swapped" "_law_swapped" (defArgs lSw) (defBody lSw) (defScope lSw) .none kV37 dc37 pm37 an37 cd37 ct37), sl37⟩) (c37 : PySem.W.codeIn K cd37 "_law_swapped" = true) (k37 : PySem.W.keepIn K (.ref f37) = true)
    {f38 : Addr} {od38 an38 : Option Addr} {sl38 : Array (Option Value)} {oc38 kV38 dc38 pm38 cd38 ct38 : Value}
    (a38 : PySem.W.nsIn K mainGlobals "_law_spoilt_point" = some (some (.ref f38)))
    (l38 : K.lookup f38 = some ⟨oc38, od38, .func (PySem.W.fnOf "_law_spoilt_point" "_law_spoilt_point" (defArgs lSp) (defBody lSp) (defScope lSp) .none kV38 dc38 pm38 an38 cd38 ct38), sl38⟩) (c38 : PySem.W.codeIn K cd38 "_law_spoilt_point" = true) (k38 : PySem.W.keepIn K (.ref f38) = true)
    {f39 : Addr} {od39 an39 : Option Addr} {sl39 : Array (Option Value)} {oc39 kV39 dc39 pm39 cd39 ct39 : Value}
    (a39 : PySem.W.nsIn K mainGlobals "_law_spoilt_numbers" = some (some (.ref f39)))
    (l39 : K.lookup f39 = some ⟨oc39, od39, .func (PySem.W.fnOf "_law_spoilt_numbers" "_law_spoilt_numbers" (defArgs lSn) (defBody lSn) (defScope lSn) .none kV39 dc39 pm39 an39 cd39 ct39), sl39⟩) (c39 : PySem.W.codeIn K cd39 "_law_spoilt_numbers" = true) (k39 : PySem.W.keepIn K (.ref f39) = true)
    {f40 : Addr} {od40 an40 : Option Addr} {sl40 : Array (Option Value)} {oc40 kV40 dc40 pm40 cd40 ct40 : Value}
    (a40 : PySem.W.nsIn K mainGlobals "_law_word" = some (some (.ref f40)))
    (l40 : K.lookup f40 = some ⟨oc40, od40, .func (PySem.W.fnOf "_law_word" "_law_word" (defArgs lWo) (defBody lWo) (defScope lWo) .none kV40 dc40 pm40 an40 cd40 ct40), sl40⟩) (c40 : PySem.W.codeIn K cd40 "_law_word" = true) (k40 : PySem.W.keepIn K (.ref f40) = true)
    {f41 : Addr} {od41 an41 : Option Addr} {sl41 : Array (Option Value)} {oc41 kV41 dc41 pm41 cd41 ct41 : Value}
    (a41 : PySem.W.nsIn K mainGlobals "_law_asked" = some (some (.ref f41)))
    (l41 : K.lookup f41 = some ⟨oc41, od41, .func (PySem.W.fnOf "_law_asked" "_law_asked" (defArgs lAk) (defBody lAk) (defScope lAk) .none kV41 dc41 pm41 an41 cd41 ct41), sl41⟩) (c41 : PySem.W.codeIn K cd41 "_law_asked" = true) (k41 : PySem.W.keepIn K (.ref f41) = true)
    {f42 : Addr} {od42 an42 : Option Addr} {sl42 : Array (Option Value)} {oc42 kV42 dc42 pm42 cd42 ct42 : Value}
    (a42 : PySem.W.nsIn K mainGlobals "law" = some (some (.ref f42)))
    (l42 : K.lookup f42 = some ⟨oc42, od42, .func (PySem.W.fnOf "law" "law" (defArgs lLaw) (defBody lLaw) (defScope lLaw) .none kV42 dc42 pm42 an42 cd42 ct42), sl42⟩) (c42 : PySem.W.codeIn K cd42 "law" = true) (k42 : PySem.W.keepIn K (.ref f42) = true)
    (zisinstance : PySem.W.nsIn K mainGlobals "isinstance" = some none)
    (zint : PySem.W.nsIn K mainGlobals "int" = some none)
    (zbool : PySem.W.nsIn K mainGlobals "bool" = some none)
    (ztuple : PySem.W.nsIn K mainGlobals "tuple" = some none)
    (zstr : PySem.W.nsIn K mainGlobals "str" = some none)
    (zlen : PySem.W.nsIn K mainGlobals "len" = some none)
    (zall : PySem.W.nsIn K mainGlobals "all" = some none)
    (zzip : PySem.W.nsIn K mainGlobals "zip" = some none)
    (zrange : PySem.W.nsIn K mainGlobals "range" = some none)
    (zlist : PySem.W.nsIn K mainGlobals "list" = some none)
    (zabs : PySem.W.nsIn K mainGlobals "abs" = some none)
    (zmin : PySem.W.nsIn K mainGlobals "min" = some none)
    (zmax : PySem.W.nsIn K mainGlobals "max" = some none)
    (zsorted : PySem.W.nsIn K mainGlobals "sorted" = some none)
    (zValueError : PySem.W.nsIn K mainGlobals "ValueError" = some none)
    {tMOST_UNKNOWNS : _} (mMOST_UNKNOWNS : PySem.W.nsIn K mainGlobals "MOST_UNKNOWNS" = some (some (.int 4000 tMOST_UNKNOWNS)))
    {tMOST_ROWS : _} (mMOST_ROWS : PySem.W.nsIn K mainGlobals "MOST_ROWS" = some (some (.int 12000 tMOST_ROWS)))
    (zgcd : PySem.W.nsIn K mainGlobals "gcd" = some (some (.builtin "math.gcd")))
    (eB : PySem.W.nsIn K mainGlobals "BadSystem" = some (some (.ref CB))) (eL : PySem.W.nsIn K mainGlobals "BadLine" = some (some (.ref CL))) (eS : PySem.W.nsIn K mainGlobals "StepError" = some (some (.ref CS))) (kCB : PySem.W.keepIn K (.ref CB) = true)
    (j1 : PySem.W.findIn K (.ref CB) "__getattribute__" = some (some (.builtin "BaseException.__getattribute__"))) (j2 : PySem.W.findIn K (.ref CB) "__getattr__" = some none) (j3 : PySem.W.subIn K (.ref CB) (.type "BaseException") = some true) (j4 : PySem.W.hasDictIn K CB = true) (j5 : PySem.W.findIn K (.ref CB) "__class__" = some (some (.builtin "object.__class__"))) (j6 : PySem.W.specialIn K (.builtin "object.__class__") "__get__" = some (some (.builtin "getset_descriptor.__get__"))) (j7 : PySem.W.takesIn K (.builtin "object.__class__") = some true) (j8 : PySem.W.mroIn K CB (.type "object") = some true) (j9 : PySem.W.typeIn K (.ref CB) = some (.type "type"))
    (xB : PySem.W.excIn K CB [.type "ValueError", .type "Exception", .type "BaseException", .type "object"] "ValueError.__new__" = true)
    (o1 : PySem.W.kitOne K (.ref CB) (.ref CS) = some true) (o2 : PySem.W.kitOne K (.ref CB) (.type "ValueError") = some true) (o3 : PySem.W.kitOne K (.ref CB) (.ref CL) = some false)
    (s4 : PySem.W.subIn K (.ref CB) (.ref CB) = some true)
     :
    ∃ fd : FuncData, (∀ (s : Shared) (v : Value), BindsTo s fd ⟨[v], []⟩ [("_law_script", v)]) ∧ ∀ base : Heap, K.In base → base.Ns mainGlobals mg → FnOk l.prog w K mg base CX0 9 fa fd ["_law_script"] (spLaw K) := by
  have e := hfa.symm.trans (PySem.W.mg_of X G a42)
  cases e
  have F0 := fun_mk (st := sInt) l0 c0 k0
  have B0 := F0.binds (ps := ["thing"]) fun _ _ _ _ _ _ us hl => match us, hl with | [_], _ => rfl
  have D0 : Df K mg "is_integer" ["thing"] f0 _ := ⟨PySem.W.mg_of X G a0, k0, B0⟩
  have F1 := fun_mk (st := sBet) l1 c1 k1
  have B1 := F1.binds (ps := ["thing", "least", "most"]) fun _ _ _ _ _ _ us hl => match us, hl with | [_, _, _], _ => rfl
  have D1 : Df K mg "is_between" ["thing", "least", "most"] f1 _ := ⟨PySem.W.mg_of X G a1, k1, B1⟩
  have F2 := fun_mk (st := sTup) l2 c2 k2
  have B2 := F2.binds (ps := ["thing", "least", "most"]) fun _ _ _ _ _ _ us hl => match us, hl with | [_, _, _], _ => rfl
  have D2 : Df K mg "is_tuple" ["thing", "least", "most"] f2 _ := ⟨PySem.W.mg_of X G a2, k2, B2⟩
  have F3 := fun_mk (st := sRt) l3 c3 k3
  have B3 := F3.binds (ps := ["thing"]) fun _ _ _ _ _ _ us hl => match us, hl with | [_], _ => rfl
  have D3 : Df K mg "is_ratio" ["thing"] f3 _ := ⟨PySem.W.mg_of X G a3, k3, B3⟩
  have F4 := fun_mk (st := sSy) l4 c4 k4
  have B4 := F4.binds (ps := ["thing"]) fun _ _ _ _ _ _ us hl => match us, hl with | [_], _ => rfl
  have D4 : Df K mg "is_system" ["thing"] f4 _ := ⟨PySem.W.mg_of X G a4, k4, B4⟩
  have F5 := fun_mk (st := sRw) l5 c5 k5
  have B5 := F5.binds (ps := ["thing", "count"]) fun _ _ _ _ _ _ us hl => match us, hl with | [_, _], _ => rfl
  have D5 : Df K mg "_is_row" ["thing", "count"] f5 _ := ⟨PySem.W.mg_of X G a5, k5, B5⟩
  have F6 := fun_mk (st := sLn) l6 c6 k6
  have B6 := F6.binds (ps := ["thing", "count"]) fun _ _ _ _ _ _ us hl => match us, hl with | [_, _], _ => rfl
  have D6 : Df K mg "is_line" ["thing", "count"] f6 _ := ⟨PySem.W.mg_of X G a6, k6, B6⟩
  have F7 := fun_mk (st := sPt) l7 c7 k7
  have B7 := F7.binds (ps := ["thing", "count"]) fun _ _ _ _ _ _ us hl => match us, hl with | [_, _], _ => rfl
  have D7 : Df K mg "is_point" ["thing", "count"] f7 _ := ⟨PySem.W.mg_of X G a7, k7, B7⟩
  have F8 := fun_mk (st := sMu) l8 c8 k8
  have B8 := F8.binds (ps := ["rows", "thing"]) fun _ _ _ _ _ _ us hl => match us, hl with | [_, _], _ => rfl
  have D8 : Df K mg "are_multipliers" ["rows", "thing"] f8 _ := ⟨PySem.W.mg_of X G a8, k8, B8⟩
  have F9 := fun_mk (st := sVa) l9 c9 k9
  have B9 := F9.binds (ps := ["line", "point"]) fun _ _ _ _ _ _ us hl => match us, hl with | [_, _], _ => rfl
  have D9 : Df K mg "value_at" ["line", "point"] f9 _ := ⟨PySem.W.mg_of X G a9, k9, B9⟩
  have F10 := fun_mk (st := sKp) l10 c10 k10
  have B10 := F10.binds (ps := ["rows", "point"]) fun _ _ _ _ _ _ us hl => match us, hl with | [_, _], _ => rfl
  have D10 : Df K mg "is_kept" ["rows", "point"] f10 _ := ⟨PySem.W.mg_of X G a10, k10, B10⟩
  have F11 := fun_mk (st := sSu) l11 c11 k11
  have B11 := F11.binds (ps := ["rows", "multipliers"]) fun _ _ _ _ _ _ us hl => match us, hl with | [_, _], _ => rfl
  have D11 : Df K mg "summed" ["rows", "multipliers"] f11 _ := ⟨PySem.W.mg_of X G a11, k11, B11⟩
  have F12 := fun_mk (st := sKe) l12 c12 k12
  have B12 := F12.binds (ps := ["system", "thing"]) fun _ _ _ _ _ _ us hl => match us, hl with | [_, _], _ => rfl
  have D12 : Df K mg "keeps" ["system", "thing"] f12 _ := ⟨PySem.W.mg_of X G a12, k12, B12⟩
  have F13 := fun_mk (st := sRe) l13 c13 k13
  have B13 := F13.binds (ps := ["system", "thing"]) fun _ _ _ _ _ _ us hl => match us, hl with | [_, _], _ => rfl
  have D13 : Df K mg "refutes" ["system", "thing"] f13 _ := ⟨PySem.W.mg_of X G a13, k13, B13⟩
  have F14 := fun_mk (st := sIl) l14 c14 k14
  have B14 := F14.binds (ps := ["system", "line", "thing"]) fun _ _ _ _ _ _ us hl => match us, hl with | [_, _, _], _ => rfl
  have D14 : Df K mg "is_least" ["system", "line", "thing"] f14 _ := ⟨PySem.W.mg_of X G a14, k14, B14⟩
  have F15 := fun_mk (st := sSo) l15 c15 k15
  have B15 := F15.binds (ps := ["system"]) fun _ _ _ _ _ _ us hl => match us, hl with | [_], _ => rfl
  have D15 : Df K mg "solve" ["system"] f15 _ := ⟨PySem.W.mg_of X G a15, k15, B15⟩
  have F16 := fun_mk (st := sLe) l16 c16 k16
  have B16 := F16.binds (ps := ["system", "line"]) fun _ _ _ _ _ _ us hl => match us, hl with | [_, _], _ => rfl
  have D16 : Df K mg "least" ["system", "line"] f16 _ := ⟨PySem.W.mg_of X G a16, k16, B16⟩
  have F17 := fun_mk (st := sNs) l17 c17 k17
  have B17 := F17.binds (ps := ["thing"]) fun _ _ _ _ _ _ us hl => match us, hl with | [_], _ => rfl
  have D17 : Df K mg "need_system" ["thing"] f17 _ := ⟨PySem.W.mg_of X G a17, k17, B17⟩
  have F18 := fun_mk (st := lDr) l18 c18 k18
  have B18 := F18.binds (ps := ["_law_well_here", "_law_many"]) fun _ _ _ _ _ _ us hl => match us, hl with | [_, _], _ => rfl
  have D18 : Df K mg "_law_draw" ["_law_well_here", "_law_many"] f18 _ := ⟨PySem.W.mg_of X G a18, k18, B18⟩
  have F19 := fun_mk (st := lSh) l19 c19 k19
  have B19 := F19.binds (ps := []) fun _ _ _ _ _ _ us hl => match us, hl with | [], _ => rfl
  have D19 : Df K mg "_law_shared" [] f19 _ := ⟨PySem.W.mg_of X G a19, k19, B19⟩
  have F20 := fun_mk (st := lIn) l20 c20 k20
  have B20 := F20.binds (ps := ["_law_thing"]) fun _ _ _ _ _ _ us hl => match us, hl with | [_], _ => rfl
  have D20 : Df K mg "_law_int" ["_law_thing"] f20 _ := ⟨PySem.W.mg_of X G a20, k20, B20⟩
  have F21 := fun_mk (st := lGc) l21 c21 k21
  have B21 := F21.binds (ps := ["_law_a", "_law_b"]) fun _ _ _ _ _ _ us hl => match us, hl with | [_, _], _ => rfl
  have D21 : Df K mg "_law_gcd" ["_law_a", "_law_b"] f21 _ := ⟨PySem.W.mg_of X G a21, k21, B21⟩
  have F22 := fun_mk (st := lLr) l22 c22 k22
  have B22 := F22.binds (ps := ["_law_thing"]) fun _ _ _ _ _ _ us hl => match us, hl with | [_], _ => rfl
  have D22 : Df K mg "_law_ratio" ["_law_thing"] f22 _ := ⟨PySem.W.mg_of X G a22, k22, B22⟩
  have F23 := fun_mk (st := lVl) l23 c23 k23
  have B23 := F23.binds (ps := ["_law_line", "_law_point_here"]) fun _ _ _ _ _ _ us hl => match us, hl with | [_, _], _ => rfl
  have D23 : Df K mg "_law_value" ["_law_line", "_law_point_here"] f23 _ := ⟨PySem.W.mg_of X G a23, k23, B23⟩
  have F24 := fun_mk (st := lLk) l24 c24 k24
  have B24 := F24.binds (ps := ["_law_system", "_law_thing"]) fun _ _ _ _ _ _ us hl => match us, hl with | [_, _], _ => rfl
  have D24 : Df K mg "_law_keeps" ["_law_system", "_law_thing"] f24 _ := ⟨PySem.W.mg_of X G a24, k24, B24⟩
  have F25 := fun_mk (st := lTr) l25 c25 k25
  have B25 := F25.binds (ps := ["_law_told", "_law_due"]) fun _ _ _ _ _ _ us hl => match us, hl with | [_, _], _ => rfl
  have D25 : Df K mg "_law_truth" ["_law_told", "_law_due"] f25 _ := ⟨PySem.W.mg_of X G a25, k25, B25⟩
  have F26 := fun_mk (st := lLm) l26 c26 k26
  have B26 := F26.binds (ps := ["_law_rows", "_law_thing"]) fun _ _ _ _ _ _ us hl => match us, hl with | [_, _], _ => rfl
  have D26 : Df K mg "_law_multipliers" ["_law_rows", "_law_thing"] f26 _ := ⟨PySem.W.mg_of X G a26, k26, B26⟩
  have F27 := fun_mk (st := lLs) l27 c27 k27
  have B27 := F27.binds (ps := ["_law_rows", "_law_multipliers_here"]) fun _ _ _ _ _ _ us hl => match us, hl with | [_, _], _ => rfl
  have D27 : Df K mg "_law_summed" ["_law_rows", "_law_multipliers_here"] f27 _ := ⟨PySem.W.mg_of X G a27, k27, B27⟩
  have F28 := fun_mk (st := lLf) l28 c28 k28
  have B28 := F28.binds (ps := ["_law_rows", "_law_thing"]) fun _ _ _ _ _ _ us hl => match us, hl with | [_, _], _ => rfl
  have D28 : Df K mg "_law_refutes" ["_law_rows", "_law_thing"] f28 _ := ⟨PySem.W.mg_of X G a28, k28, B28⟩
  have F29 := fun_mk (st := lWell) l29 c29 k29
  have B29 := F29.binds (ps := ["_law_script", "_law_at"]) fun _ _ _ _ _ _ us hl => match us, hl with | [_, _], _ => rfl
  have D29 : Df K mg "_law_well" ["_law_script", "_law_at"] f29 _ := ⟨PySem.W.mg_of X G a29, k29, B29⟩
  have F30 := fun_mk (st := lLo) l30 c30 k30
  have B30 := F30.binds (ps := ["_law_top", "_law_bottom"]) fun _ _ _ _ _ _ us hl => match us, hl with | [_, _], _ => rfl
  have D30 : Df K mg "_law_lowest" ["_law_top", "_law_bottom"] f30 _ := ⟨PySem.W.mg_of X G a30, k30, B30⟩
  have F31 := fun_mk (st := lPo) l31 c31 k31
  have B31 := F31.binds (ps := ["_law_well_here", "_law_count"]) fun _ _ _ _ _ _ us hl => match us, hl with | [_, _], _ => rfl
  have D31 : Df K mg "_law_point" ["_law_well_here", "_law_count"] f31 _ := ⟨PySem.W.mg_of X G a31, k31, B31⟩
  have F32 := fun_mk (st := lTe) l32 c32 k32
  have B32 := F32.binds (ps := ["_law_well_here", "_law_count", "_law_most"]) fun _ _ _ _ _ _ us hl => match us, hl with | [_, _, _], _ => rfl
  have D32 : Df K mg "_law_terms" ["_law_well_here", "_law_count", "_law_most"] f32 _ := ⟨PySem.W.mg_of X G a32, k32, B32⟩
  have F33 := fun_mk (st := lRa) l33 c33 k33
  have B33 := F33.binds (ps := ["_law_well_here", "_law_point_here", "_law_exact", "_law_most"]) fun _ _ _ _ _ _ us hl => match us, hl with | [_, _, _, _], _ => rfl
  have D33 : Df K mg "_law_row_at" ["_law_well_here", "_law_point_here", "_law_exact", "_law_most"] f33 _ := ⟨PySem.W.mg_of X G a33, k33, B33⟩
  have F34 := fun_mk (st := lKr) l34 c34 k34
  have B34 := F34.binds (ps := ["_law_well_here", "_law_point_here", "_law_many", "_law_most"]) fun _ _ _ _ _ _ us hl => match us, hl with | [_, _, _, _], _ => rfl
  have D34 : Df K mg "_law_kept_rows" ["_law_well_here", "_law_point_here", "_law_many", "_law_most"] f34 _ := ⟨PySem.W.mg_of X G a34, k34, B34⟩
  have F35 := fun_mk (st := lTo) l35 c35 k35
  have B35 := F35.binds (ps := ["_law_well_here", "_law_count", "_law_many", "_law_most"]) fun _ _ _ _ _ _ us hl => match us, hl with | [_, _, _, _], _ => rfl
  have D35 : Df K mg "_law_torn_rows" ["_law_well_here", "_law_count", "_law_many", "_law_most"] f35 _ := ⟨PySem.W.mg_of X G a35, k35, B35⟩
  have F36 := fun_mk (st := lBd) l36 c36 k36
  have B36 := F36.binds (ps := ["_law_well_here", "_law_count", "_law_rows"]) fun _ _ _ _ _ _ us hl => match us, hl with | [_, _, _], _ => rfl
  have D36 : Df K mg "_law_no_system" ["_law_well_here", "_law_count", "_law_rows"] f36 _ := ⟨PySem.W.mg_of X G a36, k36, B36⟩
  have F37 := fun_mk (st := lSw) l37 c37 k37
  have B37 := F37.binds (ps := ["_law_row", "_law_at", "_law_thing"]) fun _ _ _ _ _ _ us hl => match us, hl with | [_, _, _], _ => rfl
  have D37 : Df K mg "_law_swapped" ["_law_row", "_law_at", "_law_thing"] f37 _ := ⟨PySem.W.mg_of X G a37, k37, B37⟩
  have F38 := fun_mk (st := lSp) l38 c38 k38
  have B38 := F38.binds (ps := ["_law_well_here", "_law_point_here"]) fun _ _ _ _ _ _ us hl => match us, hl with | [_, _], _ => rfl
  have D38 : Df K mg "_law_spoilt_point" ["_law_well_here", "_law_point_here"] f38 _ := ⟨PySem.W.mg_of X G a38, k38, B38⟩
  have F39 := fun_mk (st := lSn) l39 c39 k39
  have B39 := F39.binds (ps := ["_law_well_here", "_law_numbers"]) fun _ _ _ _ _ _ us hl => match us, hl with | [_, _], _ => rfl
  have D39 : Df K mg "_law_spoilt_numbers" ["_law_well_here", "_law_numbers"] f39 _ := ⟨PySem.W.mg_of X G a39, k39, B39⟩
  have F40 := fun_mk (st := lWo) l40 c40 k40
  have B40 := F40.binds (ps := ["_law_pick", "_law_system", "_law_thing"]) fun _ _ _ _ _ _ us hl => match us, hl with | [_, _, _], _ => rfl
  have D40 : Df K mg "_law_word" ["_law_pick", "_law_system", "_law_thing"] f40 _ := ⟨PySem.W.mg_of X G a40, k40, B40⟩
  have F41 := fun_mk (st := lAk) l41 c41 k41
  have B41 := F41.binds (ps := ["_law_well_here", "_law_system", "_law_point_here", "_law_numbers"]) fun _ _ _ _ _ _ us hl => match us, hl with | [_, _, _, _], _ => rfl
  have D41 : Df K mg "_law_asked" ["_law_well_here", "_law_system", "_law_point_here", "_law_numbers"] f41 _ := ⟨PySem.W.mg_of X G a41, k41, B41⟩
  have F42 := fun_mk (st := lLaw) l42 c42 k42
  have g_isinstance := PySem.W.mg_none_of X G zisinstance
  have g_int := PySem.W.mg_none_of X G zint
  have g_bool := PySem.W.mg_none_of X G zbool
  have g_tuple := PySem.W.mg_none_of X G ztuple
  have g_str := PySem.W.mg_none_of X G zstr
  have g_len := PySem.W.mg_none_of X G zlen
  have g_all := PySem.W.mg_none_of X G zall
  have g_zip := PySem.W.mg_none_of X G zzip
  have g_range := PySem.W.mg_none_of X G zrange
  have g_list := PySem.W.mg_none_of X G zlist
  have g_abs := PySem.W.mg_none_of X G zabs
  have g_min := PySem.W.mg_none_of X G zmin
  have g_max := PySem.W.mg_none_of X G zmax
  have g_sorted := PySem.W.mg_none_of X G zsorted
  have g_ValueError := PySem.W.mg_none_of X G zValueError
  have ggcd := PySem.W.mg_of X G zgcd
  have vMOST_UNKNOWNS := PySem.W.mg_of X G mMOST_UNKNOWNS
  have vMOST_ROWS := PySem.W.mg_of X G mMOST_ROWS
  have N : Gn K mg := ⟨g_isinstance, g_int, g_bool, g_tuple, g_str, g_len, g_all⟩
  have M : Gd mg := ⟨g_len, g_abs, g_int, g_list, g_range, g_str, g_min, g_max, g_tuple⟩
  have B : Exn K mg "BadSystem" CB := ⟨xB, PySem.W.mg_of X G eB, kCB, j3, j9⟩
  have S : IsB K mg CB CL CS := ⟨⟨j1, j2, j3, j4, j5, j6, j7, j8⟩, o1, o2, o3, PySem.W.mg_of X G eB, PySem.W.mg_of X G eS, PySem.W.mg_of X G eL, g_ValueError, PySem.W.exm_ref j3 j4 j9 s4⟩
  have KB12 : KBn K (PySem.W.fnOf "keeps" "keeps" (defArgs sKe) (defBody sKe) (defScope sKe) .none kV12 dc12 pm12 an12 cd12 ct12) ["system", "thing"] 0 ["thing", "system"] (fun _ zs => zs.reverse) (fun _ zs => zs.reverse) := ⟨fun s us ws _ h1 h2 => match us, ws, h1, h2 with | [], [_, _], _, _ => .of_eq rfl, fun _ r => vals_rev r⟩
  have KB13 : KBn K (PySem.W.fnOf "refutes" "refutes" (defArgs sRe) (defBody sRe) (defScope sRe) .none kV13 dc13 pm13 an13 cd13 ct13) ["system", "thing"] 0 ["thing", "system"] (fun _ zs => zs.reverse) (fun _ zs => zs.reverse) := ⟨fun s us ws _ h1 h2 => match us, ws, h1, h2 with | [], [_, _], _, _ => .of_eq rfl, fun _ r => vals_rev r⟩
  refine ⟨PySem.W.fnOf "law" "law" (defArgs lLaw) (defBody lLaw) (defScope lLaw) .none kV42 dc42 pm42 an42 cd42 ct42, fun s v => .of_eq rfl, fun base _ _ => ?_⟩
  have G0_0 := ok_int (P := l.prog) (w := w) (base := base) (mg := mg) (K := K) F0 N
  have G1_1 := ok_bet (P := l.prog) (w := w) (base := base) (mg := mg) (K := K) F1 G0_0 D0
  have G2_2 := ok_tup (P := l.prog) (w := w) (base := base) (mg := mg) (K := K) F2 N
  have G3_3 := ok_rat (P := l.prog) (w := w) (base := base) (mg := mg) (K := K) F3 ggcd G2_2 D2 G0_0 D0
  have G6_4 := ok_line (P := l.prog) (w := w) (base := base) (mg := mg) (K := K) F6 G2_2 D2 G0_0 D0 G1_1 D1
  have G5_5 := ok_row (P := l.prog) (w := w) (base := base) (mg := mg) (K := K) F5 N G2_2 D2 G6_4 D6
  have G4_6 := ok_sys (P := l.prog) (w := w) (base := base) (mg := mg) (K := K) F4 N vMOST_UNKNOWNS vMOST_ROWS G2_2 D2 G1_1 D1 G5_5 D5
  have G7_7 := ok_point (P := l.prog) (w := w) (base := base) (mg := mg) (K := K) F7 N G2_2 D2 G3_3 D3
  have G8_8 := ok_mults (P := l.prog) (w := w) (base := base) (mg := mg) (K := K) F8 N g_zip G2_2 D2 G0_0 D0
  have G9_9 := ok_value (P := l.prog) (w := w) (base := base) (mg := mg) (K := K) F9 ggcd
  have G10_10 := ok_kept (P := l.prog) (w := w) (base := base) (mg := mg) (K := K) F10 G9_9 D9
  have G11_11 := ok_summed (P := l.prog) (w := w) (base := base) (mg := mg) (K := K) F11 g_zip
  have G17_12 := ok_need (P := l.prog) (w := w) (base := base) (mg := mg) (K := K) F17 B G4_6 D4
  have G12_13 := ok_keeps (P := l.prog) (w := w) (base := base) (mg := mg) (K := K) F12 G17_12 D17 G7_7 D7 G10_10 D10
  have G13_14 := ok_refutes (P := l.prog) (w := w) (base := base) (mg := mg) (K := K) F13 G17_12 D17 G8_8 D8 G11_11 D11
  have G15_15 := ok_solve (P := l.prog) (w := w) (base := base) (mg := mg) (K := K) F15 G17_12 D17
  have G16_16 := ok_least (P := l.prog) (w := w) (base := base) (mg := mg) (K := K) F16 G17_12 D17
  have G14_17 := ok_isleast (P := l.prog) (w := w) (base := base) (mg := mg) (K := K) F14 G17_12 D17
  have G18_18 := ok_draw (P := l.prog) (w := w) (base := base) (mg := mg) (K := K) F18 M
  have G29_19 := ok_well (P := l.prog) (w := w) (base := base) (mg := mg) (K := K) F29 M
  have G19_20 := ok_shared (P := l.prog) (w := w) (base := base) (mg := mg) (K := K) F19 M
  have G20_21 := ok_lint (P := l.prog) (w := w) (base := base) (mg := mg) (K := K) F20 N
  have G21_22 := ok_gcd (P := l.prog) (w := w) (base := base) (mg := mg) (K := K) F21 M
  have G22_23 := ok_lratio (P := l.prog) (w := w) (base := base) (mg := mg) (K := K) F22 N G20_21 D20 G21_22 D21
  have G25_24 := ok_truth (P := l.prog) (w := w) (base := base) (mg := mg) (K := K) F25 N
  have G23_25 := ok_lvalue (P := l.prog) (w := w) (base := base) (mg := mg) (K := K) F23
  have G24_26 := ok_lkeeps (P := l.prog) (w := w) (base := base) (mg := mg) (K := K) F24 N G22_23 D22 G23_25 D23
  have G26_27 := ok_lmults (P := l.prog) (w := w) (base := base) (mg := mg) (K := K) F26 N M G20_21 D20
  have G27_28 := ok_lsum (P := l.prog) (w := w) (base := base) (mg := mg) (K := K) F27 M g_sorted
  have G28_29 := ok_lref (P := l.prog) (w := w) (base := base) (mg := mg) (K := K) F28 G26_27 D26 G27_28 D27
  have G30_30 := ok_lowest (P := l.prog) (w := w) (base := base) (mg := mg) (K := K) F30 G21_22 D21
  have G31_31 := ok_point2 (P := l.prog) (w := w) (base := base) (mg := mg) (K := K) F31 M G18_18 D18 G30_30 D30
  have G32_32 := ok_terms (P := l.prog) (w := w) (base := base) (mg := mg) (K := K) F32 M G18_18 D18
  have G33_33 := ok_rowat (P := l.prog) (w := w) (base := base) (mg := mg) (K := K) F33 M G18_18 D18 G32_32 D32
  have G34_34 := ok_kept2 (P := l.prog) (w := w) (base := base) (mg := mg) (K := K) F34 M G18_18 D18 G33_33 D33
  have G35_35 := ok_torn (P := l.prog) (w := w) (base := base) (mg := mg) (K := K) F35 M G18_18 D18 G32_32 D32 G27_28 D27
  have G36_36 := ok_bad (P := l.prog) (w := w) (base := base) (mg := mg) (K := K) F36 M G18_18 D18
  have G37_37 := ok_swap (P := l.prog) (w := w) (base := base) (mg := mg) (K := K) F37
  have G38_38 := ok_spoilt (P := l.prog) (w := w) (base := base) (mg := mg) (K := K) F38 M G18_18 D18 G37_37 D37
  have G39_39 := ok_spnum (P := l.prog) (w := w) (base := base) (mg := mg) (K := K) F39 M G18_18 D18 G37_37 D37
  have G40_40 := ok_word (P := l.prog) (w := w) (base := base) (mg := mg) (K := K) F40 N S G12_13 D12 G13_14 D13 G15_15 D15 G16_16 D16 G14_17 D14
  have G41_41 := ok_asked (P := l.prog) (w := w) (base := base) (mg := mg) (K := K) F41 G12_13 D12 KB12 G13_14 D13 KB13 G24_26 D24 G28_29 D28 G25_24 D25 G38_38 D38 G39_39 D39 G19_20 D19
  exact ok_law (P := l.prog) (w := w) (base := base) (mg := mg) (K := K) F42 M G29_19 D29 G18_18 D18 G31_31 D31 G34_34 D34 G35_35 D35 G24_26 D24 G28_29 D28 G25_24 D25 G41_41 D41 G36_36 D36 G40_40 D40 G12_13 D12
theorem walk {l : PySem.W.OpenLaw} {q : Program} {loose : List Str} {XP : (Str → Option Value) → Heap → Prop} {YP : World → Heap → Prop} {d : DefRec} {K : Params → PySem.W.Frag} (hn : l.most = some 63) (hdf : d.params.defaults = [])
    (hY : ∀ (w : World) (h : Heap), YP w h → (K w.params).In h)
    (F : ∀ (w : World) (mg : Str → Option Value) (fa : Addr) (h : Heap), (K w.params).In h → h.Ns mainGlobals mg → mg d.name = some (.ref fa) →
      ∃ fd : FuncData, (∀ (s : Shared) (u : Value), BindsTo s fd ⟨[u], []⟩ [("_law_script", u)]) ∧ ∀ base : Heap, (K w.params).In base → base.Ns mainGlobals mg → FnOk l.prog w (K w.params) mg base CX0 9 fa fd ["_law_script"] (spLaw (K w.params))) :
    PySem.W.WalkO q loose XP YP l.row.toRowW d [] (fun f vs => PySem.call f vs) :=
  L2.walk_of (n := 63) (k := 9) (x := "_law_script") (CX := fun _ => CX0) (sp := fun w => spLaw (K w.params)) hn (by decide) hdf ⟨rfl, by decide, by decide⟩ hY F (fun _ _ a ns hl _ hS => ⟨a, ns, rfl, hS, fun _ => rfl⟩) fun _ _ _ _ _ z => z
end J1
set_option Elab.async false
set_option linter.all false
open PySem PySem.W PyProof.Rows
set_option maxRecDepth 100000 in
set_option maxHeartbeats 0 in
theorem PySem.Challenge.cw_juststeps_k67_points_and_papers_holds : PySem.Challenge.rw_juststeps_k67_points_and_papers.Holds := by
  w_on; o_law; k_head; (case hw => w_witness2)
  k_fill
  refine J1.walk (l := PySem.Challenge.rw_juststeps_k67_points_and_papers) rfl rfl (fun w h Y => PySem.W.kIn_of Y) ?F
  case F =>
    intro w mg fa h KX G hmg
    refine' J1.all_mk KX G hmg ?a0 ?l0 ?c0 ?k0 ?a1 ?l1 ?c1 ?k1 ?a2 ?l2 ?c2 ?k2 ?a3 ?l3 ?c3 ?k3 ?a4 ?l4 ?c4 ?k4 ?a5 ?l5 ?c5 ?k5 ?a6 ?l6 ?c6 ?k6 ?a7 ?l7 ?c7 ?k7 ?a8 ?l8 ?c8 ?k8 ?a9 ?l9 ?c9 ?k9 ?a10 ?l10 ?c10 ?k10 ?a11 ?l11 ?c11 ?k11 ?a12 ?l12 ?c12 ?k12 ?a13 ?l13 ?c13 ?k13 ?a14 ?l14 ?c14 ?k14 ?a15 ?l15 ?c15 ?k15 ?a16 ?l16 ?c16 ?k16 ?a17 ?l17 ?c17 ?k17 ?a18 ?l18 ?c18 ?k18 ?a19 ?l19 ?c19 ?k19 ?a20 ?l20 ?c20 ?k20 ?a21 ?l21 ?c21 ?k21 ?a22 ?l22 ?c22 ?k22 ?a23 ?l23 ?c23 ?k23 ?a24 ?l24 ?c24 ?k24 ?a25 ?l25 ?c25 ?k25 ?a26 ?l26 ?c26 ?k26 ?a27 ?l27 ?c27 ?k27 ?a28 ?l28 ?c28 ?k28 ?a29 ?l29 ?c29 ?k29 ?a30 ?l30 ?c30 ?k30 ?a31 ?l31 ?c31 ?k31 ?a32 ?l32 ?c32 ?k32 ?a33 ?l33 ?c33 ?k33 ?a34 ?l34 ?c34 ?k34 ?a35 ?l35 ?c35 ?k35 ?a36 ?l36 ?c36 ?k36 ?a37 ?l37 ?c37 ?k37 ?a38 ?l38 ?c38 ?k38 ?a39 ?l39 ?c39 ?k39 ?a40 ?l40 ?c40 ?k40 ?a41 ?l41 ?c41 ?k41 ?a42 ?l42 ?c42 ?k42 ?zisinstance ?zint ?zbool ?ztuple ?zstr ?zlen ?zall ?zzip ?zrange ?zlist ?zabs ?zmin ?zmax ?zsorted ?zValueError ?mMOST_UNKNOWNS ?mMOST_ROWS ?zgcd ?eB ?eL ?eS ?kCB ?j1 ?j2 ?j3 ?j4 ?j5 ?j6 ?j7 ?j8 ?j9 ?xB ?o1 ?o2 ?o3 ?s4
    (case a0 => k_is)
    (case l0 => k_is)
    (case c0 => k_is)
    (case k0 => k_is)
    (case a1 => k_is)
    (case l1 => k_is)
    (case c1 => k_is)
    (case k1 => k_is)
    (case a2 => k_is)
    (case l2 => k_is)
    (case c2 => k_is)
    (case k2 => k_is)
    (case a3 => k_is)
    (case l3 => k_is)
    (case c3 => k_is)
    (case k3 => k_is)
    (case a4 => k_is)
    (case l4 => k_is)
    (case c4 => k_is)
    (case k4 => k_is)
    (case a5 => k_is)
    (case l5 => k_is)
    (case c5 => k_is)
    (case k5 => k_is)
    (case a6 => k_is)
    (case l6 => k_is)
    (case c6 => k_is)
    (case k6 => k_is)
    (case a7 => k_is)
    (case l7 => k_is)
    (case c7 => k_is)
    (case k7 => k_is)
    (case a8 => k_is)
    (case l8 => k_is)
    (case c8 => k_is)
    (case k8 => k_is)
    (case a9 => k_is)
    (case l9 => k_is)
    (case c9 => k_is)
    (case k9 => k_is)
    (case a10 => k_is)
    (case l10 => k_is)
    (case c10 => k_is)
    (case k10 => k_is)
    (case a11 => k_is)
    (case l11 => k_is)
    (case c11 => k_is)
    (case k11 => k_is)
    (case a12 => k_is)
    (case l12 => k_is)
    (case c12 => k_is)
    (case k12 => k_is)
    (case a13 => k_is)
    (case l13 => k_is)
    (case c13 => k_is)
    (case k13 => k_is)
    (case a14 => k_is)
    (case l14 => k_is)
    (case c14 => k_is)
    (case k14 => k_is)
    (case a15 => k_is)
    (case l15 => k_is)
    (case c15 => k_is)
    (case k15 => k_is)
    (case a16 => k_is)
    (case l16 => k_is)
    (case c16 => k_is)
    (case k16 => k_is)
    (case a17 => k_is)
    (case l17 => k_is)
    (case c17 => k_is)
    (case k17 => k_is)
    (case a18 => k_is)
    (case l18 => k_is)
    (case c18 => k_is)
    (case k18 => k_is)
    (case a19 => k_is)
    (case l19 => k_is)
    (case c19 => k_is)
    (case k19 => k_is)
    (case a20 => k_is)
    (case l20 => k_is)
    (case c20 => k_is)
    (case k20 => k_is)
    (case a21 => k_is)
    (case l21 => k_is)
    (case c21 => k_is)
    (case k21 => k_is)
    (case a22 => k_is)
    (case l22 => k_is)
    (case c22 => k_is)
    (case k22 => k_is)
    (case a23 => k_is)
    (case l23 => k_is)
    (case c23 => k_is)
    (case k23 => k_is)
    (case a24 => k_is)
    (case l24 => k_is)
    (case c24 => k_is)
    (case k24 => k_is)
    (case a25 => k_is)
    (case l25 => k_is)
    (case c25 => k_is)
    (case k25 => k_is)
    (case a26 => k_is)
    (case l26 => k_is)
    (case c26 => k_is)
    (case k26 => k_is)
    (case a27 => k_is)
    (case l27 => k_is)
    (case c27 => k_is)
    (case k27 => k_is)
    (case a28 => k_is)
    (case l28 => k_is)
    (case c28 => k_is)
    (case k28 => k_is)
    (case a29 => k_is)
    (case l29 => k_is)
    (case c29 => k_is)
    (case k29 => k_is)
    (case a30 => k_is)
    (case l30 => k_is)
    (case c30 => k_is)
    (case k30 => k_is)
    (case a31 => k_is)
    (case l31 => k_is)
    (case c31 => k_is)
    (case k31 => k_is)
    (case a32 => k_is)
    (case l32 => k_is)
    (case c32 => k_is)
    (case k32 => k_is)
    (case a33 => k_is)
    (case l33 => k_is)
    (case c33 => k_is)
    (case k33 => k_is)
    (case a34 => k_is)
    (case l34 => k_is)
    (case c34 => k_is)
    (case k34 => k_is)
    (case a35 => k_is)
    (case l35 => k_is)
    (case c35 => k_is)
    (case k35 => k_is)
    (case a36 => k_is)
    (case l36 => k_is)
    (case c36 => k_is)
    (case k36 => k_is)
    (case a37 => k_is)
    (case l37 => k_is)
    (case c37 => k_is)
    (case k37 => k_is)
    (case a38 => k_is)
    (case l38 => k_is)
    (case c38 => k_is)
    (case k38 => k_is)
    (case a39 => k_is)
    (case l39 => k_is)
    (case c39 => k_is)
    (case k39 => k_is)
    (case a40 => k_is)
    (case l40 => k_is)
    (case c40 => k_is)
    (case k40 => k_is)
    (case a41 => k_is)
    (case l41 => k_is)
    (case c41 => k_is)
    (case k41 => k_is)
    (case a42 => k_is)
    (case l42 => k_is)
    (case c42 => k_is)
    (case k42 => k_is)
    (case zisinstance => k_is)
    (case zint => k_is)
    (case zbool => k_is)
    (case ztuple => k_is)
    (case zstr => k_is)
    (case zlen => k_is)
    (case zall => k_is)
    (case zzip => k_is)
    (case zrange => k_is)
    (case zlist => k_is)
    (case zabs => k_is)
    (case zmin => k_is)
    (case zmax => k_is)
    (case zsorted => k_is)
    (case zValueError => k_is)
    (case mMOST_UNKNOWNS => k_is)
    (case mMOST_ROWS => k_is)
    (case zgcd => k_is)
    (case eB => k_is)
    (case eL => k_is)
    (case eS => k_is)
    (case kCB => k_is)
    (case j1 => k_is)
    (case j2 => k_is)
    (case j3 => k_is)
    (case j4 => k_is)
    (case j5 => k_is)
    (case j6 => k_is)
    (case j7 => k_is)
    (case j8 => k_is)
    (case j9 => k_is)
    (case xB => k_exc)
    (case o1 => kernel_rfl)
    (case o2 => kernel_rfl)
    (case o3 => kernel_rfl)
    (case s4 => k_is)
