import PyProof.Rows.All
import Wide.All
import OpenK.AllK
import Wide.FinOn
import Lean
import PyProof.EqAt
import PyProof.EqKinds
import PyProof.TupleCall
import PySem.Challenge.RW_bendproof_k67_alike_refused
set_option Elab.async false
set_option linter.all false
set_option maxRecDepth 100000
set_option maxHeartbeats 4000000
namespace L2
open PySem
/-- the j-th statement of a class's body -/
def inClass (s : Stmt) (j : Nat) : Stmt := match s with
  | .ClassDef _ _ _ body _ _ _ _ _ _ _ => body.getD j (.Pass ⟨0, 0, 0, 0⟩)
  | _ => .Pass ⟨0, 0, 0, 0⟩
def defArgs (s : Stmt) : Arguments := match s with
  | .FunctionDef _ a _ _ _ _ _ _ _ _ => a
  | _ => { posonlyargs := [], args := [], vararg := none, kwonlyargs := [], kw_defaults := [], kwarg := none, defaults := [] }
def defBody (s : Stmt) : List Stmt := match s with
  | .FunctionDef _ _ b _ _ _ _ _ _ _ => b
  | _ => []
def defScope (s : Stmt) : Scope := match s with
  | .FunctionDef _ _ _ _ _ _ sc _ _ _ => sc
  | _ => { kind := .function, names := [], isGenerator := false, isCoroutine := false }

end L2
namespace BP
open PySem L2
def top (i : Nat) : Stmt := PySem.Challenge.pw_bendproof_k67_alike_refused.main.body.getD i (.Pass ⟨0, 0, 0, 0⟩)
abbrev s_law_cell_at : Stmt := top 111
abbrev s_law_mixed : Stmt := top 112
abbrev s_law_wide : Stmt := top 113
abbrev s_law_seeds : Stmt := top 114
abbrev s_law_part : Stmt := top 115
abbrev s_law_taken : Stmt := top 117
abbrev s_law_small : Stmt := top 118
abbrev s_law_unit : Stmt := top 119
abbrev s_law_net : Stmt := top 120
abbrev s_less : Stmt := top 22
abbrev s_plain : Stmt := top 17
abbrev s_common : Stmt := top 14
abbrev s_is_whole : Stmt := top 13
abbrev s_is_ratio : Stmt := top 16
abbrev s_checked_side : Stmt := top 107
abbrev s_Box_init : Stmt := inClass (top 109) 0
abbrev s_checked_place : Stmt := top 56
abbrev s_checked_term : Stmt := top 57
abbrev s_checked_sum : Stmt := top 58
abbrev s_checked_unit : Stmt := top 59
abbrev s_checked_units : Stmt := top 60
abbrev s_checked_outs : Stmt := top 61
abbrev s_Net_init : Stmt := inClass (top 65) 0
abbrev s_law_more : Stmt := top 122
abbrev s_law_sum : Stmt := top 116
abbrev s_law_sides : Stmt := top 121
abbrev s_told_unit : Stmt := top 62
abbrev s_Net_told : Stmt := inClass (top 65) 1
abbrev s_moved_place : Stmt := top 100
abbrev s_moved_unit : Stmt := top 101
abbrev s_joined : Stmt := top 102
abbrev s_alike : Stmt := top 104
abbrev s_law_kinds : Stmt := top 123
abbrev s_law : Stmt := top 124
def view : Program := { PySem.Challenge.pw_bendproof_k67_alike_refused with main := { PySem.Challenge.pw_bendproof_k67_alike_refused.main with body := [top 124] } }
def others : List Str := [Str.ofString "_wall", Str.ofString "BendError", Str.ofString "NoRatio", Str.ofString "NoText", Str.ofString "NoBox", Str.ofString "NoNet", Str.ofString "Unlike", Str.ofString "NoLine", Str.ofString "NOUGHT", Str.ofString "ONE", Str.ofString "MINUS_ONE", Str.ofString "is_whole", Str.ofString "common", Str.ofString "ratio", Str.ofString "is_ratio", Str.ofString "plain", Str.ofString "plus", Str.ofString "minus", Str.ofString "times", Str.ofString "over", Str.ofString "less", Str.ofString "bent", Str.ofString "over_one_bottom", Str.ofString "even_form", Str.ofString "lone_form", Str.ofString "scaled", Str.ofString "added_times", Str.ofString "turned", Str.ofString "sum_span", Str.ofString "bend_span", Str.ofString "spans", Str.ofString "bent_places", Str.ofString "variables_in", Str.ofString "variable_count", Str.ofString "terms_form", Str.ofString "bend_form", Str.ofString "forms_in", Str.ofString "form_of", Str.ofString "not_above", Str.ofString "not_below", Str.ofString "cap_row", Str.ofString "bend_rows", Str.ofString "side_rows", Str.ofString "first_row", Str.ofString "rows_by", Str.ofString "rows_in", Str.ofString "MOST_INS", Str.ofString "MOST_UNITS", Str.ofString "MOST_BENDS", Str.ofString "MOST_OUTS", Str.ofString "checked_place", Str.ofString "checked_term", Str.ofString "checked_sum", Str.ofString "checked_unit", Str.ofString "checked_units", Str.ofString "checked_outs", Str.ofString "told_unit", Str.ofString "terms_value", Str.ofString "value_of", Str.ofString "Net", Str.ofString "ROUGH_BITS", Str.ofString "swept", Str.ofString "least_quotient", Str.ofString "Tableau", Str.ofString "fitness", Str.ofString "seat_variables", Str.ofString "set_guide", Str.ofString "best_step", Str.ofString "mending_steps", Str.ofString "go_on", Str.ofString "mend", Str.ofString "climbing_steps", Str.ofString "climb", Str.ofString "rough", Str.ofString "likely_heads", Str.ofString "pin", Str.ofString "let_go", Str.ofString "whole_line", Str.ofString "Quest", Str.ofString "begun", Str.ofString "all_open", Str.ofString "with_bend", Str.ofString "Search", Str.ofString "case_prices", Str.ofString "bends_amiss", Str.ofString "bend_to_split", Str.ofString "grown", Str.ofString "whole_tree", Str.ofString "judged", Str.ofString "moved_place", Str.ofString "moved_unit", Str.ofString "joined", Str.ofString "not_beyond", Str.ofString "alike", Str.ofString "MOST_SIDES", Str.ofString "checked_side", Str.ofString "form_ends", Str.ofString "Box", Str.ofString "_law_cell_at", Str.ofString "_law_mixed", Str.ofString "_law_wide", Str.ofString "_law_seeds", Str.ofString "_law_part", Str.ofString "_law_sum", Str.ofString "_law_taken", Str.ofString "_law_small", Str.ofString "_law_unit", Str.ofString "_law_net", Str.ofString "_law_sides", Str.ofString "_law_more", Str.ofString "_law_kinds"]
theorem map_pair {α β γ : Type} {o : Option α} {f : α → β} {g : α → γ} {x : β} {y : γ} (h1 : o.map f = some x) (h2 : o.map g = some y) : o.map (fun s => (f s, g s)) = some (x, y) := by
  cases o with
  | none => cases h1
  | some s =>
    have a := Option.some.inj h1
    have b := Option.some.inj h2
    rw [← a, ← b]
    rfl
open PySem.W in
def Seen (r : OpenRow) (q : Program) (ls : List Str) (N : Nat) : Prop := ∀ w, (openEnds treeTable r.prog w N).map (fun s => openSeen q ls (importedModules r.prog.main.body) (fun s => xlAt q [] s && recOk r.toRowW.records s) true s) = some (openGood q ls)
open PySem.W in
theorem left_two {r : OpenRow} {q : Program} {ls : List Str} {N : Nat} {α : Type} {Yf : Shared → α} {Ya : World → α} (A : Seen r q ls N) (B : ∀ w, (openEnds treeTable r.prog w N).map Yf = some (Ya w)) :
    LeftO r.prog q ls (fun s => xlAt q [] s && recOk r.toRowW.records s) Yf Ya N := fun w => map_pair (A w) (B w)
open PySem.W in
theorem head {r : OpenRow} {q : Program} {ls : List Str} {d : DefRec} {kwd : List (Str × Expr)} (H : Hook) (N : Nat)
    (A : Seen r q ls N) (B : ∀ w, (openEnds treeTable r.prog w N).map H.obs = some (H.val w))
    (df : defOf q r.name = some (d, kwd)) (pd : r.prog.theDef r.name = some (d.params, d.body, d.scope))
    (kw : kwWritten? d.params.kwonlyargs d.params.kw_defaults = some kwd) (wr : (!r.writes || r.records.isEmpty) = true) (sd : r.wellSaid = true)
    (ok : (chainsOk q && opensWell r.prog && (frees r.toRowW && r.within.isEmpty)) = true) (br : r.prog.bare) (pr : r.toRowW.promised)
    (cl : WalkO q ls (XL q []) H.says r.toRowW d kwd fun f vs => PySem.call f vs) : r.Holds :=
  have both : ∀ s : Shared, (xlAt q [] s && recOk r.toRowW.records s) = true → xlAt q [] s = true ∧ recOk r.toRowW.records s = true := fun s e => by simpa using e
  holds_open (left_two A B) H.of H.keeps (fun s e => xl_of s (both s e).1) XL.keeps df pd kw (fun s e => recFacts_of (both s e).2) wr sd ok br pr cl
/-! the top, run over a tree of objects -/
open PySem.W in
noncomputable def topG (st : SharedT → Thread → Option (SharedT × Thread)) (ok : Thread → Bool) (N : Nat) : SharedT → Thread → Option SharedT :=
  Nat.rec (fun _ _ => none) (fun _ go s t => cond (through t) (some s) (cond (ok t) ((st s t).bind fun x => go x.1 x.2) none)) N
open PySem.W in
theorem topG_of {tb : String → Option Builtin} {p : Program} {w : World} {m : Nat} {ann : Option Value} (n : Nat) : ∀ (s z : SharedT) (t : Thread),
    topG (stepT (denote tb) p w) (stepOk m ann) n s t = some z → topRun tb p w m ann n s.abs t = some z.abs := by
  induction n with
  | zero => intro s z t h; cases h
  | succ n ih =>
    intro s z t h
    replace h : cond (through t) (some s) (cond (stepOk m ann t) ((stepT (denote tb) p w s t).bind fun x => topG (stepT (denote tb) p w) (stepOk m ann) n x.1 x.2) none) = some z := h
    unfold topRun
    revert h
    cases through t
    · cases stepOk m ann t
      · exact fun h => nomatch h
      · cases e : stepT (denote tb) p w s t
        · exact fun h => nomatch h
        · intro h
          rw [stepT_spec e]
          exact ih _ _ _ h
    · intro h
      rw [Option.some.inj h]
open PySem.W in
noncomputable def startT (P : Params) (os : OsState) : SharedT :=
  ⟨List.rec (motive := fun _ => BT → Nat → BT) (fun T _ => T) (fun o _ go T n => go (T.ins n o) (n + 1)) (boot_heap P).objs.toList .nil 0, 11, (boot_heap P).life, #[], boot_drawn, boot_toks, os⟩
open PySem.W in
theorem start_abs (P : Params) (os : OsState) : (startT P os).abs = ⟨boot_heap P, #[], boot_drawn, boot_toks, os⟩ := by kernel_rfl
open PySem.W in
noncomputable abbrev runT (p : Program) (N : Nat) (w : World) (os : OsState) : Option SharedT :=
  topG (stepT (denote treeTable) p w) (stepOk 11 ((boot_heap w.params).nsMap mainGlobals "__annotations__")) N (startT w.params os) (topStub p)
open PySem.W in
noncomputable def Calm (p : Program) (w : World) (s : Shared) : Bool := staticsOk (importedModules p.main.body) (boot_heap w.params) s.heap && namesBound p s.heap && gensDone s && laidKept (boot_heap w.params) s.heap
open PySem.W in
/-- the program opens plainly, and its top ends calmly -/
def Ends (p : Program) (N : Nat) : Prop := ∀ w : World, ∃ os s, runT p N w os = some s ∧ openEnds treeTable p w N = some s.abs
open PySem.W in
theorem ends_of {p : Program} {N : Nat} (e : opening p = plainProg p.main.scope.names) (hN : Nat.ble 600 N = true) (f : ∀ s, fenceModules? p s = some s)
    (A : ∀ w os, (runT p N w os).map (fun s => Calm p w s.abs) = some true) : Ends p N := by
  intro w
  obtain ⟨⟨h, gs, d, k, os⟩, e1, e2⟩ := Option.map_eq_some_iff.mp (boot_open e hN f w)
  obtain ⟨s, e3, e4⟩ := Option.map_eq_some_iff.mp (A w os)
  refine ⟨os, s, e3, ?_⟩
  obtain ⟨rfl, rfl, rfl, rfl⟩ : h = boot_heap w.params ∧ gs = Array.mk [] ∧ d = boot_drawn ∧ k = boot_toks := by simpa using e2
  have r := topG_of N _ _ _ e3
  rw [start_abs] at r
  unfold openEnds
  rw [e1]
  show topFrom treeTable p w N _ = _
  unfold topFrom
  rw [show ((boot_heap w.params).isNs mainGlobals && (Array.mk [] : Array GenState).size == 0) = true by kernel_rfl, show (boot_heap w.params).objs.size = 11 by rfl]
  dsimp only
  rw [r]
  show (match Calm p w s.abs with | true => some s.abs | false => none) = _
  rw [e4]
open PySem.W in
theorem look_of {p : Program} {N : Nat} {α : Type} {f : Shared → α} {v : World → α} (E : Ends p N) (A : ∀ w os, (runT p N w os).map (fun s => f s.abs) = some (v w)) (w : World) : (openEnds treeTable p w N).map f = some (v w) := by
  obtain ⟨os, s, e1, e2⟩ := E w
  rw [e2, ← A w os, e1]
  rfl
open PySem.W in
def getT (s : SharedT) (a : Addr) : Option Obj := cond (Nat.blt a s.n) (alive ((s.tree.get a).getD default)) none
open PySem.W in
theorem getT_eq (s : SharedT) : s.abs.heap.get? = getT s := by
  funext a
  unfold getT Heap.get?
  rw [show s.abs.heap.objs[a]? = _ from absHeap_at s.tree s.n s.life a]
  by_cases h : a < s.n
  · rw [if_pos h, show Nat.blt a s.n = true from Nat.ble_eq_true_of_le h]
    show (match some ((s.tree.get a).getD default) with | some ⟨_, _, .freed, _⟩ => none | o => o) = alive ((s.tree.get a).getD default)
    generalize (s.tree.get a).getD default = o
    obtain ⟨c, d, dt, sl⟩ := o
    cases dt <;> rfl
  · rw [if_neg h]
    cases q : Nat.blt a s.n
    · rfl
    · exact absurd (Nat.le_of_ble_eq_true q) h
open PySem.W in
theorem look_km {p : Program} {N : Nat} {K : Params → Frag} {as : List Addr} {e : ∀ P, as = (K P).map (·.1)} {ts : List Addr} (E : Ends p N) (A : ∀ w os, (runT p N w os).map (fun s => (as.map (getT s), ts.map (getT s))) = some ((K w.params).map fun p => some p.2, ts.map fun _ => some (tabObj #[]))) (w : World) : (openEnds treeTable p w N).map (kmHook K as e ts).obs = some ((kmHook K as e ts).val w) := by
  refine look_of E (fun w os => ?_) w
  refine Eq.trans ?_ (A w os)
  exact congrArg (fun f => Option.map f (runT p N w os)) (funext fun s => by show (as.map s.abs.heap.get?, ts.map s.abs.heap.get?) = _; rw [getT_eq])
set_option maxHeartbeats 0 in
theorem plainly : Ends (PySem.Challenge.rw_bendproof_k67_alike_refused).row.prog 8000 := by
  refine ends_of (by kernel_rfl) rfl (fun s => by kernel_rfl) ?_
  intro w os
  delta runT Calm
  rw [PySem.W.Fast.te14364793385576792824, PySem.W.Fast.te10156331382660048174, PySem.W.Fast.te11892475500146522536, PySem.W.Fast.te6613529449190102663, PySem.W.Fast.te8920871248978507458, PySem.W.Fast.te5923862056798008813]
  kernel_rfl
set_option maxHeartbeats 0 in
theorem seen : Seen (PySem.Challenge.rw_bendproof_k67_alike_refused).row view others 8000 := by
  refine look_of plainly ?_
  intro w os
  delta runT
  rw [PySem.W.Fast.te14364793385576792824, PySem.W.Fast.te10156331382660048174, PySem.W.Fast.te11892475500146522536, PySem.W.Fast.te6613529449190102663, PySem.W.Fast.te8920871248978507458, PySem.W.Fast.te5923862056798008813, PySem.W.Fast.te4187177175401517315]
  delta PySem.W.Fast.tw4187177175401517315 PySem.W.openGood
  dsimp only
  kernel_rfl
def Pins (K : PySem.W.Frag) : Prop := ∀ C : Prop, (∀ {CC_Box : Addr} {CC_Net : Addr} {f0 : Addr} {od0 an0 : Option Addr} {sl0 : Array (Option Value)} {oc0 kV0 dc0 pm0 cd0 ct0 : Value} {f1 : Addr} {od1 an1 : Option Addr} {sl1 : Array (Option Value)} {oc1 kV1 dc1 pm1 cd1 ct1 : Value} {f2 : Addr} {od2 an2 : Option Addr} {sl2 : Array (Option Value)} {oc2 kV2 dc2 pm2 cd2 ct2 : Value} {f3 : Addr} {od3 an3 : Option Addr} {sl3 : Array (Option Value)} {oc3 kV3 dc3 pm3 cd3 ct3 : Value} {f4 : Addr} {od4 an4 : Option Addr} {sl4 : Array (Option Value)} {oc4 kV4 dc4 pm4 cd4 ct4 : Value} {f5 : Addr} {od5 an5 : Option Addr} {sl5 : Array (Option Value)} {oc5 kV5 dc5 pm5 cd5 ct5 : Value} {f6 : Addr} {od6 an6 : Option Addr} {sl6 : Array (Option Value)} {oc6 kV6 dc6 pm6 cd6 ct6 : Value} {f7 : Addr} {od7 an7 : Option Addr} {sl7 : Array (Option Value)} {oc7 kV7 dc7 pm7 cd7 ct7 : Value} {f8 : Addr} {od8 an8 : Option Addr} {sl8 : Array (Option Value)} {oc8 kV8 dc8 pm8 cd8 ct8 : Value} {f9 : Addr} {od9 an9 : Option Addr} {sl9 : Array (Option Value)} {oc9 kV9 dc9 pm9 cd9 ct9 : Value} {f10 : Addr} {od10 an10 : Option Addr} {sl10 : Array (Option Value)} {oc10 kV10 dc10 pm10 cd10 ct10 : Value} {f11 : Addr} {od11 an11 : Option Addr} {sl11 : Array (Option Value)} {oc11 kV11 dc11 pm11 cd11 ct11 : Value} {f12 : Addr} {od12 an12 : Option Addr} {sl12 : Array (Option Value)} {oc12 kV12 dc12 pm12 cd12 ct12 : Value} {f13 : Addr} {od13 an13 : Option Addr} {sl13 : Array (Option Value)} {oc13 kV13 dc13 pm13 cd13 ct13 : Value} {f14 : Addr} {od14 an14 : Option Addr} {sl14 : Array (Option Value)} {oc14 kV14 dc14 pm14 cd14 ct14 : Value} {f15 : Addr} {od15 an15 : Option Addr} {sl15 : Array (Option Value)} {oc15 kV15 dc15 pm15 cd15 ct15 : Value} {f16 : Addr} {od16 an16 : Option Addr} {sl16 : Array (Option Value)} {oc16 kV16 dc16 pm16 cd16 ct16 : Value} {f17 : Addr} {od17 an17 : Option Addr} {sl17 : Array (Option Value)} {oc17 kV17 dc17 pm17 cd17 ct17 : Value} {f18 : Addr} {od18 an18 : Option Addr} {sl18 : Array (Option Value)} {oc18 kV18 dc18 pm18 cd18 ct18 : Value} {f19 : Addr} {od19 an19 : Option Addr} {sl19 : Array (Option Value)} {oc19 kV19 dc19 pm19 cd19 ct19 : Value} {f20 : Addr} {od20 an20 : Option Addr} {sl20 : Array (Option Value)} {oc20 kV20 dc20 pm20 cd20 ct20 : Value} {f21 : Addr} {od21 an21 : Option Addr} {sl21 : Array (Option Value)} {oc21 kV21 dc21 pm21 cd21 ct21 : Value} {f22 : Addr} {od22 an22 : Option Addr} {sl22 : Array (Option Value)} {oc22 kV22 dc22 pm22 cd22 ct22 : Value} {f23 : Addr} {od23 an23 : Option Addr} {sl23 : Array (Option Value)} {oc23 kV23 dc23 pm23 cd23 ct23 : Value} {f24 : Addr} {od24 an24 : Option Addr} {sl24 : Array (Option Value)} {oc24 kV24 dc24 pm24 cd24 ct24 : Value} {f25 : Addr} {od25 an25 : Option Addr} {sl25 : Array (Option Value)} {oc25 kV25 dc25 pm25 cd25 ct25 : Value} {f26 : Addr} {od26 an26 : Option Addr} {sl26 : Array (Option Value)} {oc26 kV26 dc26 pm26 cd26 ct26 : Value} {f27 : Addr} {od27 an27 : Option Addr} {sl27 : Array (Option Value)} {oc27 kV27 dc27 pm27 cd27 ct27 : Value} {f28 : Addr} {od28 an28 : Option Addr} {sl28 : Array (Option Value)} {oc28 kV28 dc28 pm28 cd28 ct28 : Value} {f29 : Addr} {od29 an29 : Option Addr} {sl29 : Array (Option Value)} {oc29 kV29 dc29 pm29 cd29 ct29 : Value} {f30 : Addr} {od30 an30 : Option Addr} {sl30 : Array (Option Value)} {oc30 kV30 dc30 pm30 cd30 ct30 : Value} {f31 : Addr} {od31 an31 : Option Addr} {sl31 : Array (Option Value)} {oc31 kV31 dc31 pm31 cd31 ct31 : Value} {f32 : Addr} {od32 an32 : Option Addr} {sl32 : Array (Option Value)} {oc32 kV32 dc32 pm32 cd32 ct32 : Value} {f33 : Addr} {od33 an33 : Option Addr} {sl33 : Array (Option Value)} {oc33 kV33 dc33 pm33 cd33 ct33 : Value} {C0 C1 C2 C3 C4 C5 C6 : Addr} {tk_MOST_SIDES : Tok} {tk_MOST_BENDS : Tok} {tk_MOST_UNITS : Tok} {tk_MOST_OUTS : Tok} {tk_MOST_INS : Tok}
    (a0 : PySem.W.nsIn K mainGlobals "_law_cell_at" = some (some (.ref f0))) (l0 : K.lookup f0 = some ⟨oc0, od0, .func (PySem.W.fnOf "_law_cell_at" "_law_cell_at" (defArgs s_law_cell_at) (defBody s_law_cell_at) (defScope s_law_cell_at) .none kV0 dc0 pm0 an0 cd0 ct0), sl0⟩) (c0 : PySem.W.codeIn K cd0 "_law_cell_at" = true) (k0 : PySem.W.keepIn K (.ref f0) = true)
    (a1 : PySem.W.nsIn K mainGlobals "_law_mixed" = some (some (.ref f1))) (l1 : K.lookup f1 = some ⟨oc1, od1, .func (PySem.W.fnOf "_law_mixed" "_law_mixed" (defArgs s_law_mixed) (defBody s_law_mixed) (defScope s_law_mixed) .none kV1 dc1 pm1 an1 cd1 ct1), sl1⟩) (c1 : PySem.W.codeIn K cd1 "_law_mixed" = true) (k1 : PySem.W.keepIn K (.ref f1) = true)
    (a2 : PySem.W.nsIn K mainGlobals "_law_wide" = some (some (.ref f2))) (l2 : K.lookup f2 = some ⟨oc2, od2, .func (PySem.W.fnOf "_law_wide" "_law_wide" (defArgs s_law_wide) (defBody s_law_wide) (defScope s_law_wide) .none kV2 dc2 pm2 an2 cd2 ct2), sl2⟩) (c2 : PySem.W.codeIn K cd2 "_law_wide" = true) (k2 : PySem.W.keepIn K (.ref f2) = true)
    (a3 : PySem.W.nsIn K mainGlobals "_law_seeds" = some (some (.ref f3))) (l3 : K.lookup f3 = some ⟨oc3, od3, .func (PySem.W.fnOf "_law_seeds" "_law_seeds" (defArgs s_law_seeds) (defBody s_law_seeds) (defScope s_law_seeds) .none kV3 dc3 pm3 an3 cd3 ct3), sl3⟩) (c3 : PySem.W.codeIn K cd3 "_law_seeds" = true) (k3 : PySem.W.keepIn K (.ref f3) = true)
    (a4 : PySem.W.nsIn K mainGlobals "_law_part" = some (some (.ref f4))) (l4 : K.lookup f4 = some ⟨oc4, od4, .func (PySem.W.fnOf "_law_part" "_law_part" (defArgs s_law_part) (defBody s_law_part) (defScope s_law_part) .none kV4 dc4 pm4 an4 cd4 ct4), sl4⟩) (c4 : PySem.W.codeIn K cd4 "_law_part" = true) (k4 : PySem.W.keepIn K (.ref f4) = true)
    (a5 : PySem.W.nsIn K mainGlobals "_law_taken" = some (some (.ref f5))) (l5 : K.lookup f5 = some ⟨oc5, od5, .func (PySem.W.fnOf "_law_taken" "_law_taken" (defArgs s_law_taken) (defBody s_law_taken) (defScope s_law_taken) .none kV5 dc5 pm5 an5 cd5 ct5), sl5⟩) (c5 : PySem.W.codeIn K cd5 "_law_taken" = true) (k5 : PySem.W.keepIn K (.ref f5) = true)
    (a6 : PySem.W.nsIn K mainGlobals "_law_small" = some (some (.ref f6))) (l6 : K.lookup f6 = some ⟨oc6, od6, .func (PySem.W.fnOf "_law_small" "_law_small" (defArgs s_law_small) (defBody s_law_small) (defScope s_law_small) .none kV6 dc6 pm6 an6 cd6 ct6), sl6⟩) (c6 : PySem.W.codeIn K cd6 "_law_small" = true) (k6 : PySem.W.keepIn K (.ref f6) = true)
    (a7 : PySem.W.nsIn K mainGlobals "_law_unit" = some (some (.ref f7))) (l7 : K.lookup f7 = some ⟨oc7, od7, .func (PySem.W.fnOf "_law_unit" "_law_unit" (defArgs s_law_unit) (defBody s_law_unit) (defScope s_law_unit) .none kV7 dc7 pm7 an7 cd7 ct7), sl7⟩) (c7 : PySem.W.codeIn K cd7 "_law_unit" = true) (k7 : PySem.W.keepIn K (.ref f7) = true)
    (a8 : PySem.W.nsIn K mainGlobals "_law_net" = some (some (.ref f8))) (l8 : K.lookup f8 = some ⟨oc8, od8, .func (PySem.W.fnOf "_law_net" "_law_net" (defArgs s_law_net) (defBody s_law_net) (defScope s_law_net) .none kV8 dc8 pm8 an8 cd8 ct8), sl8⟩) (c8 : PySem.W.codeIn K cd8 "_law_net" = true) (k8 : PySem.W.keepIn K (.ref f8) = true)
    (a9 : PySem.W.nsIn K mainGlobals "less" = some (some (.ref f9))) (l9 : K.lookup f9 = some ⟨oc9, od9, .func (PySem.W.fnOf "less" "less" (defArgs s_less) (defBody s_less) (defScope s_less) .none kV9 dc9 pm9 an9 cd9 ct9), sl9⟩) (c9 : PySem.W.codeIn K cd9 "less" = true) (k9 : PySem.W.keepIn K (.ref f9) = true)
    (a10 : PySem.W.nsIn K mainGlobals "plain" = some (some (.ref f10))) (l10 : K.lookup f10 = some ⟨oc10, od10, .func (PySem.W.fnOf "plain" "plain" (defArgs s_plain) (defBody s_plain) (defScope s_plain) .none kV10 dc10 pm10 an10 cd10 ct10), sl10⟩) (c10 : PySem.W.codeIn K cd10 "plain" = true) (k10 : PySem.W.keepIn K (.ref f10) = true)
    (a11 : PySem.W.nsIn K mainGlobals "common" = some (some (.ref f11))) (l11 : K.lookup f11 = some ⟨oc11, od11, .func (PySem.W.fnOf "common" "common" (defArgs s_common) (defBody s_common) (defScope s_common) .none kV11 dc11 pm11 an11 cd11 ct11), sl11⟩) (c11 : PySem.W.codeIn K cd11 "common" = true) (k11 : PySem.W.keepIn K (.ref f11) = true)
    (a12 : PySem.W.nsIn K mainGlobals "is_whole" = some (some (.ref f12))) (l12 : K.lookup f12 = some ⟨oc12, od12, .func (PySem.W.fnOf "is_whole" "is_whole" (defArgs s_is_whole) (defBody s_is_whole) (defScope s_is_whole) .none kV12 dc12 pm12 an12 cd12 ct12), sl12⟩) (c12 : PySem.W.codeIn K cd12 "is_whole" = true) (k12 : PySem.W.keepIn K (.ref f12) = true)
    (a13 : PySem.W.nsIn K mainGlobals "is_ratio" = some (some (.ref f13))) (l13 : K.lookup f13 = some ⟨oc13, od13, .func (PySem.W.fnOf "is_ratio" "is_ratio" (defArgs s_is_ratio) (defBody s_is_ratio) (defScope s_is_ratio) .none kV13 dc13 pm13 an13 cd13 ct13), sl13⟩) (c13 : PySem.W.codeIn K cd13 "is_ratio" = true) (k13 : PySem.W.keepIn K (.ref f13) = true)
    (a14 : PySem.W.nsIn K mainGlobals "checked_side" = some (some (.ref f14))) (l14 : K.lookup f14 = some ⟨oc14, od14, .func (PySem.W.fnOf "checked_side" "checked_side" (defArgs s_checked_side) (defBody s_checked_side) (defScope s_checked_side) .none kV14 dc14 pm14 an14 cd14 ct14), sl14⟩) (c14 : PySem.W.codeIn K cd14 "checked_side" = true) (k14 : PySem.W.keepIn K (.ref f14) = true)
    (a15 : PySem.W.findIn K (.ref CC_Box) "__init__" = some (some (.ref f15))) (i15 : PySem.W.isFn K (.ref f15) = true) (l15 : K.lookup f15 = some ⟨oc15, od15, .func (PySem.W.fnOf "__init__" "Box.__init__" (defArgs s_Box_init) (defBody s_Box_init) (defScope s_Box_init) .none kV15 dc15 pm15 an15 cd15 ct15), sl15⟩) (c15 : PySem.W.codeIn K cd15 "Box.__init__" = true) (k15 : PySem.W.keepIn K (.ref f15) = true)
    (a16 : PySem.W.nsIn K mainGlobals "checked_place" = some (some (.ref f16))) (l16 : K.lookup f16 = some ⟨oc16, od16, .func (PySem.W.fnOf "checked_place" "checked_place" (defArgs s_checked_place) (defBody s_checked_place) (defScope s_checked_place) .none kV16 dc16 pm16 an16 cd16 ct16), sl16⟩) (c16 : PySem.W.codeIn K cd16 "checked_place" = true) (k16 : PySem.W.keepIn K (.ref f16) = true)
    (a17 : PySem.W.nsIn K mainGlobals "checked_term" = some (some (.ref f17))) (l17 : K.lookup f17 = some ⟨oc17, od17, .func (PySem.W.fnOf "checked_term" "checked_term" (defArgs s_checked_term) (defBody s_checked_term) (defScope s_checked_term) .none kV17 dc17 pm17 an17 cd17 ct17), sl17⟩) (c17 : PySem.W.codeIn K cd17 "checked_term" = true) (k17 : PySem.W.keepIn K (.ref f17) = true)
    (a18 : PySem.W.nsIn K mainGlobals "checked_sum" = some (some (.ref f18))) (l18 : K.lookup f18 = some ⟨oc18, od18, .func (PySem.W.fnOf "checked_sum" "checked_sum" (defArgs s_checked_sum) (defBody s_checked_sum) (defScope s_checked_sum) .none kV18 dc18 pm18 an18 cd18 ct18), sl18⟩) (c18 : PySem.W.codeIn K cd18 "checked_sum" = true) (k18 : PySem.W.keepIn K (.ref f18) = true)
    (a19 : PySem.W.nsIn K mainGlobals "checked_unit" = some (some (.ref f19))) (l19 : K.lookup f19 = some ⟨oc19, od19, .func (PySem.W.fnOf "checked_unit" "checked_unit" (defArgs s_checked_unit) (defBody s_checked_unit) (defScope s_checked_unit) .none kV19 dc19 pm19 an19 cd19 ct19), sl19⟩) (c19 : PySem.W.codeIn K cd19 "checked_unit" = true) (k19 : PySem.W.keepIn K (.ref f19) = true)
    (a20 : PySem.W.nsIn K mainGlobals "checked_units" = some (some (.ref f20))) (l20 : K.lookup f20 = some ⟨oc20, od20, .func (PySem.W.fnOf "checked_units" "checked_units" (defArgs s_checked_units) (defBody s_checked_units) (defScope s_checked_units) .none kV20 dc20 pm20 an20 cd20 ct20), sl20⟩) (c20 : PySem.W.codeIn K cd20 "checked_units" = true) (k20 : PySem.W.keepIn K (.ref f20) = true)
    (a21 : PySem.W.nsIn K mainGlobals "checked_outs" = some (some (.ref f21))) (l21 : K.lookup f21 = some ⟨oc21, od21, .func (PySem.W.fnOf "checked_outs" "checked_outs" (defArgs s_checked_outs) (defBody s_checked_outs) (defScope s_checked_outs) .none kV21 dc21 pm21 an21 cd21 ct21), sl21⟩) (c21 : PySem.W.codeIn K cd21 "checked_outs" = true) (k21 : PySem.W.keepIn K (.ref f21) = true)
    (a22 : PySem.W.findIn K (.ref CC_Net) "__init__" = some (some (.ref f22))) (i22 : PySem.W.isFn K (.ref f22) = true) (l22 : K.lookup f22 = some ⟨oc22, od22, .func (PySem.W.fnOf "__init__" "Net.__init__" (defArgs s_Net_init) (defBody s_Net_init) (defScope s_Net_init) .none kV22 dc22 pm22 an22 cd22 ct22), sl22⟩) (c22 : PySem.W.codeIn K cd22 "Net.__init__" = true) (k22 : PySem.W.keepIn K (.ref f22) = true)
    (a23 : PySem.W.nsIn K mainGlobals "_law_more" = some (some (.ref f23))) (l23 : K.lookup f23 = some ⟨oc23, od23, .func (PySem.W.fnOf "_law_more" "_law_more" (defArgs s_law_more) (defBody s_law_more) (defScope s_law_more) .none kV23 dc23 pm23 an23 cd23 ct23), sl23⟩) (c23 : PySem.W.codeIn K cd23 "_law_more" = true) (k23 : PySem.W.keepIn K (.ref f23) = true)
    (a24 : PySem.W.nsIn K mainGlobals "_law_sum" = some (some (.ref f24))) (l24 : K.lookup f24 = some ⟨oc24, od24, .func (PySem.W.fnOf "_law_sum" "_law_sum" (defArgs s_law_sum) (defBody s_law_sum) (defScope s_law_sum) .none kV24 dc24 pm24 an24 cd24 ct24), sl24⟩) (c24 : PySem.W.codeIn K cd24 "_law_sum" = true) (k24 : PySem.W.keepIn K (.ref f24) = true)
    (a25 : PySem.W.nsIn K mainGlobals "_law_sides" = some (some (.ref f25))) (l25 : K.lookup f25 = some ⟨oc25, od25, .func (PySem.W.fnOf "_law_sides" "_law_sides" (defArgs s_law_sides) (defBody s_law_sides) (defScope s_law_sides) .none kV25 dc25 pm25 an25 cd25 ct25), sl25⟩) (c25 : PySem.W.codeIn K cd25 "_law_sides" = true) (k25 : PySem.W.keepIn K (.ref f25) = true)
    (a26 : PySem.W.nsIn K mainGlobals "told_unit" = some (some (.ref f26))) (l26 : K.lookup f26 = some ⟨oc26, od26, .func (PySem.W.fnOf "told_unit" "told_unit" (defArgs s_told_unit) (defBody s_told_unit) (defScope s_told_unit) .none kV26 dc26 pm26 an26 cd26 ct26), sl26⟩) (c26 : PySem.W.codeIn K cd26 "told_unit" = true) (k26 : PySem.W.keepIn K (.ref f26) = true)
    (a27 : PySem.W.findIn K (.ref CC_Net) "told" = some (some (.ref f27))) (i27 : PySem.W.isFn K (.ref f27) = true) (l27 : K.lookup f27 = some ⟨oc27, od27, .func (PySem.W.fnOf "told" "Net.told" (defArgs s_Net_told) (defBody s_Net_told) (defScope s_Net_told) .none kV27 dc27 pm27 an27 cd27 ct27), sl27⟩) (c27 : PySem.W.codeIn K cd27 "Net.told" = true) (k27 : PySem.W.keepIn K (.ref f27) = true)
    (a28 : PySem.W.nsIn K mainGlobals "moved_place" = some (some (.ref f28))) (l28 : K.lookup f28 = some ⟨oc28, od28, .func (PySem.W.fnOf "moved_place" "moved_place" (defArgs s_moved_place) (defBody s_moved_place) (defScope s_moved_place) .none kV28 dc28 pm28 an28 cd28 ct28), sl28⟩) (c28 : PySem.W.codeIn K cd28 "moved_place" = true) (k28 : PySem.W.keepIn K (.ref f28) = true)
    (a29 : PySem.W.nsIn K mainGlobals "moved_unit" = some (some (.ref f29))) (l29 : K.lookup f29 = some ⟨oc29, od29, .func (PySem.W.fnOf "moved_unit" "moved_unit" (defArgs s_moved_unit) (defBody s_moved_unit) (defScope s_moved_unit) .none kV29 dc29 pm29 an29 cd29 ct29), sl29⟩) (c29 : PySem.W.codeIn K cd29 "moved_unit" = true) (k29 : PySem.W.keepIn K (.ref f29) = true)
    (a30 : PySem.W.nsIn K mainGlobals "joined" = some (some (.ref f30))) (l30 : K.lookup f30 = some ⟨oc30, od30, .func (PySem.W.fnOf "joined" "joined" (defArgs s_joined) (defBody s_joined) (defScope s_joined) .none kV30 dc30 pm30 an30 cd30 ct30), sl30⟩) (c30 : PySem.W.codeIn K cd30 "joined" = true) (k30 : PySem.W.keepIn K (.ref f30) = true)
    (a31 : PySem.W.nsIn K mainGlobals "alike" = some (some (.ref f31))) (l31 : K.lookup f31 = some ⟨oc31, od31, .func (PySem.W.fnOf "alike" "alike" (defArgs s_alike) (defBody s_alike) (defScope s_alike) .none kV31 dc31 pm31 an31 cd31 ct31), sl31⟩) (c31 : PySem.W.codeIn K cd31 "alike" = true) (k31 : PySem.W.keepIn K (.ref f31) = true)
    (a32 : PySem.W.nsIn K mainGlobals "_law_kinds" = some (some (.ref f32))) (l32 : K.lookup f32 = some ⟨oc32, od32, .func (PySem.W.fnOf "_law_kinds" "_law_kinds" (defArgs s_law_kinds) (defBody s_law_kinds) (defScope s_law_kinds) .none kV32 dc32 pm32 an32 cd32 ct32), sl32⟩) (c32 : PySem.W.codeIn K cd32 "_law_kinds" = true) (k32 : PySem.W.keepIn K (.ref f32) = true)
    (a33 : PySem.W.nsIn K mainGlobals "law" = some (some (.ref f33))) (l33 : K.lookup f33 = some ⟨oc33, od33, .func (PySem.W.fnOf "law" "law" (defArgs s_law) (defBody s_law) (defScope s_law) .none kV33 dc33 pm33 an33 cd33 ct33), sl33⟩) (c33 : PySem.W.codeIn K cd33 "law" = true) (k33 : PySem.W.keepIn K (.ref f33) = true)
    (z0 : PySem.W.nsIn K mainGlobals "len" = some none)
    (z1 : PySem.W.nsIn K mainGlobals "range" = some none)
    (z2 : PySem.W.nsIn K mainGlobals "enumerate" = some none)
    (z3 : PySem.W.nsIn K mainGlobals "abs" = some none)
    (z4 : PySem.W.nsIn K mainGlobals "divmod" = some none)
    (z5 : PySem.W.nsIn K mainGlobals "list" = some none)
    (z6 : PySem.W.nsIn K mainGlobals "min" = some none)
    (z7 : PySem.W.nsIn K mainGlobals "int" = some none)
    (z8 : PySem.W.nsIn K mainGlobals "isinstance" = some none)
    (z9 : PySem.W.nsIn K mainGlobals "bool" = some none)
    (z10 : PySem.W.nsIn K mainGlobals "tuple" = some none)
    (z11 : PySem.W.nsIn K mainGlobals "set" = some none)
    (z12 : PySem.W.nsIn K mainGlobals "str" = some none)
    (z13 : PySem.W.nsIn K mainGlobals "ValueError" = some none)
    (z14 : PySem.W.nsIn K mainGlobals "sum" = some none)
    (mC0 : PySem.W.nsIn K mainGlobals "BendError" = some (some (.ref C0)))
    (mC1 : PySem.W.nsIn K mainGlobals "NoRatio" = some (some (.ref C1)))
    (mC2 : PySem.W.nsIn K mainGlobals "NoText" = some (some (.ref C2)))
    (mC3 : PySem.W.nsIn K mainGlobals "NoBox" = some (some (.ref C3)))
    (mC4 : PySem.W.nsIn K mainGlobals "NoNet" = some (some (.ref C4)))
    (mC5 : PySem.W.nsIn K mainGlobals "Unlike" = some (some (.ref C5)))
    (mC6 : PySem.W.nsIn K mainGlobals "NoLine" = some (some (.ref C6)))
    (x0 : PySem.W.excIn K C0 [.type "ValueError", .type "Exception", .type "BaseException", .type "object"] "ValueError.__new__" = true)
    (x1 : PySem.W.excIn K C5 [.type "ValueError", .type "Exception", .type "BaseException", .type "object"] "ValueError.__new__" = true)
    (x2 : PySem.W.mroIn K C5 (.ref C0) = some true)
    (y1 : PySem.W.findIn K (.ref C5) "__getattribute__" = some (some (.builtin "BaseException.__getattribute__")))
    (y2 : PySem.W.findIn K (.ref C5) "__getattr__" = some none)
    (y3 : PySem.W.findIn K (.ref C5) "__class__" = some (some (.builtin "object.__class__")))
    (y4 : PySem.W.specialIn K (.builtin "object.__class__") "__get__" = some (some (.builtin "getset_descriptor.__get__")))
    (y5 : PySem.W.takesIn K (.builtin "object.__class__") = some true)
    (y6 : PySem.W.mroIn K C5 (.type "object") = some true)
    (y7 : PySem.W.mroIn K C5 (.type "BaseException") = some true)
    (w0 : PySem.W.kitOne K (.ref C5) (.type "ValueError") = some true)
    (wC1 : PySem.W.kitOne K (.ref C5) (.ref C1) = some false)
    (wC2 : PySem.W.kitOne K (.ref C5) (.ref C2) = some false)
    (wC3 : PySem.W.kitOne K (.ref C5) (.ref C3) = some false)
    (wC4 : PySem.W.kitOne K (.ref C5) (.ref C4) = some false)
    (wC5 : PySem.W.kitOne K (.ref C5) (.ref C5) = some true)
    (wC6 : PySem.W.kitOne K (.ref C5) (.ref C6) = some false)
    (x1r1 : PySem.W.excIn K C4 [.type "ValueError", .type "Exception", .type "BaseException", .type "object"] "ValueError.__new__" = true)
    (x2r1 : PySem.W.mroIn K C4 (.ref C0) = some true)
    (y1r1 : PySem.W.findIn K (.ref C4) "__getattribute__" = some (some (.builtin "BaseException.__getattribute__")))
    (y2r1 : PySem.W.findIn K (.ref C4) "__getattr__" = some none)
    (y3r1 : PySem.W.findIn K (.ref C4) "__class__" = some (some (.builtin "object.__class__")))
    (y4r1 : PySem.W.specialIn K (.builtin "object.__class__") "__get__" = some (some (.builtin "getset_descriptor.__get__")))
    (y5r1 : PySem.W.takesIn K (.builtin "object.__class__") = some true)
    (y6r1 : PySem.W.mroIn K C4 (.type "object") = some true)
    (y7r1 : PySem.W.mroIn K C4 (.type "BaseException") = some true)
    (w0r1 : PySem.W.kitOne K (.ref C4) (.type "ValueError") = some true)
    (wC1r1 : PySem.W.kitOne K (.ref C4) (.ref C1) = some false)
    (wC2r1 : PySem.W.kitOne K (.ref C4) (.ref C2) = some false)
    (wC3r1 : PySem.W.kitOne K (.ref C4) (.ref C3) = some false)
    (wC4r1 : PySem.W.kitOne K (.ref C4) (.ref C4) = some true)
    (wC5r1 : PySem.W.kitOne K (.ref C4) (.ref C5) = some false)
    (wC6r1 : PySem.W.kitOne K (.ref C4) (.ref C6) = some false)
    (gBox : PySem.W.nsIn K mainGlobals "Box" = some (some (.ref CC_Box)))
    (pgBox : PySem.W.plainGet K CC_Box Str.empty = true)
    (hdBox : PySem.W.hasDictIn K CC_Box = true)
    (poBox : PySem.W.plainOver K CC_Box = true)
    (saBox : PySem.W.findIn K (.ref CC_Box) "__setattr__" = some (some (.builtin "object.__setattr__")))
    (mkBox : PySem.W.makesIn K CC_Box = true)
    (kcBox : PySem.W.keepIn K (.ref CC_Box) = true)
    (naBox_sides : PySem.W.findIn K (.ref CC_Box) "sides" = some none)
    (gNet : PySem.W.nsIn K mainGlobals "Net" = some (some (.ref CC_Net)))
    (pgNet : PySem.W.plainGet K CC_Net Str.empty = true)
    (hdNet : PySem.W.hasDictIn K CC_Net = true)
    (poNet : PySem.W.plainOver K CC_Net = true)
    (saNet : PySem.W.findIn K (.ref CC_Net) "__setattr__" = some (some (.builtin "object.__setattr__")))
    (mkNet : PySem.W.makesIn K CC_Net = true)
    (kcNet : PySem.W.keepIn K (.ref CC_Net) = true)
    (naNet_many : PySem.W.findIn K (.ref CC_Net) "many" = some none)
    (naNet_units : PySem.W.findIn K (.ref CC_Net) "units" = some none)
    (naNet_outs : PySem.W.findIn K (.ref CC_Net) "outs" = some none)
    (qMOST_SIDES : PySem.W.nsIn K mainGlobals "MOST_SIDES" = some (some (.int 6 tk_MOST_SIDES)))
    (qMOST_BENDS : PySem.W.nsIn K mainGlobals "MOST_BENDS" = some (some (.int 20 tk_MOST_BENDS)))
    (qMOST_UNITS : PySem.W.nsIn K mainGlobals "MOST_UNITS" = some (some (.int 80 tk_MOST_UNITS)))
    (qMOST_OUTS : PySem.W.nsIn K mainGlobals "MOST_OUTS" = some (some (.int 12 tk_MOST_OUTS)))
    (qMOST_INS : PySem.W.nsIn K mainGlobals "MOST_INS" = some (some (.int 6 tk_MOST_INS))), C) → C
end BP
section
open PySem PySem.W PyProof.Rows
local macro_rules | `(tactic| o_head $H) => `(tactic| refine BP.head (q := BP.view) $H 8000 BP.seen ?_ rfl rfl rfl rfl (by assumption) (by decide +kernel) ⟨rfl, rfl, rfl, rfl, rfl, by decide +kernel⟩ ?_ ?_)
set_option maxRecDepth 100000 in
set_option maxHeartbeats 0 in
theorem BP.early (fin : ∀ {q : Program} {loose : List Str} {XP : (Str → Option Value) → Heap → Prop} {YP : World → Heap → Prop} {d : DefRec} {K : Params → PySem.W.Frag}, d.params.defaults = [] → d.name = "law" → (∀ (w : World) (h : Heap), YP w h → (K w.params).In h) → (∀ w : World, BP.Pins (K w.params)) →
    PySem.W.WalkO q loose XP YP (PySem.Challenge.rw_bendproof_k67_alike_refused).row.toRowW d [] (fun f vs => PySem.call f vs)) : PySem.Challenge.rw_bendproof_k67_alike_refused.Holds := by
  w_on; o_law; k_head
  · refine BP.look_km BP.plainly ?_
    intro w os
    delta BP.runT
    rw [PySem.W.Fast.te14364793385576792824, PySem.W.Fast.te10156331382660048174, PySem.W.Fast.te11892475500146522536, PySem.W.Fast.te6613529449190102663, PySem.W.Fast.te8920871248978507458]
    kernel_rfl
  · w_witness2
  k_fill
  refine fin rfl rfl (fun w h Y => PySem.W.km_in_of Y) ?F
  case F =>
    intro w C k
    refine' k ?a0 ?l0 ?c0 ?k0 ?a1 ?l1 ?c1 ?k1 ?a2 ?l2 ?c2 ?k2 ?a3 ?l3 ?c3 ?k3 ?a4 ?l4 ?c4 ?k4 ?a5 ?l5 ?c5 ?k5 ?a6 ?l6 ?c6 ?k6 ?a7 ?l7 ?c7 ?k7 ?a8 ?l8 ?c8 ?k8 ?a9 ?l9 ?c9 ?k9 ?a10 ?l10 ?c10 ?k10 ?a11 ?l11 ?c11 ?k11 ?a12 ?l12 ?c12 ?k12 ?a13 ?l13 ?c13 ?k13 ?a14 ?l14 ?c14 ?k14 ?a15 ?i15 ?l15 ?c15 ?k15 ?a16 ?l16 ?c16 ?k16 ?a17 ?l17 ?c17 ?k17 ?a18 ?l18 ?c18 ?k18 ?a19 ?l19 ?c19 ?k19 ?a20 ?l20 ?c20 ?k20 ?a21 ?l21 ?c21 ?k21 ?a22 ?i22 ?l22 ?c22 ?k22 ?a23 ?l23 ?c23 ?k23 ?a24 ?l24 ?c24 ?k24 ?a25 ?l25 ?c25 ?k25 ?a26 ?l26 ?c26 ?k26 ?a27 ?i27 ?l27 ?c27 ?k27 ?a28 ?l28 ?c28 ?k28 ?a29 ?l29 ?c29 ?k29 ?a30 ?l30 ?c30 ?k30 ?a31 ?l31 ?c31 ?k31 ?a32 ?l32 ?c32 ?k32 ?a33 ?l33 ?c33 ?k33 ?z0 ?z1 ?z2 ?z3 ?z4 ?z5 ?z6 ?z7 ?z8 ?z9 ?z10 ?z11 ?z12 ?z13 ?z14 ?mC0 ?mC1 ?mC2 ?mC3 ?mC4 ?mC5 ?mC6 ?x0 ?x1 ?x2 ?y1 ?y2 ?y3 ?y4 ?y5 ?y6 ?y7 ?w0 ?wC1 ?wC2 ?wC3 ?wC4 ?wC5 ?wC6 ?x1r1 ?x2r1 ?y1r1 ?y2r1 ?y3r1 ?y4r1 ?y5r1 ?y6r1 ?y7r1 ?w0r1 ?wC1r1 ?wC2r1 ?wC3r1 ?wC4r1 ?wC5r1 ?wC6r1 ?gBox ?pgBox ?hdBox ?poBox ?saBox ?mkBox ?kcBox ?naBox_sides ?gNet ?pgNet ?hdNet ?poNet ?saNet ?mkNet ?kcNet ?naNet_many ?naNet_units ?naNet_outs ?qMOST_SIDES ?qMOST_BENDS ?qMOST_UNITS ?qMOST_OUTS ?qMOST_INS
    (case gBox => k_is)
    (case gNet => k_is)
    (case a0 => k_is)
    (case l0 => k_is)
    (case c0 => k_is)
    (case k0 => k_is)
    (case a1 => k_is)
    (case l1 => k_is)
    (case c1 => k_is)
    (case k1 => k_is)
    (case a2 => k_is)
    (case l2 => k_is)
    (case c2 => k_is)
    (case k2 => k_is)
    (case a3 => k_is)
    (case l3 => k_is)
    (case c3 => k_is)
    (case k3 => k_is)
    (case a4 => k_is)
    (case l4 => k_is)
    (case c4 => k_is)
    (case k4 => k_is)
    (case a5 => k_is)
    (case l5 => k_is)
    (case c5 => k_is)
    (case k5 => k_is)
    (case a6 => k_is)
    (case l6 => k_is)
    (case c6 => k_is)
    (case k6 => k_is)
    (case a7 => k_is)
    (case l7 => k_is)
    (case c7 => k_is)
    (case k7 => k_is)
    (case a8 => k_is)
    (case l8 => k_is)
    (case c8 => k_is)
    (case k8 => k_is)
    (case a9 => k_is)
    (case l9 => k_is)
    (case c9 => k_is)
    (case k9 => k_is)
    (case a10 => k_is)
    (case l10 => k_is)
    (case c10 => k_is)
    (case k10 => k_is)
    (case a11 => k_is)
    (case l11 => k_is)
    (case c11 => k_is)
    (case k11 => k_is)
    (case a12 => k_is)
    (case l12 => k_is)
    (case c12 => k_is)
    (case k12 => k_is)
    (case a13 => k_is)
    (case l13 => k_is)
    (case c13 => k_is)
    (case k13 => k_is)
    (case a14 => k_is)
    (case l14 => k_is)
    (case c14 => k_is)
    (case k14 => k_is)
    (case a15 => k_is)
    (case i15 => k_is)
    (case l15 => k_is)
    (case c15 => k_is)
    (case k15 => k_is)
    (case a16 => k_is)
    (case l16 => k_is)
    (case c16 => k_is)
    (case k16 => k_is)
    (case a17 => k_is)
    (case l17 => k_is)
    (case c17 => k_is)
    (case k17 => k_is)
    (case a18 => k_is)
    (case l18 => k_is)
    (case c18 => k_is)
    (case k18 => k_is)
    (case a19 => k_is)
    (case l19 => k_is)
    (case c19 => k_is)
    (case k19 => k_is)
    (case a20 => k_is)
    (case l20 => k_is)
    (case c20 => k_is)
    (case k20 => k_is)
    (case a21 => k_is)
    (case l21 => k_is)
    (case c21 => k_is)
    (case k21 => k_is)
    (case a22 => k_is)
    (case i22 => k_is)
    (case l22 => k_is)
    (case c22 => k_is)
    (case k22 => k_is)
    (case a23 => k_is)
    (case l23 => k_is)
    (case c23 => k_is)
    (case k23 => k_is)
    (case a24 => k_is)
    (case l24 => k_is)
    (case c24 => k_is)
    (case k24 => k_is)
    (case a25 => k_is)
    (case l25 => k_is)
    (case c25 => k_is)
    (case k25 => k_is)
    (case a26 => k_is)
    (case l26 => k_is)
    (case c26 => k_is)
    (case k26 => k_is)
    (case a27 => k_is)
    (case i27 => k_is)
    (case l27 => k_is)
    (case c27 => k_is)
    (case k27 => k_is)
    (case a28 => k_is)
    (case l28 => k_is)
    (case c28 => k_is)
    (case k28 => k_is)
    (case a29 => k_is)
    (case l29 => k_is)
    (case c29 => k_is)
    (case k29 => k_is)
    (case a30 => k_is)
    (case l30 => k_is)
    (case c30 => k_is)
    (case k30 => k_is)
    (case a31 => k_is)
    (case l31 => k_is)
    (case c31 => k_is)
    (case k31 => k_is)
    (case a32 => k_is)
    (case l32 => k_is)
    (case c32 => k_is)
    (case k32 => k_is)
    (case a33 => k_is)
    (case l33 => k_is)
    (case c33 => k_is)
    (case k33 => k_is)
    (case z0 => k_is)
    (case z1 => k_is)
    (case z2 => k_is)
    (case z3 => k_is)
    (case z4 => k_is)
    (case z5 => k_is)
    (case z6 => k_is)
    (case z7 => k_is)
    (case z8 => k_is)
    (case z9 => k_is)
    (case z10 => k_is)
    (case z11 => k_is)
    (case z12 => k_is)
    (case z13 => k_is)
    (case z14 => k_is)
    (case mC0 => k_is)
    (case mC1 => k_is)
    (case mC2 => k_is)
    (case mC3 => k_is)
    (case mC4 => k_is)
    (case mC5 => k_is)
    (case mC6 => k_is)
    (case x0 => k_exc)
    (case x1 => k_exc)
    (case x2 => k_is)
    (case y1 => k_is)
    (case y2 => k_is)
    (case y3 => k_is)
    (case y4 => k_is)
    (case y5 => k_is)
    (case y6 => k_is)
    (case y7 => k_is)
    (case w0 => kit_is)
    (case wC1 => kit_is)
    (case wC2 => kit_is)
    (case wC3 => kit_is)
    (case wC4 => kit_is)
    (case wC5 => kit_is)
    (case wC6 => kit_is)
    (case x1r1 => k_exc)
    (case x2r1 => k_is)
    (case y1r1 => k_is)
    (case y2r1 => k_is)
    (case y3r1 => k_is)
    (case y4r1 => k_is)
    (case y5r1 => k_is)
    (case y6r1 => k_is)
    (case y7r1 => k_is)
    (case w0r1 => kit_is)
    (case wC1r1 => kit_is)
    (case wC2r1 => kit_is)
    (case wC3r1 => kit_is)
    (case wC4r1 => kit_is)
    (case wC5r1 => kit_is)
    (case wC6r1 => kit_is)
    (case pgBox => k_is)
    (case hdBox => k_is)
    (case poBox => k_is)
    (case saBox => k_is)
    (case mkBox => k_is)
    (case kcBox => k_is)
    (case naBox_sides => k_is)
    (case pgNet => k_is)
    (case hdNet => k_is)
    (case poNet => k_is)
    (case saNet => k_is)
    (case mkNet => k_is)
    (case kcNet => k_is)
    (case naNet_many => k_is)
    (case naNet_units => k_is)
    (case naNet_outs => k_is)
    (case qMOST_SIDES => k_is)
    (case qMOST_BENDS => k_is)
    (case qMOST_UNITS => k_is)
    (case qMOST_OUTS => k_is)
    (case qMOST_INS => k_is)
end
/-! THE HAND LAYER, for ints, bools, texts, own classes, LISTS and tuples (index, slices, in, append, pop ..), calls, loops. Paste it whole ahead of your own text; what your proof does not reach may be deleted. -/
namespace L2
open PySem PySem.Spec PyProof.Rows

/-- a key: an int or a str -/
abbrev Key := Sum Int Str
def keyIs : Key → Value → Bool
  | .inl k, v => Value.isInt k v
  | .inr x, v => Value.isStrOf x v
def keyH (w : World) : Key → Int
  | .inl k => hashInt k
  | .inr x => hashStr w x
theorem keyIs_shape : ∀ {k : Key} {v : Value}, keyIs k v = true → (∃ i t, k = Sum.inl i ∧ v = Value.int i t) ∨ (∃ x t, k = Sum.inr x ∧ v = Value.str x t)
  | .inl i, v, h => by
    obtain ⟨t, e⟩ := Value.isInt_shape (k := i) (v := v) h
    exact .inl ⟨i, t, rfl, e⟩
  | .inr x, v, h => by
    obtain ⟨t, e⟩ := Value.isStrOf_shape (x := x) (v := v) h
    exact .inr ⟨x, t, rfl, e⟩
theorem key_ll (a b : Int) : decide ((Sum.inl a : Key) = Sum.inl b) = (a == b) := by
  by_cases e : a = b
  · subst e; simp
  · have h : ¬ (Sum.inl a : Key) = Sum.inl b := fun q => e (Sum.inl.inj q)
    rw [decide_eq_false h]
    exact (beq_eq_false_iff_ne.mpr e).symm
theorem key_rr (a b : Str) : decide ((Sum.inr a : Key) = Sum.inr b) = decide (a = b) := by
  by_cases e : a = b
  · subst e; simp
  · have h : ¬ (Sum.inr a : Key) = Sum.inr b := fun q => e (Sum.inr.inj q)
    rw [decide_eq_false h, decide_eq_false e]
theorem key_lr (a : Int) (b : Str) : decide ((Sum.inl a : Key) = Sum.inr b) = false := decide_eq_false (fun q => nomatch q)
theorem key_rl (a : Str) (b : Int) : decide ((Sum.inr a : Key) = Sum.inl b) = false := decide_eq_false (fun q => nomatch q)

def mixKind (prog : Program) (w : World) : PySem.KeyKind prog w Key where
  is := keyIs
  hash := keyH w
  inj := fun v a b ha hb => by
    rcases keyIs_shape ha with ⟨i, t, rfl, rfl⟩ | ⟨x, t, rfl, rfl⟩
    · rcases keyIs_shape hb with ⟨j, u, rfl, e⟩ | ⟨y, u, rfl, e⟩
      · injection e with e1 _; rw [e1]
      · exact nomatch e
    · rcases keyIs_shape hb with ⟨j, u, rfl, e⟩ | ⟨y, u, rfl, e⟩
      · exact nomatch e
      · injection e with e1 _; rw [e1]
  byValue := fun k v h => by
    rcases keyIs_shape h with ⟨i, t, rfl, rfl⟩ | ⟨x, t, rfl, rfl⟩ <;> rfl
  pyHash := fun hv h => by
    rcases keyIs_shape hv with ⟨i, t, rfl, rfl⟩ | ⟨x, t, rfl, rfl⟩
    · exact wpAny_pyHash_int h
    · exact wpAny_pyHash_str h
  eqBool := fun hu hv h => by
    rcases keyIs_shape hu with ⟨i, t, rfl, rfl⟩ | ⟨x, t, rfl, rfl⟩
    · rcases keyIs_shape hv with ⟨j, u, rfl, rfl⟩ | ⟨y, u, rfl, rfl⟩
      · rw [key_ll] at h; exact wpAny_eqBool_int h
      · rw [key_lr] at h; exact SeqAt.EqAt.int_str i t y u _ _ _ _ h
    · rcases keyIs_shape hv with ⟨j, u, rfl, rfl⟩ | ⟨y, u, rfl, rfl⟩
      · rw [key_rl] at h; exact SeqAt.EqAt.str_int x t j u _ _ _ _ h
      · rw [key_rr] at h; exact wpAny_eqBool_str h
  «strs» := fun k x t v h => by
    rcases keyIs_shape h with ⟨i, u, rfl, e⟩ | ⟨y, u, rfl, e⟩
    · exact nomatch e
    · injection e with e1 _
      subst e1
      cases v <;> rfl

end L2

namespace L2
open PySem PySem.Spec PyProof.Rows

/-- a value, without the heap -/
inductive V where
  | non | bl (b : Bool) | int (i : Int) | str (x : Str) | byt (b : Array UInt8) | flt (b : UInt64) | ref (a : Addr) | ty (n : String)
  deriving DecidableEq

def RelV : V → Value → Prop
  | .non, u => u = Value.none
  | .bl b, u => u = Value.bool b
  | .int i, u => ∃ t, u = Value.int i t
  | .str x, u => ∃ t, u = Value.str x t
  | .byt b, u => ∃ t, u = Value.bytes b t
  | .flt b, u => ∃ t, u = Value.float b t
  | .ref a, u => u = Value.ref a
  | .ty n, u => u = Value.type n

abbrev Vals : List V → List Value → Prop := Paired RelV
theorem Vals.length {xs : List V} {us : List Value} (r : Vals xs us) : xs.length = us.length := Paired.length r
theorem Vals.get : ∀ {xs : List V} {us : List Value} {i : Nat} {x : V}, Vals xs us → xs[i]? = some x → ∃ u, us[i]? = some u ∧ RelV x u
  | _, _, _, _, .nil, e => by simp at e
  | _, _, 0, _, .cons r _, e => by simp at e; subst e; exact ⟨_, rfl, r⟩
  | _, _, i + 1, x, .cons _ t, e => by
    obtain ⟨u, h1, h2⟩ := Vals.get (i := i) (x := x) t (by simpa using e)
    exact ⟨u, by simpa using h1, h2⟩
theorem Vals.set {x : V} {u : Value} (r : RelV x u) : ∀ {xs : List V} {us : List Value} (i : Nat), Vals xs us → Vals (xs.set i x) (us.set i u)
  | _, _, _, .nil => .nil
  | _, _, 0, .cons _ t => .cons r t
  | _, _, i + 1, .cons q t => .cons q (Vals.set r i t)
theorem Vals.append : ∀ {xs ys : List V} {us ws : List Value}, Vals xs us → Vals ys ws → Vals (xs ++ ys) (us ++ ws)
  | _, _, _, _, .nil, s => s
  | _, _, _, _, .cons r t, s => .cons r (Vals.append t s)
theorem Vals.take : ∀ {xs : List V} {us : List Value} (n : Nat), Vals xs us → Vals (xs.take n) (us.take n)
  | _, _, 0, _ => .nil
  | _, _, _ + 1, .nil => .nil
  | _, _, n + 1, .cons r t => .cons r (Vals.take n t)
theorem Vals.drop : ∀ {xs : List V} {us : List Value} (n : Nat), Vals xs us → Vals (xs.drop n) (us.drop n)
  | _, _, 0, r => r
  | _, _, _ + 1, .nil => .nil
  | _, _, n + 1, .cons _ t => Vals.drop n t
theorem Vals.none_of : ∀ {xs : List V} {us : List Value} {i : Nat}, Vals xs us → xs[i]? = none → us[i]? = none := fun {xs us i} r e => by
  have h1 := r.length
  have h2 : xs.length ≤ i := List.getElem?_eq_none_iff.mp e
  exact List.getElem?_eq_none_iff.mpr (by omega)

def RelO : Option V → Option Value → Prop
  | some v, some u => RelV v u
  | none, none => True
  | _, _ => False
def KV {κ : Type} : List (κ × V) → List (κ × Value) → Prop := Paired fun (p : κ × V) (q : κ × Value) => p.1 = q.1 ∧ RelV p.2 q.2

/-- a key of a dict (00_mix): an int or a text -/
def kV : Key → V
  | .inl i => .int i
  | .inr x => .str x

/-- what stands at a tracked address -/
inductive HO where
  /-- a list -/
  | lst (xs : List V)
  /-- a tuple (never changes) -/
  | tup (xs : List V)
  /-- a dict whose keys are ints and texts; one whose keys are tuples of ints and texts (the empty one is both) -/
  | dK (kvs : List (Key × V)) | dT (kvs : List (List Key × V))
  /-- a set of ints: its members, its size -/
  | set (S : Int → Bool) (n : Nat)
  /-- an instance of the class at C, its dict at dx, its attributes -/
  | ins (C dx : Addr) (fs : List (Str × V))
  /-- the dict of the instance at x -/
  | own (x : Addr)
  /-- the dict of an exception -/
  | xd (fs : List (Str × V))
  /-- a bound method, f of x -/
  | met (f x : Addr)
  /-- a range object lo, lo + 1, .. below hi -/
  | rng (lo hi : Int)
  /-- a thing that is known to the object (the script; a dict while a loop walks it): read, never written while it is so -/
  | frz (o : Obj) (u : HO)
  /-- a code object's table -/
  | tbl (ps : Array Value)
  /-- any other thing, by what is true of its one object (a def of one's own: SetO a S n := HO.ext fun h => ..) -/
  | ext (φ : Heap → Prop)

abbrev Hp := Addr → Option HO
def upd (H : Hp) (a : Addr) (o : HO) : Hp := fun b => if b = a then some o else H b
theorem upd_same {H : Hp} {a : Addr} {o : HO} : upd H a o a = some o := by unfold upd; rw [if_pos rfl]
theorem upd_ne {H : Hp} {a b : Addr} {o : HO} (h : b ≠ a) : upd H a o b = H b := by unfold upd; rw [if_neg h]
/-- two objects of different content stand apart -/
theorem ne_of {H : Hp} {a b : Addr} {o u : HO} (h : H a = some o) (h' : H b = some u) (d : o ≠ u) : a ≠ b := by
  intro e; subst e; rw [h] at h'; exact d (Option.some.inj h')
theorem ne_of_none {H : Hp} {a b : Addr} {o : HO} (h : H a = some o) (h' : H b = none) : a ≠ b := by
  intro e; subst e; rw [h] at h'; cases h'

section
variable (P : Program) (w : World)
def ObjOk (H : Hp) (h : Heap) (a : Addr) : HO → Prop
  | .lst xs => xs.length ≤ sizeLine ∧ ∃ (its : List Value) (n : Nat), Vals xs its ∧ h.get? a = some { cls := .type "list", data := .seq its.toArray n }
  | .tup xs => xs.length ≤ sizeLine ∧ ∃ its : List Value, Vals xs its ∧ IsTup h a its.toArray
  | .dK kvs => kvs.length ≤ sizeLine ∧ (a == sysModules) = false ∧ ∃ vs, KV kvs vs ∧ h.DictOf (mixKind P w) a vs
  | .dT kvs => kvs.length ≤ sizeLine ∧ (a == sysModules) = false ∧ ∃ xs : List (List Key × Addr × Value),
      Paired (fun (p : List Key × V) (q : List Key × Addr × Value) => p.1 = q.1 ∧ H q.2.1 = some (.tup (p.1.map kV)) ∧ RelV p.2 q.2.2) kvs xs ∧
      ∃ o es ep, h.get? a = some o ∧ o.ExactDict ∧ o.data = .dict es ep ∧ es.toList = xs.map (entryOfKey (tupleKind (mixKind P w))) ∧ (xs.map (·.1)).Nodup
  | .set S n => h.SetOf (intKind P w) a S n
  | .ins C dx fs => H dx = some (.own a) ∧ fs.length ≤ 1000 ∧ dx ≠ a ∧ h.get? a = some (PySem.W.instObj C dx) ∧
      ∃ mA, h.Ns1 dx mA ∧ (∀ f, RelO (fs.lookup f) (mA f)) ∧ PySem.Within mA (fs.map (·.1))
  | .own _ => ∃ o, h.get? a = some o
  | .xd fs => ∃ mA, h.Ns1 a mA ∧ ∀ f, RelO (fs.lookup f) (mA f)
  | .rng lo hi => ∃ t u v, h.get? a = some { cls := .type "range", data := .fields #[.int lo t, .int hi u, .int 1 v] }
  | .frz o u => h.get? a = some o ∧ ObjOk H h a u
  | .tbl ps => h.get? a = some { cls := .none, data := .fields ps }
  | .met f x => h.get? a = some (PySem.W.methodObj (.ref f) (.ref x))
  | .ext φ => φ h ∧ (∃ o, h.get? a = some o) ∧ ∀ h1 h2 : Heap, φ h1 → (∀ o, h1.get? a = some o → h2.get? a = some o) → φ h2
/-- the abstract heap is held -/
def HOk (H : Hp) (h : Heap) : Prop := ∀ a o, H a = some o → ObjOk P w H h a o
end

section
variable {P : Program} {w : World} {H H' : Hp} {h h' : Heap} {a : Addr} {o : HO}
theorem ObjOk.lt (x : ObjOk P w H h a o) : a < h.objs.size := by
  cases o with
  | lst xs => obtain ⟨_, _, _, _, e⟩ := x; exact Heap.lt_size e
  | tup xs => obtain ⟨_, _, _, p⟩ := x; exact p.lt
  | dK kvs => obtain ⟨_, _, _, _, o, _, _, e, _⟩ := x; exact Heap.lt_size e
  | dT kvs => obtain ⟨_, _, _, _, o, _, _, e, _⟩ := x; exact Heap.lt_size e
  | set S n => obtain ⟨o, _, _, _, e, _⟩ := x; exact Heap.lt_size e
  | ins C dx fs => obtain ⟨_, _, _, e, _⟩ := x; exact Heap.lt_size e
  | own y => obtain ⟨_, e⟩ := x; exact Heap.lt_size e
  | xd fs => obtain ⟨_, ⟨_, _, _, e, _⟩, _⟩ := x; exact Heap.lt_size e
  | rng lo hi => obtain ⟨_, _, _, e⟩ := x; exact Heap.lt_size e
  | frz ob u => obtain ⟨e, _⟩ := x; exact Heap.lt_size e
  | tbl ps => exact Heap.lt_size (show h.get? a = some _ from x)
  | met f y => exact Heap.lt_size (show h.get? a = some _ from x)
  | ext φ => obtain ⟨_, ⟨_, e⟩, _⟩ := x; exact Heap.lt_size e
theorem Paired.mapP {α β : Type} {F G : α → β → Prop} : ∀ {l₁ : List α} {l₂ : List β}, Paired F l₁ l₂ → (∀ a b, F a b → G a b) → Paired G l₁ l₂
  | _, _, .nil, _ => .nil
  | _, _, .cons r t, f => .cons (f _ _ r) (Paired.mapP t f)
/-- what an object's description leans on: its own object, its own dict, the tuples -/
theorem ObjOk.stay (x : ObjOk P w H h a o) (k : ∀ b u, (b = a ∨ H b = some (.own a)) → h.get? b = some u → h'.get? b = some u)
    (ho : ∀ b, H b = some (.own a) → H' b = some (.own a)) (ht : ∀ b xs, H b = some (.tup xs) → H' b = some (.tup xs)) : ObjOk P w H' h' a o := by
  induction o with
  | lst xs => obtain ⟨z, its, n, r, e⟩ := x; exact ⟨z, its, n, r, k _ _ (.inl rfl) e⟩
  | tup xs => obtain ⟨z, its, r, ob, e, c⟩ := x; exact ⟨z, its, r, ob, k _ _ (.inl rfl) e, c⟩
  | dK kvs => obtain ⟨z, y, vs, r, ob, es, ep, e, c⟩ := x; exact ⟨z, y, vs, r, ob, es, ep, k _ _ (.inl rfl) e, c⟩
  | dT kvs =>
    obtain ⟨z, y, xs, r, ob, es, ep, e, c⟩ := x
    exact ⟨z, y, xs, Paired.mapP r fun p q z => ⟨z.1, ht _ _ z.2.1, z.2.2⟩, ob, es, ep, k _ _ (.inl rfl) e, c⟩
  | set S n => obtain ⟨ob, es, ep, t, e, c⟩ := x; exact ⟨ob, es, ep, t, k _ _ (.inl rfl) e, c⟩
  | ins C dx fs =>
    obtain ⟨d, z, ne, e, mA, ⟨od, es, ep, e2, c⟩, r⟩ := x
    exact ⟨ho _ d, z, ne, k _ _ (.inl rfl) e, mA, ⟨od, es, ep, k _ _ (.inr d) e2, c⟩, r⟩
  | own y => obtain ⟨ob, e⟩ := x; exact ⟨ob, k _ _ (.inl rfl) e⟩
  | xd fs => obtain ⟨mA, ⟨od, es, ep, e, c⟩, r⟩ := x; exact ⟨mA, ⟨od, es, ep, k _ _ (.inl rfl) e, c⟩, r⟩
  | rng lo hi => obtain ⟨t, u, v, e⟩ := x; exact ⟨t, u, v, k _ _ (.inl rfl) e⟩
  | frz ob u ih => obtain ⟨e, q⟩ := x; exact ⟨k _ _ (.inl rfl) e, ih q⟩
  | tbl ps =>
    have e : h.get? a = some { cls := .none, data := .fields ps } := x
    show h'.get? a = some { cls := .none, data := .fields ps }
    exact k a _ (.inl rfl) e
  | met f y =>
    have e : h.get? a = some (PySem.W.methodObj (.ref f) (.ref y)) := x
    show h'.get? a = some (PySem.W.methodObj (.ref f) (.ref y))
    exact k a _ (.inl rfl) e
  | ext φ => obtain ⟨p, ⟨o, e⟩, st⟩ := x; exact ⟨st _ _ p fun o q => k _ _ (.inl rfl) q, ⟨o, k _ _ (.inl rfl) e⟩, st⟩
theorem HOk.lt (x : HOk P w H h) (e : H a = some o) : a < h.objs.size := (x a o e).lt
theorem HOk.fresh (x : HOk P w H h) (e : h.objs.size ≤ a) : H a = none := by
  cases q : H a with
  | none => rfl
  | some u => exact absurd (Nat.lt_of_lt_of_le (x.lt q) e) (Nat.lt_irrefl _)
/-- every object of the heap is kept -/
theorem HOk.kept (x : HOk P w H h) (k : ∀ b u, h.get? b = some u → h'.get? b = some u) : HOk P w H h' := fun a o e =>
  (x a o e).stay (fun b u _ q => k b u q) (fun _ q => q) fun _ _ q => q
/-- a new object is laid and tracked -/
theorem HOk.laid (x : HOk P w H h) (k : ∀ b u, h.get? b = some u → h'.get? b = some u) (hp : h.objs.size ≤ a) (new : ObjOk P w (upd H a o) h' a o) : HOk P w (upd H a o) h' := fun b u e => by
  have hn := x.fresh hp
  by_cases hb : b = a
  · subst hb; rw [upd_same] at e; cases e; exact new
  · rw [upd_ne hb] at e
    exact (x b u e).stay (fun c v _ q => k c v q) (fun c q => by rw [upd_ne (ne_of_none q hn)]; exact q) fun c xs q => by rw [upd_ne (ne_of_none q hn)]; exact q
end

/-- what may be read as u: it is u, or a known u -/
def Rd (H : Hp) (a : Addr) (u : HO) : Prop := H a = some u ∨ ∃ o, H a = some (.frz o u)
theorem Rd.of {H : Hp} {a : Addr} {u : HO} (h : H a = some u) : Rd H a u := .inl h
theorem Rd.ok {P : Program} {w : World} {H : Hp} {h : Heap} {a : Addr} {u : HO} (r : Rd H a u) (x : HOk P w H h) : ObjOk P w H h a u := by
  rcases r with r | ⟨o, r⟩
  · exact x a u r
  · obtain ⟨_, q⟩ := x a _ r
    exact q
/-- what may be written -/
def Mut : Option HO → Prop
  | some (.lst _) => True
  | some (.dK _) => True
  | some (.dT _) => True
  | some (.set _ _) => True
  | some (.ins _ _ _) => True
  | some (.ext _) => True
  | _ => False
section
variable {P : Program} {w : World} {H : Hp} {h h' : Heap} {x e : Addr} {o' : HO}
/-- the object at e is changed: x itself, or the dict of the instance x -/
theorem HOk.write (ok : HOk P w H h) (mu : Mut (H x)) (he : e = x ∨ H e = some (.own x)) (k : ∀ b u, b ≠ e → h.get? b = some u → h'.get? b = some u) (heo : ∃ u, h'.get? e = some u)
    (new : ObjOk P w (upd H x o') h' x o') : HOk P w (upd H x o') h' := fun b u q => by
  have nown : ∀ c y, H c = some (.own y) → c ≠ x := fun c y r z => by subst z; rw [r] at mu; exact mu
  have ntup : ∀ c xs, H c = some (.tup xs) → c ≠ x := fun c xs r z => by subst z; rw [r] at mu; exact mu
  by_cases hb : b = x
  · subst hb; rw [upd_same] at q; cases q; exact new
  · rw [upd_ne hb] at q
    by_cases hbe : b = e
    · have q' : H b = some (.own x) := by
        rcases he with z | z
        · exact absurd (hbe.trans z) hb
        · rw [hbe]; exact z
      rw [q] at q'; cases q'
      obtain ⟨v, hv⟩ := heo
      exact ⟨v, by rw [hbe]; exact hv⟩
    · refine (ok b u q).stay (fun c v hc r => k c v ?_ r) (fun c r => by rw [upd_ne (nown c b r)]; exact r) fun c xs r => by rw [upd_ne (ntup c xs r)]; exact r
      rcases hc with rfl | hc
      · exact hbe
      · rintro rfl
        rcases he with z | z
        · exact nown c b hc z
        · rw [hc] at z; cases z; exact hb rfl
end

/-! ### kept unless tracked; of the frames at fs (the callers') the slots may change (an exception that passes writes there); of the records at ex (iterators) nothing is said -/
structure Un (fs ex : List Addr) (H H' : Hp) (h h' : Heap) : Prop where
  keep : ∀ b o, h.get? b = some o → H b = none → b ∉ fs → b ∉ ex → h'.get? b = some o
  slot : ∀ b o, h.get? b = some o → H b = none → b ∈ fs → b ∉ ex → ∃ sl, h'.get? b = some { o with slots := sl }
  free : ∀ b o, h.get? b = some o → H b = none → b ∉ ex → H' b = none
  there : ∀ b o, h.get? b = some o → b ∉ ex → ∃ o', h'.get? b = some o'
  tups : ∀ b xs, H b = some (.tup xs) → H' b = some (.tup xs)
  frzs : ∀ b o u, H b = some (.frz o u) → H' b = some (.frz o u)
  tbls : ∀ b ps, H b = some (.tbl ps) → ∃ more, H' b = some (.tbl (ps ++ more))
section
variable {fs fs' ex ex' : List Addr} {H H1 H2 : Hp} {h h1 h2 h' : Heap} {a x e : Addr} {o : HO}
theorem Un.any (u : Un fs ex H H1 h h1) {b : Addr} {ob : Obj} (q : h.get? b = some ob) (n : H b = none) (hx : b ∉ ex) : ∃ sl, h1.get? b = some { ob with slots := sl } := by
  by_cases hb : b ∈ fs
  · exact u.slot b ob q n hb hx
  · exact ⟨ob.slots, u.keep b ob q n hb hx⟩
theorem Un.trans (a : Un fs ex H H1 h h1) (b : Un fs ex H1 H2 h1 h2) : Un fs ex H H2 h h2 where
  keep := fun c ob q n hc hx => b.keep c ob (a.keep c ob q n hc hx) (a.free c ob q n hx) hc hx
  slot := fun c ob q n hc hx => by
    obtain ⟨sl, e1⟩ := a.slot c ob q n hc hx
    obtain ⟨sl', e2⟩ := b.slot c _ e1 (a.free c ob q n hx) hc hx
    exact ⟨sl', e2⟩
  free := fun c ob q n hx => by
    obtain ⟨o', e1⟩ := a.there c ob q hx
    exact b.free c o' e1 (a.free c ob q n hx) hx
  there := fun c ob q hx => by
    obtain ⟨o', e1⟩ := a.there c ob q hx
    exact b.there c o' e1 hx
  tups := fun c xs q => b.tups c xs (a.tups c xs q)
  frzs := fun c ob xs q => b.frzs c ob xs (a.frzs c ob xs q)
  tbls := fun c ps q => by
    obtain ⟨m1, e1⟩ := a.tbls c ps q
    obtain ⟨m2, e2⟩ := b.tbls c _ e1
    exact ⟨m1 ++ m2, by rw [e2, Array.append_assoc]⟩
theorem Un.kept (k : ∀ b u, h.get? b = some u → h'.get? b = some u) : Un fs ex H H h h' :=
  ⟨fun b ob q _ _ _ => k b ob q, fun b ob q _ _ _ => ⟨ob.slots, k b ob q⟩, fun _ _ _ n _ => n, fun b ob q _ => ⟨ob, k b ob q⟩, fun _ _ q => q, fun _ _ _ q => q, fun _ ps q => ⟨#[], by rw [q]; simp⟩⟩
theorem Un.refl : Un fs ex H H h h := Un.kept fun _ _ q => q
theorem Un.laid (k : ∀ b u, h.get? b = some u → h'.get? b = some u) (hp : h.objs.size ≤ a) (hn : H a = none) : Un fs ex H (upd H a o) h h' where
  keep := fun b u q _ _ _ => k b u q
  slot := fun b u q _ _ _ => ⟨u.slots, k b u q⟩
  free := fun b u q n _ => by rw [upd_ne (Nat.ne_of_lt (Nat.lt_of_lt_of_le (Heap.lt_size q) hp))]; exact n
  there := fun b u q _ => ⟨u, k b u q⟩
  tups := fun b xs q => by rw [upd_ne (ne_of_none q hn)]; exact q
  frzs := fun b u xs q => by rw [upd_ne (ne_of_none q hn)]; exact q
  tbls := fun b ps q => ⟨#[], by rw [upd_ne (ne_of_none q hn), q]; simp⟩
theorem Un.write (mu : Mut (H x)) (he : e = x ∨ H e = some (.own x)) (k : ∀ b u, b ≠ e → h.get? b = some u → h'.get? b = some u) (heo : ∃ u, h'.get? e = some u) : Un fs ex H (upd H x o) h h' := by
  have hx : ∀ b, H b = none → b ≠ x := fun b n z => by subst z; rw [n] at mu; exact mu
  have hb : ∀ b, H b = none → b ≠ e := fun b n z => by
    subst z
    rcases he with r | r
    · exact hx b n r
    · rw [n] at r; cases r
  have hm : ∀ b u, H b = some u → ¬ Mut (some u) → b ≠ x := fun b u q nm z => by subst z; rw [q] at mu; exact nm mu
  refine ⟨fun b u q n _ _ => k b u (hb b n) q, fun b u q n _ _ => ⟨u.slots, k b u (hb b n) q⟩, fun b u q n _ => by rw [upd_ne (hx b n)]; exact n, fun b u q _ => ?_,
    fun b xs q => by rw [upd_ne (hm b _ q fun z => z)]; exact q, fun b u xs q => by rw [upd_ne (hm b _ q fun z => z)]; exact q, fun b ps q => ⟨#[], by rw [upd_ne (hm b _ q fun z => z), q]; simp⟩⟩
  by_cases hbe : b = e
  · subst hbe; exact heo
  · exact ⟨u, k b u hbe q⟩
theorem Un.mono (u : Un fs ex H H1 h h1) (hs : ∀ b ∈ fs, b ∈ fs') (hx : ∀ b ∈ ex, b ∈ ex') : Un fs' ex' H H1 h h1 :=
  ⟨fun b ob q n hb he => u.keep b ob q n (fun z => hb (hs b z)) fun z => he (hx b z), fun _ _ q n _ he => u.any q n fun z => he (hx _ z), fun b ob q n he => u.free b ob q n fun z => he (hx b z), fun b ob q he => u.there b ob q fun z => he (hx b z), u.tups, u.frzs, u.tbls⟩
end

/-! ### the heap without what is tracked -/
def trk (h : Heap) (H : Hp) : List Addr := (List.range h.objs.size).filter fun a => (H a).isSome
def hidT (h : Heap) (H : Hp) : Heap := PySem.W.hideAll h (trk h H)
theorem hidT_size (h : Heap) (H : Hp) : (hidT h H).objs.size = h.objs.size := PySem.W.hideAll_size _ _
theorem hidT_get {h : Heap} {H : Hp} {b : Addr} {o : Obj} (e : h.get? b = some o) (n : H b = none) : (hidT h H).get? b = some o :=
  PySem.W.hideAll_get _ e fun hm => by
    have q : (H b).isSome = true := (List.mem_filter.mp hm).2
    rw [n] at q; simp at q
theorem of_hidT {h : Heap} {H : Hp} {b : Addr} {o : Obj} (e : (hidT h H).get? b = some o) : h.get? b = some o ∧ H b = none := by
  have e' : h.get? b = some o := PySem.W.of_hideAll (trk h H) e
  refine ⟨e', ?_⟩
  cases q : H b with
  | none => rfl
  | some x =>
    have hm : b ∈ trk h H := List.mem_filter.mpr ⟨List.mem_range.mpr (Heap.lt_size e'), by simp [q]⟩
    have z : (hidT h H).get? b = none := PySem.W.hideAll_none (trk h H) hm
    rw [z] at e; cases e

/-! ### OpenK's ledger, filled with every new object but one -/
def allNews (g h : Heap) (L : Addr) : List (Addr × Obj) := (List.range h.objs.size).filterMap fun a => if a = L ∨ (g.get? a).isSome = true then none else (h.get? a).map fun o => (a, o)
def rest (g h : Heap) (L d : Addr) : List (Addr × Obj) := (allNews g h L).filter fun p => decide (p.1 ≠ d)
end L2

namespace L2
open PySem PySem.Spec PyProof.Rows

/-- the module's facts, over the base: the heap at the law's entry without what is tracked there -/
structure Mod (K : PySem.W.Frag) (mg : Str → Option Value) (base : Heap) : Prop where
  kin : K.In base
  glob : base.Ns mainGlobals mg
  blt : ∃ mb, base.Ns builtinsNs mb ∧ ∀ x : Str, x ≠ "__name__" → mb x = bootBuiltins x
  nolimit : base.NoLimit

/-- the context: a def's body (or a comprehension's block) running. base: fixed through the whole law; s₀, H₀: the entry; outer: the frames whose slots others may change (a def's callers); stack: all frames that run;
   ex: iterators that were made ahead of the entry and are walked here (a comprehension's); fn: the names whose cells were made at the entry (a def: all; a comprehension's block: its own); calm: not within an except suite; pn: pins that every state bears; xe: what is wanted of an exception that leaves the code -/
structure Cx where
  prog : Program
  w : World
  K : PySem.W.Frag
  mg : Str → Option Value
  base : Heap
  A : Around
  N : List Str
  s₀ : Shared
  H₀ : Hp
  env : Env
  outer : List Env
  stack : List Env
  ex : List Addr
  fn : Str → Bool
  calm : Bool
  pn : List (Addr × Obj)
  xe : Value → Shared → Prop
/-- the callers' frames -/
def frs (l : List Env) : List Addr := l.filterMap (·.frame)
abbrev Cx.fs (X : Cx) : List Addr := frs X.outer

def Vis (sc : Scope) (x : Str) : Prop := sc.names.lookup x = some .local ∨ sc.names.lookup x = some .cell ∨ sc.names.lookup x = some .free
def Loc (sc : Scope) (x : Str) : Prop := sc.names.lookup x = some .local ∨ sc.names.lookup x = some .cell
def Look (env : Env) (h : Heap) (m : Str → Option Value) (x : Str) (u : Value) : Prop :=
  (env.kindOf x = some .local ∧ m x = some u) ∨ ((env.kindOf x = some .cell ∨ env.kindOf x = some .free) ∧ ∃ c, env.cells.lookup x = some c ∧ h.IsCell c (some u))

structure Cx.Ok (X : Cx) : Prop where
  mod : Mod X.K X.mg X.base
  kind : X.env.scope.kind = .function
  glob : X.env.globals = mainGlobals
  blt : X.env.builtins = builtinsNs
  above : X.s₀.heap.objs.size ≤ X.env.locals
  inj : ∀ x y c, X.env.cells.lookup x = some c → X.env.cells.lookup y = some c → x = y
  has : ∀ x, (X.env.kindOf x = some .cell ∨ X.env.kindOf x = some .free) → ∃ c, X.env.cells.lookup x = some c
  cab : ∀ x c, X.fn x = true → X.env.cells.lookup x = some c → X.s₀.heap.objs.size ≤ c
  hd : X.calm = true → X.A.handled = none
  frames : X.A.frames = some X.stack
  stk : X.stack = X.outer ∨ (X.stack = X.env :: X.outer ∧ X.env.frame = some X.env.locals)
  exf : ∀ b ∈ X.ex, b ≠ X.env.locals ∧ ∀ x c, X.env.cells.lookup x = some c → c ≠ b
  bs : ∀ b o, X.base.get? b = some o → X.s₀.heap.get? b = some o ∧ X.H₀ b = none
  bsz : X.base.objs.size ≤ X.s₀.heap.objs.size
  noex : ∀ b o, X.base.get? b = some o → b ∉ X.ex
  exfs : ∀ b ∈ X.ex, b ∉ X.fs
  funs : X.s₀.heap.FunFrames X.base X.outer
  frf : ∀ b ∈ X.fs, X.H₀ b = none

structure Inv (X : Cx) (pins : List (Addr × Obj)) (σ : List (Option V)) (H : Hp) (s : Shared) : Prop where
  ok : X.Ok
  os : s.os = X.s₀.os
  bare : AllBare s.gens
  base : Un X.fs X.ex X.H₀ H X.s₀.heap s.heap
  loc : ∃ m, s.heap.Ns X.env.locals m ∧ ∀ (i : Nat) (x : Str) (v : V), X.N[i]? = some x → σ[i]? = some (some v) → Vis X.env.scope x → ∃ u, RelV v u ∧ Look X.env s.heap m x u
  cell : ∀ x c, X.env.cells.lookup x = some c → ∃ v, s.heap.IsCell c v
  free : H X.env.locals = none
  freeC : ∀ x c, X.env.cells.lookup x = some c → H c = none
  pin : ∀ p ∈ X.pn ++ pins, s.heap.get? p.1 = some p.2 ∧ H p.1 = none ∧ p.1 ≠ X.env.locals ∧ p.1 ∉ X.fs ∧ ∀ v, p.2.data ≠ .cell v
  hok : HOk X.prog X.w H s.heap
  len : σ.length = X.N.length

section
variable {X : Cx} {pins : List (Addr × Obj)} {σ : List (Option V)} {H H' : Hp} {s : Shared} {h' : Heap}

theorem Cx.Ok.nofr (ok : X.Ok) {b : Addr} {o : Obj} (e : X.base.get? b = some o) : b ∉ X.fs := fun hb => by
  have := (ok.funs.mem hb).1
  rw [e] at this; cases this
theorem Inv.bs (I : Inv X pins σ H s) : ∀ b o, X.base.get? b = some o → s.heap.get? b = some o ∧ H b = none := fun b o e =>
  ⟨I.base.keep b o (I.ok.bs b o e).1 (I.ok.bs b o e).2 (I.ok.nofr e) (I.ok.noex b o e), I.base.free b o (I.ok.bs b o e).1 (I.ok.bs b o e).2 (I.ok.noex b o e)⟩
theorem Inv.bk (I : Inv X pins σ H s) : ∀ b o, X.base.get? b = some o → s.heap.get? b = some o := fun b o e => (I.bs b o e).1
theorem Inv.mod (I : Inv X pins σ H s) : Mod X.K X.mg X.base := I.ok.mod
theorem Inv.kIn (I : Inv X pins σ H s) : X.K.In s.heap := I.ok.mod.kin.keeps I.bk
theorem Inv.nolimit (I : Inv X pins σ H s) : s.heap.NoLimit := I.ok.mod.nolimit.keeps I.bk
/-- the frame over the base: for OpenK's rules (K.In X.base is I.mod.kin) -/
theorem Inv.fr (I : Inv X pins σ H s) : ∃ m, Fr X.base X.env.locals s.heap m :=
  let ⟨m, hn, _⟩ := I.loc
  ⟨m, hn, I.bk, Nat.le_trans I.ok.bsz I.ok.above⟩
theorem Inv.lt (I : Inv X pins σ H s) : X.env.locals < s.heap.objs.size := let ⟨_, hn, _⟩ := I.loc; hn.lt
theorem Inv.sz (I : Inv X pins σ H s) : X.s₀.heap.objs.size ≤ s.heap.objs.size := Nat.le_trans I.ok.above (Nat.le_of_lt I.lt)
theorem Inv.nofs (I : Inv X pins σ H s) {a : Addr} (h : s.heap.objs.size ≤ a) : a ∉ X.fs := fun hb => by
  obtain ⟨_, o, ho, _⟩ := I.ok.funs.mem hb
  exact absurd (Nat.lt_of_lt_of_le (Heap.lt_size ho) (Nat.le_trans I.sz h)) (Nat.lt_irrefl _)
theorem Inv.cne (I : Inv X pins σ H s) : ∀ x c, X.env.cells.lookup x = some c → c ≠ X.env.locals := fun x c e z => by
  obtain ⟨v, o, ho, hd⟩ := I.cell x c e
  obtain ⟨m, ⟨o', es, ep, ho', hd', _⟩, _⟩ := I.loc
  rw [z, ho'] at ho; cases ho; rw [hd'] at hd; cases hd
theorem Inv.funs (I : Inv X pins σ H s) : s.heap.FunFrames X.base X.outer := by
  have all : ∀ (l : List Env), (∀ b ∈ frs l, b ∈ X.fs) → X.s₀.heap.FunFrames X.base l → s.heap.FunFrames X.base l := by
    intro l
    induction l with
    | nil => intro _ _; trivial
    | cons env r ih =>
      intro hs hl
      obtain ⟨hk, ⟨L, o, hf, hn, ho, hd⟩, hr⟩ := hl
      have hL : L ∈ X.fs := hs L (by unfold frs; rw [List.filterMap_cons, hf]; exact List.mem_cons_self)
      obtain ⟨sl, e⟩ := I.base.slot L o ho (I.ok.frf L hL) hL fun z => I.ok.exfs L z hL
      exact ⟨hk, ⟨L, _, hf, hn, e, hd⟩, ih (fun b hb => hs b (by unfold frs; rw [List.filterMap_cons, hf]; exact List.mem_cons_of_mem _ hb)) hr⟩
  exact all X.outer (fun _ hb => hb) I.ok.funs

/-- the frames that run, for a call -/
theorem Inv.stack (I : Inv X pins σ H s) : s.heap.FunFrames X.base X.stack := by
  rcases I.ok.stk with e | ⟨e, hf⟩
  · rw [e]; exact I.funs
  · rw [e]
    obtain ⟨m, hn, _⟩ := I.loc
    refine .cons (by rw [I.ok.kind]; decide) hf hn ?_ I.funs
    exact Heap.get?_none_of_le (Nat.le_trans I.ok.bsz I.ok.above)
theorem Inv.stkSub (I : Inv X pins σ H s) : ∀ b ∈ frs X.stack, b ∈ X.env.locals :: X.fs := fun b hb => by
  rcases I.ok.stk with e | ⟨e, hf⟩
  · rw [e] at hb; exact List.mem_cons_of_mem _ hb
  · rw [e] at hb
    unfold frs at hb
    rw [List.filterMap_cons, hf] at hb
    exact hb
theorem Inv.stkFree (I : Inv X pins σ H s) : ∀ b ∈ frs X.stack, H b = none := fun b hb => by
  rcases List.mem_cons.mp (I.stkSub b hb) with e | hb
  · rw [e]; exact I.free
  · obtain ⟨_, o, ho, _⟩ := I.ok.funs.mem hb
    exact I.base.free b o ho (I.ok.frf b hb) fun z => I.ok.exfs b z hb

/-- THE STEP: the untracked objects but the frame and the records at ch are kept (the callers' frames up to slots), the frame's map is kept, the new abstract heap is held -/
theorem Inv.step {g' : Array GenState} {t' : Nat} {d' : Drawn} {ch : List Addr} (I : Inv X pins σ H s)
    (hch : ∀ b ∈ ch, (b ∈ X.ex ∨ X.s₀.heap.objs.size ≤ b) ∧ b ≠ X.env.locals ∧ (∀ x c, X.env.cells.lookup x = some c → c ≠ b) ∧ ∀ p ∈ X.pn ++ pins, p.1 ≠ b)
    (keep : ∀ b o, b ≠ X.env.locals → b ∉ X.fs → b ∉ ch → s.heap.get? b = some o → H b = none → h'.get? b = some o)
    (slot : ∀ b o, b ≠ X.env.locals → b ∈ X.fs → b ∉ ch → s.heap.get? b = some o → H b = none → ∃ sl, h'.get? b = some { o with slots := sl }) (free : ∀ b o, b ∉ ch → s.heap.get? b = some o → H b = none → H' b = none)
    (there : ∀ b o, b ∉ ch → s.heap.get? b = some o → ∃ o', h'.get? b = some o')
    (tups : ∀ b xs, H b = some (.tup xs) → H' b = some (.tup xs)) (frzs : ∀ b o u, H b = some (.frz o u) → H' b = some (.frz o u)) (tbls : ∀ b ps, H b = some (.tbl ps) → ∃ more, H' b = some (.tbl (ps ++ more)))
    (ns : ∀ m, s.heap.Ns X.env.locals m → h'.Ns X.env.locals m) (hok : HOk X.prog X.w H' h') (hg : AllBare g') :
    Inv X pins σ H' { s with heap := h', gens := g', drawn := d', toks := t' } := by
  have neL : ∀ b o, X.s₀.heap.get? b = some o → b ≠ X.env.locals := fun b o e => Nat.ne_of_lt (Nat.lt_of_lt_of_le (Heap.lt_size e) I.ok.above)
  have neC : ∀ b o, X.s₀.heap.get? b = some o → b ∉ X.ex → b ∉ ch := fun b o e hx hb => by
    rcases (hch b hb).1 with z | z
    · exact hx z
    · exact absurd (Nat.lt_of_lt_of_le (Heap.lt_size e) z) (Nat.lt_irrefl _)
  have cellK : ∀ x c, X.env.cells.lookup x = some c → ∀ v, s.heap.IsCell c v → h'.IsCell c v := fun x c e v ⟨o, ho, hd⟩ => by
    have nch : c ∉ ch := fun z => (hch c z).2.2.1 x c e rfl
    by_cases hc : c ∈ X.fs
    · obtain ⟨sl, q⟩ := slot c o (I.cne x c e) hc nch ho (I.freeC x c e)
      exact ⟨_, q, hd⟩
    · exact ⟨o, keep c o (I.cne x c e) hc nch ho (I.freeC x c e), hd⟩
  refine ⟨I.ok, I.os, hg, ⟨fun b o e n hb hx => ?_, fun b o e n hb hx => ?_, fun b o e n hx => ?_, fun b o e hx => ?_, fun b xs e => tups b xs (I.base.tups b xs e), fun b o xs e => frzs b o xs (I.base.frzs b o xs e), fun b ps e => ?_⟩, ?_, fun x c e => ?_, ?_, fun x c e => ?_, fun p hp => ?_, hok, I.len⟩
  · exact keep b o (neL b o e) hb (neC b o e hx) (I.base.keep b o e n hb hx) (I.base.free b o e n hx)
  · obtain ⟨sl, e1⟩ := I.base.slot b o e n hb hx
    obtain ⟨sl', e2⟩ := slot b _ (neL b o e) hb (neC b o e hx) e1 (I.base.free b o e n hx)
    exact ⟨sl', e2⟩
  · obtain ⟨o', e1⟩ := I.base.there b o e hx
    exact free b o' (neC b o e hx) e1 (I.base.free b o e n hx)
  · obtain ⟨o', e1⟩ := I.base.there b o e hx
    exact there b o' (neC b o e hx) e1
  · obtain ⟨m1, e1⟩ := I.base.tbls b ps e
    obtain ⟨m2, e2⟩ := tbls b _ e1
    exact ⟨m1 ++ m2, by rw [e2, Array.append_assoc]⟩
  · obtain ⟨m, hn, hl⟩ := I.loc
    refine ⟨m, ns m hn, fun i x v e1 e2 e3 => ?_⟩
    obtain ⟨u, r, l⟩ := hl i x v e1 e2 e3
    refine ⟨u, r, ?_⟩
    rcases l with l | ⟨k, c, e, z⟩
    · exact .inl l
    · exact .inr ⟨k, c, e, cellK x c e _ z⟩
  · obtain ⟨v, z⟩ := I.cell x c e
    exact ⟨v, cellK x c e v z⟩
  · obtain ⟨m, ⟨o, _, _, ho, _⟩, _⟩ := I.loc
    exact free _ o (fun z => (hch _ z).2.1 rfl) ho I.free
  · obtain ⟨v, o, ho, hd⟩ := I.cell x c e
    exact free c o (fun z => (hch c z).2.2.1 x c e rfl) ho (I.freeC x c e)
  · obtain ⟨e, n, ne, nf, d⟩ := I.pin p hp
    have nch : p.1 ∉ ch := fun z => (hch p.1 z).2.2.2 p hp rfl
    exact ⟨keep p.1 p.2 ne nf nch e n, free p.1 p.2 nch e n, ne, nf, d⟩
/-- .. where the frame's own object is kept too -/
theorem Inv.un {t' : Nat} (I : Inv X pins σ H s) (u : Un X.fs [] H H' s.heap h') (hok : HOk X.prog X.w H' h') : Inv X pins σ H' { s with heap := h', toks := t' } := by
  obtain ⟨m, ⟨o, es, ep, ho, r⟩, _⟩ := id I.loc
  obtain ⟨sl, hL⟩ := u.any ho I.free (by simp)
  exact I.step (g' := s.gens) (d' := s.drawn) (ch := []) (fun _ z => nomatch z) (fun b o _ hb _ e n => u.keep b o e n hb (by simp)) (fun b o _ hb _ e n => u.slot b o e n hb (by simp)) (fun b o _ e n => u.free b o e n (by simp)) (fun b o _ e => u.there b o e (by simp)) u.tups u.frzs u.tbls (fun m' hm => by
    obtain ⟨o', es', ep', ho', r'⟩ := hm
    rw [ho] at ho'; cases ho'
    exact ⟨_, es', ep', hL, r'⟩) hok I.bare
/-- behind a call (or a comprehension's block): the slots of this frame may have changed too, the records at ch may have turned -/
theorem Inv.call {g' : Array GenState} {t' : Nat} {d' : Drawn} {ch : List Addr} (I : Inv X pins σ H s) (u : Un (frs X.stack) ch H H' s.heap h') (hok : HOk X.prog X.w H' h') (hg : AllBare g')
    (hch : ∀ b ∈ ch, (b ∈ X.ex ∨ X.s₀.heap.objs.size ≤ b) ∧ b ≠ X.env.locals ∧ (∀ x c, X.env.cells.lookup x = some c → c ≠ b) ∧ ∀ p ∈ X.pn ++ pins, p.1 ≠ b) :
    Inv X pins σ H' { s with heap := h', gens := g', drawn := d', toks := t' } := by
  obtain ⟨m, ⟨o, es, ep, ho, r⟩, _⟩ := id I.loc
  obtain ⟨sl, hL⟩ := u.any ho I.free fun z => (hch _ z).2.1 rfl
  exact I.step (ch := ch) hch (fun b o hL hb hc e n => u.keep b o e n (fun z => (List.mem_cons.mp (I.stkSub b z)).elim hL hb) hc) (fun b o _ _ hc e n => u.any e n hc) (fun b o hc e n => u.free b o e n hc) (fun b o hc e => u.there b o e hc) u.tups u.frzs u.tbls (fun m' hm => by
    obtain ⟨o', es', ep', ho', r'⟩ := hm
    rw [ho] at ho'; cases ho'
    exact ⟨_, es', ep', hL, r'⟩) hok hg
/-- an untracked record of ours (an iterator) has turned -/
theorem Inv.turned {t' : Nat} {it : Addr} (I : Inv X pins σ H s) (k : ∀ b o, b ≠ it → s.heap.get? b = some o → h'.get? b = some o) (hn : H it = none) (hL : it ≠ X.env.locals)
    (h1 : it ∈ X.ex ∨ X.s₀.heap.objs.size ≤ it) (h2 : ∀ x c, X.env.cells.lookup x = some c → c ≠ it) (h3 : ∀ p ∈ X.pn ++ pins, p.1 ≠ it) : Inv X pins σ H { s with heap := h', toks := t' } := by
  have nit : ∀ b u, H b = some u → b ≠ it := fun b u e z => by rw [z, hn] at e; cases e
  refine I.step (g' := s.gens) (d' := s.drawn) (ch := [it]) (fun b hb => ?_) (fun b o _ _ hc e _ => k b o (fun z => hc (by simp [z])) e) (fun b o _ _ hc e _ => ⟨o.slots, k b o (fun z => hc (by simp [z])) e⟩) (fun _ _ _ _ n => n)
    (fun b o hc e => ⟨o, k b o (fun z => hc (by simp [z])) e⟩) (fun _ _ e => e) (fun _ _ _ e => e) (fun b ps e => ⟨#[], by rw [e]; simp⟩) (fun m hm => ?_) (fun b u e => ?_) I.bare
  · have e : b = it := by simpa using hb
    subst e
    exact ⟨h1, hL, h2, h3⟩
  · obtain ⟨o, es, ep, ho, r⟩ := hm
    exact ⟨o, es, ep, k _ o (Ne.symm hL) ho, r⟩
  · refine (I.hok b u e).stay (fun c v hc q => k c v ?_ q) (fun _ q => q) fun _ _ q => q
    rcases hc with z | z
    · rw [z]; exact nit b u e
    · exact nit c _ z
theorem Inv.tok (I : Inv X pins σ H s) (t : Nat) : Inv X pins σ H { s with toks := t } := I.un (h' := s.heap) (t' := t) Un.refl I.hok
/-- all objects kept -/
theorem Inv.kept {t' : Nat} (I : Inv X pins σ H s) (k : ∀ b u, s.heap.get? b = some u → h'.get? b = some u) : Inv X pins σ H { s with heap := h', toks := t' } := I.un (Un.kept k) (I.hok.kept k)
/-- a new object laid and tracked -/
theorem Inv.laid {a : Addr} {o : HO} {t' : Nat} (I : Inv X pins σ H s) (k : ∀ b u, s.heap.get? b = some u → h'.get? b = some u) (hp : s.heap.objs.size ≤ a) (new : ObjOk X.prog X.w (upd H a o) h' a o) :
    Inv X pins σ (upd H a o) { s with heap := h', toks := t' } := I.un (Un.laid k hp (I.hok.fresh hp)) (I.hok.laid k hp new)
/-- an object written -/
theorem Inv.write {x e : Addr} {o : HO} {t' : Nat} (I : Inv X pins σ H s) (mu : Mut (H x)) (he : e = x ∨ H e = some (.own x)) (k : ∀ b u, b ≠ e → s.heap.get? b = some u → h'.get? b = some u) (heo : ∃ u, h'.get? e = some u)
    (new : ObjOk X.prog X.w (upd H x o) h' x o) : Inv X pins σ (upd H x o) { s with heap := h', toks := t' } := I.un (Un.write mu he k heo) (I.hok.write mu he k heo new)
/-- forgetting slots, pins -/
theorem Inv.weak {σ' : List (Option V)} (I : Inv X pins σ H s) (hl : σ'.length = σ.length) (w : ∀ (i : Nat) v, σ'[i]? = some (some v) → σ[i]? = some (some v)) : Inv X pins σ' H s :=
  ⟨I.ok, I.os, I.bare, I.base, let ⟨m, hn, hl'⟩ := I.loc; ⟨m, hn, fun i x v e1 e2 e3 => hl' i x v e1 (w i v e2) e3⟩, I.cell, I.free, I.freeC, I.pin, I.hok, hl.trans I.len⟩
theorem Inv.pins_of {pins' : List (Addr × Obj)} (I : Inv X pins σ H s) (h : ∀ p ∈ pins', s.heap.get? p.1 = some p.2 ∧ H p.1 = none ∧ p.1 ≠ X.env.locals ∧ p.1 ∉ X.fs ∧ ∀ v, p.2.data ≠ .cell v) : Inv X pins' σ H s :=
  ⟨I.ok, I.os, I.bare, I.base, I.loc, I.cell, I.free, I.freeC, fun p hp => (List.mem_append.mp hp).elim (fun z => I.pin p (List.mem_append_left _ z)) (h p), I.hok, I.len⟩

theorem nodup_ix {N : List Str} (hN : N.Nodup) {i j : Nat} {x : Str} (a : N[i]? = some x) (b : N[j]? = some x) : i = j := by
  obtain ⟨h1, e1⟩ := List.getElem?_eq_some_iff.mp a
  obtain ⟨h2, e2⟩ := List.getElem?_eq_some_iff.mp b
  exact (List.getElem_inj hN).mp (e1.trans e2.symm)

/-- a name is stored; what changed -/
theorem store_ok2 {M : Model} {A : Around} {E : Value → Shared → Prop} {i : Nat} {x : Str} {v : V} {u : Value} {Q : Unit → Shared → Prop} (I : Inv X pins σ H s) (hN : X.N.Nodup) (hi : X.N[i]? = some x) (hx : Loc X.env.scope x) (r : RelV v u)
    (h : ∀ s', Inv X pins (σ.set i (some v)) H s' → (∃ a, Heap.SameBut a s.heap s'.heap ∧ (a = X.env.locals ∨ X.env.cells.lookup x = some a)) → Q () s') (hf : X.fn x = true ∨ X.env.scope.names.lookup x = some .local := by first | exact .inl rfl | exact .inr rfl | assumption) : wpAny M A (storeName X.env x u) Q E s := by
  obtain ⟨m, hn, hl⟩ := id I.loc
  have hcls : (X.env.scope.kind == .class || (X.env.scope.kind == .module && X.env.locals != X.env.globals)) = false := by rw [I.ok.kind]; rfl
  have hiσ : i < σ.length := by rw [I.len]; exact (List.getElem?_eq_some_iff.mp hi).1
  have cne := I.cne
  have tracked : ∀ {a : Addr} {h' : Heap}, (∃ o, s.heap.get? a = some o ∧ H a = none) → Heap.SameBut a s.heap h' → HOk X.prog X.w H h' := fun {a h'} ha hs b ob e => by
    obtain ⟨_, _, hfree⟩ := ha
    refine (I.hok b ob e).stay (fun c w' hc q => (hs.2 c ?_).trans q) (fun _ q => q) fun _ _ q => q
    rintro rfl
    rcases hc with rfl | hc
    · rw [hfree] at e; cases e
    · rw [hfree] at hc; cases hc
  rcases hx with hk | hk
  · refine wpAny_storeName_local hk hn (fun h' hn' hs => ?_) hcls
    obtain ⟨oL, _, _, hoL, _⟩ := id hn
    refine h _ ⟨I.ok, I.os, I.bare, ⟨fun b o e n hb hx => ?_, fun b o e n hb hx => ?_, I.base.free, fun b o e hx => ?_, I.base.tups, I.base.frzs, I.base.tbls⟩, ⟨_, hn', fun j y v' e1 e2 e3 => ?_⟩, fun y c e => ?_, I.free, I.freeC, fun p hp => ?_, tracked ⟨oL, hoL, I.free⟩ hs, by simpa using I.len⟩ ⟨_, hs, .inl rfl⟩
    · exact (hs.2 b (Nat.ne_of_lt (Nat.lt_of_lt_of_le (Heap.lt_size e) I.ok.above))).trans (I.base.keep b o e n hb hx)
    · obtain ⟨sl, e1⟩ := I.base.slot b o e n hb hx
      exact ⟨sl, (hs.2 b (Nat.ne_of_lt (Nat.lt_of_lt_of_le (Heap.lt_size e) I.ok.above))).trans e1⟩
    · obtain ⟨o', e1⟩ := I.base.there b o e hx
      exact ⟨o', (hs.2 b (Nat.ne_of_lt (Nat.lt_of_lt_of_le (Heap.lt_size e) I.ok.above))).trans e1⟩
    · by_cases hj : j = i
      · subst hj
        rw [hi] at e1; cases e1
        rw [List.getElem?_set_self hiσ] at e2
        cases e2
        exact ⟨u, r, .inl ⟨hk, by simp⟩⟩
      · rw [List.getElem?_set_ne (Ne.symm hj)] at e2
        obtain ⟨u', r', q⟩ := hl j y v' e1 e2 e3
        refine ⟨u', r', ?_⟩
        rcases q with ⟨k, e⟩ | ⟨k, c, e, z⟩
        · refine .inl ⟨k, ?_⟩
          have : y ≠ x := fun e => hj (nodup_ix hN e1 (e ▸ hi))
          simp [this, e]
        · exact .inr ⟨k, c, e, z.sameBut hs (cne y c e)⟩
    · obtain ⟨w', z⟩ := I.cell y c e
      exact ⟨w', z.sameBut hs (cne y c e)⟩
    · obtain ⟨e, n, ne, nf, d⟩ := I.pin p hp
      exact ⟨(hs.2 p.1 ne).trans e, n, ne, nf, d⟩
  · have hfn : X.fn x = true := by
      rcases hf with z | z
      · exact z
      · rw [z] at hk; cases hk
    obtain ⟨c, hc⟩ := I.ok.has x (.inl hk)
    obtain ⟨w', z⟩ := I.cell x c hc
    refine wpAny_storeName_cell I.ok.kind hk hc z (fun h' hc' hs => ?_)
    obtain ⟨oc, hoc, hocd⟩ := id z
    refine h { s with heap := h' } ⟨I.ok, I.os, I.bare, ⟨fun b o e n hb hx => ?_, fun b o e n hb hx => ?_, I.base.free, fun b o e hx => ?_, I.base.tups, I.base.frzs, I.base.tbls⟩, ⟨m, hn.sameBut hs (Ne.symm (cne x c hc)), fun j y v' e1 e2 e3 => ?_⟩, fun y c' e => ?_, I.free, I.freeC, fun p hp => ?_, tracked ⟨oc, hoc, I.freeC x c hc⟩ hs, by simpa using I.len⟩ ⟨c, hs, .inr hc⟩
    · exact (hs.2 b (Nat.ne_of_lt (Nat.lt_of_lt_of_le (Heap.lt_size e) (I.ok.cab x c hfn hc)))).trans (I.base.keep b o e n hb hx)
    · obtain ⟨sl, e1⟩ := I.base.slot b o e n hb hx
      exact ⟨sl, (hs.2 b (Nat.ne_of_lt (Nat.lt_of_lt_of_le (Heap.lt_size e) (I.ok.cab x c hfn hc)))).trans e1⟩
    · obtain ⟨o', e1⟩ := I.base.there b o e hx
      exact ⟨o', (hs.2 b (Nat.ne_of_lt (Nat.lt_of_lt_of_le (Heap.lt_size e) (I.ok.cab x c hfn hc)))).trans e1⟩
    · by_cases hj : j = i
      · subst hj
        rw [hi] at e1; cases e1
        rw [List.getElem?_set_self hiσ] at e2
        cases e2
        exact ⟨u, r, .inr ⟨.inl hk, c, hc, hc'⟩⟩
      · rw [List.getElem?_set_ne (Ne.symm hj)] at e2
        obtain ⟨u', r', q⟩ := hl j y v' e1 e2 e3
        refine ⟨u', r', ?_⟩
        rcases q with q | ⟨k, c', e, z'⟩
        · exact .inl q
        · refine .inr ⟨k, c', e, z'.sameBut hs ?_⟩
          rintro rfl
          exact hj (nodup_ix hN e1 (I.ok.inj _ _ _ e hc ▸ hi))
    · by_cases hcc : c' = c
      · subst hcc; exact ⟨_, hc'⟩
      · obtain ⟨w2, z2⟩ := I.cell y c' e
        exact ⟨w2, z2.sameBut hs hcc⟩
    · obtain ⟨e, n, ne, nf, d⟩ := I.pin p hp
      refine ⟨(hs.2 p.1 ?_).trans e, n, ne, nf, d⟩
      intro q
      rw [q, hoc] at e
      have q' : oc = p.2 := Option.some.inj e
      exact d w' (by rw [← q']; exact hocd)
theorem store_ok {M : Model} {A : Around} {E : Value → Shared → Prop} {i : Nat} {x : Str} {v : V} {u : Value} {Q : Unit → Shared → Prop} (I : Inv X pins σ H s) (hN : X.N.Nodup) (hi : X.N[i]? = some x) (hx : Loc X.env.scope x) (r : RelV v u)
    (h : ∀ s', Inv X pins (σ.set i (some v)) H s' → Q () s') (hf : X.fn x = true ∨ X.env.scope.names.lookup x = some .local := by first | exact .inl rfl | exact .inr rfl | assumption) : wpAny M A (storeName X.env x u) Q E s :=
  store_ok2 I hN hi hx r (fun s' I' _ => h s' I') hf
/-- behind a call or a block, the state as it is -/
theorem Inv.call' {s' : Shared} {ch : List Addr} (I : Inv X pins σ H s) (ho : s'.os = s.os) (u : Un (frs X.stack) ch H H' s.heap s'.heap) (hok : HOk X.prog X.w H' s'.heap) (hg : AllBare s'.gens)
    (hch : ∀ b ∈ ch, (b ∈ X.ex ∨ X.s₀.heap.objs.size ≤ b) ∧ b ≠ X.env.locals ∧ (∀ x c, X.env.cells.lookup x = some c → c ≠ b) ∧ ∀ p ∈ X.pn ++ pins, p.1 ≠ b) : Inv X pins σ H' s' := by
  obtain ⟨h', g', d', t', o'⟩ := s'
  have e : o' = s.os := ho
  subst e
  exact I.call (g' := g') (t' := t') (d' := d') u hok hg hch
end

/-! ### the judgements -/
/-- an exception: its class, its own dict's address (where it has one), the abstract heap behind it -/
abbrev XK := Value → Option Addr → Hp → Prop
abbrev St := List (Option V)
abbrev VK := V → Hp → Prop
/-- an expression's reading; a test's; an argument list's -/
abbrev TE := St → Hp → VK → Prop
abbrev TT := St → Hp → (Bool → Hp → Prop) → Prop
abbrev TA := St → Hp → (List V → Hp → Prop) → Prop
/-- what is wanted behind a statement -/
structure Ends where
  nx : St → Hp → Prop
  rt : VK
  bk : St → Hp → Prop := fun _ _ => False
  ct : St → Hp → Prop := fun _ _ => False
abbrev TS := Ends → St → Hp → Prop

def EP (X : Cx) (pins : List (Addr × Obj)) (σ : St) (Q : VK) (u : Value) (s' : Shared) : Prop := ∃ v H', Inv X pins σ H' s' ∧ RelV v u ∧ Q v H'
def TP (X : Cx) (pins : List (Addr × Obj)) (σ : St) (Q : Bool → Hp → Prop) (b : Bool) (s' : Shared) : Prop := ∃ H', Inv X pins σ H' s' ∧ Q b H'
def AP (X : Cx) (pins : List (Addr × Obj)) (σ : St) (Q : List V → Hp → Prop) (us : List Value) (s' : Shared) : Prop := ∃ vs H', Inv X pins σ H' s' ∧ Vals vs us ∧ Q vs H'
def SP (X : Cx) (pins : List (Addr × Obj)) (D : Ends) (f : Flow) (s' : Shared) : Prop :=
  match f with
  | .next => ∃ σ' H', Inv X pins σ' H' s' ∧ D.nx σ' H'
  | .brk => ∃ σ' H', Inv X pins σ' H' s' ∧ D.bk σ' H'
  | .cont => ∃ σ' H', Inv X pins σ' H' s' ∧ D.ct σ' H'
  | .ret u => ∃ v σ' H', Inv X pins σ' H' s' ∧ RelV v u ∧ D.rt v H'

def PE (X : Cx) (e : Expr) (t : TE) : Prop :=
  ∀ (pins : List (Addr × Obj)) (s : Shared) (σ : St) (H : Hp) (Q : VK), Inv X pins σ H s → t σ H Q → wpAny (model X.prog X.w) X.A (eval e X.env) (EP X pins σ Q) X.xe s
def PT (X : Cx) (e : Expr) (t : TT) : Prop :=
  ∀ (pins : List (Addr × Obj)) (s : Shared) (σ : St) (H : Hp) (Q : Bool → Hp → Prop), Inv X pins σ H s → t σ H Q → wpAny (model X.prog X.w) X.A (isTrue e X.env (eval e X.env)) (TP X pins σ Q) X.xe s
/-- a test whatever its 'whole' is (and, or) -/
def PW (X : Cx) (e : Expr) (t : TT) : Prop :=
  ∀ (whole : Sem Value) (pins : List (Addr × Obj)) (s : Shared) (σ : St) (H : Hp) (Q : Bool → Hp → Prop), Inv X pins σ H s → t σ H Q → wpAny (model X.prog X.w) X.A (isTrue e X.env whole) (TP X pins σ Q) X.xe s
theorem PW.pt {X : Cx} {e : Expr} {t : TT} (h : PW X e t) : PT X e t := h _
/-- an argument list (no star), from the left -/
def PA (X : Cx) (es : List Expr) (t : TA) : Prop :=
  ∀ (pos : Pos) (pins : List (Addr × Obj)) (s : Shared) (σ : St) (H : Hp) (Q : List V → Hp → Prop), Inv X pins σ H s → t σ H Q → wpAny (model X.prog X.w) X.A (spliced (backTo pos (starEach es X.env))) (AP X pins σ Q) X.xe s
def PS (X : Cx) (st : Stmt) (t : TS) : Prop :=
  ∀ (pins : List (Addr × Obj)) (s : Shared) (σ : St) (H : Hp) (D : Ends), Inv X pins σ H s → t D σ H → wpAny (model X.prog X.w) X.A (exec st X.env) (SP X pins D) X.xe s
def PSs (X : Cx) (st : List Stmt) (t : TS) : Prop :=
  ∀ (pins : List (Addr × Obj)) (s : Shared) (σ : St) (H : Hp) (D : Ends), Inv X pins σ H s → t D σ H → wpAny (model X.prog X.w) X.A (execs st X.env) (SP X pins D) X.xe s
/-- weaken the end -/
theorem thn {α : Type} {t : Sem α} {Q Q' : α → Shared → Prop} {M : Model} {A : Around} {E : Value → Shared → Prop} {s : Shared} (h : wpAny M A t Q E s) (hQ : ∀ a s, Q a s → Q' a s) : wpAny M A t Q' E s := wpAny_mono h hQ fun _ _ x => x
end L2

namespace L2
open PySem PySem.Spec PyProof.Rows
section
variable {X : Cx}

/-! ### names and constants -/
def tVar (i : Nat) : TE := fun σ H Q => ∃ v, σ[i]? = some (some v) ∧ Q v H
def tC (v : V) : TE := fun _ H Q => Q v H
theorem pe_var {i : Nat} {x : Str} {pos : Pos} (hN : X.N[i]? = some x) (hv : Vis X.env.scope x) (hd : (x == ("__debug__" : Str)) = false := by decide) (hcd : (x == ("__classdict__" : Str)) = false := by decide) : PE X (.Name x pos) (tVar i) := by
  intro pins s σ H Q I h
  obtain ⟨v, e, h⟩ := h
  obtain ⟨m, hn, hl⟩ := I.loc
  obtain ⟨u, r, l⟩ := hl i x v hN e hv
  have fin : EP X pins σ Q u s := ⟨v, H, I, r, h⟩
  rcases l with ⟨hk, hm⟩ | ⟨hk, c, hc, hcell⟩
  · exact wpAny_Name (wpAny_loadName_local I.ok.kind hk hn hm fin) hd
  · rcases hk with hk | hk
    · exact wpAny_Name (wpAny_loadName_cell I.ok.kind hk hc hcell fin) hd
    · exact wpAny_Name (wpAny_loadName_free I.ok.kind hk hc hcell fin hcd) hd
theorem pe_int {i j pos} : PE X (.Constant (.int i) j pos) (tC (.int i)) := fun _ _ _ H _ I h => wpAny_Constant_int ⟨.int i, H, I.tok _, ⟨_, rfl⟩, h⟩
theorem pe_bl {b j pos} : PE X (.Constant (.bool b) j pos) (tC (.bl b)) := fun _ _ _ H _ I h => Constant_bool ⟨.bl b, H, I, rfl, h⟩
theorem pe_str {x j pos} : PE X (.Constant (.str x) j pos) (tC (.str x)) := fun _ _ _ H _ I h => Calls.Constant_str ⟨.str x, H, I.tok _, ⟨_, rfl⟩, h⟩

/-- a global name of the def -/
def Gl (X : Cx) (x : Str) : Prop := X.env.kindOf x = some .globalImplicit
theorem ld_glob {E : Value → Shared → Prop} {pins : List (Addr × Obj)} {s : Shared} {σ : St} {H : Hp} {x : Str} {u : Value} {pos : Pos} {Q : Value → Shared → Prop} (I : Inv X pins σ H s) (hg : Gl X x) (hm : X.mg x = some u) (h : Q u s)
    (hd : (x == ("__debug__" : Str)) = false := by decide) : wpAny (model X.prog X.w) X.A (eval (.Name x pos) X.env) Q E s :=
  Calls.Name_function_global I.ok.kind hg (Calls.loadGlobal_global (by rw [I.ok.glob]; exact I.mod.glob.keeps I.bk) hm h) hd
theorem ld_blt {E : Value → Shared → Prop} {pins : List (Addr × Obj)} {s : Shared} {σ : St} {H : Hp} {x : Str} {u : Value} {pos : Pos} {Q : Value → Shared → Prop} (I : Inv X pins σ H s) (hg : Gl X x) (hm : X.mg x = none) (hv : bootBuiltins x = some u) (h : Q u s)
    (hn : x ≠ "__name__" := by decide) (hd : (x == ("__debug__" : Str)) = false := by decide) : wpAny (model X.prog X.w) X.A (eval (.Name x pos) X.env) Q E s := by
  obtain ⟨mb, h1, h2⟩ := I.mod.blt
  exact Calls.Name_function_global I.ok.kind hg (Calls.loadGlobal_builtin (by rw [I.ok.glob]; exact I.mod.glob.keeps I.bk) hm (by rw [I.ok.blt]; exact h1.keeps I.bk) ((h2 x hn).trans hv) h) hd
/-- a module's constant, a class, a function, as a value -/
theorem pe_glob {x : Str} {v : V} {u : Value} {pos : Pos} (hg : Gl X x) (hm : X.mg x = some u) (r : RelV v u) (hd : (x == ("__debug__" : Str)) = false := by decide) : PE X (.Name x pos) (tC v) :=
  fun _ _ _ H _ I h => ld_glob I hg hm ⟨v, H, I, r, h⟩ hd
theorem pe_bltn {x : Str} {v : V} {u : Value} {pos : Pos} (hg : Gl X x) (hm : X.mg x = none) (hv : bootBuiltins x = some u) (r : RelV v u) (hn : x ≠ "__name__" := by decide) (hd : (x == ("__debug__" : Str)) = false := by decide) : PE X (.Name x pos) (tC v) :=
  fun _ _ _ H _ I h => ld_blt I hg hm hv ⟨v, H, I, r, h⟩ hn hd

/-! ### arithmetic -/
variable {a b : Expr} {ta tb : TE} {pos : Pos}
/-! ### comparisons -/
/-- a comparison as a value, as a test -/
def tB (t : TE) : TT := fun σ H Q => t σ H fun x H1 => ∃ c, x = .bl c ∧ Q c H1
/-- an expression whose value is a bool, as a test -/
theorem pt_val {e : Expr} {t : TE} (h : PE X e t) (he : ∀ whole, isTrue e X.env whole = (do let v ← whole; standAt e.pos; holding [v] (truthy v)) := by intro _; rfl) : PT X e (tB t) := by
  intro pins s σ H Q I hw
  refine isTrue_plain (thn (h pins s σ H _ I hw) fun v s1 ⟨x, H1, I1, r1, q1⟩ => ?_) (he _)
  obtain ⟨d, rfl, q⟩ := q1
  cases r1
  exact wpAny_truthy_bool ⟨H1, I1, q⟩

/-! ### and, or, not -/
variable {tA tB' : TT} {rest : List Expr}
def tAnd (t u : TT) : TT := fun σ H Q => t σ H fun c H1 => if c = true then u σ H1 Q else Q false H1
def tOr (t u : TT) : TT := fun σ H Q => t σ H fun c H1 => if c = true then Q true H1 else u σ H1 Q
def tNot (t : TT) : TT := fun σ H Q => t σ H fun c H1 => Q (!c) H1
theorem pw_and1 (ha : PT X a tA) : PW X (.BoolOp .And [a] pos) tA := by
  intro wh pins s σ H Q I h
  refine isTrue_and (thn (ha pins s σ H Q I h) fun c s1 e => ?_)
  cases c with
  | true => exact isTrue_and_nil e
  | false => exact e
theorem pw_or1 (ha : PT X a tA) : PW X (.BoolOp .Or [a] pos) tA := by
  intro wh pins s σ H Q I h
  refine isTrue_or (thn (ha pins s σ H Q I h) fun c s1 e => ?_)
  cases c with
  | false => exact isTrue_or_nil e
  | true => exact e
theorem pw_and (ha : PT X a tA) (hb : PW X (.BoolOp .And (b :: rest) pos) tB') : PW X (.BoolOp .And (a :: b :: rest) pos) (tAnd tA tB') := by
  intro wh pins s σ H Q I h
  refine isTrue_and (thn (ha pins s σ H _ I h) fun c s1 ⟨H1, I1, q1⟩ => ?_)
  cases c with
  | true => exact hb wh pins s1 σ H1 Q I1 q1
  | false => exact ⟨H1, I1, q1⟩
theorem pw_or (ha : PT X a tA) (hb : PW X (.BoolOp .Or (b :: rest) pos) tB') : PW X (.BoolOp .Or (a :: b :: rest) pos) (tOr tA tB') := by
  intro wh pins s σ H Q I h
  refine isTrue_or (thn (ha pins s σ H _ I h) fun c s1 ⟨H1, I1, q1⟩ => ?_)
  cases c with
  | true => exact ⟨H1, I1, q1⟩
  | false => exact hb wh pins s1 σ H1 Q I1 q1
theorem pt_not (ha : PT X a tA) : PT X (.UnaryOp .Not a pos) (tNot tA) := by
  intro pins s σ H Q I h
  exact isTrue_not (ha pins s σ H (fun c H1 => Q (!c) H1) I h)
/-- .. as values (bools) -/
def tAndV (ta tb : TE) : TE := fun σ H Q => ta σ H fun x H1 => ∃ c, x = .bl c ∧ if c = true then tb σ H1 Q else Q (.bl false) H1
def tNotV (ta : TE) : TE := fun σ H Q => ta σ H fun x H1 => ∃ c, x = .bl c ∧ Q (.bl (!c)) H1
theorem pe_one {op} {t : TE} (h : PE X a t) : PE X (.BoolOp op [a] pos) t := fun pins s σ H Q I hw => BoolOp_one (h pins s σ H Q I hw)
theorem pe_and (ha : PE X a ta) (hb : PE X (.BoolOp .And (b :: rest) pos) tb) : PE X (.BoolOp .And (a :: b :: rest) pos) (tAndV ta tb) := by
  intro pins s σ H Q I h
  refine BoolOp_and (thn (ha pins s σ H _ I h) fun v s1 ⟨x, H1, I1, r1, q1⟩ => ?_)
  obtain ⟨c, rfl, q1⟩ := q1
  cases r1
  refine wpAny_truthy_bool ?_
  cases c with
  | true => exact hb pins s1 σ H1 Q I1 q1
  | false => exact ⟨.bl false, H1, I1, rfl, q1⟩
theorem pe_not (ha : PE X a ta) : PE X (.UnaryOp .Not a pos) (tNotV ta) := by
  intro pins s σ H Q I h
  refine UnaryOp_ (thn (ha pins s σ H _ I h) fun v s1 ⟨x, H1, I1, r1, q1⟩ => ?_)
  obtain ⟨c, rfl, q1⟩ := q1
  cases r1
  exact not_of (wpAny_truthy_bool ⟨.bl (!c), H1, I1, rfl, q1⟩)
/-- a if t else b -/
def tIf (t : TT) (ta tb : TE) : TE := fun σ H Q => t σ H fun c H1 => if c = true then ta σ H1 Q else tb σ H1 Q
theorem pe_ifExp {c : Expr} (hc : PT X c tA) (ha : PE X a ta) (hb : PE X b tb) : PE X (.IfExp c a b pos) (tIf tA ta tb) := by
  intro pins s σ H Q I h
  refine wpAny_IfExp (thn (hc pins s σ H _ I h) fun d s1 ⟨H1, I1, q1⟩ => ?_)
  cases d with
  | true => exact ha pins s1 σ H1 Q I1 q1
  | false => exact hb pins s1 σ H1 Q I1 q1
end
end L2

namespace L2
open PySem PySem.Spec PyProof.Rows

/-! ### a list, a tuple that is read: tracked, frozen, or an object of the module -/
def SqL (K : PySem.W.Frag) (H : Hp) (a : Addr) (xs : List V) : Prop :=
  Rd H a (.lst xs) ∨
    ∃ (o : Obj) (its : Array Value) (n : Nat), K.lookup a = some o ∧ o.cls = .type "list" ∧ o.dict = none ∧ o.data = .seq its n ∧ its.size ≤ sizeLine ∧ Vals xs its.toList
def SqT (K : PySem.W.Frag) (H : Hp) (a : Addr) (xs : List V) : Prop :=
  Rd H a (.tup xs) ∨
    ∃ (o : Obj) (its : Array Value) (n : Nat), K.lookup a = some o ∧ o.cls = .type "tuple" ∧ o.data = .seq its n ∧ its.size ≤ sizeLine ∧ Vals xs its.toList
def absV : Value → Option V
  | .none => some .non
  | .bool b => some (.bl b)
  | .int i _ => some (.int i)
  | .str x _ => some (.str x)
  | .bytes b _ => some (.byt b)
  | .float b _ => some (.flt b)
  | .ref a => some (.ref a)
  | .type n => some (.ty n)
  | _ => none
theorem RelV.abs {x : V} {u : Value} (r : RelV x u) : absV u = some x := by
  cases x with
  | non => cases r; rfl
  | bl _ => cases r; rfl
  | int _ => obtain ⟨t, rfl⟩ := r; rfl
  | str _ => obtain ⟨t, rfl⟩ := r; rfl
  | byt _ => obtain ⟨t, rfl⟩ := r; rfl
  | flt _ => obtain ⟨t, rfl⟩ := r; rfl
  | ref _ => cases r; rfl
  | ty _ => cases r; rfl
theorem RelV.inj {x y : V} {u : Value} (r : RelV x u) (q : RelV y u) : x = y := Option.some.inj (r.abs.symm.trans q.abs)
theorem Vals.inj : ∀ {xs ys : List V} {us : List Value}, Vals xs us → Vals ys us → xs = ys
  | _, _, _, .nil, .nil => rfl
  | _, _, _, .cons r t, .cons r' t' => by rw [r.inj r', Vals.inj t t']
section
variable {X : Cx} {pins : List (Addr × Obj)} {σ : St} {H : Hp} {s : Shared} {a : Addr} {xs ys : List V}
theorem SqL.of {K : PySem.W.Frag} (h : H a = some (.lst xs)) : SqL K H a xs := .inl (.inl h)
theorem SqT.of {K : PySem.W.Frag} (h : H a = some (.tup xs)) : SqT K H a xs := .inl (.inl h)
theorem Inv.list (I : Inv X pins σ H s) (h : SqL X.K H a xs) : ∃ its : List Value, Vals xs its ∧ PlainL s.heap a its.toArray ∧ xs.length ≤ sizeLine := by
  rcases h with h | ⟨o, its, n, hk, hc, hd, hs, hz, r⟩
  · obtain ⟨z, its, n, r, e⟩ := h.ok I.hok
    exact ⟨its, r, ⟨_, n, e, rfl, rfl, rfl⟩, z⟩
  · refine ⟨its.toList, r, ⟨o, n, I.kIn a o hk, hc, hd, by simpa using hs⟩, ?_⟩
    have e := r.length
    simp only [Array.length_toList] at e
    omega
theorem Inv.tuple (I : Inv X pins σ H s) (h : SqT X.K H a xs) : ∃ its : List Value, Vals xs its ∧ IsTup s.heap a its.toArray ∧ xs.length ≤ sizeLine := by
  rcases h with h | ⟨o, its, n, hk, hc, hs, hz, r⟩
  · obtain ⟨z, its, r, p⟩ := h.ok I.hok
    exact ⟨its, r, p, z⟩
  · refine ⟨its.toList, r, ⟨o, I.kIn a o hk, hc, n, by simpa using hs⟩, ?_⟩
    have e := r.length
    simp only [Array.length_toList] at e
    omega
theorem Inv.list_inj (I : Inv X pins σ H s) (h : SqL X.K H a xs) (h' : SqL X.K H a ys) : xs = ys := by
  obtain ⟨its, r, ⟨o, n, e, _, _, d⟩, _⟩ := I.list h
  obtain ⟨its', r', ⟨o', n', e', _, _, d'⟩, _⟩ := I.list h'
  rw [e] at e'; cases e'
  rw [d] at d'
  injection d' with d1 _
  have : its = its' := by simpa using congrArg Array.toList d1
  subst this
  exact r.inj r'
end

/-! ### another wish about exceptions -/
abbrev Cx.wish (X : Cx) (E : Value → Shared → Prop) : Cx := { X with xe := E }
/-- no exception leaves -/
abbrev Cx.nox (X : Cx) : Cx := X.wish fun _ _ => False
theorem Cx.Ok.wish {X : Cx} (ok : X.Ok) (E : Value → Shared → Prop) : (X.wish E).Ok :=
  ⟨ok.mod, ok.kind, ok.glob, ok.blt, ok.above, ok.inj, ok.has, ok.cab, ok.hd, ok.frames, ok.stk, ok.exf, ok.bs, ok.bsz, ok.noex, ok.exfs, ok.funs, ok.frf⟩
theorem Cx.Ok.unwish {X : Cx} {E : Value → Shared → Prop} (ok : (X.wish E).Ok) : X.Ok :=
  ⟨ok.mod, ok.kind, ok.glob, ok.blt, ok.above, ok.inj, ok.has, ok.cab, ok.hd, ok.frames, ok.stk, ok.exf, ok.bs, ok.bsz, ok.noex, ok.exfs, ok.funs, ok.frf⟩
section
variable {X : Cx} {pins : List (Addr × Obj)} {σ : St} {H : Hp} {s : Shared} {E : Value → Shared → Prop}
theorem Inv.wish (I : Inv X pins σ H s) (E : Value → Shared → Prop) : Inv (X.wish E) pins σ H s := ⟨I.ok.wish E, I.os, I.bare, I.base, I.loc, I.cell, I.free, I.freeC, I.pin, I.hok, I.len⟩
theorem Inv.unwish (I : Inv (X.wish E) pins σ H s) : Inv X pins σ H s := ⟨I.ok.unwish, I.os, I.bare, I.base, I.loc, I.cell, I.free, I.freeC, I.pin, I.hok, I.len⟩
theorem SP.unwish {D : Ends} {f : Flow} {s' : Shared} (h : SP (X.wish E) pins D f s') : SP X pins D f s' := by
  cases f with
  | next => obtain ⟨σ', H', I, q⟩ := h; exact ⟨σ', H', I.unwish, q⟩
  | brk => obtain ⟨σ', H', I, q⟩ := h; exact ⟨σ', H', I.unwish, q⟩
  | cont => obtain ⟨σ', H', I, q⟩ := h; exact ⟨σ', H', I.unwish, q⟩
  | ret u => obtain ⟨v, σ', H', I, r, q⟩ := h; exact ⟨v, σ', H', I.unwish, r, q⟩
theorem PE.nox {e : Expr} {t : TE} (h : PE X.nox e t) : PE X e t := fun pins s σ H Q I hw =>
  wpAny_mono (h pins s σ H Q (I.wish _) hw) (fun _ _ ⟨v, H', I', r, q⟩ => ⟨v, H', I'.unwish, r, q⟩) fun _ _ z => False.elim z
theorem PT.nox {e : Expr} {t : TT} (h : PT X.nox e t) : PT X e t := fun pins s σ H Q I hw =>
  wpAny_mono (h pins s σ H Q (I.wish _) hw) (fun _ _ ⟨H', I', q⟩ => ⟨H', I'.unwish, q⟩) fun _ _ z => False.elim z
theorem PSs.nox {st : List Stmt} {t : TS} (h : PSs X.nox st t) : PSs X st t := fun pins s σ H D I hw =>
  wpAny_mono (h pins s σ H D (I.wish _) hw) (fun _ _ q => q.unwish) fun _ _ z => False.elim z
end

/-! ### blocks and small statements -/
section
variable {X : Cx} {st : Stmt} {rest : List Stmt} {t u : TS} {e : Expr} {te : TE} {pos : Pos}
def tNext : TS := fun D σ H => D.nx σ H
def tSeq (t u : TS) : TS := fun D σ H => t { D with nx := u D } σ H
theorem pss_nil : PSs X [] tNext := fun _ _ σ H _ I h => wpAny_execs_nil ⟨σ, H, I, h⟩
theorem pss_cons (h1 : PS X st t) (h2 : PSs X rest u) : PSs X (st :: rest) (tSeq t u) := by
  intro pins s σ H D I h
  refine wpAny_execs_cons (thn (h1 pins s σ H { D with nx := u D } I h) fun f s1 q => ?_)
  cases f with
  | next =>
    obtain ⟨σ', H', I', q⟩ := q
    exact h2 pins s1 σ' H' D I' q
  | ret v => exact q
  | brk => exact q
  | cont => exact q
theorem pss_one (h1 : PS X st t) : PSs X [st] t := by
  intro pins s σ H D I h
  refine wpAny_execs_cons (thn (h1 pins s σ H D I h) fun f s1 q => ?_)
  cases f with
  | next => exact wpAny_execs_nil q
  | ret v => exact q
  | brk => exact q
  | cont => exact q
/-- in a def's body nothing is shown -/
theorem Inv.quiet {pins : List (Addr × Obj)} {σ : St} {H : Hp} {s : Shared} (I : Inv X pins σ H s) : interactive X.env = false := by simp [interactive, I.ok.kind]
/-- an expression whose value is dropped -/
def tDrop (te : TE) : TS := fun D σ H => te σ H fun _ H1 => D.nx σ H1
theorem ps_expr (he : PE X e te) (hs : swapsWith e none pos.line X.env = pure false := by rfl) : PS X (.Expr e pos) (tDrop te) := by
  intro pins s σ H D I h
  exact wpAny_Expr_any (thn (he pins s σ H _ I h) fun v s1 ⟨x, H1, I1, r1, q1⟩ => ⟨σ, H1, I1, q1⟩) I.quiet hs
def tRet (te : TE) : TS := fun D σ H => te σ H D.rt
theorem ps_ret (he : PE X e te) : PS X (.Return (some e) pos) (tRet te) := by
  intro pins s σ H D I h
  exact wpAny_Return_some (thn (he pins s σ H _ I h) fun v s1 ⟨x, H1, I1, r1, q1⟩ => ⟨x, σ, H1, I1, r1, q1⟩)
def tIfS (c : TT) (t u : TS) : TS := fun D σ H => c σ H fun b H1 => if b = true then t D σ H1 else u D σ H1
theorem ps_if {c : Expr} {a b : List Stmt} {tc : TT} (hc : PT X c tc) (ha : PSs X a t) (hb : PSs X b u) : PS X (.If c a b pos) (tIfS tc t u) := by
  intro pins s σ H D I h
  refine wpAny_If (thn (hc pins s σ H _ I h) fun d s1 ⟨H1, I1, q1⟩ => ?_)
  cases d with
  | true => exact ha pins s1 σ H1 D I1 q1
  | false => exact hb pins s1 σ H1 D I1 q1
/-- code that the proof never comes to -/
def tNever : TS := fun _ _ _ => False
theorem ps_never : PS X st tNever := fun _ _ _ _ _ _ h => h.elim
end

/-! ### targets -/
abbrev TG := V → St → Hp → (St → Hp → Prop) → Prop
abbrev TGs := List V → St → Hp → (St → Hp → Prop) → Prop
def PG (X : Cx) (target : Expr) (t : TG) : Prop :=
  ∀ (pins : List (Addr × Obj)) (s : Shared) (σ : St) (H : Hp) (v : V) (u : Value) (Q : St → Hp → Prop), Inv X pins σ H s → RelV v u → t v σ H Q →
    wpAny (model X.prog X.w) X.A (assign target X.env u) (fun _ s' => ∃ σ' H', Inv X pins σ' H' s' ∧ Q σ' H') X.xe s
/-- several targets, one after another -/
def PGs (X : Cx) (ts : List Expr) (t : TGs) : Prop :=
  ∀ (pins : List (Addr × Obj)) (s : Shared) (σ : St) (H : Hp) (vs : List V) (us : List Value) (Q : St → Hp → Prop), Inv X pins σ H s → Vals vs us → t vs σ H Q →
    wpAny (model X.prog X.w) X.A (assignInOrder ((assignEach ts X.env).map (·.2)) us) (fun _ s' => ∃ σ' H', Inv X pins σ' H' s' ∧ Q σ' H') X.xe s
section
variable {X : Cx} {pos : Pos}
def gName (i : Nat) : TG := fun v σ H Q => Q (σ.set i (some v)) H
theorem pg_name {i : Nat} {x : Str} (hN : X.N.Nodup) (hi : X.N[i]? = some x) (hx : Loc X.env.scope x) (hf : X.fn x = true ∨ X.env.scope.names.lookup x = some .local := by first | exact .inl rfl | exact .inr rfl | assumption) : PG X (.Name x pos) (gName i) := by
  intro pins s σ H v u Q I r h
  exact wpAny_assign_Name (store_ok I hN hi hx r (fun s' I' => ⟨_, H, I', h⟩) hf)
def gNil : TGs := fun vs σ H Q => vs = [] ∧ Q σ H
def gCons (t : TG) (u : TGs) : TGs := fun vs σ H Q => ∃ v r, vs = v :: r ∧ t v σ H fun σ' H' => u r σ' H' Q
theorem pgs_nil : PGs X [] gNil := by
  intro pins s σ H vs us Q I r h
  obtain ⟨e, h⟩ := h
  subst e
  cases r
  exact assignInOrder_nil ⟨σ, H, I, h⟩
theorem pgs_cons {e : Expr} {es : List Expr} {t : TG} {u : TGs} (h1 : PG X e t) (h2 : PGs X es u)
    (hs : (assignEach (e :: es) X.env).map (·.2) = assign e X.env :: (assignEach es X.env).map (·.2) := by rfl) : PGs X (e :: es) (gCons t u) := by
  intro pins s σ H vs us Q I r h
  obtain ⟨v, vr, e1, h⟩ := h
  subst e1
  cases r with
  | cons r rr =>
    rw [hs]
    refine assignInOrder_cons (thn (h1 pins s σ H _ _ _ I r h) fun _ s1 ⟨σ1, H1, I1, q1⟩ => ?_)
    exact h2 pins s1 σ1 H1 _ _ Q I1 rr q1
/-- (a, b, ..) = a tuple of that length -/
def gTup (K : PySem.W.Frag) (n : Nat) (t : TGs) : TG := fun v σ H Q => ∃ a xs, v = .ref a ∧ SqT K H a xs ∧ xs.length = n ∧ t xs σ H Q
theorem pg_tup {es : List Expr} {k : Nat} {t : TGs} {n : Nat} (hc : X.calm = true) (h : PGs X es t)
    (hn : (assignEach es X.env).length = n := by rfl) (hst : (assignEach es X.env).findIdx? (·.1) = none := by rfl) : PG X (.Tuple es k pos) (gTup X.K n t) := by
  intro pins s σ H v u Q I r hw
  obtain ⟨a, xs, e1, hq, hl, hw⟩ := hw
  subst e1
  cases r
  obtain ⟨its, rv, ht, hz⟩ := I.tuple hq
  refine assign_Tuple_tuple (I.ok.hd hc) ht (by simp [hn, ← hl, rv.length]) hst fun h' hx => ?_
  have I1 : Inv X pins σ H { s with heap := h' } := I.kept (t' := s.toks) fun b o e => hx b o (Nat.ne_of_lt (Heap.lt_size e)) e
  exact h pins _ σ H xs _ Q I1 (by simpa using rv) hw
/-- target = value -/
def tAsg (te : TE) (g : TG) : TS := fun D σ H => te σ H fun x H1 => g x σ H1 D.nx
theorem ps_asg {tg e : Expr} {te : TE} {g : TG} (he : PE X e te) (hg : PG X tg g) (hs : swapsWithSole [tg] e pos.line X.env = pure false := by rfl) (hw : swappedStores [tg] e X.env = pure none := by rfl)
    (h1 : (assignEach [tg] X.env).map (·.2) = [assign tg X.env] := by rfl) : PS X (.Assign [tg] e pos) (tAsg te g) := by
  intro pins s σ H D I h
  refine wpAny_Assign_stores (thn (he pins s σ H _ I h) fun v s1 ⟨x, H1, I1, r1, q1⟩ => ?_) hs hw
  rw [h1]
  exact thn (hg pins s1 σ H1 x v _ I1 r1 q1) fun _ s2 q => q
/-- name = value -/
theorem ps_set {i : Nat} {x : Str} {e : Expr} {te : TE} {pos' : Pos} (hN : X.N.Nodup) (hi : X.N[i]? = some x) (hx : Loc X.env.scope x) (he : PE X e te) (hs : swapsWith e (some (.Name x pos')) pos.line X.env = pure false := by rfl) (hf : X.fn x = true ∨ X.env.scope.names.lookup x = some .local := by first | exact .inl rfl | exact .inr rfl | assumption) :
    PS X (.Assign [.Name x pos'] e pos) (tAsg te (gName i)) := by
  intro pins s σ H D I h
  refine wpAny_Assign_Name (thn (he pins s σ H _ I h) fun v s1 ⟨y, H1, I1, r1, q1⟩ => ?_) hs
  exact store_ok I1 hN hi hx r1 (fun s2 I2 => ⟨_, H1, I2, q1⟩) hf
/-- a, b = x, y with plain local names: stored from the right; the pair itself is not tracked (the opening rows as in PyProof/Rows/TupAssign.lean:23) -/
def tPar (i j : Nat) (ta : TA) : TS := fun D σ H => ta σ H fun vs H1 => ∃ v w, vs = [v, w] ∧ D.nx ((σ.set i (some v)).set j (some w)) H1
theorem ps_par {i j : Nat} {x y : Str} {a b : Expr} {ta : TA} {px py pt : Pos} {kt k2 pt2} (hc : X.calm = true) (hN : X.N.Nodup) (hi : X.N[i]? = some x) (hj : X.N[j]? = some y) (hij : i ≠ j)
    (hx : X.env.scope.names.lookup x = some .local) (hy : X.env.scope.names.lookup y = some .local) (ha : PA X [a, b] ta)
    (hw : swappedStores [.Tuple [.Name x px, .Name y py] kt pt] (.Tuple [a, b] k2 pt2) X.env = pure (some [x, y]))
    (hs : swapsWithSole [.Tuple [.Name x px, .Name y py] kt pt] (.Tuple [a, b] k2 pt2) pos.line X.env = pure false := by rfl) :
    PS X (.Assign [.Tuple [.Name x px, .Name y py] kt pt] (.Tuple [a, b] k2 pt2) pos) (tPar i j ta) := by
  intro pins s σ H D I h
  rw [exec_Assign_arm]
  refine wpAny_bind (wpAny_standAt ?_)
  rw [hs]
  refine wpAny_bind (wpAny_pure ?_)
  rw [if_neg (by decide)]
  refine wpAny_bind (Tuple_ (thn (ha _ pins s σ H _ I h) fun us s1 ⟨vs, H1, I1, r1, q1⟩ => ?_))
  obtain ⟨v, w, e1, q1⟩ := q1
  subst e1
  obtain ⟨u1, u2, rfl, rv, rw'⟩ : ∃ u1 u2, us = [u1, u2] ∧ RelV v u1 ∧ RelV w u2 := by
    cases r1 with
    | cons p q =>
      cases q with
      | cons p' q' =>
        cases q'
        exact ⟨_, _, rfl, p, p'⟩
  refine wpAny_newObj_type ?_ (by show 2 ≤ sizeLine; decide)
  have I2 : Inv X pins σ H1 { s1 with heap := s1.heap.push { cls := .type "tuple", data := .seq [u1, u2].toArray } } := I1.kept (t' := s1.toks) fun b o e => Heap.get?_push_of_some _ e
  rw [hw]
  refine wpAny_bind (wpAny_pure ?_)
  show wpAny (model X.prog X.w) X.A (do rule "assign.swapped-stores"; let items ← unpackItems (.ref s1.heap.objs.size) 2 none; assignInOrder [fun v => bindName X.env y v, fun v => bindName X.env x v] items.reverse; pure Flow.next) _ _ _
  refine wpAny_bind (wpAny_rule (wpAny_bind (unpackItems_tuple (items := #[u1, u2]) (I.ok.hd hc) (IsTup.new s1.heap _) fun h' hx' => ?_)))
  have I3 := I2.kept (h' := h') (t' := s1.toks) fun b o e => hx' b o (Nat.ne_of_lt (Heap.lt_size e)) e
  show wpAny _ _ (assignInOrder [fun v => bindName X.env y v, fun v => bindName X.env x v] [u2, u1] >>= fun _ => pure Flow.next) _ _ _
  refine wpAny_bind (assignInOrder_cons (wpAny_bindName (store_ok I3 hN hj (.inl hy) rw' (fun s2 I4 => ?_) (.inr hy))))
  refine assignInOrder_cons (wpAny_bindName (store_ok I4 hN hi (.inl hx) rv (fun s3 I5 => assignInOrder_nil (wpAny_pure ?_)) (.inr hx)))
  rw [List.set_comm _ _ (Ne.symm hij)] at I5
  exact ⟨_, H1, I5, q1⟩
end

/-! ### while -/
section
variable {X : Cx} {pos : Pos}
/-- the invariant W with its measure -/
def tWhile (c : TT) (tb : TS) : TS := fun D σ H => ∃ W : Nat → St → Hp → Prop, (∃ m, W m σ H) ∧ ∀ m σ H, W m σ H →
  c σ H fun b H1 => if b = true then ∃ N : St → Hp → Prop, (∀ σ' H', N σ' H' → ∃ m', m' < m ∧ W m' σ' H') ∧ tb { D with nx := N, ct := N, bk := D.nx } σ H1 else D.nx σ H1
theorem ps_while {c : Expr} {body : List Stmt} {tc : TT} {tb : TS} (hp : PassesOwn (model X.prog X.w) X.A X.env X.xe) (hc : PT X c tc) (hb : PSs X body tb) : PS X (.While c body [] pos) (tWhile tc tb) := by
  intro pins s σ H D I h
  obtain ⟨W, ⟨m0, w0⟩, turn⟩ := h
  refine wpAny_While (codeAny_whileLoop (fun n s' => ∃ σ' H', Inv X pins σ' H' s' ∧ W n σ' H') ?_ m0 ⟨σ, H, I, w0⟩)
  rintro n s1 ⟨σ1, H1, I1, w1⟩
  refine wpAny_passesOwn hp (thn (hc pins s1 σ1 H1 _ I1 (turn n σ1 H1 w1)) fun b s2 ⟨H2, I2, q2⟩ => ?_)
  cases b with
  | true =>
    obtain ⟨N, hN, q2⟩ := q2
    rw [if_pos rfl]
    refine wpAny_passesOwn hp (thn (hb pins s2 σ1 H2 _ I2 q2) fun f s3 q3 => ?_)
    cases f with
    | next =>
      obtain ⟨σ3, H3, I3, n3⟩ := q3
      obtain ⟨m', hm, w3⟩ := hN σ3 H3 n3
      exact ⟨m', hm, σ3, H3, I3, w3⟩
    | cont =>
      obtain ⟨σ3, H3, I3, n3⟩ := q3
      obtain ⟨m', hm, w3⟩ := hN σ3 H3 n3
      exact ⟨m', hm, σ3, H3, I3, w3⟩
    | brk => exact q3
    | ret v => exact q3
  | false =>
    rw [if_neg Bool.false_ne_true]
    exact wpAny_execs_nil ⟨σ1, H2, I2, q2⟩
end

/-! ### what a loop or a comprehension walks -/
/-- at turn i: it yields x (the heap may grow), or it stops -/
structure It where
  go : Nat → Hp → Prop
  yld : Nat → Hp → V → Hp → Prop
  stop : Nat → Hp → Prop
/-- the iterator's own objects may turn: they are not the frame's, not pinned, younger than the entry (or a comprehension's own) -/
def FpOk (X : Cx) (pins : List (Addr × Obj)) (H : Hp) (b : Addr) : Prop :=
  H b = none ∧ b ≠ X.env.locals ∧ b ∉ X.fs ∧ (b ∈ X.ex ∨ X.s₀.heap.objs.size ≤ b) ∧ (∀ x c, X.env.cells.lookup x = some c → c ≠ b) ∧ ∀ p ∈ X.pn ++ pins, p.1 ≠ b
theorem Inv.fpOk {X : Cx} {pins : List (Addr × Obj)} {σ : St} {H H' : Hp} {s : Shared} {b : Addr} (I : Inv X pins σ H s) (hb : s.heap.objs.size ≤ b) (hn : H' b = none) : FpOk X pins H' b := by
  refine ⟨hn, Nat.ne_of_gt (Nat.lt_of_lt_of_le I.lt hb), I.nofs hb, .inr (Nat.le_trans I.sz hb), fun x c e z => ?_, fun p hp z => ?_⟩
  · obtain ⟨v, q⟩ := I.cell x c e
    exact absurd (Nat.lt_of_lt_of_le q.lt (by rw [z]; exact hb)) (Nat.lt_irrefl _)
  · exact absurd (Nat.lt_of_lt_of_le (Heap.lt_size (I.pin p hp).1) (by rw [z]; exact hb)) (Nat.lt_irrefl _)
structure Turn (P : Program) (w : World) (K : PySem.W.Frag) (tg : Expr) (J : It) (fp : List Addr) (it : Addr) (tn : Nat → Heap → Prop) : Prop where
  mem : it ∈ fp
  obj : ∀ i h, tn i h → ∀ b ∈ fp, ∃ o, h.get? b = some o ∧ ∀ v, o.data ≠ .cell v
  keep : ∀ i h h', tn i h → (∀ b ∈ fp, ∀ o, h.get? b = some o → h'.get? b = some o) → tn i h'
  item : ∀ (X : Cx), X.prog = P → X.w = w → X.K = K → X.calm = true → ∀ (i : Nat) (pins : List (Addr × Obj)) (s : Shared) (σ : St) (H : Hp) (E : Value → Shared → Prop), Inv X pins σ H s → (∀ b ∈ fp, FpOk X pins H b) → tn i s.heap → J.go i H →
    wpAny (model P w) X.A (pyNext (.ref it)) (fun r s1 => ∃ u, r = some u ∧
      wpAny (model P w) X.A (letOwnedTupleGo tg (.ref it) u) (fun _ s2 => ∃ x H', Inv X pins σ H' s2 ∧ RelV x u ∧ J.yld i H x H' ∧ tn (i + 1) s2.heap ∧ ∀ b ∈ fp, H' b = none) E s1) E s
  done : ∀ (X : Cx), X.prog = P → X.w = w → X.K = K → X.calm = true → ∀ (i : Nat) (pins : List (Addr × Obj)) (s : Shared) (σ : St) (H : Hp) (E : Value → Shared → Prop), Inv X pins σ H s → (∀ b ∈ fp, FpOk X pins H b) → tn i s.heap → J.stop i H →
    wpAny (model P w) X.A (pyNext (.ref it)) (fun r s1 => r = none ∧ Inv X pins σ H s1) E s
  self : ∀ (A : Around) (i : Nat) (s : Shared) (Q : Value → Shared → Prop) (E : Value → Shared → Prop), tn i s.heap → Q (.ref it) s → wpAny (model P w) A (pyIter (.ref it)) Q E s
abbrev TI := St → Hp → (It → Hp → Prop) → Prop
/-- an iterator has come -/
def PIE (X : Cx) (pins : List (Addr × Obj)) (σ : St) (tg : Expr) (R : It → Hp → Prop) (itv : Value) (s2 : Shared) : Prop :=
  ∃ (it : Addr) (fp : List Addr) (tn : Nat → Heap → Prop) (J : It) (H' : Hp), itv = .ref it ∧ Inv X pins σ H' s2 ∧ Turn X.prog X.w X.K tg J fp it tn ∧ tn 0 s2.heap ∧ (∀ b ∈ fp, FpOk X pins H' b) ∧ R J H'
def PI (X : Cx) (tg iter : Expr) (wi : TI) : Prop :=
  ∀ (pins : List (Addr × Obj)) (s : Shared) (σ : St) (H : Hp) (R : It → Hp → Prop), Inv X pins σ H s → wi σ H R →
    wpAny (model X.prog X.w) X.A (eval iter X.env) (fun v s1 => wpAny (model X.prog X.w) X.A (pyIter v) (PIE X pins σ tg R) X.xe s1) X.xe s

/-- the step ahead of the store is nothing for an iterator that keeps no tuple -/
theorem go_of {M : Model} {A : Around} {E : Value → Shared → Prop} {s : Shared} {tg : Expr} {it : Addr} {u : Value} {o : Obj} {n : String} {vs : Array Value} {Q : Unit → Shared → Prop} (ho : s.heap.get? it = some o) (hc : o.cls = .type n) (hd : o.data = .fields vs)
    (hn : ["enumerate", "zip", "dict_itemiterator", "dict_reverseitemiterator", "odict_iterator", "itertools.zip_longest", "itertools.pairwise"].contains n = false) (hQ : Q () s) : wpAny M A (letOwnedTupleGo tg (.ref it) u) Q E s := by
  unfold letOwnedTupleGo
  cases tg <;> first
    | exact wpAny_pure hQ
    | (cases u <;> first
        | exact wpAny_pure hQ
        | (refine wpAny_bind (wpAny_load ho ?_)
           rw [hc, hd]
           show wpAny M A (if (["enumerate", "zip", "dict_itemiterator", "dict_reverseitemiterator", "odict_iterator", "itertools.zip_longest", "itertools.pairwise"].contains n && vs[0]? == some (rawInt _)) = true then _ else _) Q E s
           rw [if_neg (by intro h; rw [hn, Bool.false_and] at h; cases h)]
           exact wpAny_pure hQ))

/-- the list at a, as it stands at each turn (a loop may append to it) -/
def Itl (K : PySem.W.Frag) (a : Addr) : It :=
  ⟨fun i H => ∃ xs x, SqL K H a xs ∧ xs[i]? = some x, fun i H x H' => H' = H ∧ ∀ xs, SqL K H a xs → xs[i]? = some x, fun i H => ∃ xs, SqL K H a xs ∧ xs.length ≤ i⟩
/-- lo, lo + 1, .. (n of them) -/
def Itr (lo : Int) (n : Nat) : It := ⟨fun i _ => i < n, fun i H x H' => H' = H ∧ x = .int (lo + i), fun i _ => n ≤ i⟩
theorem turn_list {P : Program} {w : World} {K : PySem.W.Frag} {tg : Expr} (a it : Addr) : Turn P w K tg (Itl K a) [it] it (fun i h => h.IsListIter it a i) where
  mem := by simp
  obj := fun i h st b hb => by
    have e : b = it := by simpa using hb
    subst e
    obtain ⟨o, e, c, d⟩ := st
    exact ⟨o, e, fun v z => by rw [d] at z; cases z⟩
  keep := fun i h h' st k => st.at fun o e => k it (by simp) o e
  item := by
    intro X hP hw hK hc i pins s σ H E I hf st hg
    subst hP hw hK
    obtain ⟨xs, x, hq, hx⟩ := hg
    obtain ⟨its, rv, p, hz⟩ := I.list hq
    obtain ⟨u, hu, ru⟩ := rv.get hx
    obtain ⟨f0, f1, f2, f3, f4, f5⟩ := hf it (by simp)
    refine wpAny_pyNext_list_item st p.isList (x := u) (by simpa using hu) fun h' st' sb => ?_
    have I1 : Inv X pins σ H { s with heap := h' } := I.turned (t' := s.toks) (fun b o hb e => (sb.2 b hb).trans e) f0 f1 f3 f4 f5
    obtain ⟨o, e, c, d⟩ := id st'
    exact ⟨u, rfl, go_of (s := { s with heap := h' }) e c d (by decide) ⟨x, H, I1, ru, ⟨rfl, fun ys hy => by rw [I.list_inj hy hq]; exact hx⟩, st', fun b hb => (hf b hb).1⟩⟩
  done := by
    intro X hP hw hK hc i pins s σ H E I hf st hg
    subst hP hw hK
    obtain ⟨xs, hq, hx⟩ := hg
    obtain ⟨its, rv, p, hz⟩ := I.list hq
    obtain ⟨f0, f1, f2, f3, f4, f5⟩ := hf it (by simp)
    have hl := rv.length
    exact wpAny_pyNext_list_end (I.ok.hd hc) st p.isList (by simp; omega) fun h' eb => ⟨rfl, I.turned (t' := s.toks) (fun b o hb e => eb b o hb e) f0 f1 f3 f4 f5⟩
  self := fun _ _ _ _ _ st h => wpAny_pyIter_listiter st h
theorem turn_range {P : Program} {w : World} {K : PySem.W.Frag} {tg : Expr} (it : Addr) (lo : Int) (n : Nat) : Turn P w K tg (Itr lo n) [it] it (fun i h => IsRangeIter h it (lo + (i : Nat) * 1) ((n : Int) - (i : Nat)) 1) where
  mem := by simp
  obj := fun i h st b hb => by
    have e : b = it := by simpa using hb
    subst e
    exact ⟨_, st, fun v z => by
      have z' : Data.fields _ = Data.cell v := z
      cases z'⟩
  keep := fun i h h' st k => k it (by simp) _ st
  item := by
    intro X hP hw hK hc i pins s σ H E I hf st hg
    subst hP hw hK
    obtain ⟨f0, f1, f2, f3, f4, f5⟩ := hf it (by simp)
    have W := Walks.range (prog := X.prog) (w := X.w) (I.ok.hd hc) it lo 1 n
    refine W.item i s _ _ hg st fun v h' tk hv st' kk => ?_
    obtain ⟨t, rfl⟩ := hv
    have I1 : Inv X pins σ H { s with heap := h', toks := tk } := I.turned (fun b o hb e => kk b o (by simpa using hb) e) f0 f1 f3 f4 f5
    refine ⟨_, rfl, go_of (s := { s with heap := h', toks := tk }) (n := "range_iterator") st' rfl rfl (by decide) ⟨.int (lo + i), H, I1, ⟨t, ?_⟩, ⟨rfl, rfl⟩, st', fun b hb => (hf b hb).1⟩⟩
    rw [Int.mul_one]
  done := by
    intro X hP hw hK hc i pins s σ H E I hf st hg
    subst hP hw hK
    obtain ⟨f0, f1, f2, f3, f4, f5⟩ := hf it (by simp)
    exact wpAny_pyNext_range_end (I.ok.hd hc) st (by have : n ≤ i := hg; omega) fun h' eb => ⟨rfl, I.turned (t' := s.toks) (fun b o hb e => eb b o hb e) f0 f1 f3 f4 f5⟩
  self := fun _ _ _ _ _ st h => wpAny_pyIter_rangeiter st h
end L2

namespace L2
open PySem PySem.Spec PyProof.Rows
section
variable {X : Cx} {tg : Expr}
def iList (K : PySem.W.Frag) (tl : TE) : TI := fun σ H R => tl σ H fun x H1 => ∃ a, x = .ref a ∧ (∃ xs, SqL K H1 a xs) ∧ R (Itl K a) H1
theorem pi_list {l : Expr} {tl : TE} (hl : PE X l tl) : PI X tg l (iList X.K tl) := by
  intro pins s σ H R I h
  refine thn (hl pins s σ H _ I h) fun v s1 ⟨x, H1, I1, r1, q1⟩ => ?_
  obtain ⟨a, e, ⟨xs, hq⟩, q⟩ := q1
  subst e
  cases r1
  obtain ⟨its, rv, p, hz⟩ := I1.list hq
  refine wpAny_pyIter_list p.isList ?_
  refine ⟨s1.heap.objs.size, [s1.heap.objs.size], _, _, H1, rfl, I1.kept (t' := s1.toks) fun b o e => Heap.get?_push_of_some _ e, turn_list a _, ⟨_, Heap.get?_push_size _ rfl, rfl, rfl⟩, fun b hb => ?_, q⟩
  have e : b = s1.heap.objs.size := by simpa using hb
  subst e
  exact I1.fpOk (Nat.le_refl _) (I1.hok.fresh (Nat.le_refl _))
/-- a range object just made, walked -/
theorem range_it {pins : List (Addr × Obj)} {σ : St} {H : Hp} {s : Shared} {R : It → Hp → Prop} {E : Value → Shared → Prop} {lo hi : Int} {t u v : Tok} {tk : Nat} (I : Inv X pins σ H s) (h1 : -(2 ^ 62) ≤ lo) (h2 : lo < 2 ^ 62) (h3 : -(2 ^ 62) ≤ hi) (h4 : hi < 2 ^ 62)
    (q : R (Itr lo (hi - lo).toNat) H) : wpAny (model X.prog X.w) X.A (pyIter (.ref s.heap.objs.size)) (PIE X pins σ tg R) E { s with heap := s.heap.push { cls := .type "range", data := .fields #[.int lo t, .int hi u, .int 1 v] }, toks := tk } := by
  refine wpAny_pyIter_range (IsRange.new ..) (small_one h1 h2 h3 h4) ?_
  have I1 : Inv X pins σ H { s with heap := s.heap.push { cls := .type "range", data := .fields #[.int lo t, .int hi u, .int 1 v] }, toks := tk } := I.kept fun b o e => Heap.get?_push_of_some _ e
  refine ⟨(s.heap.push { cls := .type "range", data := .fields #[.int lo t, .int hi u, .int 1 v] }).objs.size, [(s.heap.push { cls := .type "range", data := .fields #[.int lo t, .int hi u, .int 1 v] }).objs.size], _, _, H, rfl,
    I1.kept (t' := tk) fun b o e => Heap.get?_push_of_some _ e, turn_range _ lo (hi - lo).toNat, ?_, fun b hb => ?_, q⟩
  · have e1 : lo + ((0 : Nat) : Int) * 1 = lo := by simp
    have e2 : (((hi - lo).toNat : Nat) : Int) - ((0 : Nat) : Int) = Builtin.Range.rangeSize lo hi 1 := by rw [rangeSize_one]; split <;> omega
    show IsRangeIter _ _ (lo + ((0 : Nat) : Int) * 1) ((((hi - lo).toNat : Nat) : Int) - ((0 : Nat) : Int)) 1
    rw [e1, e2]
    exact Heap.get?_push_size _ rfl
  · have e : b = (s.heap.push { cls := .type "range", data := .fields #[.int lo t, .int hi u, .int 1 v] }).objs.size := by simpa using hb
    subst e
    exact I1.fpOk (Nat.le_refl _) (I1.hok.fresh (Nat.le_refl _))
def iRng1 (ta : TA) : TI := fun σ H R => ta σ H fun vs H1 => ∃ j : Int, vs = [.int j] ∧ -(2 ^ 62) ≤ j ∧ j < 2 ^ 62 ∧ R (Itr 0 j.toNat) H1
theorem pi_range1 {a : Expr} {ta : TA} {p pos : Pos} (hg : Gl X "range") (hm : X.mg "range" = none) (ha : PA X [a] ta) (hs : starEach [a] X.env = [(false, eval a X.env)] := by rfl) : PI X tg (.Call (.Name "range" p) [a] [] pos) (iRng1 ta) := by
  intro pins s σ H R I h
  refine Call_ (ld_blt I hg hm boot_range (PyProof.Rows.callWith_type1 (thn (ha pos pins s σ H _ I h) fun us s1 ⟨vs, H1, I1, r1, q1⟩ => ?_) hs rfl))
  obtain ⟨j, e, q1, q2, q⟩ := q1
  subst e
  cases r1 with
  | cons r rr =>
    cases rr
    obtain ⟨t, rfl⟩ := r
    exact call_range_1 (range_it I1 (by omega) (by omega) q1 q2 (by simpa using q))
/-! ### for -/
/-- W: the invariant by the turn and a measure; N: what the body is to reach -/
def tFor (wi : TI) (g : TG) (tb : TS) : TS := fun D σ H => wi σ H fun J H1 => ∃ W : Nat → Nat → St → Hp → Prop, (∃ m, W 0 m σ H1) ∧ ∀ i m σ H, W i m σ H →
  (J.stop i H ∧ D.nx σ H) ∨ (J.go i H ∧ ∃ N : St → Hp → Prop, (∀ σ' H', N σ' H' → ∃ m', m' < m ∧ W (i + 1) m' σ' H') ∧ ∀ x H', J.yld i H x H' → g x σ H' fun σ2 H2 => tb { D with nx := N, ct := N, bk := D.nx } σ2 H2)
/-- the records at fp as they stand -/
def pinsAt (fp : List Addr) (h : Heap) : List (Addr × Obj) := fp.filterMap fun b => (h.get? b).map fun o => (b, o)
theorem mem_pinsAt {fp : List Addr} {h : Heap} {b : Addr} {o : Obj} (hb : b ∈ fp) (e : h.get? b = some o) : (b, o) ∈ pinsAt fp h := List.mem_filterMap.mpr ⟨b, hb, by rw [e]; rfl⟩
theorem of_pinsAt {fp : List Addr} {h : Heap} {p : Addr × Obj} (hp : p ∈ pinsAt fp h) : p.1 ∈ fp ∧ h.get? p.1 = some p.2 := by
  obtain ⟨b, hb, e⟩ := List.mem_filterMap.mp hp
  cases q : h.get? b with
  | none => rw [q] at e; cases e
  | some o =>
    rw [q] at e
    have e' : (b, o) = p := Option.some.inj e
    subst e'
    exact ⟨hb, q⟩
theorem Inv.pinned {pins : List (Addr × Obj)} {σ : St} {H : Hp} {s : Shared} {fp : List Addr} (I : Inv X pins σ H s) (hf : ∀ b ∈ fp, FpOk X pins H b) (ho : ∀ b ∈ fp, ∃ o, s.heap.get? b = some o ∧ ∀ v, o.data ≠ .cell v) : Inv X (pins ++ pinsAt fp s.heap) σ H s :=
  I.pins_of fun p hp => (List.mem_append.mp hp).elim (fun z => I.pin p (List.mem_append_right _ z)) fun z => by
    obtain ⟨hb, e⟩ := of_pinsAt z
    obtain ⟨f0, f1, f2, _⟩ := hf p.1 hb
    obtain ⟨o, e', d⟩ := ho p.1 hb
    rw [e] at e'; cases e'
    exact ⟨e, f0, f1, f2, d⟩
theorem Inv.unpinned {pins pl : List (Addr × Obj)} {σ : St} {H : Hp} {s : Shared} (I : Inv X (pins ++ pl) σ H s) : Inv X pins σ H s := I.pins_of fun p hp => I.pin p (List.mem_append_right _ (List.mem_append_left _ hp))
theorem ps_for {iter : Expr} {body : List Stmt} {wi : TI} {g : TG} {tb : TS} {pos : Pos} (hp : PassesOwn (model X.prog X.w) X.A X.env X.xe) (hc : X.calm = true) (hi : PI X tg iter wi) (hg : PG X tg g) (hb : PSs X body tb)
    (hs : ∀ x, foldedSetIterable iter X.env x = pure x := by intro _; rfl) : PS X (.For tg iter body [] pos) (tFor wi g tb) := by
  intro pins s σ H D I h
  refine wpAny_For (thn (hi pins s σ H _ I h) fun v s1 h1 => thn h1 fun itv s2 h2 => ?_) hs
  obtain ⟨it, fp, tn, J, H2, e, I2, T, st2, f2, W, ⟨m0, w0⟩, turn⟩ := h2
  subst e
  -- what stays true of the iterator's objects through the loop
  have stat : ∀ {H' : Hp}, (∀ b ∈ fp, H' b = none) → ∀ b ∈ fp, FpOk X pins H' b := fun hn b hb => ⟨hn b hb, (f2 b hb).2⟩
  refine codeAny_forLoop_any (fun n s' => ∃ i σ' H', Inv X pins σ' H' s' ∧ tn i s'.heap ∧ (∀ b ∈ fp, H' b = none) ∧ W i n σ' H') ?_ m0 ⟨0, σ, H2, I2, st2, fun b hb => (f2 b hb).1, w0⟩
  rintro n s3 ⟨i, σ3, H3, I3, st3, fr3, w3⟩
  rcases turn i n σ3 H3 w3 with ⟨stop, qn⟩ | ⟨go, N, hN, step⟩
  · refine wpAny_passesOwn hp (thn (T.done X rfl rfl rfl hc i pins s3 σ3 H3 X.xe I3 (stat fr3) st3 stop) fun r s4 ⟨hr, I4⟩ => ?_)
    subst hr
    exact wpAny_execs_nil ⟨σ3, H3, I4, qn⟩
  · refine wpAny_passesOwn hp (thn (T.item X rfl rfl rfl hc i pins s3 σ3 H3 X.xe I3 (stat fr3) st3 go) fun r s4 ⟨u, hr, h4⟩ => ?_)
    subst hr
    refine wpAny_passesOwn hp (thn h4 fun _ s5 ⟨x, H5, I5, r5, y5, st5, fr5⟩ => ?_)
    have I5' := I5.pinned (stat fr5) (T.obj _ _ st5)
    refine wpAny_passesOwn hp (thn (hg _ s5 σ3 H5 x u _ I5' r5 (step x H5 y5)) fun _ s6 ⟨σ6, H6, I6, q6⟩ => ?_)
    refine wpAny_passesOwn hp (thn (hb _ s6 σ6 H6 _ I6 q6) fun f s7 q7 => ?_)
    have again : ∀ {σ7 : St} {H7 : Hp}, Inv X (pins ++ pinsAt fp s5.heap) σ7 H7 s7 → N σ7 H7 → ∃ m, m < n ∧ ∃ i σ' H', Inv X pins σ' H' s7 ∧ tn i s7.heap ∧ (∀ b ∈ fp, H' b = none) ∧ W i m σ' H' := fun {σ7 H7} I7 n7 => by
      obtain ⟨m', hm, w7⟩ := hN σ7 H7 n7
      refine ⟨m', hm, i + 1, σ7, H7, I7.unpinned, T.keep _ _ _ st5 fun b hb o e => (I7.pin (b, o) (List.mem_append_right _ (List.mem_append_right _ (mem_pinsAt hb e)))).1, fun b hb => ?_, w7⟩
      obtain ⟨o, e, d⟩ := T.obj _ _ st5 b hb
      exact (I7.pin (b, o) (List.mem_append_right _ (List.mem_append_right _ (mem_pinsAt hb e)))).2.1
    cases f with
    | next => obtain ⟨σ7, H7, I7, n7⟩ := q7; exact again I7 n7
    | cont => obtain ⟨σ7, H7, I7, n7⟩ := q7; exact again I7 n7
    | brk => obtain ⟨σ7, H7, I7, q7⟩ := q7; exact ⟨σ7, H7, I7.unpinned, q7⟩
    | ret v => obtain ⟨x7, σ7, H7, I7, r7, q7⟩ := q7; exact ⟨x7, σ7, H7, I7.unpinned, r7, q7⟩
end

/-! ### the forms one uses -/
/-- while, by a word and a measure of the state -/
theorem while_by {c : TT} {tb : TS} {D : Ends} {σ : St} {H : Hp} (Pv : St → Hp → Prop) (μ : St → Hp → Nat) (h0 : Pv σ H)
    (hs : ∀ σ H, Pv σ H → c σ H fun b H1 => if b = true then tb { D with nx := fun σ' H' => Pv σ' H' ∧ μ σ' H' < μ σ H, ct := fun σ' H' => Pv σ' H' ∧ μ σ' H' < μ σ H, bk := D.nx } σ H1 else D.nx σ H1)
    (mono : ∀ σ H Q Q', (∀ b H1, Q b H1 → Q' b H1) → c σ H Q → c σ H Q') : tWhile c tb D σ H := by
  refine ⟨fun m σ H => m = μ σ H ∧ Pv σ H, ⟨_, rfl, h0⟩, ?_⟩
  rintro m σ H ⟨rfl, p⟩
  refine mono σ H _ _ (fun b H1 q => ?_) (hs σ H p)
  cases b with
  | true => exact ⟨_, fun σ' H' ⟨p', l⟩ => ⟨_, l, rfl, p'⟩, q⟩
  | false => exact q
end L2

namespace L2
open PySem PySem.Spec PyProof.Rows

abbrev R2 := V → V → Hp → VK → Prop
/-- a two-place operation on values: f is binaryOp op, inplaceOp op or compareOp op -/
def OpR (X : Cx) (f : Value → Value → Sem Value) (r : R2) : Prop :=
  ∀ (pins : List (Addr × Obj)) (s : Shared) (σ : St) (H : Hp) (x y : V) (v u : Value) (Q : VK), Inv X pins σ H s → RelV x v → RelV y u → r x y H Q →
    wpAny (model X.prog X.w) X.A (f v u) (EP X pins σ Q) X.xe s
/-- a call of a value that is known (a builtin, a type) with values -/
def CallR (X : Cx) (f : Value) (r : List V → Hp → VK → Prop) : Prop :=
  ∀ (pins : List (Addr × Obj)) (s : Shared) (σ : St) (H : Hp) (xs : List V) (us : List Value) (Q : VK), Inv X pins σ H s → Vals xs us → r xs H Q →
    wpAny (model X.prog X.w) X.A (call f us) (EP X pins σ Q) X.xe s
def tOp (r : R2) (ta tb : TE) : TE := fun σ H Q => ta σ H fun x H1 => tb σ H1 fun y H2 => r x y H2 Q
/-- ints in, under C, and a value out -/
def rI (C : Int → Int → Prop) (g : Int → Int → V) : R2 := fun x y H Q => ∃ i j, x = .int i ∧ y = .int j ∧ C i j ∧ Q (g i j) H
def rI0 (g : Int → Int → V) : R2 := fun x y H Q => ∃ i j, x = .int i ∧ y = .int j ∧ Q (g i j) H
def rU (g : Int → V) : V → Hp → VK → Prop := fun x H Q => ∃ i, x = .int i ∧ Q (g i) H

section
variable {X : Cx} {a b c : Expr} {ta tb tc : TE} {pos : Pos}

theorem binT (ha : PE X a ta) (hb : PE X b tb) {pins : List (Addr × Obj)} {s : Shared} {σ : St} {H : Hp} {R : V → V → Hp → Prop} (I : Inv X pins σ H s)
    (h : ta σ H fun x H1 => tb σ H1 fun y H2 => R x y H2) {Q : Value → Shared → Prop} {f : Value → Value → Sem Value}
    (hf : ∀ v u s2 x y H2, Inv X pins σ H2 s2 → RelV x v → RelV y u → R x y H2 → wpAny (model X.prog X.w) X.A (f v u) Q X.xe s2) :
    wpAny (model X.prog X.w) X.A (eval a X.env) (fun v s₁ => wpAny (model X.prog X.w) X.A (eval b X.env) (fun u s₂ => wpAny (model X.prog X.w) X.A (f v u) Q X.xe s₂) X.xe s₁) X.xe s := by
  refine thn (ha pins s σ H _ I h) fun v s1 ⟨x, H1, I1, r1, q1⟩ => ?_
  refine thn (hb pins s1 σ H1 _ I1 q1) fun u s2 ⟨y, H2, I2, r2, q2⟩ => ?_
  exact hf v u s2 x y H2 I2 r1 r2 q2

theorem pe_op {op : Operator} {r : R2} (ho : OpR X (binaryOp op) r) (ha : PE X a ta) (hb : PE X b tb) : PE X (.BinOp a op b pos) (tOp r ta tb) := by
  intro pins s σ H Q I h
  exact wpAny_BinOp (binT ha hb I h fun v u s2 x y H2 I2 rx ry q => ho pins s2 σ H2 x y v u Q I2 rx ry q)
/-! ### ints -/
theorem opI {f : Value → Value → Sem Value} {C : Int → Int → Prop} {g : Int → Int → Int}
    (rule : ∀ (i j : Int) (t u : Tok) (s : Shared) (Q : Value → Shared → Prop) (E : Value → Shared → Prop), C i j → Q (.int (g i j) s.toks) { s with toks := s.toks + 1 } → wpAny (model X.prog X.w) X.A (f (.int i t) (.int j u)) Q E s) :
    OpR X f (rI C fun i j => .int (g i j)) := by
  intro pins s σ H x y v u Q I rx ry h
  obtain ⟨i, j, rfl, rfl, hc, q⟩ := h
  obtain ⟨t, rfl⟩ := rx
  obtain ⟨t', rfl⟩ := ry
  exact rule i j t t' s _ _ hc ⟨.int (g i j), H, I.tok _, ⟨_, rfl⟩, q⟩
theorem opI0 {f : Value → Value → Sem Value} {g : Int → Int → Int}
    (rule : ∀ (i j : Int) (t u : Tok) (s : Shared) (Q : Value → Shared → Prop) (E : Value → Shared → Prop), Q (.int (g i j) s.toks) { s with toks := s.toks + 1 } → wpAny (model X.prog X.w) X.A (f (.int i t) (.int j u)) Q E s) :
    OpR X f (rI0 fun i j => .int (g i j)) := by
  intro pins s σ H x y v u Q I rx ry h
  obtain ⟨i, j, rfl, rfl, q⟩ := h
  obtain ⟨t, rfl⟩ := rx
  obtain ⟨t', rfl⟩ := ry
  exact rule i j t t' s _ _ ⟨.int (g i j), H, I.tok _, ⟨_, rfl⟩, q⟩
theorem opB0 {f : Value → Value → Sem Value} {g : Int → Int → Bool}
    (rule : ∀ (i j : Int) (t u : Tok) (s : Shared) (Q : Value → Shared → Prop) (E : Value → Shared → Prop), Q (.bool (g i j)) s → wpAny (model X.prog X.w) X.A (f (.int i t) (.int j u)) Q E s) :
    OpR X f (rI0 fun i j => .bl (g i j)) := by
  intro pins s σ H x y v u Q I rx ry h
  obtain ⟨i, j, rfl, rfl, q⟩ := h
  obtain ⟨t, rfl⟩ := rx
  obtain ⟨t', rfl⟩ := ry
  exact rule i j t t' s _ _ ⟨.bl (g i j), H, I, rfl, q⟩

def CDiv (i j : Int) : Prop := 0 < j ∧ j < 1073741824
def CPow (i j : Int) : Prop := 0 ≤ j ∧ j ≤ 1000000 ∧ i.natAbs < 2 ^ 64
def CMul (i j : Int) : Prop := (-(2 ^ 64) < i ∧ i < 2 ^ 64) ∨ (-(2 ^ 64) < j ∧ j < 2 ^ 64)
theorem CMul.ok {i j : Int} (h : CMul i j) : IntMulOk i j := by
  rcases h with ⟨h1, h2⟩ | ⟨h1, h2⟩
  · exact .of_left (intBits_le_64 h1 h2)
  · exact .of_right (intBits_le_64 h1 h2)
theorem op_add : OpR X (binaryOp .Add) (rI0 fun i j => .int (i + j)) := opI0 fun _ _ _ _ _ _ _ q => add_int q
theorem op_sub : OpR X (binaryOp .Sub) (rI0 fun i j => .int (i - j)) := opI0 fun _ _ _ _ _ _ _ q => sub_int q
/-- % by a positive divisor of any size -/
theorem op_mod : OpR X (binaryOp .Mod) (rI (fun _ j => 0 < j) fun i j => .int (i % j)) := opI fun i j _ _ _ _ _ hc q => by
  have h1 : (0 : Int) < j := hc
  exact mod_int' (by omega) (by rw [Int.fmod_eq_emod_of_nonneg i (by omega)]; exact q)
theorem op_pow : OpR X (binaryOp .Pow) (rI CPow fun i j => .int (i ^ j.toNat)) := opI fun _ _ _ _ _ _ _ hc q => pow_int_small hc.1 hc.2.1 hc.2.2 q
/-! ### bools among ints: n += (a < b) -/
end

/-! ### comparisons -/
/-- the scalars that == tells apart as data does -/
def scal : V → V → Bool
  | .non, .non => true | .non, .int _ => true | .int _, .non => true | .non, .bl _ => true | .bl _, .non => true | .non, .str _ => true | .str _, .non => true
  | .int _, .int _ => true | .bl _, .bl _ => true | .str _, .str _ => true | .byt _, .byt _ => true
  | .int _, .str _ => true | .str _, .int _ => true | .bl _, .str _ => true | .str _, .bl _ => true
  | _, _ => false
def rEq : R2 := fun x y H Q => scal x y = true ∧ Q (.bl (decide (x = y))) H
def rNe : R2 := fun x y H Q => scal x y = true ∧ Q (.bl (!decide (x = y))) H

theorem dec_int {i j : Int} : decide (V.int i = V.int j) = (i == j) := by
  rw [Bool.eq_iff_iff]
  simp
theorem dec_bl {i j : Bool} : decide (V.bl i = V.bl j) = (i == j) := by
  rw [Bool.eq_iff_iff]
  simp
theorem dec_str {i j : Str} : decide (V.str i = V.str j) = (i == j) := by
  rw [Bool.eq_iff_iff]
  simp
theorem dec_byt {i j : Array UInt8} : decide (V.byt i = V.byt j) = (i.toList == j.toList) := by
  rw [Bool.eq_iff_iff]
  cases i
  cases j
  simp

section
variable {X : Cx} {a b c : Expr} {ta tb tc : TE} {pos : Pos}
theorem fin_bl {pins : List (Addr × Obj)} {σ : St} {H : Hp} {s : Shared} {Q : VK} {k k' : Bool} (I : Inv X pins σ H s) (q : Q (.bl k) H) (e : k = k') : EP X pins σ Q (.bool k') s := by
  subst e
  exact ⟨.bl k, H, I, rfl, q⟩
theorem op_eq : OpR X (compareOp .Eq) rEq := by
  intro pins s σ H x y v u Q I rx ry h
  obtain ⟨hs, q⟩ := h
  cases x with
  | non =>
    cases rx
    cases y with
    | non => cases ry; exact PySem.EqNone.eq_none_none (fin_bl I q (by simp))
    | bl j => cases ry; exact PySem.EqNone.eq_none_bool (fin_bl I q (by simp))
    | int j => obtain ⟨t', rfl⟩ := ry; exact PySem.EqNone.eq_none_int (fin_bl I q (by simp))
    | str j => obtain ⟨t', rfl⟩ := ry; exact PySem.EqNone.eq_none_str (fin_bl I q (by simp))
    | _ => exact absurd (show false = true from hs) Bool.false_ne_true
  | bl i =>
    cases rx
    cases y with
    | non => cases ry; exact PySem.EqNone.eq_bool_none (fin_bl I q (by simp))
    | bl j => cases ry; exact eq_bool (fin_bl I q dec_bl)
    | str j => obtain ⟨t', rfl⟩ := ry; exact PySem.EqMixed.eq_bool_str (fin_bl I q (by simp))
    | _ => exact absurd (show false = true from hs) Bool.false_ne_true
  | int i =>
    obtain ⟨t, rfl⟩ := rx
    cases y with
    | non => cases ry; exact PySem.EqNone.eq_int_none (fin_bl I q (by simp))
    | int j => obtain ⟨t', rfl⟩ := ry; exact eq_int (fin_bl I q dec_int)
    | str j => obtain ⟨t', rfl⟩ := ry; exact PySem.EqMixed.eq_int_str (fin_bl I q (by simp))
    | _ => exact absurd (show false = true from hs) Bool.false_ne_true
  | str i =>
    obtain ⟨t, rfl⟩ := rx
    cases y with
    | non => cases ry; exact PySem.EqNone.eq_str_none (fin_bl I q (by simp))
    | bl j => cases ry; exact PySem.EqMixed.eq_str_bool (fin_bl I q (by simp))
    | int j => obtain ⟨t', rfl⟩ := ry; exact PySem.EqMixed.eq_str_int (fin_bl I q (by simp))
    | str j => obtain ⟨t', rfl⟩ := ry; exact eq_str (fin_bl I q dec_str)
    | _ => exact absurd (show false = true from hs) Bool.false_ne_true
  | byt i =>
    obtain ⟨t, rfl⟩ := rx
    cases y with
    | byt j => obtain ⟨t', rfl⟩ := ry; exact PySem.W.eq_bytes (fin_bl I q dec_byt)
    | _ => exact absurd (show false = true from hs) Bool.false_ne_true
  | _ => cases y <;> exact absurd (show false = true from hs) Bool.false_ne_true
theorem op_ne : OpR X (compareOp .NotEq) rNe := by
  intro pins s σ H x y v u Q I rx ry h
  obtain ⟨hs, q⟩ := h
  cases x with
  | non =>
    cases rx
    cases y with
    | non => cases ry; exact PySem.EqNone.ne_none_none (fin_bl I q (by simp))
    | bl j => cases ry; exact PySem.EqNone.ne_none_bool (fin_bl I q (by simp))
    | int j => obtain ⟨t', rfl⟩ := ry; exact PySem.EqNone.ne_none_int (fin_bl I q (by simp))
    | str j => obtain ⟨t', rfl⟩ := ry; exact PySem.EqNone.ne_none_str (fin_bl I q (by simp))
    | _ => exact absurd (show false = true from hs) Bool.false_ne_true
  | bl i =>
    cases rx
    cases y with
    | non => cases ry; exact PySem.EqNone.ne_bool_none (fin_bl I q (by simp))
    | bl j => cases ry; exact ne_bool (fin_bl I q (congrArg not dec_bl))
    | str j => obtain ⟨t', rfl⟩ := ry; exact PySem.EqMixed.ne_bool_str (fin_bl I q (by simp))
    | _ => exact absurd (show false = true from hs) Bool.false_ne_true
  | int i =>
    obtain ⟨t, rfl⟩ := rx
    cases y with
    | non => cases ry; exact PySem.EqNone.ne_int_none (fin_bl I q (by simp))
    | int j => obtain ⟨t', rfl⟩ := ry; exact ne_int (fin_bl I q (congrArg not dec_int))
    | str j => obtain ⟨t', rfl⟩ := ry; exact PySem.EqMixed.ne_int_str (fin_bl I q (by simp))
    | _ => exact absurd (show false = true from hs) Bool.false_ne_true
  | str i =>
    obtain ⟨t, rfl⟩ := rx
    cases y with
    | non => cases ry; exact PySem.EqNone.ne_str_none (fin_bl I q (by simp))
    | bl j => cases ry; exact PySem.EqMixed.ne_str_bool (fin_bl I q (by simp))
    | int j => obtain ⟨t', rfl⟩ := ry; exact PySem.EqMixed.ne_str_int (fin_bl I q (by simp))
    | str j => obtain ⟨t', rfl⟩ := ry; exact ne_str (fin_bl I q (congrArg not dec_str))
    | _ => exact absurd (show false = true from hs) Bool.false_ne_true
  | byt i =>
    obtain ⟨t, rfl⟩ := rx
    cases y with
    | byt j => obtain ⟨t', rfl⟩ := ry; exact PySem.W.ne_bytes (fin_bl I q (congrArg not dec_byt))
    | _ => exact absurd (show false = true from hs) Bool.false_ne_true
  | _ => cases y <;> exact absurd (show false = true from hs) Bool.false_ne_true

theorem op_lt : OpR X (compareOp .Lt) (rI0 fun i j => .bl (decide (i < j))) := opB0 fun _ _ _ _ _ _ _ q => lt_int q
theorem op_gt : OpR X (compareOp .Gt) (rI0 fun i j => .bl (decide (j < i))) := opB0 fun _ _ _ _ _ _ _ q => gt_int q
theorem op_ge : OpR X (compareOp .GtE) (rI0 fun i j => .bl (decide (j ≤ i))) := opB0 fun _ _ _ _ _ _ _ q => ge_int q
/-- two rules for one operation: by cases -/
theorem OpR.or {f : Value → Value → Sem Value} {r r' : R2} (h : OpR X f r) (h' : OpR X f r') : OpR X f (fun x y H Q => r x y H Q ∨ r' x y H Q) := by
  intro pins s σ H x y v u Q I rx ry q
  rcases q with q | q
  · exact h pins s σ H x y v u Q I rx ry q
  · exact h' pins s σ H x y v u Q I rx ry q

theorem nomark (b : Expr) {op : CmpOp} (h : op ≠ .In := by decide) (h2 : op ≠ .NotIn := by decide) : behindInMarks op b = false := by
  have e1 : (op == CmpOp.In) = false := by cases op <;> first | rfl | exact absurd rfl h
  have e2 : (op == CmpOp.NotIn) = false := by cases op <;> first | rfl | exact absurd rfl h2
  cases b <;> simp [behindInMarks, e1, e2]
/-- a comparison as a value; hm: nomark b, or (for in, not in) by with_unfolding_all rfl -/
theorem pe_cmpR {op : CmpOp} {r : R2} (ho : OpR X (compareOp op) r) (ha : PE X a ta) (hb : PE X b tb) (hm : behindInMarks op b = false) : PE X (.Compare a [op] [b] pos) (tOp r ta tb) := by
  intro pins s σ H Q I h
  exact wpAny_Compare1 (binT ha hb I h fun v u s2 x y H2 I2 rx ry q => ho pins s2 σ H2 x y v u Q I2 rx ry q) hm
/-- a reading of a value as a test -/
def tTest (t : TE) : TT := fun σ H Q => t σ H fun x H' => ∃ k, x = .bl k ∧ Q k H'
theorem pt_cmpR {op : CmpOp} {r : R2} (ho : OpR X (compareOp op) r) (ha : PE X a ta) (hb : PE X b tb) (hm : behindInMarks op b = false) : PT X (.Compare a [op] [b] pos) (tTest (tOp r ta tb)) := by
  intro pins s σ H Q I h
  refine wpAny_isTrue_Compare1 (thn (ha pins s σ H _ I h) fun v s1 ⟨x, H1, I1, r1, q1⟩ => thn (hb pins s1 σ H1 _ I1 q1) fun u s2 ⟨y, H2, I2, r2, q2⟩ =>
    thn (ho pins s2 σ H2 x y v u _ I2 r1 r2 q2) fun c s3 ⟨z, H3, I3, r3, k, e, q3⟩ => ?_) hm
  subst e
  cases r3
  exact wpAny_truthy_bool ⟨H3, I3, q3⟩
/-! ### truth -/
theorem line63 : (sizeLine : Nat) < 2 ^ 63 := by rw [sizeLine_eq]; decide
/-! ### strs and bytes -/
/-! ### scalar builtins, by CallR -/
theorem vals1 {x : V} {us : List Value} (r : Vals [x] us) : ∃ u, us = [u] ∧ RelV x u := by
  cases r with
  | cons r1 r2 => cases r2; exact ⟨_, rfl, r1⟩
theorem vals2 {x y : V} {us : List Value} (r : Vals [x, y] us) : ∃ u w', us = [u, w'] ∧ RelV x u ∧ RelV y w' := by
  cases r with
  | cons r1 r2 =>
    cases r2 with
    | cons r3 r4 => cases r4; exact ⟨_, _, rfl, r1, r3⟩
theorem call_abs : CallR X (.builtin "abs") (fun xs H Q => ∃ i, xs = [.int i] ∧ Q (.int (if i < 0 then -i else i)) H) := by
  intro pins s σ H xs us Q I r h
  obtain ⟨i, rfl, q⟩ := h
  obtain ⟨u, rfl, t, rfl⟩ := vals1 r
  exact call_abs_int fun u tk => ⟨.int (if i < 0 then -i else i), H, I.tok _, ⟨_, rfl⟩, q⟩
theorem call_min2 (hc : X.calm = true) : CallR X (.builtin "min") (fun xs H Q => ∃ i j, xs = [.int i, .int j] ∧ Q (.int (if j < i then j else i)) H) := by
  intro pins s σ H xs us Q I r h
  obtain ⟨i, j, rfl, q⟩ := h
  obtain ⟨u, w', rfl, ⟨t, rfl⟩, ⟨t', rfl⟩⟩ := vals2 r
  refine min_two_ints (I.ok.hd hc) fun h' tk k => ⟨_, H, I.kept k, ?_, q⟩
  by_cases hj : j < i
  · rw [if_pos hj, if_pos hj]; exact ⟨_, rfl⟩
  · rw [if_neg hj, if_neg hj]; exact ⟨_, rfl⟩
theorem call_int1 : CallR X (.type "int") (fun xs H Q => (∃ i, xs = [.int i] ∧ Q (.int i) H) ∨ ∃ k, xs = [.bl k] ∧ Q (.int (if k then 1 else 0)) H) := by
  intro pins s σ H xs us Q I r h
  rcases h with ⟨i, rfl, q⟩ | ⟨k, rfl, q⟩
  · obtain ⟨u, rfl, t, rfl⟩ := vals1 r
    exact call_int_int ⟨.int i, H, I, ⟨_, rfl⟩, q⟩
  · obtain ⟨u, rfl, r1⟩ := vals1 r
    cases r1
    exact call_int_bool ⟨.int (if k then 1 else 0), H, I.tok _, ⟨_, rfl⟩, q⟩
/-- divmod: a new tuple -/
theorem call_divmod : CallR X (.builtin "divmod") (fun xs H Q => ∃ i j, xs = [.int i, .int j] ∧ CDiv i j ∧ ∀ p, H p = none → Q (.ref p) (upd H p (.tup [.int (i / j), .int (i % j)]))) := by
  intro pins s σ H xs us Q I r h
  obtain ⟨i, j, rfl, ⟨h1, h2⟩, q⟩ := h
  obtain ⟨u, w', rfl, ⟨t, rfl⟩, ⟨t', rfl⟩⟩ := vals2 r
  refine divmod_int (by omega) ?_ (.inl (PyProof.noPylong_small (by omega)))
  rw [Int.fdiv_eq_ediv_of_nonneg i (by omega), Int.fmod_eq_emod_of_nonneg i (by omega)]
  have hn : H s.heap.objs.size = none := I.hok.fresh (Nat.le_refl _)
  refine ⟨.ref s.heap.objs.size, _, ?_, rfl, q _ hn⟩
  refine I.laid (fun b o e => Heap.get?_push_of_some _ e) (Nat.le_refl _) ⟨by simp only [List.length_cons, List.length_nil]; rw [sizeLine_eq]; decide, [.int (i / j) s.toks, .int (i % j) (s.toks + 1)], .cons ⟨_, rfl⟩ (.cons ⟨_, rfl⟩ .nil), ?_⟩
  exact ⟨_, Heap.get?_push_size s.heap rfl, rfl, 0, rfl⟩
end
end L2

namespace L2
open PySem PySem.Spec PyProof.Rows

/-! ### an instance, its attributes a map -/
structure ObjM (h : Heap) (x dx C : Addr) (mA : Str → Option Value) : Prop where
  obj : h.get? x = some (PySem.W.instObj C dx)
  ns : h.Ns1 dx mA
  ne : dx ≠ x

theorem lookIn_ns {h : Heap} {dx : Addr} {mA : Str → Option Value} (n : h.Ns1 dx mA) : ∃ od, h.get? dx = some od ∧ ∀ name, PySem.W.lookIn name od = some (mA name) := by
  obtain ⟨o, es, ep, ho, hd, hk, _, hm⟩ := n
  refine ⟨o, ho, fun name => ?_⟩
  have e := hm name
  unfold nsFind findBy at e
  rw [← Array.find?_toList] at e
  unfold PySem.W.lookIn
  rw [hd]
  dsimp only
  split
  · rename_i y q
    rw [q] at e
    exact congrArg some e
  · rename_i q
    rw [q] at e
    have a : es.toList.any (·.refKey) = false := by
      rw [List.any_eq_false]
      intro y hy
      obtain ⟨z, t, hkey⟩ := hk y (Array.mem_toList_iff.mp hy)
      simp [DictEntry.refKey, hkey]
    have a' : ¬ es.toList.any (·.refKey) = true := by rw [a]; exact Bool.false_ne_true
    rw [if_neg a']
    exact congrArg some e

theorem ObjM.look {h : Heap} {x dx C : Addr} {mA : Str → Option Value} (I : ObjM h x dx C mA) : ∃ od, PySem.W.InstAt h x (PySem.W.instObj C dx) C (some od) ∧ ∀ name, PySem.W.lookIn name od = some (mA name) :=
  let ⟨od, ho, hl⟩ := lookIn_ns I.ns
  ⟨od, ⟨I.obj, rfl, rfl, ho⟩, hl⟩

section
variable {prog : Program} {w : World} {A : Around} {E : Value → Shared → Prop} {s : Shared} {K : PySem.W.Frag} {x dx C f : Addr} {mA : Str → Option Value} {name : Str} {v : Value}

theorem get_map {expr : Bool} {Q : Value → Shared → Prop} (X : K.In s.heap) (I : ObjM s.heap x dx C mA) (hg : PySem.W.plainGet K C name = true) (hh : PySem.W.hasDictIn K C = true)
    (ha : PySem.W.findIn K (.ref C) name = some none) (hv : mA name = some v) (hv' : PySem.W.handedIn v = true) (h : Q v { s with toks := s.toks + 1 }) :
    wpAny (model prog w) A (getAttr (.ref x) name expr) Q E s := by
  obtain ⟨od, J, hl⟩ := I.look
  exact PySem.W.get_value X J (PySem.W.plainGet_of hg).1 (PySem.W.findObj_own hh ha rfl (by rw [hl, hv])) hv' h

theorem get_meth {pl : Sem Bool} {Q : Value × List Value → Shared → Prop} (X : K.In s.heap) (I : ObjM s.heap x dx C mA) (hg : PySem.W.plainGet K C name = true)
    (hf : PySem.W.findIn K (.ref C) name = some (some (.ref f))) (ht : PySem.W.isFn K (.ref f) = true) (hv : mA name = none) (h : Q (.ref f, [.ref x]) s) :
    wpAny (model prog w) A (getMethod (.ref x) name pl) Q E s := by
  obtain ⟨od, J, hl⟩ := I.look
  exact PySem.W.method_fn X J (PySem.W.plainGet_of hg).1 (PySem.W.plainGet_of hg).2 hf (beq_iff_eq.mp ht) (by show (PySem.W.lookIn name od).map (·.isSome) = some false; rw [hl, hv]; rfl) h

theorem set_map {ns : List Str} {Q : Unit → Shared → Prop} (X : K.In s.heap) (I : ObjM s.heap x dx C mA)
    (hs : PySem.W.findIn K (.ref C) "__setattr__" = some (some (.builtin "object.__setattr__"))) (hp : PySem.W.plainOver K C = true) (ht : PySem.W.takerIn K C name = some none) (hh : PySem.W.hasDictIn K C = true)
    (hw : PySem.Within mA ns) (hsz : ns.length ≤ sizeLine)
    (h : ∀ h', ObjM h' x dx C (fun y => if y = name then some v else mA y) → Heap.SameBut dx s.heap h' → Q () { s with heap := h', toks := s.toks + 2 }) :
    wpAny (model prog w) A (setAttr (.ref x) name v) Q E s := by
  obtain ⟨od, J, hl⟩ := I.look
  refine PySem.W.set_plain X J hs (PySem.W.osa_open (s := { s with toks := s.toks + 1 }) (r := none) X J hp ht fun b => ?_)
  obtain ⟨cd, hc, hd'⟩ := PySem.W.any_some hh
  have hx : s.heap.get? x = some ⟨.ref C, some dx, .plain, #[]⟩ := I.obj
  refine wpAny_bind (wpAny_pure (wpAny_bind (wpAny_bind (wpAny_loadPart hx (wpAny_bind (PySem.W.Looks.here (s := { s with toks := s.toks + 1 }) (PySem.W.looks_clsIn X hc) ?_))))))
  rw [hd']
  refine wpAny_pure (a := some dx) (wpAny_bind (wpAny_pure (wpAny_bind ?_)))
  refine wpAny_nsSet1 (s := { s with toks := s.toks + 1 }) I.ns fun h' hn2 hs2 => ?_
  obtain ⟨oD, esD, epD, hoD, hdD, hcD⟩ := hn2.count (PySem.Within.cons name v hw)
  refine wpAny_bind (wpAny_lookBehind hoD (by rw [hdD]; exact pastItsLine_dict (Nat.le_trans hcD (by rw [List.length_cons]; omega))) ?_)
  exact wpAny_pure (h _ ⟨(hs2.2 _ (Ne.symm I.ne)).trans I.obj, hn2, I.ne⟩ hs2)

/-- C(..): the dict at the heap's end, the instance behind it; then its __init__ -/
theorem make_map {R : Result → Shared → Prop} {vs : List Value} {kw : List (Str × Value)} (X : K.In s.heap) (hm : PySem.W.makesIn K C = true)
    (hi : PySem.W.findIn K (.ref C) "__init__" = some (some (.ref f))) (hf : PySem.W.typeIn K (.ref f) = some (.type "function"))
    (h : codeAny (model prog w) (A.under (.builtin "type.__call__" ⟨.ref C :: vs, kw⟩)) (.call (.ref f) ⟨.ref (s.heap.objs.size + 1) :: vs, kw⟩) (PySem.W.InitBack (s.heap.objs.size + 1) R)
      { s with heap := (s.heap.push PySem.W.emptyDict).push (PySem.W.instObj C s.heap.objs.size) }) :
    codeAny (model prog w) A (.call (.ref C) ⟨vs, kw⟩) R s := by
  obtain ⟨hh, g, d, t, os⟩ := s
  exact PySem.W.make_core (PySem.W.makes_of X hm) (PySem.W.looks_findIn X hi) (fun self => PySem.W.bind_fn X self hf) (.inl rfl) h
end

/-! ### the attributes as a list of pairs -/
def putF (f : Str) (v : V) : List (Str × V) → List (Str × V)
  | [] => [(f, v)]
  | (g, x) :: r => if g = f then (g, v) :: r else (g, x) :: putF f v r
theorem lookup_putF (f g : Str) (v : V) : ∀ fs : List (Str × V), (putF f v fs).lookup g = if g = f then some v else fs.lookup g
  | [] => by
    show List.lookup g [(f, v)] = _
    by_cases h : g = f
    · have hb : (g == f) = true := beq_iff_eq.mpr h
      simp only [List.lookup, hb, if_pos h]
    · have hb : (g == f) = false := beq_eq_false_iff_ne.mpr h
      simp only [List.lookup, hb, if_neg h]
  | (k, x) :: r => by
    have ih := lookup_putF f g v r
    rw [show putF f v ((k, x) :: r) = (if k = f then (k, v) :: r else (k, x) :: putF f v r) from rfl]
    by_cases hk : k = f
    · rw [if_pos hk]
      by_cases h : g = k
      · have hb : (g == k) = true := beq_iff_eq.mpr h
        simp only [List.lookup, hb, if_pos (h.trans hk)]
      · have hb : (g == k) = false := beq_eq_false_iff_ne.mpr h
        simp only [List.lookup, hb, if_neg (fun e : g = f => h (e.trans hk.symm))]
    · rw [if_neg hk]
      by_cases h : g = k
      · have hb : (g == k) = true := beq_iff_eq.mpr h
        simp only [List.lookup, hb, if_neg (fun e : g = f => hk (h.symm.trans e))]
      · have hb : (g == k) = false := beq_eq_false_iff_ne.mpr h
        simp only [List.lookup, hb]
        exact ih
theorem keys_putF (f : Str) (v : V) : ∀ fs : List (Str × V), f ∈ (putF f v fs).map (·.1) ∧ ∀ g, g ∈ fs.map (·.1) → g ∈ (putF f v fs).map (·.1)
  | [] => ⟨by simp [putF], fun g h => by simp at h⟩
  | (k, x) :: r => by
    obtain ⟨i1, i2⟩ := keys_putF f v r
    rw [show putF f v ((k, x) :: r) = (if k = f then (k, v) :: r else (k, x) :: putF f v r) from rfl]
    by_cases hk : k = f
    · rw [if_pos hk]
      subst hk
      exact ⟨by simp, fun g h => by simpa using h⟩
    · rw [if_neg hk]
      refine ⟨?_, fun g h => ?_⟩
      · rw [List.map_cons]
        exact List.mem_cons_of_mem _ i1
      · rw [List.map_cons] at h ⊢
        rcases List.mem_cons.mp h with e | e
        · exact List.mem_cons.mpr (.inl e)
        · exact List.mem_cons_of_mem _ (i2 g e)
theorem length_putF (f : Str) (v : V) : ∀ fs : List (Str × V), (putF f v fs).length ≤ fs.length + 1
  | [] => by simp [putF]
  | (k, x) :: r => by
    have ih := length_putF f v r
    rw [show putF f v ((k, x) :: r) = (if k = f then (k, v) :: r else (k, x) :: putF f v r) from rfl]
    by_cases hk : k = f
    · rw [if_pos hk, List.length_cons, List.length_cons]; omega
    · rw [if_neg hk, List.length_cons, List.length_cons]; omega

theorem RelO.some_of {v : V} {o : Option Value} (r : RelO (some v) o) : ∃ u, o = some u ∧ RelV v u := by
  cases o with
  | none => exact (show False from r).elim
  | some u => exact ⟨u, rfl, r⟩
theorem RelO.none_of {o : Option Value} (r : RelO none o) : o = none := by
  cases o with
  | none => rfl
  | some u => exact (show False from r).elim
theorem handed_of {v : V} {u : Value} (r : RelV v u) : PySem.W.handedIn u = true := by
  cases v with
  | non => cases (show u = Value.none from r); rfl
  | bl b => cases (show u = Value.bool b from r); rfl
  | int i => obtain ⟨t, e⟩ := (show ∃ t, u = Value.int i t from r); cases e; rfl
  | str x => obtain ⟨t, e⟩ := (show ∃ t, u = Value.str x t from r); cases e; rfl
  | byt b => obtain ⟨t, e⟩ := (show ∃ t, u = Value.bytes b t from r); cases e; rfl
  | flt b => obtain ⟨t, e⟩ := (show ∃ t, u = Value.float b t from r); cases e; rfl
  | ref a => cases (show u = Value.ref a from r); rfl
  | ty n => cases (show u = Value.type n from r); rfl

section
variable {P : Program} {w : World} {H H' : Hp} {h h' : Heap} {a C dx : Addr} {fs fs' : List (Str × V)}
theorem ins_get (hok : HOk P w H h) (e : H a = some (.ins C dx fs)) : ∃ mA, ObjM h a dx C mA ∧ (∀ f, RelO (fs.lookup f) (mA f)) ∧ PySem.Within mA (fs.map (·.1)) ∧ fs.length ≤ 1000 ∧ H dx = some (.own a) := by
  obtain ⟨d, z, ne, ob, mA, n, r, q⟩ := (show ObjOk P w H h a (.ins C dx fs) from hok a _ e)
  exact ⟨mA, ⟨ob, n, ne⟩, r, q, z, d⟩
end

/-! ### what of the text a class must have -/
structure Cls (K : PySem.W.Frag) (C : Addr) : Prop where
  pg : PySem.W.plainGet K C Str.empty = true
  hd : PySem.W.hasDictIn K C = true
  po : PySem.W.plainOver K C = true
  sa : PySem.W.findIn K (.ref C) "__setattr__" = some (some (.builtin "object.__setattr__"))
theorem Cls.get {K : PySem.W.Frag} {C : Addr} (c : Cls K C) (f : Str) : PySem.W.plainGet K C f = true := c.pg
/-- no class of it has the name -/
def NoAttr (K : PySem.W.Frag) (C : Addr) (f : Str) : Prop := PySem.W.findIn K (.ref C) f = some none
theorem NoAttr.taker {K : PySem.W.Frag} {C : Addr} {f : Str} (n : NoAttr K C f) : PySem.W.takerIn K C f = some none := by
  unfold PySem.W.takerIn
  rw [show PySem.W.findIn K (.ref C) f = some none from n]
  rfl
/-- a constant of the class -/
structure Con (K : PySem.W.Frag) (C : Addr) (f : Str) (v : V) (u : Value) : Prop where
  at_ : PySem.W.findIn K (.ref C) f = some (some u)
  rel : RelV v u
  get : PySem.W.specialIn K u "__get__" = some none
  cp : PySem.W.copiedNames.contains f = false
/-- a method: a plain def of the class or of one above it -/
structure Meth (K : PySem.W.Frag) (C : Addr) (m : Str) (f : Addr) : Prop where
  at_ : PySem.W.findIn K (.ref C) m = some (some (.ref f))
  fn : PySem.W.isFn K (.ref f) = true
  kp : PySem.W.keepIn K (.ref f) = true

section
variable {X : Cx} {pins : List (Addr × Obj)} {σ : St} {H : Hp} {s : Shared} {a C dx : Addr} {fs : List (Str × V)} {f : Str} {v : V} {A : Around} {E : Value → Shared → Prop}

theorem getattr_ok {b : Bool} {Q : Value → Shared → Prop} (I : Inv X pins σ H s) (e : H a = some (.ins C dx fs)) (c : Cls X.K C) (n : NoAttr X.K C f) (l : fs.lookup f = some v)
    (h : ∀ u s', Inv X pins σ H s' → RelV v u → Q u s') : wpAny (model X.prog X.w) A (getAttr (.ref a) f b) Q E s := by
  obtain ⟨mA, O, r, _, _, _⟩ := ins_get I.hok e
  obtain ⟨u, hu, ru⟩ := RelO.some_of (v := v) (o := mA f) (by rw [← l]; exact r f)
  exact get_map I.kIn O (c.get f) c.hd n hu (handed_of ru) (h u _ (I.tok _) ru)

theorem getmeth_ok {m : Str} {g : Addr} {pl : Sem Bool} {Q : Value × List Value → Shared → Prop} (I : Inv X pins σ H s) (e : H a = some (.ins C dx fs)) (c : Cls X.K C) (k : Meth X.K C m g) (l : fs.lookup m = none)
    (h : Q (.ref g, [.ref a]) s) : wpAny (model X.prog X.w) A (getMethod (.ref a) m pl) Q E s := by
  obtain ⟨mA, O, r, _, _, _⟩ := ins_get I.hok e
  have hn : mA m = none := RelO.none_of (by rw [← l]; exact r m)
  exact get_meth I.kIn O (c.get m) k.at_ k.fn hn h

theorem setattr_ok {y : V} {u : Value} {Q : Unit → Shared → Prop} (I : Inv X pins σ H s) (e : H a = some (.ins C dx fs)) (c : Cls X.K C) (n : NoAttr X.K C f) (hl : fs.length < 1000) (ry : RelV y u)
    (h : ∀ s', Inv X pins σ (upd H a (.ins C dx (putF f y fs))) s' → Q () s') : wpAny (model X.prog X.w) A (setAttr (.ref a) f u) Q E s := by
  obtain ⟨mA, O, r, wi, _, ho⟩ := ins_get I.hok e
  have hz : (fs.map (·.1)).length ≤ sizeLine := by rw [List.length_map, sizeLine_eq]; omega
  refine set_map I.kIn O c.sa c.po n.taker c.hd wi hz fun h' O' sb => h _ ?_
  have hd : ∃ o, h'.get? dx = some o := let ⟨o, _, _, e', _⟩ := O'.ns; ⟨o, e'⟩
  refine I.write (x := a) (e := dx) (by rw [e]; exact True.intro) (.inr ho) (fun b q hb z => (sb.2 b hb).trans z) hd ?_
  refine ⟨by rw [upd_ne O.ne]; exact ho, ?_, O.ne, O'.obj, _, O'.ns, fun g => ?_, fun g hg => ?_⟩
  · have := length_putF f y fs; omega
  · show RelO ((putF f y fs).lookup g) (if g = f then some u else mA g)
    rw [lookup_putF]
    by_cases q : g = f
    · rw [if_pos q, if_pos q]; exact ry
    · rw [if_neg q, if_neg q]; exact r g
  · by_cases q : g = f
    · rw [q]; exact (keys_putF f y fs).1
    · refine (keys_putF f y fs).2 g (wi g fun z => hg ?_)
      show (if g = f then some u else mA g) = none
      rw [if_neg q]; exact z

/-- a new instance, tracked, without attributes -/
theorem Inv.made (I : Inv X pins σ H s) : Inv X pins σ (upd (upd H s.heap.objs.size (.own (s.heap.objs.size + 1))) (s.heap.objs.size + 1) (.ins C s.heap.objs.size []))
    { s with heap := (s.heap.push PySem.W.emptyDict).push (PySem.W.instObj C s.heap.objs.size) } := by
  have e1 : (s.heap.push PySem.W.emptyDict).get? s.heap.objs.size = some PySem.W.emptyDict := Heap.get?_push_size s.heap rfl
  have e2 : ((s.heap.push PySem.W.emptyDict).push (PySem.W.instObj C s.heap.objs.size)).get? (s.heap.objs.size + 1) = some (PySem.W.instObj C s.heap.objs.size) := by
    have := Heap.get?_push_size (s.heap.push PySem.W.emptyDict) (o := PySem.W.instObj C s.heap.objs.size) rfl
    rwa [Heap.size_push] at this
  have e3 : (s.heap.push PySem.W.emptyDict).Ns s.heap.objs.size (fun _ => none) := ⟨PySem.W.emptyDict, #[], _, e1, rfl, (fun e he => absurd he (by simp)), fun _ => rfl⟩
  have I1 := I.laid (a := s.heap.objs.size) (o := .own (s.heap.objs.size + 1)) (h' := s.heap.push PySem.W.emptyDict) (t' := s.toks) (fun b u q => Heap.get?_push_of_some _ q) (Nat.le_refl _) ⟨_, e1⟩
  refine I1.laid (a := s.heap.objs.size + 1) (o := .ins C s.heap.objs.size []) (t' := s.toks) (fun b u q => Heap.get?_push_of_some _ q) (Nat.le_of_eq (Heap.size_push _ _)) ?_
  have ne : s.heap.objs.size ≠ s.heap.objs.size + 1 := Nat.ne_of_lt (Nat.lt_succ_self _)
  refine ⟨by rw [upd_ne ne, upd_same], Nat.zero_le _, ne, e2, fun _ => none, (Heap.Ns1.of_empty e3).at fun o q => Heap.get?_push_of_some _ q, fun _ => True.intro, fun y hy => absurd rfl hy⟩

/-- e.f where nothing but the object is asked: through attributeBase (super) and the last hold -/
theorem attr_of {prog : Program} {w : World} {env : Env} {e : Expr} {f : Str} {pos : Pos} {s : Shared} {Q : Value → Shared → Prop} (hb : attributeBase e f env (eval e env) = eval e env)
    (h : wpAny (model prog w) A (eval e env) (fun o s₁ => wpAny (model prog w) A (getAttr o f true) Q E s₁) E s) : wpAny (model prog w) A (eval (.Attribute e f pos) env) Q E s :=
  Attribute_any_ h (by rw [arm_eval_Attribute, hb])
end

/-! ### readings and rules -/
/-- e.f, an attribute of the instance -/
def tFld (K : PySem.W.Frag) (ta : TE) (f : Str) : TE := fun σ H Q => ta σ H fun x H1 => ∃ a C dx fs v, x = .ref a ∧ H1 a = some (.ins C dx fs) ∧ Cls K C ∧ NoAttr K C f ∧ fs.lookup f = some v ∧ Q v H1
/-- e.f = value -/
def sFld (K : PySem.W.Frag) (ta tv : TE) (f : Str) : TS := fun D σ H => tv σ H fun y H1 => ta σ H1 fun x H2 => ∃ a C dx fs, x = .ref a ∧ H2 a = some (.ins C dx fs) ∧ Cls K C ∧ NoAttr K C f ∧ fs.length < 1000 ∧
  D.nx σ (upd H2 a (.ins C dx (putF f y fs)))
section
variable {X : Cx} {o e value : Expr} {f : Str} {pos pos' tpos : Pos} {ta tv : TE}
theorem pe_fld (he : PE X e ta) (hb : attributeBase e f X.env (eval e X.env) = eval e X.env) : PE X (.Attribute e f pos) (tFld X.K ta f) := by
  intro pins s σ H Q I h
  refine attr_of hb (thn (he pins s σ H _ I h) fun u s1 ⟨x, H1, I1, rx, a, C, dx, fs, v, ex, ea, c, n, l, q⟩ => ?_)
  subst ex
  obtain rfl : u = Value.ref a := rx
  exact getattr_ok I1 ea c n l fun u' s2 I2 ru => ⟨v, H1, I2, ru, q⟩
theorem ps_fld (ha : PE X o ta) (hv : PE X value tv) (hs : swapsWith value (some (.Attribute o f pos')) pos.line X.env = pure false) : PS X (.Assign [.Attribute o f pos'] value pos) (sFld X.K ta tv f) := by
  intro pins s σ H D I h
  refine plainObj_wpAny_Assign_Attribute (thn (hv pins s σ H _ I h) fun u s1 ⟨y, H1, I1, ry, q⟩ => thn (ha pins s1 σ H1 _ I1 q) fun ov s2 ⟨x, H2, I2, rx, a, C, dx, fs, ex, ea, c, n, l, q2⟩ => ?_) hs
  subst ex
  obtain rfl : ov = Value.ref a := rx
  exact setattr_ok I2 ea c n l ry fun s3 I3 => ⟨σ, _, I3, q2⟩
end

/-! ### isinstance -/
section
variable {X : Cx} {pins : List (Addr × Obj)} {σ : St} {H : Hp} {s : Shared} {A : Around} {E : Value → Shared → Prop} {Q : Value → Shared → Prop} {c : Value} {b : Bool}
/-- the type of a value, as the fragment's deciders take it; for an instance its class -/
inductive TyOf (K : PySem.W.Frag) (H : Hp) : V → Value → Prop where
  | non : TyOf K H .non (.type "NoneType")
  | bl (x : Bool) : TyOf K H (.bl x) (.type "bool")
  | int (i : Int) : TyOf K H (.int i) (.type "int")
  | str (x : Str) : TyOf K H (.str x) (.type "str")
  | flt (x : UInt64) : TyOf K H (.flt x) (.type "float")
  | lst {a : Addr} {xs : List V} (e : H a = some (.lst xs)) : TyOf K H (.ref a) (.type "list")
  | frz {a : Addr} {o : Obj} {xs : List V} (e : H a = some (.frz o (.lst xs))) : TyOf K H (.ref a) (.type "list")
  | tup {a : Addr} {xs : List V} (e : H a = some (.tup xs)) : TyOf K H (.ref a) (.type "tuple")
  | dK {a : Addr} {kvs : List (Key × V)} (e : H a = some (.dK kvs)) : TyOf K H (.ref a) (.type "dict")
  | dT {a : Addr} {kvs : List (List Key × V)} (e : H a = some (.dT kvs)) : TyOf K H (.ref a) (.type "dict")
  | ins {a C dx : Addr} {fs : List (Str × V)} (e : H a = some (.ins C dx fs)) (cl : Cls K C) (ha : PySem.W.findIn K (.ref C) "__class__" = some (some (.builtin "object.__class__")))
      (hn : PySem.W.specialIn K (.builtin "object.__class__") "__get__" = some (some (.builtin "getset_descriptor.__get__"))) (htk : PySem.W.takesIn K (.builtin "object.__class__") = some true)
      (hm : PySem.W.mroIn K C (.type "object") = some true) : TyOf K H (.ref a) (.ref C)
end
end L2

namespace L2
open PySem PySem.Spec PyProof.Rows

/-! ### room -/
structure Room (k : Nat) (A : Around) : Prop where
  hd : A.handled = none
  dp : A.depth + 3 * k + 5 < recursionLimit
  un : A.units + 16 * k + 200 < cLine
theorem Room.mono {j k : Nat} {A : Around} (r : Room k A) (h : j ≤ k) : Room j A := ⟨r.hd, by have := r.dp; omega, by have := r.un; omega⟩
theorem Room.deeper {k : Nat} {A : Around} (r : Room (k + 1) A) (env : Env) : Room k (A.deeper env) :=
  ⟨r.hd, by have := r.dp; show A.depth + 1 + 3 * k + 5 < _; omega, by have := r.un; show A.units + 3 + 16 * k + 200 < _; omega⟩
theorem Room.in1 {k : Nat} {A : Around} (r : Room (k + 1) A) : Room k A.in1 :=
  ⟨r.hd, by have := r.dp; show A.depth + 3 * k + 5 < _; omega, by have := r.un; show A.units + 1 + 16 * k + 200 < _; omega⟩
theorem make_depth {A : Around} {C : Addr} {us : List Value} {kw : List (Str × Value)} : (A.under (.builtin "type.__call__" ⟨.ref C :: us, kw⟩)).depth = A.depth + 1 := by
  first | rfl | simp [Around.under, Code.weight, Code.isCreation, Code.isGuard, Code.isCaller, Code.frames, Code.isFrame, guardIds]
theorem make_units {A : Around} {C : Addr} {us : List Value} {kw : List (Str × Value)} : (A.under (.builtin "type.__call__" ⟨.ref C :: us, kw⟩)).units = A.units + 1 := by
  first | rfl | simp [Around.under, Code.cUnits, Code.frames, Code.isFrame]
theorem Room.make {k : Nat} {A : Around} (r : Room (k + 1) A) (C : Addr) (us : List Value) (kw : List (Str × Value)) : Room k (A.under (.builtin "type.__call__" ⟨.ref C :: us, kw⟩)) :=
  ⟨r.hd, by have := r.dp; rw [make_depth]; omega, by have := r.un; rw [make_units]; omega⟩
theorem Room.depth {k : Nat} {A : Around} (r : Room k A) : A.depth < recursionLimit := by have := r.dp; omega
theorem Room.units {k : Nat} {A : Around} (r : Room k A) : A.units + 64 < cLine := by have := r.un; omega
/-! ### argument lists and displays -/
def tNil : TA := fun _ H Q => Q [] H
def tCons (ta : TE) (tr : TA) : TA := fun σ H Q => ta σ H fun x H1 => tr σ H1 fun xs H2 => Q (x :: xs) H2
section
variable {X : Cx} {e : Expr} {es : List Expr} {te : TE} {t : TA} {pos : Pos}
theorem pa_nil : PA X [] tNil := fun _ _ _ _ H Q I h => Calls.spliced_nil ⟨[], H, I, .nil, h⟩
theorem pa_cons (ha : PE X e te) (hr : PA X es t) (hs : starEach (e :: es) X.env = (false, eval e X.env) :: starEach es X.env := by rfl) : PA X (e :: es) (tCons te t) := by
  intro pos pins s σ H Q I h
  rw [hs]
  show wpAny _ _ (spliced ((false, eval e X.env) :: backTo pos (starEach es X.env))) _ _ s
  refine Calls.spliced_cons (thn (ha pins s σ H _ I h) fun u s1 ⟨x, H1, I1, r1, q1⟩ => ?_)
  exact thn (hr pos pins s1 σ H1 _ I1 q1) fun us s2 ⟨xs, H2, I2, r2, q2⟩ => ⟨x :: xs, H2, I2, .cons r1 r2, q2⟩

/-- a tuple, a list of written items -/
def tTup (t : TA) : TE := fun σ H Q => t σ H fun xs H1 => xs.length ≤ sizeLine ∧ ∀ p, H1 p = none → Q (.ref p) (upd H1 p (.tup xs))
def tLst (t : TA) : TE := fun σ H Q => t σ H fun xs H1 => xs.length ≤ sizeLine ∧ ∀ p, H1 p = none → Q (.ref p) (upd H1 p (.lst xs))
theorem pe_tup {x1} (h : PA X es t) : PE X (.Tuple es x1 pos) (tTup t) := by
  intro pins s σ H Q I hq
  refine wpAny_Tuple_spliced (thn (h pos pins s σ H _ I hq) fun us s1 ⟨xs, H1, I1, r, z, q⟩ => ⟨by rw [← r.length]; exact z, ?_⟩)
  have hf : H1 s1.heap.objs.size = none := I1.hok.fresh (Nat.le_refl _)
  refine ⟨.ref s1.heap.objs.size, upd H1 s1.heap.objs.size (.tup xs), I1.laid (t' := s1.toks) (fun b u e => Heap.get?_push_of_some _ e) (Nat.le_refl _) ?_, rfl, q _ hf⟩
  exact ⟨z, us, r, ⟨_, Heap.get?_push_size _ rfl, rfl, _, rfl⟩⟩
theorem pe_lst (h : PA X es t) : PE X (.List es pos) (tLst t) := by
  intro pins s σ H Q I hq
  refine wpAny_List_spliced (thn (h pos pins s σ H _ I hq) fun us s1 ⟨xs, H1, I1, r, z, q⟩ => ⟨by rw [← r.length]; exact z, ?_⟩)
  have hf : H1 s1.heap.objs.size = none := I1.hok.fresh (Nat.le_refl _)
  refine ⟨.ref s1.heap.objs.size, upd H1 s1.heap.objs.size (.lst xs), I1.laid (t' := s1.toks) (fun b u e => Heap.get?_push_of_some _ e) (Nat.le_refl _) ?_, rfl, q _ hf⟩
  exact ⟨z, us, 0, r, Heap.get?_push_size _ rfl⟩
end

/-! ### what a def promises -/
/-- a def's promise: the bound arguments in the parameters' order, the heap, the wanted end, the wanted exception -/
abbrev Sp := List V → Hp → VK → XK → Prop
/-- how an exception lies behind a call (file 08 gives it): the callers' frames, abstract heap and state ahead of the call, the wish, the exception, the state -/
abbrev CXT := List Env → Hp → Shared → XK → Value → Shared → Prop

/-- the state at a call -/
structure Env0 (P : Program) (w : World) (K : PySem.W.Frag) (mg : Str → Option Value) (base : Heap) (A : Around) (outer : List Env) (s : Shared) (H : Hp) : Prop where
  frames : A.frames = some outer
  mod : Mod K mg base
  bs : ∀ b o, base.get? b = some o → s.heap.get? b = some o ∧ H b = none
  bsz : base.objs.size ≤ s.heap.objs.size
  funs : s.heap.FunFrames base outer
  frf : ∀ b ∈ frs outer, H b = none
  hok : HOk P w H s.heap
  bare : AllBare s.gens
/-- a call's end -/
def CE (outer : List Env) (P : Program) (w : World) (H : Hp) (s : Shared) (Q : VK) (u : Value) (s' : Shared) : Prop :=
  ∃ v H', s'.os = s.os ∧ AllBare s'.gens ∧ Un (frs outer) [] H H' s.heap s'.heap ∧ HOk P w H' s'.heap ∧ RelV v u ∧ Q v H'
def CR (CX : CXT) (outer : List Env) (P : Program) (w : World) (H : Hp) (s : Shared) (Q : VK) (E : XK) (r : Result) (s' : Shared) : Prop :=
  match r with
  | .ok (.ret u) => CE outer P w H s Q u s'
  | .ok _ => False
  | .error e => CX outer H s E e s'
structure FnOk (P : Program) (w : World) (K : PySem.W.Frag) (mg : Str → Option Value) (base : Heap) (CX : CXT) (k : Nat) (f : Addr) (fd : FuncData) (ps : List Str) (sp : Sp) : Prop where
  len : ∀ vs H Q E, sp vs H Q E → vs.length = ps.length
  run : ∀ (A : Around) (outer : List Env) (s : Shared) (H : Hp) (args : Args) (us : List Value) (vs : List V) (Q : VK) (E : XK), Room k A → Env0 P w K mg base A outer s H → BindsTo s fd args (ps.zip us) → Vals vs us → sp vs H Q E →
    codeAny (model P w) A (.call (.ref f) args) (CR CX outer P w H s Q E) s
theorem FnOk.mono {P : Program} {w : World} {K : PySem.W.Frag} {mg : Str → Option Value} {base : Heap} {CX : CXT} {j k : Nat} {f : Addr} {fd : FuncData} {ps : List Str} {sp : Sp} (F : FnOk P w K mg base CX j f fd ps sp) (h : j ≤ k) :
    FnOk P w K mg base CX k f fd ps sp := ⟨F.len, fun A outer s H args us vs Q E hr => F.run A outer s H args us vs Q E (hr.mono h)⟩
/-- a weaker promise -/
theorem FnOk.imp {P : Program} {w : World} {K : PySem.W.Frag} {mg : Str → Option Value} {base : Heap} {CX : CXT} {k : Nat} {f : Addr} {fd : FuncData} {ps : List Str} {sp sp' : Sp} (F : FnOk P w K mg base CX k f fd ps sp)
    (h : ∀ vs H Q E, sp' vs H Q E → sp vs H Q E) : FnOk P w K mg base CX k f fd ps sp' :=
  ⟨fun vs H Q E q => F.len vs H Q E (h _ _ _ _ q), fun A outer s H args us vs Q E hr he hb hv hs => F.run A outer s H args us vs Q E hr he hb hv (h _ _ _ _ hs)⟩

theorem Env0.make {P : Program} {w : World} {K : PySem.W.Frag} {mg : Str → Option Value} {base : Heap} {A : Around} {outer : List Env} {s : Shared} {H : Hp} (e : Env0 P w K mg base A outer s H) (C : Addr) (us : List Value) (kw : List (Str × Value)) :
    Env0 P w K mg base (A.under (.builtin "type.__call__" ⟨.ref C :: us, kw⟩)) outer s H := ⟨by first | exact e.frames | (simpa [Around.under, Code.envs, Code.isFrame, pushEnvs] using e.frames), e.mod, e.bs, e.bsz, e.funs, e.frf, e.hok, e.bare⟩
theorem Env0.in1 {P : Program} {w : World} {K : PySem.W.Frag} {mg : Str → Option Value} {base : Heap} {A : Around} {outer : List Env} {s : Shared} {H : Hp} (e : Env0 P w K mg base A outer s H) :
    Env0 P w K mg base A.in1 outer s H := ⟨e.frames, e.mod, e.bs, e.bsz, e.funs, e.frf, e.hok, e.bare⟩

section
variable {X : Cx} {pins : List (Addr × Obj)} {σ : St} {H : Hp} {s s' : Shared}
/-- from a body: what a callee wants -/
theorem Inv.env0 (I : Inv X pins σ H s) : Env0 X.prog X.w X.K X.mg X.base X.A X.stack s H :=
  ⟨I.ok.frames, I.ok.mod, I.bs, Nat.le_trans I.ok.bsz I.sz, I.stack, I.stkFree, I.hok, I.bare⟩
/-- behind a call -/
theorem Inv.after {Q : VK} {u : Value} (I : Inv X pins σ H s) (h : CE X.stack X.prog X.w H s Q u s') : EP X pins σ Q u s' := by
  obtain ⟨v, H', os, bare, un, hok, r, q⟩ := h
  obtain ⟨hh, g, d, t, os'⟩ := s'
  obtain rfl : os' = s.os := os
  exact ⟨v, H', I.call (h' := hh) (g' := g) (d' := d) (t' := t) (ch := []) un hok bare (fun b z => absurd z (by simp)), r, q⟩
end

/-! ### calls -/
/-- f(..): the written arguments, then the defaults dvs; E: what is wanted of an exception -/
def tCall (sp : Sp) (dvs : List V) (E : XK) (t : TA) : TE := fun σ H Q => t σ H fun vs H1 => sp (vs ++ dvs) H1 Q E
/-- o.m(..) of an instance of the class at C -/
def tMeth (C : Addr) (m : Str) (sp : Sp) (dvs : List V) (E : XK) (ta : TE) (t : TA) : TE := fun σ H Q => ta σ H fun x H1 => ∃ a dx fs, x = .ref a ∧ H1 a = some (.ins C dx fs) ∧ fs.lookup m = none ∧
  t σ H1 fun vs H2 => sp (x :: (vs ++ dvs)) H2 Q E
/-- C(..): a new instance and its dict, then __init__ -/
def tMake (C : Addr) (sp : Sp) (dvs : List V) (E : XK) (t : TA) : TE := fun σ H Q => t σ H fun vs H1 => ∀ x dx, H1 x = none → H1 dx = none → dx ≠ x →
  sp (.ref x :: (vs ++ dvs)) (upd (upd H1 dx (.own x)) x (.ins C dx [])) (fun v H2 => v = .non ∧ Q (.ref x) H2) E

/-- how the parameters are bound: us the positional arguments, kw the keywords' values by name, ds the defaults that fill up -/
def Binds (K : PySem.W.Frag) (fd : FuncData) (ps : List Str) (ds : List Value) : Prop :=
  ∀ (s : Shared) (us : List Value), K.In s.heap → (us ++ ds).length = ps.length → BindsTo s fd ⟨us, []⟩ (ps.zip (us ++ ds))
/-- every parameter is given -/
theorem Binds.all {K : PySem.W.Frag} {fd : FuncData} {ps : List Str} (h : ∀ us : List Value, us.length = ps.length → bindArgs fd ⟨us, []⟩ = pure (ps.zip us)) : Binds K fd ps [] := fun s us _ hl => by
  rw [List.append_nil] at hl ⊢
  exact .of_eq (h us hl)

/-- an exception of a callee reaches what this body wants of exceptions -/
def Passes (CX : CXT) (X : Cx) (E : XK) : Prop := ∀ (pins : List (Addr × Obj)) (σ : St) (H : Hp) (s : Shared) (e : Value) (s' : Shared), Inv X pins σ H s → CX X.stack H s E e s' → X.xe e s'

section
variable {X : Cx} {CX : CXT} {k : Nat} {f C : Addr} {fd : FuncData} {ps : List Str} {sp : Sp} {dvs : List V} {ds : List Value} {E : XK} {x m : Str} {p pos apos : Pos} {e o : Expr} {es : List Expr} {ta : TE} {t : TA}

/-- the callee runs -/
theorem run_fn {pins : List (Addr × Obj)} {σ : St} {H : Hp} {s : Shared} {Q : VK} {us : List Value} {vs : List V} (F : FnOk X.prog X.w X.K X.mg X.base CX k f fd ps sp) (hr : Room k X.A) (hb : Binds X.K fd ps ds) (hd : Vals dvs ds) (hx : Passes CX X E)
    (I : Inv X pins σ H s) (r : Vals vs us) (h : sp (vs ++ dvs) H Q E) : wpAny (model X.prog X.w) X.A (call (.ref f) us) (EP X pins σ Q) X.xe s := by
  have r2 : Vals (vs ++ dvs) (us ++ ds) := r.append hd
  have hl : (us ++ ds).length = ps.length := by rw [← r2.length]; exact F.len _ _ _ _ h
  refine wpAny_call (codeAny_mono (F.run X.A X.stack s H ⟨us, []⟩ (us ++ ds) (vs ++ dvs) Q E hr I.env0 (hb s us I.kIn hl) r2 h) fun r s' hq => ?_)
  cases r with
  | error e => exact hx pins σ H s e s' I hq
  | ok fl =>
    cases fl with
    | ret u => exact I.after hq
    | next => exact False.elim hq
    | brk => exact False.elim hq
    | cont => exact False.elim hq

theorem pe_call (F : FnOk X.prog X.w X.K X.mg X.base CX k f fd ps sp) (hr : Room k X.A) (hg : Gl X x) (hm : X.mg x = some (.ref f)) (hk : PySem.W.keepIn X.K (.ref f) = true) (hb : Binds X.K fd ps ds) (hd : Vals dvs ds) (hx : Passes CX X E)
    (ha : PA X (e :: es) t) (hdb : (x == ("__debug__" : Str)) = false := by decide) (he : starEach (e :: es) X.env = (false, eval e X.env) :: starEach es X.env := by rfl) (hpl : (backTo pos (starEach es X.env)).any (·.1) = false := by rfl) :
    PE X (.Call (.Name x p) (e :: es) [] pos) (tCall sp dvs E t) := by
  intro pins s σ H Q I h
  refine wpAny_Call_Name_kw (ld_glob I hg hm ?_ hdb)
  refine PySem.W.callWith_K (h₀ := X.base) I.ok.mod.kin hk (thn (ha pos pins s σ H _ I h) fun us s1 ⟨vs, H1, I1, r, q⟩ => ⟨I1.kIn, ?_⟩) he hpl
  exact run_fn F hr hb hd hx I1 r q
/-- o.m() -/
theorem pe_meth0 {pl : Sem Bool} (he : PE X o ta) (c : Cls X.K C) (hm : Meth X.K C m f) (F : FnOk X.prog X.w X.K X.mg X.base CX k f fd ps sp) (hr : Room k X.A) (hb : Binds X.K fd ps ds) (hd : Vals dvs ds) (hx : Passes CX X E)
    (ht : eval (.Call (.Attribute o m apos) [] [] pos) X.env = (do
      let ov ← eval o X.env
      standAt apos.atName
      let (f, first) ← holding [ov] (getMethod ov m pl)
      callWith pos f first (backTo pos (starEach [] X.env)) (backToKw pos (keywordEach [] X.env))) := by rfl) :
    PE X (.Call (.Attribute o m apos) [] [] pos) (tMeth C m sp dvs E ta tNil) := by
  intro pins s σ H Q I h
  refine PySem.W.methodCall_KW (pl := pl) (thn (he pins s σ H _ I h) fun u s1 ⟨x, H1, I1, rx, a, dx, fs, ex, ea, l, q⟩ => ?_) ht
  subst ex
  obtain rfl : u = Value.ref a := rx
  refine getmeth_ok I1 ea c hm l ?_
  exact PySem.W.callWith_K0 (first := [.ref a]) I1.kIn hm.kp (run_fn (us := [.ref a]) (vs := [.ref a]) F hr hb hd hx I1 (.cons rfl .nil) q)

/-- what a class must have to be made -/
structure Mk (K : PySem.W.Frag) (C f : Addr) : Prop where
  makes : PySem.W.makesIn K C = true
  init : PySem.W.findIn K (.ref C) "__init__" = some (some (.ref f))
  fn : PySem.W.isFn K (.ref f) = true
  kp : PySem.W.keepIn K (.ref C) = true

theorem run_make {pins : List (Addr × Obj)} {σ : St} {H : Hp} {s : Shared} {Q : VK} {us : List Value} {vs : List V} (M : Mk X.K C f) (F : FnOk X.prog X.w X.K X.mg X.base CX k f fd ps sp) (hr : Room (k + 1) X.A) (hb : Binds X.K fd ps ds) (hd : Vals dvs ds)
    (hx : Passes CX X E) (I : Inv X pins σ H s) (r : Vals vs us)
    (h : ∀ x dx, H x = none → H dx = none → dx ≠ x → sp (.ref x :: (vs ++ dvs)) (upd (upd H dx (.own x)) x (.ins C dx [])) (fun v H2 => v = .non ∧ Q (.ref x) H2) E) :
    wpAny (model X.prog X.w) X.A (call (.ref C) us) (EP X pins σ Q) X.xe s := by
  have hq := h (s.heap.objs.size + 1) s.heap.objs.size (I.hok.fresh (Nat.le_succ _)) (I.hok.fresh (Nat.le_refl _)) (Nat.ne_of_lt (Nat.lt_succ_self _))
  have I2 := Inv.made (C := C) I
  have r2 : Vals (V.ref (s.heap.objs.size + 1) :: (vs ++ dvs)) (Value.ref (s.heap.objs.size + 1) :: (us ++ ds)) := .cons rfl (r.append hd)
  have hl : (Value.ref (s.heap.objs.size + 1) :: us ++ ds).length = ps.length := by
    have e := r2.length
    rw [F.len _ _ _ _ hq] at e
    exact e.symm
  refine wpAny_call (make_map (f := f) I.kIn M.makes M.init (beq_iff_eq.mp M.fn) (codeAny_mono (F.run _ X.stack _ _ ⟨Value.ref (s.heap.objs.size + 1) :: us, []⟩ (Value.ref (s.heap.objs.size + 1) :: (us ++ ds)) _ _ E (hr.make C us [])
    (I2.env0.make C us []) (hb _ (Value.ref (s.heap.objs.size + 1) :: us) I2.kIn hl) r2 hq) fun r s' hq' => ?_))
  cases r with
  | error e => exact hx pins σ _ _ e s' I2 hq'
  | ok fl =>
    cases fl with
    | ret u =>
      obtain ⟨v, H', I3, rv, ev, q3⟩ := I2.after hq'
      subst ev
      exact ⟨rv, ⟨V.ref (s.heap.objs.size + 1), H', I3, rfl, q3⟩⟩
    | next => exact False.elim hq'
    | brk => exact False.elim hq'
    | cont => exact False.elim hq'
theorem pe_make (M : Mk X.K C f) (F : FnOk X.prog X.w X.K X.mg X.base CX k f fd ps sp) (hr : Room (k + 1) X.A) (hg : Gl X x) (hm : X.mg x = some (.ref C)) (hb : Binds X.K fd ps ds) (hd : Vals dvs ds) (hx : Passes CX X E)
    (ha : PA X (e :: es) t) (hdb : (x == ("__debug__" : Str)) = false := by decide) (he : starEach (e :: es) X.env = (false, eval e X.env) :: starEach es X.env := by rfl) (hpl : (backTo pos (starEach es X.env)).any (·.1) = false := by rfl) :
    PE X (.Call (.Name x p) (e :: es) [] pos) (tMake C sp dvs E t) := by
  intro pins s σ H Q I h
  refine wpAny_Call_Name_kw (ld_glob I hg hm ?_ hdb)
  refine PySem.W.callWith_K (h₀ := X.base) I.ok.mod.kin M.kp (thn (ha pos pins s σ H _ I h) fun us s1 ⟨vs, H1, I1, r, q⟩ => ⟨I1.kIn, ?_⟩) he hpl
  exact run_make M F hr hb hd hx I1 r q
end

/-! ### keywords -/
section
variable {X : Cx} {CX : CXT} {k : Nat} {f C : Addr} {fd : FuncData} {ps ks : List Str} {sp : Sp} {E : XK} {x m : Str} {p pos apos kpos : Pos} {e o : Expr} {es : List Expr} {kws : List Keyword} {te ta : TE} {t tk : TA} {nm : Option Str}
/-- how a call with keywords binds: g puts the positional values us and the keywords' values ws (names ks) in the parameters' order, defaults among them -/
structure KBinds (K : PySem.W.Frag) (fd : FuncData) (ps ks : List Str) (g : List Value → List Value → List Value) (gV : List V → List V → List V) : Prop where
  to : ∀ (s : Shared) (us ws : List Value), K.In s.heap → (g us ws).length = ps.length → BindsTo s fd ⟨us, ks.zip ws⟩ (ps.zip (g us ws))
  rel : ∀ {vs : List V} {us : List Value} {zs : List V} {ws : List Value}, Vals vs us → Vals zs ws → Vals (gV vs zs) (g us ws)
variable {g : List Value → List Value → List Value} {gV : List V → List V → List V}
end

/-! ### a def's body keeps its promise -/
/-- names: the parameters first -/
structure FnScope (N P : List Str) (sc : Scope) : Prop where
  kind : sc.kind = .function
  co : sc.isCoroutine = false
  gen : sc.isGenerator = false
  nd : N.Nodup
  pre : N.take P.length = P
  par : ∀ x ∈ P, sc.names.lookup x = some .local ∨ sc.names.lookup x = some .cell
  nofree : ∀ y ∈ sc.names, y.2 ≠ .free

theorem bindL_out {kindOf : Str → Option NameKind} {x : Str} : ∀ {binds : List (Str × Value)} {m : Str → Option Value}, (∀ v, (x, v) ∉ binds) → bindL kindOf binds m x = m x
  | [], _, _ => rfl
  | (n, v) :: r, m, h => by
    unfold bindL
    rw [bindL_out fun w hw => h w (List.mem_cons_of_mem _ hw)]
    split
    · have : x ≠ n := by rintro rfl; exact h v List.mem_cons_self
      simp [this]
    · rfl
theorem bindC_out {kindOf : Str → Option NameKind} {x : Str} : ∀ {binds : List (Str × Value)} {m : Str → Option Value}, (∀ v, (x, v) ∉ binds) → bindC kindOf binds m x = m x
  | [], _, _ => rfl
  | (n, v) :: r, m, h => by
    unfold bindC
    rw [bindC_out fun w hw => h w (List.mem_cons_of_mem _ hw)]
    split
    · rfl
    · have : x ≠ n := by rintro rfl; exact h v List.mem_cons_self
      simp [this]
theorem bindL_get {kindOf : Str → Option NameKind} {x : Str} {v : Value} : ∀ {P : List Str} {vs : List Value} {i : Nat} {m : Str → Option Value}, P.Nodup → P[i]? = some x → vs[i]? = some v → kindOf x = some .local →
    bindL kindOf (P.zip vs) m x = some v
  | [], _, _, _, _, h, _, _ => by simp at h
  | _ :: _, [], _, _, _, _, h, _ => by simp at h
  | p :: P, w :: vs, 0, m, nd, h1, h2, hk => by
    simp at h1 h2; subst h1; subst h2
    show bindL kindOf ((p, w) :: P.zip vs) m p = _
    unfold bindL
    rw [bindL_out fun v hv => (List.nodup_cons.mp nd).1 (List.of_mem_zip hv).1, if_pos hk]
    simp
  | p :: P, w :: vs, i + 1, m, nd, h1, h2, hk => by
    show bindL kindOf ((p, w) :: P.zip vs) m x = _
    unfold bindL
    exact bindL_get (i := i) (List.nodup_cons.mp nd).2 (by simpa using h1) (by simpa using h2) hk
theorem bindC_get {kindOf : Str → Option NameKind} {x : Str} {v : Value} : ∀ {P : List Str} {vs : List Value} {i : Nat} {m : Str → Option Value}, P.Nodup → P[i]? = some x → vs[i]? = some v → kindOf x ≠ some .local →
    bindC kindOf (P.zip vs) m x = some v
  | [], _, _, _, _, h, _, _ => by simp at h
  | _ :: _, [], _, _, _, _, h, _ => by simp at h
  | p :: P, w :: vs, 0, m, nd, h1, h2, hk => by
    simp at h1 h2; subst h1; subst h2
    show bindC kindOf ((p, w) :: P.zip vs) m p = _
    unfold bindC
    rw [bindC_out fun v hv => (List.nodup_cons.mp nd).1 (List.of_mem_zip hv).1, if_neg hk]
    simp
  | p :: P, w :: vs, i + 1, m, nd, h1, h2, hk => by
    show bindC kindOf ((p, w) :: P.zip vs) m x = _
    unfold bindC
    exact bindC_get (i := i) (List.nodup_cons.mp nd).2 (by simpa using h1) (by simpa using h2) hk

/-- the names' values at the entry -/
def start (N : List Str) (vs : List V) : St := vs.map some ++ List.replicate (N.length - vs.length) none

/-- the context of a def's body, at its entry; an exception leaves the frame, then lies as CX says -/
def cxOf (CX : CXT) (P : Program) (w : World) (K : PySem.W.Frag) (mg : Str → Option Value) (base : Heap) (N : List Str) (qual : Str) (scope : Scope) (f : Addr) (cd : Value) (A : Around) (outer : List Env) (s : Shared) (H : Hp) (E : XK) : Cx where
  prog := P
  w := w
  K := K
  mg := mg
  base := base
  A := A.deeper (envOfC qual scope s.heap.objs.size f cd)
  N := N
  s₀ := s
  H₀ := H
  env := envOfC qual scope s.heap.objs.size f cd
  outer := outer
  stack := envOfC qual scope s.heap.objs.size f cd :: outer
  ex := []
  calm := true
  fn := fun _ => true
  pn := []
  xe := fun e s' => wpAny (model P w) (A.deeper (envOfC qual scope s.heap.objs.size f cd)) (leaving (envOfC qual scope s.heap.objs.size f cd) e) (fun _ s'' => CX outer H s E e s'') (fun e' s'' => CX outer H s E e' s'') s'

theorem cell_has {sc : Scope} {n : Nat} {x : Str} (h : sc.names.lookup x = some .cell) : ∃ c, (cellsFrom n sc.names []).lookup x = some c := by
  have q := PySem.W.cellsFrom_some sc.names n [] (.inl h)
  exact Option.isSome_iff_exists.mp q

theorem inv_start {CX : CXT} {P : Program} {w : World} {K : PySem.W.Frag} {mg : Str → Option Value} {base : Heap} {N ps : List Str} {qual : Str} {scope : Scope} {f : Addr} {cd : Value} {A : Around} {outer : List Env} {s s1 : Shared} {H : Hp} {E : XK} {us : List Value} {vs : List V}
    (S : FnScope N ps scope) (hd : A.handled = none) (e0 : Env0 P w K mg base A outer s H) (hl : vs.length = ps.length) (r : Vals vs us)
    (x : InCallC s s.heap.objs.size (bindL (envOfC qual scope s.heap.objs.size f cd).kindOf (ps.zip us) fun _ => none) (cellsFrom (s.heap.objs.size + 1) scope.names []) (bindC (envOfC qual scope s.heap.objs.size f cd).kindOf (ps.zip us) fun _ => none) s1) :
    Inv (cxOf CX P w K mg base N qual scope f cd A outer s H E) [] (start N vs) H s1 := by
  have hpl : ps.length ≤ N.length := by have := congrArg List.length S.pre; rw [List.length_take] at this; omega
  obtain ⟨h1, tk, rfl, hk⟩ := x.done
  have noA : ∀ b : Addr, b ∉ (cxOf CX P w K mg base N qual scope f cd A outer s H E).ex := fun b z => absurd (show b ∈ ([] : List Addr) from z) (by simp)
  refine ⟨⟨e0.mod, S.kind, rfl, rfl, Nat.le_refl _, fun y z c h1 h2 => ?_, fun y hy => ?_, fun y c _ h => ?_, fun _ => hd, Around.frames_deeper e0.frames, .inr ⟨rfl, rfl⟩, fun b z => absurd z (noA b), e0.bs, e0.bsz, fun b _ _ => noA b, fun b z => absurd z (noA b), e0.funs, e0.frf⟩,
    rfl, e0.bare, Un.kept hk, ⟨_, x.toInCall.ns, fun i y v h1 h2 h3 => ?_⟩, fun y c h => ⟨_, x.cell y c h⟩, e0.hok.fresh (Nat.le_refl _), fun y c h => ?_, fun p hp => absurd (show p ∈ ([] : List (Addr × Obj)) from hp) (by simp), e0.hok.kept hk, ?_⟩
  · exact name_of_addr x.apart (PySem.mem_of_lookup h1) (PySem.mem_of_lookup h2)
  · have hy : scope.names.lookup y = some .cell ∨ scope.names.lookup y = some .free := hy
    rcases hy with hy | hy
    · exact cell_has hy
    · exact absurd rfl (S.nofree _ (PySem.mem_of_lookup hy))
  · exact Nat.le_of_lt (x.above y c (PySem.mem_of_lookup h))
  · have hi : i < vs.length := by
      unfold start at h2
      by_cases hi : i < vs.length
      · exact hi
      · rw [List.getElem?_append_right (by simpa using hi)] at h2
        rw [List.getElem?_replicate] at h2
        split at h2 <;> cases h2
    have ha : vs[i]? = some v := by
      unfold start at h2
      rw [List.getElem?_append_left (by simpa using hi), List.getElem?_map] at h2
      cases e : vs[i]? with
      | none => rw [e] at h2; cases h2
      | some a => rw [e] at h2; cases h2; rfl
    obtain ⟨u, hu, rv⟩ := r.get ha
    have hp : ps[i]? = some y := by
      rw [← S.pre, List.getElem?_take_of_lt (by omega)]; exact h1
    have ndP : ps.Nodup := by rw [← S.pre]; exact S.nd.sublist (List.take_sublist _ _)
    refine ⟨u, rv, ?_⟩
    rcases S.par y (List.mem_of_getElem? hp) with k | k
    · exact .inl ⟨k, bindL_get ndP hp hu k⟩
    · obtain ⟨c, e⟩ := cell_has (n := s.heap.objs.size + 1) k
      refine .inr ⟨.inl k, c, e, ?_⟩
      have q := x.cell y c e
      rw [bindC_get ndP hp hu (by show scope.names.lookup y ≠ _; rw [k]; decide)] at q
      exact q
  · exact e0.hok.fresh (Nat.le_of_lt (x.above y c (PySem.mem_of_lookup h)))
  · unfold start
    show _ = N.length
    rw [List.length_append, List.length_map, List.length_replicate]
    omega

/-- THE RULE: a def (or a method) of the text, by its body. The body's reading t is chosen for each entry; it is run at the parameters' values -/
theorem fn_of {CX : CXT} {P : Program} {w : World} {K : PySem.W.Frag} {mg : Str → Option Value} {base : Heap} {k : Nat} {f : Addr} {name qual : Str} {params : Arguments} {body : List Stmt} {scope : Scope} {dV kV doc pm cdv ct oc : Value} {an od : Option Addr}
    {osl : Array (Option Value)} {N ps : List Str} {sp : Sp} (lk : K.lookup f = some ⟨oc, od, .func (PySem.W.fnOf name qual params body scope dV kV doc pm an cdv ct), osl⟩) (hcd : PySem.W.codeIn K cdv qual = true) (S : FnScope N ps scope)
    (len : ∀ vs H Q E, sp vs H Q E → vs.length = ps.length)
    (hbody : ∀ (A : Around) (outer : List Env) (s : Shared) (H : Hp) (vs : List V) (Q : VK) (E : XK), Room k (A.deeper (envOfC qual scope s.heap.objs.size f cdv)) → sp vs H Q E →
      ∃ t, PSs (cxOf CX P w K mg base N qual scope f cdv A outer s H E) body t ∧ t { nx := fun _ H' => Q .non H', rt := Q } (start N vs) H) :
    FnOk P w K mg base CX (k + 1) f (PySem.W.fnOf name qual params body scope dV kV doc pm an cdv ct) ps sp := by
  refine ⟨len, fun A outer s H args us vs Q E hr e0 hb r hsp => ?_⟩
  have hl := len _ _ _ _ hsp
  have KX : K.In s.heap := e0.mod.kin.keeps fun b o e => (e0.bs b o e).1
  have lim : s.heap.NoLimit := e0.mod.nolimit.keeps fun b o e => (e0.bs b o e).1
  have hkind : ∀ y ∈ ps.zip us, scope.names.lookup y.1 = some .local ∨ (scope.names.lookup y.1 = some .cell ∧ ((cellsFrom (s.heap.objs.size + 1) scope.names []).lookup y.1).isSome = true) := fun ⟨n, v⟩ hy => by
    rcases S.par n (List.of_mem_zip hy).1 with q | q
    · exact .inl q
    · exact .inr ⟨q, PySem.W.cellsFrom_some _ _ _ (.inl q)⟩
  refine codeAny_call_function hr.depth (KX _ _ lk) rfl S.co S.gen rfl (PySem.W.codeRec_of KX hcd) (hb _ _ _ _ ?_)
  refine wpAny_newFunctionEnv_cells S.kind hkind fun env he s1 x => ?_
  subst he
  refine ⟨lim.keeps x.toInCall.keep, codeAny_func ?_⟩
  obtain ⟨t, ht, hq⟩ := hbody A outer s H vs Q E (hr.deeper _) hsp
  have I : Inv (cxOf CX P w K mg base N qual scope f cdv A outer s H E) [] (start N vs) H s1 := inv_start S hr.hd e0 hl r x
  refine wpAny_mono (ht [] s1 (start N vs) H _ I hq) (fun fl s' hs => ?_) fun e s' hs => hs
  have fin : ∀ {σ' : St} {H' : Hp} {v : V} {u : Value}, Inv (cxOf CX P w K mg base N qual scope f cdv A outer s H E) [] σ' H' s' → RelV v u → Q v H' → CE outer P w H s Q u s' :=
    fun {σ' H' v u} J rv q => ⟨v, H', J.os, J.bare, J.base, J.hok, rv, q⟩
  cases fl with
  | ret u =>
    obtain ⟨v, σ', H', J, rv, q⟩ := hs
    exact fin J rv q
  | next =>
    obtain ⟨σ', H', J, q⟩ := hs
    exact fin (v := V.non) (u := Value.none) J rfl q
  | brk =>
    obtain ⟨_, _, _, q⟩ := hs
    exact False.elim q
  | cont =>
    obtain ⟨_, _, _, q⟩ := hs
    exact False.elim q
end L2

namespace L2
open PySem PySem.Spec PyProof.Rows
section
variable {X : Cx} {x : Str} {p pos : Pos} {e : Expr} {es : List Expr} {t : TA} {id T : String} {r : List V → Hp → VK → Prop}

def tCB (r : List V → Hp → VK → Prop) (t : TA) : TE := fun σ H Q => t σ H fun vs H1 => r vs H1 Q
/-- f(e, ..), f a built-in function -/
theorem pe_callB (hc : CallR X (.builtin id) r) (hg : Gl X x) (hm : X.mg x = none) (hv : bootBuiltins x = some (.builtin id)) (ha : PA X (e :: es) t) (hn : x ≠ "__name__" := by decide) (hdb : (x == ("__debug__" : Str)) = false := by decide)
    (he : starEach (e :: es) X.env = (false, eval e X.env) :: starEach es X.env := by rfl) (hpl : (backTo pos (starEach es X.env)).any (·.1) = false := by rfl) : PE X (.Call (.Name x p) (e :: es) [] pos) (tCB r t) := by
  intro pins s σ H Q I h
  refine wpAny_Call_Name_kw (ld_blt I hg hm hv ?_ hn hdb)
  exact PyProof.Rows.callWith_builtin1 (thn (ha pos pins s σ H _ I h) fun us s1 ⟨vs, H1, I1, r1, q1⟩ => hc pins s1 σ H1 vs us Q I1 r1 q1) he hpl
/-- T(e, ..), T a built-in type -/
theorem pe_callTy (hc : CallR X (.type T) r) (hg : Gl X x) (hm : X.mg x = none) (hv : bootBuiltins x = some (.type T)) (ha : PA X (e :: es) t) (hn : x ≠ "__name__" := by decide) (hdb : (x == ("__debug__" : Str)) = false := by decide)
    (he : starEach (e :: es) X.env = (false, eval e X.env) :: starEach es X.env := by rfl) (hpl : (backTo pos (starEach es X.env)).any (·.1) = false := by rfl) : PE X (.Call (.Name x p) (e :: es) [] pos) (tCB r t) := by
  intro pins s σ H Q I h
  refine wpAny_Call_Name_kw (ld_blt I hg hm hv ?_ hn hdb)
  exact PyProof.Rows.callWith_type1 (thn (ha pos pins s σ H _ I h) fun us s1 ⟨vs, H1, I1, r1, q1⟩ => hc pins s1 σ H1 vs us Q I1 r1 q1) he hpl
end
end L2

namespace HT
open PySem PyProof.Rows

section
open PySem.SeqAt
open PySem.AutoSeq1 (wpAny_loadPart')
open PySem.MeetsSeq PySem.MeetsSeq2 PySem.MeetsSeq3

end

section
variable {prog : Program} {w : World} {A : Around} {E : Value → Shared → Prop} {s : Shared}

/-! ### t[a:b], not the whole -/
/-- a slice's bound as a place among n (d where it is left out) -/
def sIx (n d : Nat) : Option Int → Nat
  | none => d
  | some v => if v < 0 then (v + (n : Int)).toNat else min v.toNat n
theorem sIx_nat (n d k : Nat) : sIx n d (some (k : Int)) = min k n := by
  show (if (k : Int) < 0 then ((k : Int) + (n : Int)).toNat else min (k : Int).toNat n) = min k n
  rw [if_neg (by omega), Int.toNat_natCast]
end
end HT

namespace L2
open PySem PySem.Spec PyProof.Rows

/-! ### the parts of a slice -/
abbrev TO := St → Hp → (Option Int → Hp → Prop) → Prop
/-- a slice's part (left out, or an int) -/
def PO (X : Cx) (e : Option Expr) (t : TO) : Prop :=
  ∀ (pins : List (Addr × Obj)) (s : Shared) (σ : St) (H : Hp) (Q : Option Int → Hp → Prop), Inv X pins σ H s → t σ H Q →
    wpAny (model X.prog X.w) X.A (evalPart e X.env) (fun u s' => ∃ o H', Inv X pins σ H' s' ∧ IsPart u o ∧ Q o H') X.xe s
def tNoPart : TO := fun _ H Q => Q none H
def tPart (t : TE) : TO := fun σ H Q => t σ H fun x H1 => ∃ i, x = .int i ∧ Q (some i) H1

section
variable {X : Cx} {e : Expr} {te : TE} {lo hi : Option Expr} {tl th : TO} {pos p2 : Pos}

theorem po_none : PO X none tNoPart := by
  intro pins s σ H Q I h
  rw [evalPart_none]
  exact wpAny_pure ⟨none, H, I, .none, h⟩
theorem po_some (h : PE X e te) : PO X (some e) (tPart te) := by
  intro pins s σ H Q I hw
  rw [evalPart_some]
  refine thn (h pins s σ H _ I hw) fun u s1 ⟨x, H1, I1, r1, q1⟩ => ?_
  obtain ⟨i, rfl, q⟩ := q1
  obtain ⟨t, rfl⟩ := r1
  exact ⟨some i, H1, I1, .int i t, q⟩

/-- what a slice of a value is, by values: the slice object stands at sl -/
def SlR (X : Cx) (r : V → Option Int → Option Int → Hp → VK → Prop) : Prop :=
  ∀ (pins : List (Addr × Obj)) (s : Shared) (σ : St) (H : Hp) (x : V) (v vl vu : Value) (lo hi : Option Int) (sl : Addr) (Q : VK), Inv X pins σ H s → RelV x v → s.heap.IsSliceOf sl vl vu .none → IsPart vl lo → IsPart vu hi → r x lo hi H Q →
    ∃ T id, typeLookup (.type T) "__getitem__" = pure (some (.builtin id)) ∧ s.TypeIs v T ∧ wpAny (model X.prog X.w) X.A (getItem v (.ref sl)) (EP X pins σ Q) X.xe s
theorem SlR.or {r r' : V → Option Int → Option Int → Hp → VK → Prop} (h : SlR X r) (h' : SlR X r') : SlR X (fun x lo hi H Q => r x lo hi H Q ∨ r' x lo hi H Q) := by
  intro pins s σ H x v vl vu lo hi sl Q I rx hs pl pu q
  rcases q with q | q
  · exact h pins s σ H x v vl vu lo hi sl Q I rx hs pl pu q
  · exact h' pins s σ H x v vl vu lo hi sl Q I rx hs pl pu q
def tSl (r : V → Option Int → Option Int → Hp → VK → Prop) (te : TE) (tl th : TO) : TE := fun σ H Q => te σ H fun x H1 => tl σ H1 fun l H2 => th σ H2 fun u H3 => r x l u H3 Q
/-- a[lo:hi], any a -/
theorem pe_slice {r : V → Option Int → Option Int → Hp → VK → Prop} (hr : SlR X r) (he : PE X e te) (hl : PO X lo tl) (hu : PO X hi th) : PE X (.Subscript e (.Slice lo hi none p2) pos) (tSl r te tl th) := by
  intro pins s σ H Q I h
  refine Subscript_ (thn (he pins s σ H _ I h) fun v s1 ⟨x, H1, I1, r1, q1⟩ => ?_)
  refine wpAny_Slice (thn (hl pins s1 σ H1 _ I1 q1) fun vl s2 ⟨l, H2, I2, pl, q2⟩ => thn (hu pins s2 σ H2 _ I2 q2) fun vu s3 ⟨u, H3, I3, pu, q3⟩ => ?_)
  rw [evalPart_none]
  refine wpAny_pure ?_
  have I4 : Inv X pins σ H3 { s3 with heap := s3.heap.push { cls := .type "slice", data := .fields #[vl, vu, .none] } } := I3.kept (t' := s3.toks) fun b ob q => Heap.get?_push_of_some _ q
  obtain ⟨T, id, hT, ht, hg⟩ := hr pins { s3 with heap := s3.heap.push { cls := .type "slice", data := .fields #[vl, vu, .none] } } σ H3 x v vl vu l u s3.heap.objs.size Q I4 r1 (Heap.IsSliceOf.new ..) pl pu q3
  show wpAny (model X.prog X.w) X.A (subscriptTail e (.Slice lo hi none p2) v (.ref s3.heap.objs.size)) (EP X pins σ Q) X.xe { s3 with heap := s3.heap.push { cls := .type "slice", data := .fields #[vl, vu, .none] } }
  exact tail_any (ops := [.ref s3.heap.objs.size, v]) ht hT hg (by with_unfolding_all rfl)

/-- the items of xs[lo:hi] -/
def cutV (xs : List V) (lo hi : Option Int) : List V := (xs.drop (HT.sIx xs.length 0 lo)).take (HT.sIx xs.length xs.length hi - HT.sIx xs.length 0 lo)
theorem cutV_length (xs : List V) (lo hi : Option Int) : (cutV xs lo hi).length ≤ xs.length := by
  unfold cutV
  rw [List.length_take, List.length_drop]
  omega
/-! ### t < u, t + u -/
end
end L2

namespace L2
open PySem PySem.Spec PyProof.Rows

/-! ### places -/
/-- the place that an index of any sign means -/
def ixN (n : Nat) (i : Int) : Option Nat := if 0 ≤ i then (if i < n then some i.toNat else none) else if -(n : Int) ≤ i then some (i + n).toNat else none
def atI {α : Type} (xs : List α) (i : Int) : Option α := (ixN xs.length i).bind fun j => xs[j]?
theorem ixN_seq {n : Nat} {i : Int} {j : Nat} (h : ixN n i = some j) : seqIndex? i n = some j ∧ j < n ∧ -(n : Int) ≤ i ∧ i < n := by
  unfold ixN at h
  by_cases h0 : 0 ≤ i
  · rw [if_pos h0] at h
    by_cases h1 : i < n
    · rw [if_pos h1] at h
      have e : i.toNat = j := Option.some.inj h
      exact ⟨by rw [seqIndex_of h0 h1, e], by omega, by omega, h1⟩
    · rw [if_neg h1] at h; cases h
  · rw [if_neg h0] at h
    by_cases h1 : -(n : Int) ≤ i
    · rw [if_pos h1] at h
      have e : (i + n).toNat = j := Option.some.inj h
      exact ⟨by rw [seqIndex_neg (by omega) h1, e], by omega, h1, by omega⟩
    · rw [if_neg h1] at h; cases h
theorem atI_get {α : Type} {xs : List α} {i : Int} {v : α} (h : atI xs i = some v) : ∃ j, seqIndex? i xs.length = some j ∧ xs[j]? = some v ∧ j < xs.length ∧ -(xs.length : Int) ≤ i ∧ i < xs.length := by
  unfold atI at h
  cases e : ixN xs.length i with
  | none => rw [e] at h; cases h
  | some j =>
    rw [e] at h
    obtain ⟨h1, h2, h3, h4⟩ := ixN_seq e
    exact ⟨j, h1, h, h2, h3, h4⟩
/-! ### what may be subscripted -/
/-- what stands as an index of a plain subscript -/
def PlainIx (b : Expr) : Prop := ∀ o i, subscripted b false o i = operate [o, i] (getItem o i)
/-- a subscript by values -/
def IxR (X : Cx) (r : R2) : Prop :=
  ∀ (value slice : Expr) (pins : List (Addr × Obj)) (s : Shared) (σ : St) (H : Hp) (x y : V) (v u : Value) (Q : VK), Inv X pins σ H s → RelV x v → RelV y u → r x y H Q →
    subscripted slice false v u = operate [v, u] (getItem v u) → wpAny (model X.prog X.w) X.A (subscriptTail value slice v u) (EP X pins σ Q) X.xe s
/-- a call of a builtin's method by values: the receiver, the arguments -/
def MtR (X : Cx) (id : String) (r : V → List V → Hp → VK → Prop) : Prop :=
  ∀ (pins : List (Addr × Obj)) (s : Shared) (σ : St) (H : Hp) (x : V) (xs : List V) (v : Value) (us : List Value) (Q : VK), Inv X pins σ H s → RelV x v → Vals xs us → r x xs H Q →
    wpAny (model X.prog X.w) X.A (call (.builtin id) (v :: us)) (EP X pins σ Q) X.xe s
section
variable {X : Cx} {a b : Expr} {ta tb : TE} {pos : Pos}
theorem IxR.or {r r' : R2} (h : IxR X r) (h' : IxR X r') : IxR X (fun x y H Q => r x y H Q ∨ r' x y H Q) := by
  intro value slice pins s σ H x y v u Q I rx ry q hs
  rcases q with q | q
  · exact h value slice pins s σ H x y v u Q I rx ry q hs
  · exact h' value slice pins s σ H x y v u Q I rx ry q hs
theorem MtR.or {id : String} {r r' : V → List V → Hp → VK → Prop} (h : MtR X id r) (h' : MtR X id r') : MtR X id (fun x xs H Q => r x xs H Q ∨ r' x xs H Q) := by
  intro pins s σ H x xs v us Q I rx rs q
  rcases q with q | q
  · exact h pins s σ H x xs v us Q I rx rs q
  · exact h' pins s σ H x xs v us Q I rx rs q
/-- a[b] -/
theorem pe_ix {r : R2} (hr : IxR X r) (ha : PE X a ta) (hb : PE X b tb) (hs : PlainIx b) : PE X (.Subscript a b pos) (tOp r ta tb) := by
  intro pins s σ H Q I h
  exact Subscript_ (binT ha hb I h fun v u s2 x y H2 I2 rx ry q => hr a b pins s2 σ H2 x y v u Q I2 rx ry q (hs _ _))

def rIxL (K : PySem.W.Frag) : R2 := fun x y H Q => ∃ p xs i v, x = .ref p ∧ y = .int i ∧ SqL K H p xs ∧ atI xs i = some v ∧ Q v H
def rIxT (K : PySem.W.Frag) : R2 := fun x y H Q => ∃ p xs i v, x = .ref p ∧ y = .int i ∧ SqT K H p xs ∧ atI xs i = some v ∧ Q v H
theorem ix_list : IxR X (rIxL X.K) := by
  intro value slice pins s σ H x y v u Q I rx ry h hs
  obtain ⟨p, xs, i, z, rfl, rfl, hq, he, q⟩ := h
  cases rx
  obtain ⟨t, rfl⟩ := ry
  obtain ⟨its, r, pl, hz⟩ := I.list hq
  obtain ⟨j, h1, h2, h3, h4, h5⟩ := atI_get he
  obtain ⟨w, ew, rw'⟩ := r.get h2
  have hl := r.length
  have hn := line63
  have fin : EP X pins σ Q w s := ⟨z, H, I, rw', q⟩
  by_cases h0 : 0 ≤ i
  · have hj : i.toNat = j := by
      rw [seqIndex_of h0 h5] at h1
      exact Option.some.inj h1
    exact item_listR pl.isList h0 (by omega) (by rw [hj]; simpa using ew) fin hs
  · have hj : (i + (its.toArray.size : Int)).toNat = j := by
      rw [seqIndex_neg (by omega) h4] at h1
      rw [List.size_toArray, ← hl]
      exact Option.some.inj h1
    exact subscriptTail_builtinR (x := w) pl.isList.typeIs slot_list_getitem.lookup
      (wpAny_getItem_list_neg (Q := fun r s' => r = w ∧ EP X pins σ Q r s') pl.isList (by omega) (by rw [List.size_toArray] <;> omega) (by omega) (by rw [hj]; simpa using ew) ⟨rfl, fin⟩) hs
theorem ix_tup : IxR X (rIxT X.K) := by
  intro value slice pins s σ H x y v u Q I rx ry h hs
  obtain ⟨p, xs, i, z, rfl, rfl, hq, he, q⟩ := h
  cases rx
  obtain ⟨t, rfl⟩ := ry
  obtain ⟨its, r, pl, hz⟩ := I.tuple hq
  obtain ⟨j, h1, h2, h3, h4, h5⟩ := atI_get he
  obtain ⟨w, ew, rw'⟩ := r.get h2
  have hl := r.length
  have hn := line63
  have fin : EP X pins σ Q w s := ⟨z, H, I, rw', q⟩
  exact subscriptTail_builtinR (x := w) pl.typeIs slot_tuple_getitem.lookup
    (getItem_tuple (j := j) (Q := fun r s' => r = w ∧ EP X pins σ Q r s') pl (by omega) (by omega) (by rw [List.size_toArray, ← hl]; exact h1) (by simpa using ew) ⟨rfl, fin⟩) hs
/-! ### xs[i] = v, any sign -/
theorem Inv.lst {pins : List (Addr × Obj)} {σ : St} {H : Hp} {s : Shared} {p : Addr} {xs : List V} (I : Inv X pins σ H s) (h : H p = some (.lst xs)) :
    ∃ (its : List Value) (n : Nat), Vals xs its ∧ s.heap.get? p = some { cls := .type "list", data := .seq its.toArray n } ∧ xs.length ≤ sizeLine := by
  obtain ⟨z, its, n, r, e⟩ := I.hok p _ h
  exact ⟨its, n, r, e, z⟩
/-! ### slices -/
theorem slice_bounds (lo hi : Option Int) (n : Nat) : (sliceBounds lo hi none n).1 = ((HT.sIx n 0 lo : Nat) : Int) ∧ (sliceBounds lo hi none n).2.1 = ((HT.sIx n n hi : Nat) : Int) ∧ (sliceBounds lo hi none n).2.2 = 1 := by
  refine ⟨?_, ?_, rfl⟩
  · cases lo with
    | none => simp [sliceBounds, HT.sIx]
    | some i =>
      simp only [sliceBounds, HT.sIx, Option.getD_none, show (1 : Int) > 0 by decide, if_true]
      by_cases h : i < 0
      · simp only [h, if_true] <;> omega
      · simp only [h, if_false] <;> omega
  · cases hi with
    | none => simp [sliceBounds, HT.sIx]
    | some i =>
      simp only [sliceBounds, HT.sIx, Option.getD_none, show (1 : Int) > 0 by decide, if_true]
      by_cases h : i < 0
      · simp only [h, if_true] <;> omega
      · simp only [h, if_false] <;> omega
theorem slicePick_cut (its : List Value) (lo hi : Option Int) : slicePick its.toArray lo hi none = ((its.drop (HT.sIx its.length 0 lo)).take (HT.sIx its.length its.length hi - HT.sIx its.length 0 lo)).toArray := by
  obtain ⟨h1, h2, h3⟩ := slice_bounds lo hi its.toArray.size
  unfold slicePick
  rw [h1, h2, h3]
  simp only [sliceRange_one, pick_run, List.size_toArray] <;> rfl
/-- xs[lo:hi] of a list: a new list -/
def rSlL (K : PySem.W.Frag) : V → Option Int → Option Int → Hp → VK → Prop := fun x lo hi H Q => ∃ a xs, x = .ref a ∧ SqL K H a xs ∧ ∀ p, H p = none → Q (.ref p) (upd H p (.lst (cutV xs lo hi)))
theorem sl_list : SlR X (rSlL X.K) := by
  intro pins s σ H x v vl vu lo hi sl Q I rx hs pl pu h
  obtain ⟨a, xs, rfl, hx, q⟩ := h
  cases rx
  obtain ⟨its, r, ht, hz⟩ := I.list hx
  have hlen := r.length
  refine ⟨"list", _, slot_list_getitem.lookup, ht.isList.typeIs, ?_⟩
  refine wpAny_getItem_list_slice ht.isList hs pl pu .none (by simp) ?_ (by rw [List.size_toArray] <;> omega)
  rw [slicePick_cut, ← hlen]
  refine ⟨.ref s.heap.objs.size, _, I.laid (t' := s.toks) (o := .lst (cutV xs lo hi)) (fun b ob q => Heap.get?_push_of_some _ q) (Nat.le_refl _) ?_, rfl, q _ (I.hok.fresh (Nat.le_refl _))⟩
  exact ⟨Nat.le_trans (cutV_length xs lo hi) hz, _, 0, (r.drop (HT.sIx xs.length 0 lo)).take (HT.sIx xs.length xs.length hi - HT.sIx xs.length 0 lo), Heap.get?_push_size _ rfl⟩

/-! ### in, not in: flat items -/
def flatV : V → Bool
  | .non => true
  | .bl _ => true
  | .int _ => true
  | .str _ => true
  | _ => false
/-- == of flat values -/
def eqV : V → V → Bool
  | .non, .non => true
  | .bl a, .bl b => a == b
  | .bl a, .int b => (if a then 1 else 0) == b
  | .int a, .bl b => a == (if b then 1 else 0)
  | .int a, .int b => a == b
  | .str a, .str b => a == b
  | _, _ => false
theorem eqAt_V {A : Around} {s : Shared} {y x : V} {u v : Value} (ry : RelV y u) (rx : RelV x v) (fy : flatV y = true) (fx : flatV x = true) : SeqAt.EqAt A s u v (eqV y x) := by
  cases y with
  | non =>
    cases ry
    cases x with
    | non => cases rx; exact SeqAt.EqAt.same _
    | bl b => cases rx; exact SeqAt.EqAt.none_bool b
    | int b => obtain ⟨t, rfl⟩ := rx; exact SeqAt.EqAt.none_int b t
    | str b => obtain ⟨t, rfl⟩ := rx; exact SeqAt.EqAt.none_str b t
    | _ => exact absurd (show false = true from fx) Bool.false_ne_true
  | bl a =>
    cases ry
    cases x with
    | non => cases rx; exact SeqAt.EqAt.bool_none a
    | bl b => cases rx; exact SeqAt.EqAt.bool_bool a b
    | int b => obtain ⟨t, rfl⟩ := rx; exact SeqAt.EqAt.bool_int a b t
    | str b => obtain ⟨t, rfl⟩ := rx; exact SeqAt.EqAt.bool_str a b t
    | _ => exact absurd (show false = true from fx) Bool.false_ne_true
  | int a =>
    obtain ⟨t', rfl⟩ := ry
    cases x with
    | non => cases rx; exact SeqAt.EqAt.int_none a t'
    | bl b => cases rx; exact SeqAt.EqAt.int_bool a t' b
    | int b => obtain ⟨t, rfl⟩ := rx; exact SeqAt.EqAt.int_int a t' b t
    | str b => obtain ⟨t, rfl⟩ := rx; exact SeqAt.EqAt.int_str a t' b t
    | _ => exact absurd (show false = true from fx) Bool.false_ne_true
  | str a =>
    obtain ⟨t', rfl⟩ := ry
    cases x with
    | non => cases rx; exact SeqAt.EqAt.str_none a t'
    | bl b => cases rx; exact SeqAt.EqAt.str_bool a t' b
    | int b => obtain ⟨t, rfl⟩ := rx; exact SeqAt.EqAt.str_int a t' b t
    | str b => obtain ⟨t, rfl⟩ := rx; exact SeqAt.EqAt.str_str a t' b t
    | _ => exact absurd (show false = true from fx) Bool.false_ne_true
  | _ => exact absurd (show false = true from fy) Bool.false_ne_true
/-! ### len, list(x), tuple(x) of any list or tuple that is read -/
theorem call_len_seq : CallR X (.builtin "len") (fun xs H Q => ∃ p ys, xs = [.ref p] ∧ (SqL X.K H p ys ∨ SqT X.K H p ys) ∧ Q (.int ys.length) H) := by
  intro pins s σ H xs us Q I r h
  obtain ⟨p, ys, rfl, hq, q⟩ := h
  obtain ⟨u, rfl, rx⟩ := vals1 r
  cases rx
  have hn := line63
  rcases hq with hq | hq
  · obtain ⟨its, r', pl, hz⟩ := I.list hq
    have hlen := r'.length
    exact Calls.call_len_list pl.isList (by simp only [List.size_toArray] <;> omega) ⟨.int ys.length, H, I.tok _, ⟨s.toks + 1, by rw [List.size_toArray, hlen]⟩, q⟩
  · obtain ⟨its, r', pl, hz⟩ := I.tuple hq
    have hlen := r'.length
    exact len_tuple pl (by simp only [List.size_toArray] <;> omega) ⟨.int ys.length, H, I.tok _, ⟨s.toks + 1, by rw [List.size_toArray, hlen]⟩, q⟩
theorem CallR.or {f : Value} {r r' : List V → Hp → VK → Prop} (h : CallR X f r) (h' : CallR X f r') : CallR X f (fun xs H Q => r xs H Q ∨ r' xs H Q) := by
  intro pins s σ H xs us Q I rs q
  rcases q with q | q
  · exact h pins s σ H xs us Q I rs q
  · exact h' pins s σ H xs us Q I rs q
theorem call_list_of : CallR X (.type "list") (fun xs H Q => ∃ p ys, xs = [.ref p] ∧ (SqL X.K H p ys ∨ SqT X.K H p ys) ∧ ∀ l, H l = none → Q (.ref l) (upd H l (.lst ys))) := by
  intro pins s σ H xs us Q I r h
  obtain ⟨p, ys, rfl, hq, q⟩ := h
  obtain ⟨u, rfl, rx⟩ := vals1 r
  cases rx
  have fin : ∀ (its : List Value), Vals ys its → ys.length ≤ sizeLine → ∀ (h' : Heap) (c' : Nat), (∀ b o', s.heap.get? b = some o' → h'.get? b = some o') →
      h'.get? s.heap.objs.size = some { cls := .type "list", dict := none, data := .seq its.toArray c', slots := #[] } → EP X pins σ Q (.ref s.heap.objs.size) { s with heap := h' } := fun its r' hz h' c' kp e =>
    ⟨.ref s.heap.objs.size, _, I.laid (t' := s.toks) kp (Nat.le_refl _) (show ObjOk X.prog X.w _ h' _ (.lst ys) from ⟨hz, its, c', r', e⟩), rfl, q _ (I.hok.fresh (Nat.le_refl _))⟩
  rcases hq with hq | hq
  · obtain ⟨its, r', pl, hz⟩ := I.list hq
    have hlen := r'.length
    obtain ⟨o, ho, hc, n, hd⟩ := pl.isList
    exact call_list_seq p (.inl rfl) ho hc hd (fun h' c' kp e => fin its r' hz h' c' kp e) (by simp only [List.size_toArray] <;> omega)
  · obtain ⟨its, r', pl, hz⟩ := I.tuple hq
    have hlen := r'.length
    obtain ⟨o, ho, hc, n, hd⟩ := pl
    exact call_list_seq p (.inr rfl) ho hc hd (fun h' c' kp e => fin its r' hz h' c' kp e) (by simp only [List.size_toArray] <;> omega)
theorem call_tuple_of : CallR X (.type "tuple") (fun xs H Q => ∃ p ys, xs = [.ref p] ∧ ((SqL X.K H p ys ∧ ∀ l, H l = none → Q (.ref l) (upd H l (.tup ys))) ∨ (SqT X.K H p ys ∧ Q (.ref p) H))) := by
  intro pins s σ H xs us Q I r h
  obtain ⟨p, ys, rfl, h⟩ := h
  obtain ⟨u, rfl, rx⟩ := vals1 r
  cases rx
  rcases h with ⟨hq, q⟩ | ⟨hq, q⟩
  · obtain ⟨its, r', pl, hz⟩ := I.list hq
    have hlen := r'.length
    refine call_tuple_list pl.isList (fun h' kp => ?_) (by simp only [List.size_toArray] <;> omega)
    have I1 : Inv X pins σ H { s with heap := h' } := I.kept (t' := s.toks) kp
    have I2 : Inv X pins σ (upd H h'.objs.size (.tup ys)) { s with heap := h'.push { cls := .type "tuple", data := .seq its.toArray } } :=
      I1.laid (t' := s.toks) (fun b o e => Heap.get?_push_of_some _ e) (Nat.le_refl _) (show ObjOk X.prog X.w _ _ _ (.tup ys) from ⟨hz, its, r', IsTup.new _ _⟩)
    exact ⟨.ref h'.objs.size, _, I2, rfl, q _ (I1.hok.fresh (Nat.le_refl _))⟩
  · obtain ⟨its, r', pl, hz⟩ := I.tuple hq
    exact call_tuple_same pl ⟨.ref p, H, I, rfl, q⟩

/-! ### the call of a builtin's method: o.m(..) -/
/-- the value is of that builtin type -/
def tyV (K : PySem.W.Frag) (T : String) (x : V) (H : Hp) : Prop := match x with
  | .str _ => T = "str"
  | .int _ => T = "int"
  | .ref p => (T = "list" ∧ ∃ xs, SqL K H p xs) ∨ (T = "tuple" ∧ ∃ o, K.lookup p = some o ∧ o.cls = .type "tuple" ∧ o.dict = none) ∨
      (T = "dict" ∧ ((∃ kvs, H p = some (.dK kvs)) ∨ ∃ kvs, H p = some (.dT kvs))) ∨ (T = "set" ∧ ∃ S n, H p = some (.set S n))
  | _ => False
theorem tyV_is {pins : List (Addr × Obj)} {σ : St} {H : Hp} {s : Shared} {T : String} {x : V} {v : Value} (I : Inv X pins σ H s) (r : RelV x v) (ty : tyV X.K T x H) :
    s.TypeIs v T ∧ ∀ a, v = .ref a → ∃ ob, s.heap.get? a = some ob ∧ ob.dict = none := by
  cases x with
  | str z =>
    obtain ⟨t, rfl⟩ := r
    cases (show T = "str" from ty)
    exact ⟨typeIs_str s z t, fun _ e => nomatch e⟩
  | int i =>
    obtain ⟨t, rfl⟩ := r
    cases (show T = "int" from ty)
    exact ⟨typeIs_int s i t, fun _ e => nomatch e⟩
  | ref p =>
    cases r
    rcases ty with ⟨rfl, xs, hq⟩ | ⟨rfl, o, hk, hc, hd⟩ | ⟨rfl, hk⟩ | ⟨rfl, S, n, hk⟩
    · obtain ⟨its, _, pl, _⟩ := I.list hq
      refine ⟨pl.isList.typeIs, fun a e => ?_⟩
      cases e
      obtain ⟨o, n, e, c, hd, _⟩ := pl
      exact ⟨o, e, hd⟩
    · refine ⟨⟨o, I.kIn p o hk, hc⟩, fun a e => ?_⟩
      cases e
      exact ⟨o, I.kIn _ o hk, hd⟩
    · have z : ∃ o, s.heap.get? p = some o ∧ o.ExactDict := by
        rcases hk with ⟨kvs, hk⟩ | ⟨kvs, hk⟩
        · obtain ⟨_, _, _, _, o, _, _, e, ex, _⟩ := I.hok p _ hk
          exact ⟨o, e, ex⟩
        · obtain ⟨_, _, _, _, o, _, _, e, ex, _⟩ := I.hok p _ hk
          exact ⟨o, e, ex⟩
      obtain ⟨o, e, ex⟩ := z
      refine ⟨⟨o, e, ex.1⟩, fun a e2 => ?_⟩
      cases e2
      exact ⟨o, e, ex.2.1⟩
    · obtain ⟨o, _, _, _, e, ex, _⟩ := I.hok p _ hk
      refine ⟨⟨o, e, ex.1⟩, fun a e2 => ?_⟩
      cases e2
      exact ⟨o, e, ex.2.1⟩
  | _ => exact False.elim ty
def tBM (K : PySem.W.Frag) (T : String) (r : V → List V → Hp → VK → Prop) (to : TE) (t : TA) : TE := fun σ H Q => to σ H fun x H1 => tyV K T x H1 ∧ t σ H1 fun xs H2 => r x xs H2 Q
variable {o e : Expr} {es : List Expr} {to : TE} {t : TA} {name : Str} {apos cpos : Pos} {T id : String} {r : V → List V → Hp → VK → Prop}
theorem pe_bm (pa : PlainAttrs T) (slot : Slot T name id) (hty : typeOf (.builtin id) = pure (.type "method_descriptor")) (hm : MtR X id r) (ho : PE X o to) (ha : PA X (e :: es) t)
    (hbase : attributeBase o name X.env (eval o X.env) = eval o X.env := by rfl)
    (hfew : ((backTo cpos (starEach (e :: es) X.env)).all (fun x => !x.1) && (backToKw cpos (keywordEach [] X.env)).all (fun x => x.1.isSome)
      && decide ((e :: es).length + ([] : List Keyword).length + (if ([] : List Keyword).isEmpty then 0 else 1) < 30)) = true := by rfl)
    (hline : (apos.endLine == cpos.line) = true := by rfl) (hs : starEach (e :: es) X.env = (false, eval e X.env) :: starEach es X.env := by rfl) (hplain : (backTo cpos (starEach es X.env)).any (·.1) = false := by rfl) :
    PE X (.Call (.Attribute o name apos) (e :: es) [] cpos) (tBM X.K T r to t) := by
  intro pins s σ H Q I h
  refine wpAny_Call_method_late hbase hfew hline rfl (thn (ho pins s σ H _ I h) fun v s1 ⟨x, H1, I1, r1, ty, q1⟩ => ?_)
  obtain ⟨h1, h2⟩ := tyV_is I1 r1 ty
  refine ⟨T, id, pa, slot, hty, h1, h2, ?_⟩
  have hA := ha cpos pins s1 σ H1 _ I1 q1
  rw [hs] at hA ⊢
  refine Calls.callWith_builtin (by show (false || (backTo cpos (starEach es X.env)).any (·.1)) = false; rw [hplain] <;> rfl) (Calls.evalArgs_plain ?_)
  exact thn hA fun us s2 ⟨vs, H2, I2, r2, q2⟩ => hm pins s2 σ H2 x vs v us Q I2 r1 r2 q2
/- xs.append(e), list.index on a module's tuple .. are MtR facts of 06m -/
end
end L2

namespace L2
open PySem PySem.Spec PyProof.Rows

def MtM (X : Cx) (id : String) (r : V → List V → Hp → VK → Prop) : Prop :=
  ∀ (pins : List (Addr × Obj)) (s : Shared) (σ : St) (H : Hp) (x : V) (xs : List V) (v : Value) (us : List Value) (Q : VK), Inv X pins σ H s → RelV x v → Vals xs us → r x xs H Q →
    wpAny (model X.prog X.w) X.A (call (.builtin id) (v :: us)) (EP X pins σ Q) X.xe s

/-! ### lists of values -/
theorem Vals.one : ∀ {x : V} {us : List Value}, Vals [x] us → ∃ u, us = [u] ∧ RelV x u
  | _, _, .cons r .nil => ⟨_, rfl, r⟩
theorem Vals.two : ∀ {x y : V} {us : List Value}, Vals [x, y] us → ∃ u v, us = [u, v] ∧ RelV x u ∧ RelV y v
  | _, _, _, .cons r (.cons q .nil) => ⟨_, _, rfl, r, q⟩
theorem Vals.zero : ∀ {us : List Value}, Vals [] us → us = []
  | _, .nil => rfl
theorem Vals.eraseIdx : ∀ {xs : List V} {us : List Value} (i : Nat), Vals xs us → Vals (xs.eraseIdx i) (us.eraseIdx i)
  | _, _, _, .nil => .nil
  | _, _, 0, .cons _ t => t
  | _, _, i + 1, .cons r t => .cons r (Vals.eraseIdx i t)
theorem Vals.reverse {xs : List V} {us : List Value} (h : Vals xs us) : Vals xs.reverse us.reverse := by
  induction h with
  | nil => exact .nil
  | cons r t ih => rw [List.reverse_cons, List.reverse_cons]; exact Vals.append ih (.cons r .nil)
theorem len_erase {α : Type} : ∀ (l : List α) (i : Nat), (l.eraseIdx i).length ≤ l.length
  | [], _ => Nat.le_refl _
  | _ :: _, 0 => Nat.le_succ _
  | _ :: r, i + 1 => Nat.succ_le_succ (len_erase r i)
section
variable {X : Cx} {pins : List (Addr × Obj)} {σ : St} {H : Hp} {s : Shared} {l b : Addr} {xs ys zs : List V}

/-! ### the two steps: a tracked list is rewritten, a new list is laid -/
theorem Inv.lset {its its' : List Value} {n : Nat} {f : Array Value → Array Value} {t' : Nat} (I : Inv X pins σ H s) (hH : H l = some (.lst xs))
    (e : s.heap.get? l = some { cls := .type "list", data := .seq its.toArray n }) (hf : f its.toArray = its'.toArray) (hv : Vals ys its') (hz : ys.length ≤ sizeLine) :
    Inv X pins σ (upd H l (.lst ys)) { s with heap := s.heap.update l (Obj.mapSeq f), toks := t' } := by
  have q := PySem.IsL.update e f
  rw [hf] at q
  refine I.write (x := l) (e := l) (by rw [hH]; exact trivial) (.inl rfl) (fun b' u hb hu => (Heap.get?_update_other s.heap (Obj.mapSeq f) (Ne.symm hb)).trans hu) ⟨_, q⟩ ?_
  exact ⟨hz, its', _, hv, q⟩
theorem Inv.lnew {its : List Value} {t' : Nat} (I : Inv X pins σ H s) (hv : Vals ys its) (hz : ys.length ≤ sizeLine) :
    Inv X pins σ (upd H s.heap.objs.size (.lst ys)) { s with heap := s.heap.push { cls := .type "list", data := .seq its.toArray }, toks := t' } :=
  I.laid (fun _ _ q => Heap.get?_push_of_some _ q) (Nat.le_refl _) ⟨hz, its, 0, hv, Heap.get?_push_size _ rfl⟩
theorem Inv.fresh (I : Inv X pins σ H s) : H s.heap.objs.size = none := I.hok.fresh (Nat.le_refl _)
theorem Inv.lstM (I : Inv X pins σ H s) (hH : H l = some (.lst xs)) : xs.length ≤ sizeLine ∧ ∃ (its : List Value) (n : Nat), Vals xs its ∧ xs.length = its.length ∧ s.heap.get? l = some { cls := .type "list", data := .seq its.toArray n } := by
  obtain ⟨z, its, n, r, e⟩ := I.hok l _ hH
  exact ⟨z, its, n, r, r.length, e⟩

end

section
variable {X : Cx}

/-! ### methods -/
def rAppend : V → List V → Hp → VK → Prop := fun x vs H Q => ∃ l xs y, x = .ref l ∧ vs = [y] ∧ H l = some (.lst xs) ∧ xs.length < sizeLine ∧ Q .non (upd H l (.lst (xs ++ [y])))
theorem mt_append : MtM X "list.append" rAppend := by
  intro pins s σ H x vs v us Q I rx rv h
  obtain ⟨l, xs, y, rfl, rfl, hH, hz, q⟩ := h
  cases rx
  obtain ⟨u, rfl, ru⟩ := rv.one
  obtain ⟨z, its, n, r, hl, e⟩ := I.lstM hH
  refine call_meets F.slot_list_append ⟨_, e, rfl⟩ F.entry_list_append (F.args_list_append_2 _ _) (PySem.list_append l its.toArray n u (by rw [List.size_toArray]; omega)) ⟨e, ?_⟩
  refine ⟨.non, _, I.lset (its' := its ++ [u]) hH e (by simp) (r.append (.cons ru .nil)) ?_, rfl, q⟩
  rw [List.length_append, List.length_singleton]
  omega

def rPopAt : V → List V → Hp → VK → Prop := fun x vs H Q => ∃ l xs i k y, x = .ref l ∧ vs = [.int i] ∧ H l = some (.lst xs) ∧ -(2 ^ 63) ≤ i ∧ i < 2 ^ 63 ∧ seqIndex? i xs.length = some k ∧ xs[k]? = some y ∧ Q y (upd H l (.lst (xs.eraseIdx k)))
theorem mt_popAt : MtM X "list.pop" rPopAt := by
  intro pins s σ H x vs v us Q I rx rv h
  obtain ⟨l, xs, i, k, y, rfl, rfl, hH, h1, h2, hk, hy, q⟩ := h
  cases rx
  obtain ⟨u, rfl, ru⟩ := rv.one
  obtain ⟨t, rfl⟩ := ru
  obtain ⟨z, its, n, r, hl, e⟩ := I.lstM hH
  obtain ⟨w, hw, rw'⟩ := r.get hy
  refine call_meets F.slot_list_pop ⟨_, e, rfl⟩ F.entry_list_pop (F.args_list_pop_2 _ _)
    (MeetsSeq.list_pop_at l its.toArray n i t k w (fitsIndex_both h1 h2) (by rw [List.size_toArray, ← hl]; exact hk) (by rw [← Array.getElem?_toList]; exact hw) (by rw [List.size_toArray]; omega)) ⟨e, ?_⟩
  refine ⟨y, _, I.lset (its' := its.eraseIdx k) hH e ?_ (r.eraseIdx k) ?_, rw', q⟩
  · show its.toArray.eraseIdxIfInBounds k = (its.eraseIdx k).toArray
    rw [List.eraseIdxIfInBounds_toArray]
  · have := len_erase xs k
    omega

/-! ### list + list, list += list, list * int -/
def rCat : R2 := fun x y H Q => ∃ l b xs zs, x = .ref l ∧ y = .ref b ∧ H l = some (.lst xs) ∧ H b = some (.lst zs) ∧ xs.length + zs.length ≤ sizeLine ∧ ∀ p, H p = none → Q (.ref p) (upd H p (.lst (xs ++ zs)))
theorem op_cat : OpR X (binaryOp .Add) rCat := by
  intro pins s σ H x y v u Q I rx ry h
  obtain ⟨l, b, xs, zs, rfl, rfl, hH, hB, hz, q⟩ := h
  cases rx
  cases ry
  obtain ⟨z, its, n, r, hl, e⟩ := I.lstM hH
  obtain ⟨z2, its2, n2, r2, hl2, e2⟩ := I.lstM hB
  refine PySem.P.add_list e e2 ?_ (by rw [List.size_toArray, List.size_toArray]; omega)
  have ea : its.toArray ++ its2.toArray = (its ++ its2).toArray := by simp
  rw [ea]
  exact ⟨.ref _, _, I.lnew (t' := s.toks) (r.append r2) (by rw [List.length_append]; omega), rfl, q _ I.fresh⟩
/-! ### del xs[i] -/
end

/-! ### xs[a:b] = ys -/
section
variable {prog : Program} {w : World} {A : Around} {E : Value → Shared → Prop} {s : Shared}
end

section
variable {X : Cx}
end
end L2

namespace Att
open PySem PySem.W PySem.Calls PyProof.Rows

/-! ### the script -/
theorem ints_of_wellAll {P : Params} {h : Heap} : ∀ (ns : List Int) (vs : List Value), WellAll P h vs (ns.map WData.int) → IntsAre vs ns := by
  intro ns
  induction ns with
  | nil =>
    intro vs w
    rw [List.map_nil] at w
    cases w
    exact .nil
  | cons n ns ih =>
    intro vs w
    rw [List.map_cons] at w
    cases w with
    | cons a b =>
      cases a
      exact .cons _ _ (ih _ b)

theorem script_of {l : OpenLaw} {n : Nat} (hn : l.most = some n) {P : Params} {h : Heap} {args : List WData} {vals : List Value}
    (hpre : l.row.toRowW.claim.pre args = true) (hwl : WellAll P h vals args) :
    ∃ a vs ns, vals = [Value.ref a] ∧ args = [WData.list (ns.map WData.int)] ∧ h.get? a = some { cls := .type "list", data := .seq vs.toArray } ∧ IntsAre vs ns ∧ ns.length ≤ n := by
  have hsh : WShape.hasAll [] args [.list .int] = true := (pre_splitW hpre).1
  have hc : l.pre.holds [] { args := args } = true := (pre_splitW hpre).2
  obtain ⟨d, r, rfl, h1, h2⟩ := hasAllW_cons hsh
  obtain rfl := hasAllW_nil h2
  obtain ⟨xs, rfl, h3⟩ := hasW_list h1
  obtain ⟨ns, rfl⟩ := items_int h3
  have hlen : ns.length ≤ n := by
    unfold OpenLaw.pre at hc
    have h4 : (WTm.not (.lt (.lit (.int (n : Int))) (.len (.arg 0)))).holds [] { args := [.list (ns.map .int)] } = true := by
      have h4 := (holds_andW hc).1
      rw [hn] at h4
      exact h4
    have h5 := condW_of h4 (w_not (w_lt w_lit (w_len_list (w_arg rfl))))
    rw [List.length_map] at h5
    refine Nat.le_of_not_lt fun q => ?_
    have q' : (n : Int) < ((ns.length : Nat) : Int) := by omega
    first
      | (rw [decide_eq_true q'] at h5; exact absurd h5 (by decide))
      | (simp at h5; omega)
  cases hwl with
  | cons w1 w2 =>
    cases w2
    cases w1 with
    | list ho hall => exact ⟨_, _, ns, rfl, rfl, ho, ints_of_wellAll ns _ hall, hlen⟩

theorem post_true (l : OpenLaw) (args : List WData) : l.row.toRowW.claim.post args (.bool true) args = true :=
  postW_of (r := l.row.toRowW) (X := (true == true))
    (show WShape.has [] (.bool true) .bool = true by first | rfl | decide | simp [WShape.has, WShape.arms, WShape.armsAll])
    (show (WTm.eq .res (.lit (.bool true))).value [] { args := args, res := some (.bool true), after := args } = some (.bool (true == true)) from w_eq_bool (w_res rfl) w_lit) rfl

/-! ### the attachment: holds_open's last premise (the goal 'hc' behind k_head) from a wpAny of the law's body -/
/-- the same from a codeAny of the CALL (for a layer whose function contracts speak of calls) -/
theorem attach_call {l : OpenLaw} {n : Nat} {q : Program} {loose : List Str} {XP : (Str → Option Value) → Heap → Prop} {YP : World → Heap → Prop} {d : DefRec}
    (hn : l.most = some n) (hdf : d.params.defaults = [])
    (call : ∀ (w : World) (s₀ s₁ : Shared) (mg mb : Str → Option Value) (fa : Addr) (o : Obj) (pm cd doc : Value) (a : Addr) (vs : List Value) (ns : List Int),
      Ground q loose [] XP w s₀ mg mb s₁.heap → YP w s₁.heap →
      s₁.heap.get? fa = some o → o.data = .func (docDef d.name d.params d.body d.scope pm cd doc) → s₁.heap.CodeRec cd d.name → mg d.name = some (.ref fa) →
      s₁.heap.get? a = some { cls := .type "list", data := .seq vs.toArray } → IntsAre vs ns → ns.length ≤ n → s₁.gens = #[] →
      codeAny (model l.prog w) callerA (.call (.ref fa) ⟨[.ref a], []⟩) (fun r s' => r = .ok (.ret (.bool true)) ∧ OldK s₁.heap s'.heap ∧ s'.os = s₁.os ∧ AllBare s'.gens) s₁) :
    WalkO q loose XP YP l.row.toRowW d [] (fun f vs => PySem.call f vs) := by
  intro w s₀ s₁ mg mb G Y fa o pm cd doc dV kV ho hd hcd hD hmg hg args vals as hpre hlay hrd hwl hlo
  obtain rfl : dV = .none := Dflts.none hD hdf
  obtain rfl : kV = .none := Dflts.noKw hD
  obtain ⟨a, vs, ns, rfl, rfl, hobj, hints, hlen⟩ := script_of hn hpre hwl
  refine enter_call (codeAny_mono (call w s₀ s₁ mg mb fa o pm cd doc a vs ns G Y ho (fd_plain hd) hcd hmg hobj hints hlen hg) fun r s' hq => ?_)
  obtain ⟨rfl, h2, h3, h4⟩ := hq
  exact ⟨.inl ⟨.bool true, .bool true, [], rfl, fun _ => rfl, .bool true, post_true l _, fun _ => ⟨List.Pairwise.nil, fun _ hm => (nomatch hm)⟩⟩, h2, h3, h4⟩

/-! ### rules over ANY heap (no ledger) from facts about the written part K: the library's own take a ledger (News) for what they write -/
section
variable {prog : Program} {w : World} {A : Around} {E : Value → Shared → Prop} {s : Shared} {K : Frag}

/-! the whole heap as the ledger: makes every rule that writes through a ledger a rule over any heap -/
def ledger (h : Heap) (L d : Addr) : List (Addr × Obj) := (List.range h.objs.size).filterMap fun a => if a = L ∨ a = d then none else (h.get? a).map fun o => (a, o)
end
end Att

namespace L2
open PySem PySem.Spec PyProof.Rows

theorem vals_ints : ∀ {vs : List Value} {ns : List Int}, IntsAre vs ns → Vals (ns.map V.int) vs
  | _, _, .nil => .nil
  | _, _, .cons n t h => .cons ⟨t, rfl⟩ (vals_ints h)

/-- nothing is tracked but the script, known to the object (or it is an object of the module) -/
def Only (H : Hp) : Prop := ∀ b, H b = none ∨ ∃ o xs, H b = some (.frz o (.lst xs))

/-- THE HEAD: the law's promise, at the heap behind the top. F, the promise of the law's def, may use that base is part of the heap (so K.In base, base.Ns mainGlobals mg stand in Mod) -/
theorem law_call {P : Program} {w : World} {K : PySem.W.Frag} {mg mb : Str → Option Value} {CX : CXT} {k : Nat} {fa a : Addr} {fd : FuncData} {x : Str} {sp : Sp} {s₁ : Shared} {vs : List Value} {ns : List Int}
    (KX : K.In s₁.heap) (hns : s₁.heap.Ns mainGlobals mg) (hb : s₁.heap.Ns builtinsNs mb) (hbb : ∀ x : Str, x ≠ "__name__" → mb x = bootBuiltins x) (hlim : s₁.heap.NoLimit) (hg : s₁.gens = #[])
    (ha : s₁.heap.get? a = some { cls := .type "list", data := .seq vs.toArray }) (hi : IntsAre vs ns) (hl : ns.length ≤ sizeLine) (hr : Room k callerA)
    (F : ∀ base : Heap, K.In base → base.Ns mainGlobals mg → FnOk P w K mg base CX k fa fd [x] sp) (hbind : ∀ (s : Shared) (u : Value), BindsTo s fd ⟨[u], []⟩ [(x, u)])
    (hsp : ∀ H : Hp, Only H → SqL K H a (ns.map V.int) → sp [.ref a] H (fun v _ => v = .bl true) fun _ _ _ => False)
    (hCX : ∀ H e s', CX [] H s₁ (fun _ _ _ => False) e s' → False) :
    codeAny (model P w) callerA (.call (.ref fa) ⟨[.ref a], []⟩) (fun r s' => r = .ok (.ret (.bool true)) ∧ OldK s₁.heap s'.heap ∧ s'.os = s₁.os ∧ AllBare s'.gens) s₁ := by
  have rv := vals_ints hi
  have lenV := hi.length
  -- from an abstract heap in which nothing but the script may be tracked
  have core : ∀ H : Hp, Only H → SqL K H a (ns.map V.int) → HOk P w H s₁.heap → (∀ b, H b ≠ none → b = a) → (H a ≠ none → K.lookup a = none) →
      codeAny (model P w) callerA (.call (.ref fa) ⟨[.ref a], []⟩) (fun r s' => r = .ok (.ret (.bool true)) ∧ OldK s₁.heap s'.heap ∧ s'.os = s₁.os ∧ AllBare s'.gens) s₁ := by
    intro H hO hS hok hA hK
    have base_of : ∀ {b : Addr} {o : Obj}, s₁.heap.get? b = some o → H b = none → (hidT s₁.heap H).get? b = some o := fun e n => hidT_get e n
    have noA : ∀ {b : Addr} {o : Obj} {es : Array DictEntry} {ep : Nat}, s₁.heap.get? b = some o → o.data = .dict es ep → H b = none := fun {b o es ep} e d => by
      cases q : H b with
      | none => rfl
      | some u =>
        have e' : b = a := hA b (by rw [q]; simp)
        subst e'
        rw [ha] at e; cases e
        have d' : Data.seq vs.toArray _ = Data.dict es ep := d
        cases d'
    have nsK : ∀ {b : Addr} {m : Str → Option Value}, s₁.heap.Ns b m → (hidT s₁.heap H).Ns b m := fun {b m} ⟨o, es, ep, e, d, r⟩ => ⟨o, es, ep, base_of e (noA e d), d, r⟩
    have hKb : K.In (hidT s₁.heap H) := fun b o e => base_of (KX b o e) (by
      cases q : H b with
      | none => rfl
      | some u =>
        have e' : b = a := hA b (by rw [q]; simp)
        subst e'
        rw [hK (by rw [q]; simp)] at e; cases e)
    have hM : Mod K mg (hidT s₁.heap H) := ⟨hKb, nsK hns, ⟨mb, nsK hb, hbb⟩, let ⟨mc, h1, h2⟩ := hlim; ⟨mc, nsK h1, h2⟩⟩
    have e0 : Env0 P w K mg (hidT s₁.heap H) callerA [] s₁ H := ⟨rfl, hM, fun b o e => of_hidT e, Nat.le_of_eq (hidT_size _ _), trivial, fun b hb => absurd (show b ∈ ([] : List Addr) from hb) (by simp), hok, .of_eq hg⟩
    refine codeAny_mono ((F _ hKb (nsK hns)).run callerA [] s₁ H ⟨[.ref a], []⟩ [.ref a] [.ref a] _ _ hr e0 (hbind s₁ (.ref a)) (.cons rfl .nil) (hsp H hO hS)) fun r s' h => ?_
    cases r with
    | error e => exact (hCX H e s' h).elim
    | ok fl =>
      cases fl with
      | next => exact False.elim h
      | brk => exact False.elim h
      | cont => exact False.elim h
      | ret u =>
        obtain ⟨v, H', os, bare, un, hok', r', q⟩ := h
        have q' : v = .bl true := q
        subst q'
        obtain rfl : u = Value.bool true := r'
        refine ⟨rfl, OldK.of_keep fun b o e => ?_, os, bare⟩
        cases q : H b with
        | none => exact un.keep b o e q (by intro z; exact absurd (show b ∈ ([] : List Addr) from z) (by simp)) (by simp)
        | some u =>
          rcases hO b with z | ⟨ob, xs, z⟩
          · rw [q] at z; cases z
          · have z2 := un.frzs b ob _ z
            obtain ⟨e1, _⟩ := hok b _ z
            obtain ⟨e2, _⟩ := hok' b _ z2
            rw [e] at e1; cases e1
            exact e2
  cases hk : K.lookup a with
  | some o =>
    -- the script is one of the module's own objects
    have e := KX a o hk
    rw [ha] at e
    cases e
    refine core (fun _ => none) (fun _ => .inl rfl) (.inr ⟨_, vs.toArray, _, hk, rfl, rfl, rfl, by rw [List.size_toArray, lenV]; exact hl, by simpa using rv⟩) (fun b u z => by have z' : (none : Option HO) = some u := z; cases z') (fun b z => absurd rfl z) fun z => absurd rfl z
  | none =>
    refine core (fun b => if b = a then some (.frz { cls := .type "list", data := .seq vs.toArray } (.lst (ns.map V.int))) else none) (fun b => ?_) (.inl (.inr ⟨{ cls := .type "list", data := .seq vs.toArray }, if_pos rfl⟩)) (fun b u z => ?_) (fun b z => ?_) fun _ => hk
    · by_cases hb : b = a
      · exact .inr ⟨_, _, if_pos hb⟩
      · exact .inl (if_neg hb)
    · by_cases hb : b = a
      · have z' := (if_pos hb).symm.trans z
        cases z'
        subst hb
        exact ⟨ha, by rw [List.length_map]; exact hl, vs, _, rv, ha⟩
      · have z' := (if_neg hb).symm.trans z
        cases z'
    · by_cases hb : b = a
      · exact hb
      · exact absurd (if_neg hb) z
end L2

namespace L2
open PySem PySem.Spec PyProof.Rows

abbrev KOf {K : PySem.W.Frag} {h : Heap} (_ : K.In h) : PySem.W.Frag := K

/-- the goal that k_head leaves (case hc), from the law's promise. F gives the function object fd (K's own) once, then the promise over every base -/
theorem walk_of {l : PySem.W.OpenLaw} {n k : Nat} {q : Program} {loose : List Str} {XP : (Str → Option Value) → Heap → Prop} {YP : World → Heap → Prop} {d : DefRec} {K : Params → PySem.W.Frag} {CX : World → CXT} {sp : World → Sp} {x : Str}
    (hn : l.most = some n) (hn2 : n ≤ sizeLine) (hdf : d.params.defaults = []) (hr : Room k callerA)
    (hY : ∀ (w : World) (h : Heap), YP w h → (K w.params).In h)
    (F : ∀ (w : World) (mg : Str → Option Value) (fa : Addr) (h : Heap), (K w.params).In h → h.Ns mainGlobals mg → mg d.name = some (.ref fa) →
      ∃ fd : FuncData, (∀ (s : Shared) (u : Value), BindsTo s fd ⟨[u], []⟩ [(x, u)]) ∧
        ∀ base : Heap, (K w.params).In base → base.Ns mainGlobals mg → FnOk l.prog w (K w.params) mg base (CX w) k fa fd [x] (sp w))
    (hsp : ∀ (w : World) (H : Hp) (a : Addr) (ns : List Int), ns.length ≤ n → Only H → SqL (K w.params) H a (ns.map V.int) → sp w [.ref a] H (fun v _ => v = .bl true) fun _ _ _ => False)
    (hCX : ∀ (w : World) (H : Hp) (s : Shared) (e : Value) (s' : Shared), CX w [] H s (fun _ _ _ => False) e s' → False) :
    PySem.W.WalkO q loose XP YP l.row.toRowW d [] (fun f vs => PySem.call f vs) := by
  refine Att.attach_call hn hdf fun w s₀ s₁ mg mb fa o pm cd doc a vs ns G Y ho hd hcd hmg hobj hints hlen hg => ?_
  have KX := hY w _ Y
  obtain ⟨fd, hb, hF⟩ := F w mg fa _ KX G.T.g hmg
  exact law_call KX G.T.g G.T.b G.T.builtins G.T.nolimit hg hobj hints (Nat.le_trans hlen hn2) hr hF hb (fun H hO hS => hsp w H a ns hlen hO hS) fun H e s' => hCX w H s₁ e s'
end L2

/- THE LAST THEOREM (shape; LID, My.* are yours):
   My.Adr: a structure of the addresses that your layer names (classes, functions); My.Txt K t: a structure (Prop) of the equations over K;
   My.txt_mk : {K} {implicit addresses ..} (e1 : nsIn K mainGlobals "law" = some (some (.ref f))) (e2 : K.lookup f = some ⟨oc, od, .func (fnOf "law" "law" params body scope dV kV doc pm an cdv ct), sl⟩) (e3 : codeIn K cdv "law" = true) .. : ∃ t, My.Txt K t

set_option maxRecDepth 100000 in
set_option maxHeartbeats 0 in
theorem PySem.Challenge.cw_LID_holds : PySem.Challenge.rw_LID.Holds := by
  w_on; o_law; k_head; (case hw => w_witness2)
  k_fill
  refine L2.walk_of (l := PySem.Challenge.rw_LID) (n := 63) (k := 40) (x := "script") (CX := fun w => ..) (sp := fun _ => My.sp_law) rfl (by decide) rfl ⟨rfl, by decide, by decide⟩ (fun w h Y => PySem.W.kIn_of Y) ?F ?S ?C
  case F =>
    intro w mg fa h KX G hmg
    have T : ∃ t, My.Txt (L2.KOf KX) t := by
      dsimp only [L2.KOf]                          -- K must stand as «<heap const> w.params» for k_is
      refine' My.txt_mk ?e1 ?e2 ?e3 ..
      (case e1 => PySem.W.k_is)                    -- in the order: a name -> its address -> its object -> its parts
      (case e2 => PySem.W.k_is)
      ..
    obtain ⟨t, T⟩ := T
    have e0 := hmg.symm.trans (PySem.W.mg_of KX G T.law)
    cases e0                                       -- fa is the law's own address
    exact ⟨_, fun s u => .of_eq rfl, fun base kb nb => My.law_fn T kb nb⟩     -- if «.of_eq rfl» comes too early: refine' ⟨_, ?b, fun base kb nb => My.law_fn T kb nb⟩; exact fun s u => .of_eq rfl
  case S => exact fun w H a ns hl hO hS => ..
  case C => exact ..
(the tactic k_is has no namespace: write k_is) -/

/-! SHORT WORDS over the layer: a def of the text, its body, what a loop and a test want. -/
namespace L2
open PySem PySem.Spec PyProof.Rows

/-! ### the text by places -/
/-! ### no exception leaves a def -/
abbrev CX0 : CXT := fun _ _ _ _ _ _ => False
abbrev E0 : XK := fun _ _ _ => False
theorem pass0 {X : Cx} : Passes CX0 X E0 := fun _ _ _ _ _ _ _ h => h.elim

/-! ### a def (or method) of the text as it stands behind the top -/
structure Fun (K : PySem.W.Frag) (x qual : Str) (st : Stmt) (f : Addr) (fd : FuncData) : Prop where
  ex : ∃ (oc : Value) (od : Option Addr) (kV doc pm : Value) (an : Option Addr) (cdv ct : Value) (osl : Array (Option Value)),
    fd = PySem.W.fnOf x qual (defArgs st) (defBody st) (defScope st) .none kV doc pm an cdv ct ∧ K.lookup f = some ⟨oc, od, .func fd, osl⟩ ∧ PySem.W.codeIn K cdv qual = true
  kp : PySem.W.keepIn K (.ref f) = true
section
variable {P : Program} {w : World} {K : PySem.W.Frag} {mg : Str → Option Value} {base : Heap}
/-- THE RULE for a def: its body as a term of rules, and the reading of that term -/
theorem Fun.ok {x qual : Str} {st : Stmt} {f : Addr} {fd : FuncData} {N ps : List Str} {k : Nat} {sp : Sp} (F : Fun K x qual st f fd) (S : FnScope N ps (defScope st)) (len : ∀ vs H Q E, sp vs H Q E → vs.length = ps.length)
    (hbody : ∀ (cdv : Value) (A : Around) (outer : List Env) (s : Shared) (H : Hp) (vs : List V) (Q : VK) (E : XK), Room k (A.deeper (envOfC qual (defScope st) s.heap.objs.size f cdv)) → sp vs H Q E →
      ∃ t, PSs (cxOf CX0 P w K mg base N qual (defScope st) f cdv A outer s H E).nox (defBody st) t ∧ t { nx := fun _ H' => Q .non H', rt := Q } (start N vs) H) : FnOk P w K mg base CX0 (k + 1) f fd ps sp := by
  obtain ⟨oc, od, kV, doc, pm, an, cdv, ct, osl, rfl, lk, hcd⟩ := F.ex
  refine fn_of lk hcd S len fun A outer s H vs Q E hr hsp => ?_
  obtain ⟨t, h, q⟩ := hbody cdv A outer s H vs Q E hr hsp
  exact ⟨t, h.nox, q⟩
/-- how its arguments bind (no defaults): h is «fun _ _ _ _ _ _ us hl => match us, hl with | [_, _], _ => rfl», one _ a parameter -/
theorem Fun.binds {x qual : Str} {st : Stmt} {f : Addr} {fd : FuncData} {ps : List Str} (F : Fun K x qual st f fd)
    (h : ∀ (kV doc pm : Value) (an : Option Addr) (cdv ct : Value) (us : List Value), us.length = ps.length → bindArgs (PySem.W.fnOf x qual (defArgs st) (defBody st) (defScope st) .none kV doc pm an cdv ct) ⟨us, []⟩ = pure (ps.zip us)) : Binds K fd ps [] := by
  obtain ⟨oc, od, kV, doc, pm, an, cdv, ct, osl, rfl, lk, hcd⟩ := F.ex
  exact .all (h kV doc pm an cdv ct)
theorem fun_mk {x qual : Str} {st : Stmt} {f : Addr} {oc : Value} {od an : Option Addr} {osl : Array (Option Value)} {kV doc pm cdv ct : Value} (l : K.lookup f = some ⟨oc, od, .func (PySem.W.fnOf x qual (defArgs st) (defBody st) (defScope st) .none kV doc pm an cdv ct), osl⟩)
    (c : PySem.W.codeIn K cdv qual = true) (k : PySem.W.keepIn K (.ref f) = true) : Fun K x qual st f (PySem.W.fnOf x qual (defArgs st) (defBody st) (defScope st) .none kV doc pm an cdv ct) := ⟨⟨oc, od, kV, doc, pm, an, cdv, ct, osl, rfl, l, c⟩, k⟩
end
theorem hu_of {A : Around} {k : Nat} (hr : Room k A) : A.units + 1 < cLine := Nat.lt_of_le_of_lt (Nat.add_le_add_left (by decide : 1 ≤ 64) _) hr.units
theorem small1000 {n : Nat} (h : n ≤ 1000) : n < sizeLine := Nat.lt_of_le_of_lt h (by decide)

/-! ### expressions in short: the name that stands in the i-th slot -/
section
variable {X : Cx}
theorem pv (i : Nat) {x : Str} {pos : Pos} (hN : X.N[i]? = some x := by rfl) (hv : Vis X.env.scope x := by first | exact Or.inl rfl | exact Or.inr (Or.inl rfl) | exact Or.inr (Or.inr rfl)) (hd : (x == ("__debug__" : Str)) = false := by decide)
    (hcd : (x == ("__classdict__" : Str)) = false := by decide) : PE X (.Name x pos) (tVar i) := pe_var hN hv hd hcd
end

/-! ### tests -/
theorem iteF {A B : Prop} (h : B) : if false = true then A else B := by
  rw [if_neg Bool.false_ne_true]
  exact h
theorem iteT {A B : Prop} (h : A) : if true = true then A else B := by
  rw [if_pos rfl]
  exact h
theorem iteNS {c A B : Prop} [Decidable c] (hc : c) (h : B) : if (!decide c) = true then A else B := by
  rw [decide_eq_true hc]
  exact iteF h

/-! ### heaps -/
/-- all that was tracked is as it was -/
def Same (H H' : Hp) : Prop := ∀ b o, H b = some o → H' b = some o
theorem Same.refl (H : Hp) : Same H H := fun _ _ h => h
theorem Same.trans {H H1 H2 : Hp} (a : Same H H1) (b : Same H1 H2) : Same H H2 := fun c o h => b c o (a c o h)
theorem Same.free {H H' : Hp} (e : Same H H') {l : Addr} (h : H' l = Option.none) : H l = Option.none := by
  cases q : H l with
  | none => rfl
  | some o =>
    rw [e l o q] at h
    cases h
theorem Same.seq {K : PySem.W.Frag} {H H' : Hp} {a : Addr} {xs : List V} (e : Same H H') (h : SqL K H a xs) : SqL K H' a xs := by
  rcases h with (h | ⟨o, h⟩) | h
  · exact .inl (.inl (e _ _ h))
  · exact .inl (.inr ⟨o, e _ _ h⟩)
  · exact .inr h

end L2

namespace BP
/-- small: within 2^n either way -/
def Sm (n : Nat) (x : Int) : Prop := x.natAbs < 2 ^ n
theorem Sm.mono {m n : Nat} {x : Int} (h : Sm m x) (l : m ≤ n) : Sm n x := Nat.lt_of_lt_of_le h (Nat.pow_le_pow_right (by decide) l)
theorem Sm.mul {m n : Nat} {x y : Int} (hx : Sm m x) (hy : Sm n y) : Sm (m + n) (x * y) := by
  unfold Sm at *
  rw [Int.natAbs_mul, Nat.pow_add]
  exact Nat.mul_lt_mul'' hx hy
theorem Sm.add {n : Nat} {x y : Int} (hx : Sm n x) (hy : Sm n y) : Sm (n + 1) (x + y) := by
  unfold Sm at *
  rw [Nat.pow_succ]
  omega
theorem Sm.sub {n : Nat} {x y : Int} (hx : Sm n x) (hy : Sm n y) : Sm (n + 1) (x - y) := by
  unfold Sm at *
  rw [Nat.pow_succ]
  omega
theorem Sm.neg {n : Nat} {x : Int} (hx : Sm n x) : Sm n (-x) := by
  unfold Sm at *
  rw [Int.natAbs_neg]; exact hx
theorem Sm.le {n : Nat} {x y : Int} (h : Sm n y) (l : x.natAbs ≤ y.natAbs) : Sm n x := Nat.lt_of_le_of_lt l h
theorem Sm.of {n : Nat} {x : Int} (h : x.natAbs < 2 ^ n) : Sm n x := h
theorem Sm.log2 {n : Nat} {x : Int} (h : Sm n x) (hn : 0 < n) : x.natAbs.log2 < n := by
  by_cases h0 : x.natAbs = 0
  · rw [h0]; simpa using hn
  · exact (Nat.log2_lt h0).mpr h

/-- in lowest terms, the bottom from 1 on -/
structure IsR (x y : Int) : Prop where
  pos : 0 < y
  low : Int.gcd x y = 1

/-- the signed divisor -/
def sg (t b : Int) : Int := if b < 0 then -(Int.gcd t b : Int) else (Int.gcd t b : Int)
theorem gcd_pos {t b : Int} (hb : b ≠ 0) : 0 < Int.gcd t b := Nat.pos_of_ne_zero fun h => hb (Int.gcd_eq_zero_iff.mp h).2
theorem sg_ne {t b : Int} (hb : b ≠ 0) : sg t b ≠ 0 := by
  have := gcd_pos (t := t) hb
  unfold sg; split <;> omega
theorem sg_dvd_left (t b : Int) : sg t b ∣ t := by
  unfold sg; split
  · exact Int.neg_dvd.mpr (Int.gcd_dvd_left t b)
  · exact Int.gcd_dvd_left t b
theorem sg_dvd_right (t b : Int) : sg t b ∣ b := by
  unfold sg; split
  · exact Int.neg_dvd.mpr (Int.gcd_dvd_right t b)
  · exact Int.gcd_dvd_right t b
def nt (t b : Int) : Int := t.fdiv (sg t b)
def nb (t b : Int) : Int := b.fdiv (sg t b)
theorem sg_nt (t b : Int) : sg t b * nt t b = t := Int.mul_fdiv_cancel' (sg_dvd_left t b)
theorem sg_nb (t b : Int) : sg t b * nb t b = b := Int.mul_fdiv_cancel' (sg_dvd_right t b)
theorem sg_abs (t b : Int) : (sg t b).natAbs = Int.gcd t b := by
  unfold sg; split <;> omega
theorem nb_pos {t b : Int} (hb : b ≠ 0) : 0 < nb t b := by
  have e := sg_nb t b
  have g := gcd_pos (t := t) hb
  by_cases h : b < 0
  · have hs : sg t b < 0 := by unfold sg; rw [if_pos h]; omega
    rcases Int.lt_trichotomy (nb t b) 0 with z | z | z
    · have := Int.mul_pos_of_neg_of_neg hs z; omega
    · rw [z] at e; omega
    · exact z
  · have hs : 0 < sg t b := by unfold sg; rw [if_neg h]; omega
    rcases Int.lt_trichotomy (nb t b) 0 with z | z | z
    · have := Int.mul_neg_of_pos_of_neg hs z; omega
    · rw [z] at e; omega
    · exact z
theorem n_low {t b : Int} (hb : b ≠ 0) : Int.gcd (nt t b) (nb t b) = 1 := by
  have g := gcd_pos (t := t) hb
  have h := Int.gcd_mul_left (sg t b) (nt t b) (nb t b)
  rw [sg_nt, sg_nb, sg_abs] at h
  exact (Nat.eq_of_mul_eq_mul_left g (by rw [Nat.mul_one]; exact h)).symm
theorem n_isR {t b : Int} (hb : b ≠ 0) : IsR (nt t b) (nb t b) := ⟨nb_pos hb, n_low hb⟩
theorem n_cross (t b : Int) : nt t b * b = t * nb t b := by
  have h1 := sg_nt t b
  have h2 := sg_nb t b
  calc nt t b * b = nt t b * (sg t b * nb t b) := by rw [h2]
    _ = (sg t b * nt t b) * nb t b := by ac_rfl
    _ = t * nb t b := by rw [h1]
theorem isR_unique {x y u v : Int} (a : IsR x y) (b : IsR u v) (h : x * v = u * y) : x = u ∧ y = v := by
  have hy := a.pos
  have hv := b.pos
  have ca : Nat.Coprime y.natAbs x.natAbs := by
    have := a.low
    rw [Int.gcd_comm] at this
    exact this
  have cb : Nat.Coprime v.natAbs u.natAbs := by
    have := b.low
    rw [Int.gcd_comm] at this
    exact this
  have hn : x.natAbs * v.natAbs = u.natAbs * y.natAbs := by rw [← Int.natAbs_mul, ← Int.natAbs_mul, h]
  have d1 : y.natAbs ∣ v.natAbs := ca.dvd_of_dvd_mul_left ⟨u.natAbs, by rw [hn, Nat.mul_comm]⟩
  have d2 : v.natAbs ∣ y.natAbs := cb.dvd_of_dvd_mul_left ⟨x.natAbs, by rw [← hn, Nat.mul_comm]⟩
  have e : y.natAbs = v.natAbs := Nat.dvd_antisymm d1 d2
  have ey : y = v := by omega
  subst ey
  exact ⟨Int.eq_of_mul_eq_mul_right (by omega) h, rfl⟩
theorem nt_le (t b : Int) (hb : b ≠ 0) : (nt t b).natAbs ≤ t.natAbs := by
  have h := congrArg Int.natAbs (sg_nt t b)
  rw [Int.natAbs_mul, sg_abs] at h
  have g := gcd_pos (t := t) hb
  rw [← h]
  exact Nat.le_mul_of_pos_left _ g
theorem nb_le (t b : Int) (hb : b ≠ 0) : (nb t b).natAbs ≤ b.natAbs := by
  have h := congrArg Int.natAbs (sg_nb t b)
  rw [Int.natAbs_mul, sg_abs] at h
  have g := gcd_pos (t := t) hb
  exact Nat.le_trans (Nat.le_mul_of_pos_left _ g) (Nat.le_of_eq h)
theorem gcd_step {a b : Int} : Int.gcd b (a % b) = Int.gcd a b := by
  have h : a % b = a + b * (-(a / b)) := by
    have := Int.emod_add_mul_ediv a b
    rw [Int.mul_neg]
    omega
  rw [h, Int.gcd_add_mul_left_right, Int.gcd_comm]
theorem gcd_end {a : Int} (h : 0 ≤ a) : ((Int.gcd a 0 : Nat) : Int) = a := by
  rw [Int.gcd_zero_right]; omega
theorem abs_nn (t : Int) : 0 ≤ (if t < 0 then -t else t) := by split <;> omega
end BP
/-! the sum and the product of two ratios in lowest terms, by the short way -/
namespace BP
theorem isR_sm_t {n : Nat} {t b : Int} (hb : b ≠ 0) (h : Sm n t) : Sm n (nt t b) := h.le (nt_le t b hb)
theorem isR_sm_b {n : Nat} {t b : Int} (hb : b ≠ 0) (h : Sm n b) : Sm n (nb t b) := h.le (nb_le t b hb)
end BP
/-! ratios as the rationals that they stand for -/
namespace BP
theorem isR_rat (q : Rat) : IsR q.num (q.den : Int) := ⟨by have := q.den_pos; omega, by
  have := q.reduced
  unfold Nat.Coprime at this
  simpa [Int.gcd] using this⟩
theorem n_rat {t b : Int} (hb : b ≠ 0) : nt t b = (Rat.divInt t b).num ∧ nb t b = ((Rat.divInt t b).den : Int) := by
  have c := n_cross t b
  have R := n_isR (t := t) hb
  refine isR_unique R (isR_rat _) ?_
  have e := Rat.num_divInt_den (Rat.divInt t b)
  have h1 := (Rat.divInt_eq_divInt_iff (n₁ := (Rat.divInt t b).num) (n₂ := t) (d₁ := ((Rat.divInt t b).den : Int)) (d₂ := b) (by have := (Rat.divInt t b).den_pos; omega) hb).mp e
  -- num * b = t * den
  refine Int.eq_of_mul_eq_mul_right hb ?_
  calc nt t b * ((Rat.divInt t b).den : Int) * b = nt t b * b * ((Rat.divInt t b).den : Int) := by ac_rfl
    _ = t * nb t b * ((Rat.divInt t b).den : Int) := by rw [c]
    _ = t * ((Rat.divInt t b).den : Int) * nb t b := by ac_rfl
    _ = (Rat.divInt t b).num * b * nb t b := by rw [h1]
    _ = (Rat.divInt t b).num * nb t b * b := by ac_rfl
theorem den_ne (q : Rat) : (q.den : Int) ≠ 0 := by have := q.den_pos; omega
theorem q_plus (a b : Rat) : nt (a.num * b.den + b.num * a.den) ((a.den : Int) * b.den) = (a + b).num ∧ nb (a.num * b.den + b.num * a.den) ((a.den : Int) * b.den) = ((a + b).den : Int) := by
  have h := n_rat (t := a.num * b.den + b.num * a.den) (b := (a.den : Int) * b.den) (Int.mul_ne_zero (den_ne a) (den_ne b))
  rw [← Rat.divInt_add_divInt _ _ (den_ne a) (den_ne b), Rat.num_divInt_den, Rat.num_divInt_den] at h
  exact h
theorem q_times (a b : Rat) : nt (a.num * b.num) ((a.den : Int) * b.den) = (a * b).num ∧ nb (a.num * b.num) ((a.den : Int) * b.den) = ((a * b).den : Int) := by
  have h := n_rat (t := a.num * b.num) (b := (a.den : Int) * b.den) (Int.mul_ne_zero (den_ne a) (den_ne b))
  rw [← Rat.divInt_mul_divInt, Rat.num_divInt_den, Rat.num_divInt_den] at h
  exact h
theorem q_less (a b : Rat) : decide (a.num * b.den < b.num * a.den) = decide (a < b) :=
   decide_eq_decide.mpr (Rat.lt_iff a b).symm
/-- of such a size -/
def SmQ (n : Nat) (q : Rat) : Prop := Sm n q.num ∧ Sm n (q.den : Int)
theorem SmQ.mono {m n : Nat} {q : Rat} (h : SmQ m q) (l : m ≤ n := by decide) : SmQ n q := ⟨h.1.mono l, h.2.mono l⟩
theorem SmQ.mul {m n : Nat} {a b : Rat} (h : SmQ m a) (k : SmQ n b) : SmQ (m + n) (a * b) := by
  have ne := Int.mul_ne_zero (den_ne a) (den_ne b)
  have e := q_times a b
  unfold SmQ
  rw [← e.1, ← e.2]
  exact ⟨isR_sm_t ne (h.1.mul k.1), isR_sm_b ne (h.2.mul k.2)⟩
theorem SmQ.add {m n : Nat} {a b : Rat} (h : SmQ m a) (k : SmQ n b) : SmQ (m + n + 1) (a + b) := by
  have ne := Int.mul_ne_zero (den_ne a) (den_ne b)
  have e := q_plus a b
  have s1 : Sm (m + n) (b.num * a.den) := by rw [Nat.add_comm]; exact k.1.mul h.2
  unfold SmQ
  rw [← e.1, ← e.2]
  exact ⟨isR_sm_t ne ((h.1.mul k.2).add s1), isR_sm_b ne ((h.2.mul k.2).mono (Nat.le_succ _))⟩
end BP
/-! own rules over the hand layer: great numbers, isinstance, == of tuples, heaps that grow -/
namespace L2
open PySem PySem.Spec PyProof.Rows BP
section
variable {X : Cx}
theorem mulOk {m n : Nat} {x y : Int} (hx : Sm m x) (hy : Sm n y) (h : m + n ≤ 134217728 := by decide) : IntMulOk x y := IntMulOk.of_le (intBits_le_iff.mpr hx) (intBits_le_iff.mpr hy) h
theorem op_mulB : OpR X (binaryOp .Mult) (rI IntMulOk fun i j => .int (i * j)) := opI fun _ _ _ _ _ _ _ hc q => mul_int q hc
def CDivB (_ j : Int) : Prop := j ≠ 0 ∧ j.natAbs.log2 < 9000
theorem op_fdivB : OpR X (binaryOp .FloorDiv) (rI CDivB fun i j => .int (i.fdiv j)) := opI fun _ _ _ _ _ _ _ hc q => floordiv_int hc.1 q (.inl (PyProof.noPylong_of_log2 hc.2))

/-- what isinstance answers, by the abstract heap -/
inductive IsI (K : PySem.W.Frag) (H : Hp) : V → String → Bool → Prop where
  | intInt (i : Int) : IsI K H (.int i) "int" true
  | intBool (i : Int) : IsI K H (.int i) "bool" false
  | blInt (b : Bool) : IsI K H (.bl b) "int" true
  | blBool (b : Bool) : IsI K H (.bl b) "bool" true
  | nonInt : IsI K H .non "int" false
  | strInt (x : Str) : IsI K H (.str x) "int" false
  | strStr (x : Str) : IsI K H (.str x) "str" true
  | tupTup {a : Addr} {xs : List V} (h : SqT K H a xs) : IsI K H (.ref a) "tuple" true
  | tupInt {a : Addr} {xs : List V} (h : SqT K H a xs) : IsI K H (.ref a) "int" false
  | lstList {a : Addr} {xs : List V} (h : SqL K H a xs) : IsI K H (.ref a) "list" true
  | lstInt {a : Addr} {xs : List V} (h : SqL K H a xs) : IsI K H (.ref a) "int" false
  | dictInt {a : Addr} {kvs : List (Key × V)} (h : H a = some (.dK kvs)) : IsI K H (.ref a) "int" false
theorem call_isi : CallR X (.builtin "isinstance") (fun xs H Q => ∃ x T b, xs = [x, .ty T] ∧ IsI X.K H x T b ∧ Q (.bl b) H) := by
  intro pins s σ H xs us Q I r h
  obtain ⟨x, T, b, rfl, hi, q⟩ := h
  obtain ⟨u, u', rfl, rx, rt⟩ := vals2 r
  cases rt
  cases hi with
  | intInt i => obtain ⟨t, rfl⟩ := rx; exact IsiPair.int_int ⟨.bl true, H, I, rfl, q⟩
  | intBool i => obtain ⟨t, rfl⟩ := rx; exact IsiPair.int_bool ⟨.bl false, H, I.tok _, rfl, q⟩
  | blInt i => cases rx; exact IsiPair.bool_int ⟨.bl true, H, I, rfl, q⟩
  | blBool i => cases rx; exact IsiPair.bool_bool ⟨.bl true, H, I, rfl, q⟩
  | nonInt => cases rx; exact IsiPair.NoneType_int ⟨.bl false, H, I.tok _, rfl, q⟩
  | strInt i => obtain ⟨t, rfl⟩ := rx; exact IsiPair.str_int ⟨.bl false, H, I.tok _, rfl, q⟩
  | strStr i => obtain ⟨t, rfl⟩ := rx; exact IsiPair.str_str ⟨.bl true, H, I, rfl, q⟩
  | tupTup h =>
    cases rx
    obtain ⟨its, _, ⟨o, ho, hc, _⟩, _⟩ := I.tuple h
    exact IsiPair.tuple_tuple ho hc ⟨.bl true, H, I, rfl, q⟩
  | tupInt h =>
    cases rx
    obtain ⟨its, _, ⟨o, ho, hc, _⟩, _⟩ := I.tuple h
    exact IsiPair.tuple_int ho hc ⟨.bl false, H, I.tok _, rfl, q⟩
  | lstList h =>
    cases rx
    obtain ⟨its, _, p, _⟩ := I.list h
    obtain ⟨o, ho, hc, _⟩ := p.isList
    exact IsiPair.list_list ho hc ⟨.bl true, H, I, rfl, q⟩
  | lstInt h =>
    cases rx
    obtain ⟨its, _, p, _⟩ := I.list h
    obtain ⟨o, ho, hc, _⟩ := p.isList
    exact IsiPair.list_int ho hc ⟨.bl false, H, I.tok _, rfl, q⟩
  | @dictInt ad kvs h =>
    cases rx
    obtain ⟨_, _, vs, _, p⟩ := (show ObjOk X.prog X.w H s.heap ad (.dK kvs) from I.hok ad _ h)
    obtain ⟨o, es, ep, h1, h2, _⟩ := p
    exact IsiPair.dict_int h1 h2.1 ⟨.bl false, H, I.tok _, rfl, q⟩

/-- == of two lists of flat things, place by place -/
def eqVs : List V → List V → Bool
  | [], [] => true
  | x :: xs, y :: ys => eqV x y && eqVs xs ys
  | _, _ => false
theorem vals_at : ∀ {xs : List V} {us : List Value} (r : Vals xs us) (j : Nat) (h : j < us.length), ∃ x, xs[j]? = some x ∧ RelV x us[j]
  | _, _, .nil, j, h => absurd h (Nat.not_lt_zero _)
  | _, _, .cons r _, 0, _ => ⟨_, rfl, r⟩
  | _, _, .cons _ t, j + 1, h => by
    obtain ⟨x, e, r⟩ := vals_at t j (by simpa using h)
    exact ⟨x, by simpa using e, by simpa using r⟩
theorem all_range_eq : ∀ (xs ys : List V) (e : Nat → Bool), (∀ j x y, xs[j]? = some x → ys[j]? = some y → e j = eqV x y) → ((List.range (min xs.length ys.length)).all e && xs.length == ys.length) = eqVs xs ys
  | [], [], e, _ => by simp [eqVs]
  | [], y :: ys, e, _ => by simp [eqVs]
  | x :: xs, [], e, _ => by simp [eqVs]
  | x :: xs, y :: ys, e, h => by
    have ih := all_range_eq xs ys (fun j => e (j + 1)) (fun j a b ha hb => h (j + 1) a b (by simpa using ha) (by simpa using hb))
    have h0 : e 0 = eqV x y := h 0 x y rfl rfl
    have hm : min (x :: xs).length (y :: ys).length = min xs.length ys.length + 1 := by simp only [List.length_cons]; omega
    rw [hm, List.range_succ_eq_map, List.all_cons, List.all_map, h0]
    unfold eqVs
    rw [← ih]
    have hl : ((x :: xs).length == (y :: ys).length) = (xs.length == ys.length) := by simp
    rw [hl, Bool.and_assoc]
    rfl
theorem flat_at {xs : List V} (h : xs.all flatV = true) {j : Nat} {x : V} (e : xs[j]? = some x) : flatV x = true := List.all_eq_true.mp h x (List.mem_of_getElem? e)
/-- == and != of two lists of flat things -/
def rEqL (K : PySem.W.Frag) (neg : Bool) : R2 := fun x y H Q => ∃ a b xs ys, x = .ref a ∧ y = .ref b ∧ SqL K H a xs ∧ SqL K H b ys ∧ xs.all flatV = true ∧ ys.all flatV = true ∧ Q (.bl (if neg then !eqVs xs ys else eqVs xs ys)) H
theorem eqVs_len : ∀ {xs ys : List V}, xs.length ≠ ys.length → eqVs xs ys = false
  | [], [], h => absurd rfl h
  | [], _ :: _, _ => rfl
  | _ :: _, [], _ => rfl
  | x :: xs, y :: ys, h => by
    unfold eqVs
    rw [eqVs_len (xs := xs) (ys := ys) (fun z => h (by rw [List.length_cons, List.length_cons, z])), Bool.and_false]
theorem all_range_eqL (xs ys : List V) (e : Nat → Bool) (hl : xs.length = ys.length) (h : ∀ j x y, xs[j]? = some x → ys[j]? = some y → e j = eqV x y) : (List.range xs.length).all e = eqVs xs ys := by
  have q := all_range_eq xs ys e h
  rw [← hl, Nat.min_self, beq_self_eq_true, Bool.and_true] at q
  exact q
theorem op_eqL (hu : X.A.units + 1 < cLine) : OpR X (compareOp .Eq) (rEqL X.K false) := by
  intro pins s σ H x y v u Q I rx ry h
  obtain ⟨a, b, xs, ys, rfl, rfl, ha, hb, fx, fy, q⟩ := h
  cases rx
  cases ry
  obtain ⟨its, r1, p1, _⟩ := I.list ha
  obtain ⟨its2, r2, p2, _⟩ := I.list hb
  have h1 := r1.length
  have h2 := r2.length
  by_cases hl : xs.length = ys.length
  · refine SeqAt.eq_listAt (e := fun j => match xs[j]?, ys[j]? with | some x, some y => eqV x y | _, _ => true) p1.isList p2.isList (by simp only [List.size_toArray]; omega) (by omega) (fun j g1 g2 => ?_) ⟨.bl _, H, I, rfl, ?_⟩
    · obtain ⟨x, e1, q1⟩ := vals_at r1 j (by simpa using g1)
      obtain ⟨y, e2, q2⟩ := vals_at r2 j (by simpa using g2)
      rw [e1, e2]
      exact eqAt_V (by simpa using q1) (by simpa using q2) (flat_at fx e1) (flat_at fy e2)
    · rw [List.size_toArray, ← h1, all_range_eqL xs ys _ hl fun j x y e1 e2 => by rw [e1, e2]]
      exact q
  · refine SeqAt.eq_list_lengthsAt p1.isList p2.isList (by simp only [List.size_toArray, bne_iff_ne]; omega) (by omega) ⟨.bl false, H, I, rfl, ?_⟩
    rw [eqVs_len hl] at q
    exact q
theorem op_neL (hu : X.A.units + 1 < cLine) : OpR X (compareOp .NotEq) (rEqL X.K true) := by
  intro pins s σ H x y v u Q I rx ry h
  obtain ⟨a, b, xs, ys, rfl, rfl, ha, hb, fx, fy, q⟩ := h
  cases rx
  cases ry
  obtain ⟨its, r1, p1, _⟩ := I.list ha
  obtain ⟨its2, r2, p2, _⟩ := I.list hb
  have h1 := r1.length
  have h2 := r2.length
  by_cases hl : xs.length = ys.length
  · refine SeqAt.RcNeAt.lists (e := fun j => match xs[j]?, ys[j]? with | some x, some y => eqV x y | _, _ => true) p1.isList p2.isList (by simp only [List.size_toArray]; omega) (by omega) (fun j g1 g2 => ?_) _ _ _ _ ⟨.bl _, H, I, rfl, ?_⟩
    · obtain ⟨x, e1, q1⟩ := vals_at r1 j (by simpa using g1)
      obtain ⟨y, e2, q2⟩ := vals_at r2 j (by simpa using g2)
      rw [e1, e2]
      exact eqAt_V (by simpa using q1) (by simpa using q2) (flat_at fx e1) (flat_at fy e2)
    · rw [List.size_toArray, ← h1, all_range_eqL xs ys _ hl fun j x y e1 e2 => by rw [e1, e2]]
      exact q
  · refine SeqAt.RcNeAt.lists_lengths p1.isList p2.isList (by simp only [List.size_toArray, bne_iff_ne]; omega) (by omega) _ _ _ _ ⟨.bl true, H, I, rfl, ?_⟩
    rw [eqVs_len hl] at q
    exact q
end

/-- a written argument without a star -/
def plainE : Expr → Bool
  | .Starred _ _ => false
  | _ => true
theorem starEach_plain {e : Expr} (h : plainE e = true) (es : List Expr) (env : Env) : starEach (e :: es) env = (false, eval e env) :: starEach es env := by
  cases e <;> first | rfl | exact absurd (show false = true from h) Bool.false_ne_true
theorem noStar {es : List Expr} {env : Env} {pos : Pos} (h : es.all plainE = true) : (backTo pos (starEach es env)).any (·.1) = false := by
  induction es with
  | nil => rfl
  | cons e es ih =>
    rw [List.all_cons, Bool.and_eq_true] at h
    rw [starEach_plain h.1]
    have q := ih h.2
    unfold backTo at q ⊢
    rw [List.map_cons, List.any_cons, q]
    rfl
theorem pa_c {X : Cx} {e : Expr} {es : List Expr} {te : TE} {t : TA} (ha : PE X e te) (hr : PA X es t) (hp : plainE e = true := by rfl) : PA X (e :: es) (tCons te t) := pa_cons ha hr (starEach_plain hp es X.env)
theorem boot_isinstance : bootBuiltins "isinstance" = some (.builtin "isinstance") := PyProof.Rows.boot_isinstance
theorem boot_int : bootBuiltins "int" = some (.type "int") := PyProof.Rows.boot_int
theorem boot_bool : bootBuiltins "bool" = some (.type "bool") := PyProof.Rows.boot_bool
theorem boot_tuple : bootBuiltins "tuple" = some (.type "tuple") := PyProof.Rows.boot_tuple
theorem boot_list : bootBuiltins "list" = some (.type "list") := PyProof.Rows.boot_list
theorem boot_str : bootBuiltins "str" = some (.type "str") := PyProof.Rows.boot_str
theorem boot_abs : bootBuiltins "abs" = some (.builtin "abs") := PyProof.Rows.boot_abs

/-! ### heaps -/
theorem same_new {H : Hp} {p : Addr} (h : H p = none) (o : HO) : Same H (upd H p o) := fun b u q => by rw [upd_ne (ne_of_none q h)]; exact q
theorem Same.tup {K : PySem.W.Frag} {H H' : Hp} {a : Addr} {xs : List V} (e : Same H H') (h : SqT K H a xs) : SqT K H' a xs := by
  rcases h with (h | ⟨o, h⟩) | h
  · exact .inl (.inl (e _ _ h))
  · exact .inl (.inr ⟨o, e _ _ h⟩)
  · exact .inr h
/-- a tuple is told: a new one or not, all else stays -/
def RetT (H : Hp) (Q : VK) (xs : List V) : Prop := ∀ p H', Same H H' → H' p = some (.tup xs) → Q (.ref p) H'
theorem RetT.new {H : Hp} {Q : VK} {xs : List V} (h : RetT H Q xs) {p : Addr} (hp : H p = none) : Q (.ref p) (upd H p (.tup xs)) := h p _ (same_new hp _) upd_same
abbrev T2 (x y : Int) : List V := [.int x, .int y]
theorem two_le : 2 ≤ sizeLine := by decide
theorem iteN {c A B : Prop} [Decidable c] (hc : ¬ c) (h : B) : if decide c = true then A else B := by
  rw [decide_eq_false hc]
  exact iteF h
theorem iteP {c A B : Prop} [Decidable c] (hc : c) (h : A) : if decide c = true then A else B := by
  rw [decide_eq_true hc]
  exact iteT h
theorem iteD {c A B : Prop} [Decidable c] (h1 : c → A) (h2 : ¬ c → B) : if decide c = true then A else B := by
  by_cases h : c
  · exact iteP h (h1 h)
  · exact iteN h (h2 h)
theorem iteNP {c A B : Prop} [Decidable c] (hc : ¬ c) (h : A) : if (!decide c) = true then A else B := by
  rw [decide_eq_false hc]
  exact iteT h
end L2
namespace L2
open PySem PySem.Spec PyProof.Rows BP
section
variable {X : Cx} {pins : List (Addr × Obj)} {σ : St} {H : Hp} {s : Shared}
/-- an untracked object of ours is tracked from here on -/
theorem Inv.track {ea : Addr} {o : HO} (I : Inv X pins σ H s) (hn : H ea = none) (h0 : X.s₀.heap.get? ea = none) (hp : ∀ p ∈ X.pn ++ pins, p.1 ≠ ea) (hL : ea ≠ X.env.locals)
    (hc : ∀ x c, X.env.cells.lookup x = some c → c ≠ ea) (ok : ObjOk X.prog X.w (upd H ea o) s.heap ea o) : Inv X pins σ (upd H ea o) s := by
  refine ⟨I.ok, I.os, I.bare, ⟨I.base.keep, I.base.slot, fun b u q n hx => ?_, I.base.there, fun b xs e => ?_, fun b u xs e => ?_, fun b ps e => ?_⟩, I.loc, I.cell, ?_, fun x c e => ?_, fun p hp' => ?_, fun b u e => ?_, I.len⟩
  · rw [upd_ne (fun z => by rw [z, h0] at q; cases q)]
    exact I.base.free b u q n hx
  · have z := I.base.tups b xs e
    rw [upd_ne (ne_of_none z hn)]
    exact z
  · have z := I.base.frzs b u xs e
    rw [upd_ne (ne_of_none z hn)]
    exact z
  · obtain ⟨m, z⟩ := I.base.tbls b ps e
    exact ⟨m, by rw [upd_ne (ne_of_none z hn)]; exact z⟩
  · rw [upd_ne (Ne.symm hL)]
    exact I.free
  · rw [upd_ne (hc x c e)]
    exact I.freeC x c e
  · obtain ⟨e, n, r⟩ := I.pin p hp'
    exact ⟨e, by rw [upd_ne (hp p hp')]; exact n, r⟩
  · by_cases hb : b = ea
    · subst hb
      rw [upd_same] at e
      cases e
      exact ok
    · rw [upd_ne hb] at e
      exact (I.hok b u e).stay (fun c v _ q => q) (fun c q => by rw [upd_ne (ne_of_none q hn)]; exact q) fun c xs q => by rw [upd_ne (ne_of_none q hn)]; exact q
end
end L2
/-! own rules: list comprehensions, by the layer's readings -/
namespace L2
open PySem PySem.Spec PyProof.Rows BP
/-- what the block of a comprehension is entered with: its frame, the iterator's records, the state and the abstract heap ahead of it -/
structure CP where
  C : Addr
  fp : List Addr
  s : Shared
  H : Hp
abbrev Cx.comp (X : Cx) (scope : Scope) (cl : List (Str × Addr)) (N : List Str) (c : CP) : Cx :=
  { prog := X.prog, w := X.w, K := X.K, mg := X.mg, base := X.base, A := X.A, N := N, s₀ := c.s, H₀ := c.H, env := compEnvC scope cl c.C X.env,
    outer := X.stack, stack := X.stack, ex := c.fp, fn := fun _ => false, calm := X.calm, pn := [], xe := fun _ _ => False }
def ixS : St → Nat → Option V
  | [], _ => none
  | x :: _, 0 => x
  | _ :: r, n + 1 => ixS r n
theorem ixS_some : ∀ {σ : St} {j : Nat} {v : V}, ixS σ j = some v → σ[j]? = some (some v)
  | [], _, _, h => by cases h
  | x :: r, 0, v, h => by
    have h' : x = some v := h
    rw [h']; rfl
  | x :: r, n + 1, v, h => by
    have q := ixS_some (σ := r) (j := n) (v := v) h
    simpa using q
/-- the block's names at its entry: the loop's own are unbound, the others come from around -/
def compS : List (Option Nat) → St → St
  | [], _ => []
  | none :: r, σ => none :: compS r σ
  | some j :: r, σ => ixS σ j :: compS r σ
theorem compS_len : ∀ (ix : List (Option Nat)) (σ : St), (compS ix σ).length = ix.length
  | [], _ => rfl
  | none :: r, σ => congrArg Nat.succ (compS_len r σ)
  | some _ :: r, σ => congrArg Nat.succ (compS_len r σ)
/-- what a later state may have more -/
def LeS : St → St → Prop
  | [], [] => True
  | a :: r, b :: r' => (a = none ∨ a = b) ∧ LeS r r'
  | _, _ => False
theorem LeS.refl : ∀ σ : St, LeS σ σ
  | [] => trivial
  | _ :: r => ⟨.inr rfl, LeS.refl r⟩
theorem LeS.len : ∀ {a b : St}, LeS a b → a.length = b.length
  | [], [], _ => rfl
  | _ :: _, _ :: _, h => congrArg Nat.succ (LeS.len h.2)
  | [], _ :: _, h => h.elim
  | _ :: _, [], h => h.elim
theorem LeS.get : ∀ {a b : St} {i : Nat} {v : V}, LeS a b → a[i]? = some (some v) → b[i]? = some (some v)
  | [], [], _, _, _, e => by simp at e
  | [], _ :: _, _, _, h, _ => h.elim
  | _ :: _, [], _, _, h, _ => h.elim
  | x :: r, y :: r', 0, v, h, e => by
    have e' : x = some v := by simpa using e
    rcases h.1 with z | z
    · rw [z] at e'; cases e'
    · rw [← z, e']; rfl
  | x :: r, y :: r', i + 1, v, h, e => by
    have e' : r[i]? = some (some v) := by simpa using e
    have q := LeS.get h.2 e'
    simpa using q
/-- a target that stores into unbound slots alone -/
def GOk (g : TG) (σ : St) : Prop := ∀ x H Q, g x σ H Q → g x σ H fun σ2 H2 => LeS σ σ2 ∧ Q σ2 H2
theorem leS_set : ∀ {σ : St} {i : Nat} {v : V}, σ[i]? = some none → LeS σ (σ.set i (some v))
  | [], _, _, h => by simp at h
  | x :: r, 0, v, h => by
    have e : x = none := by simpa using h
    exact ⟨.inl e, LeS.refl r⟩
  | x :: r, i + 1, v, h => by
    have e : r[i]? = some none := by simpa using h
    exact ⟨.inr rfl, leS_set e⟩
theorem compS_none {ix : List (Option Nat)} : ∀ {i : Nat} {σ : St}, ix[i]? = some none → (compS ix σ)[i]? = some none := by
  induction ix with
  | nil => intro i σ h; simp at h
  | cons a r ih =>
    intro i σ h
    cases i with
    | zero =>
      have e : a = none := by simpa using h
      subst e; rfl
    | succ i =>
      have e : r[i]? = some none := by simpa using h
      have q := ih (σ := σ) e
      cases a <;> (unfold compS; simpa using q)
theorem go_name {i : Nat} {ix : List (Option Nat)} (h : ix[i]? = some none) (σ : St) : GOk (gName i) (compS ix σ) := fun _ _ _ q => ⟨leS_set (compS_none h), q⟩
theorem LeS.trans : ∀ {a b c : St}, LeS a b → LeS b c → LeS a c
  | [], [], [], _, _ => trivial
  | [], [], _ :: _, _, h => h.elim
  | [], _ :: _, _, h, _ => h.elim
  | _ :: _, [], _, h, _ => h.elim
  | _ :: _, _ :: _, [], _, h => h.elim
  | x :: r, y :: r', z :: r'', h, k => by
    refine ⟨?_, LeS.trans h.2 k.2⟩
    rcases h.1 with e | e
    · exact .inl e
    · rcases k.1 with e' | e'
      · exact .inl (e.trans e')
      · exact .inr (e.trans e')
theorem go_two {K : PySem.W.Frag} {i j : Nat} {ix : List (Option Nat)} (h : ix[i]? = some none) (h' : ix[j]? = some none) (hij : i ≠ j) (σ : St) : GOk (gTup K 2 (gCons (gName i) (gCons (gName j) gNil))) (compS ix σ) := by
  intro x H Q q
  obtain ⟨a, xs, e1, e2, e3, v, r, e4, v', r', e5, e6, q⟩ := q
  have z : (compS ix σ)[i]? = some none := compS_none h
  have z' : ((compS ix σ).set i (some v))[j]? = some none := by
    rw [List.getElem?_set_ne hij]
    exact compS_none h'
  exact ⟨a, xs, e1, e2, e3, v, r, e4, v', r', e5, e6, (leS_set z).trans (leS_set z'), q⟩
/-- the free names' cells are those of around -/
def SubL (cells : List (Str × Addr)) : List (Str × Addr) → Prop
  | [] => True
  | p :: r => cells.lookup p.1 = some p.2 ∧ SubL cells r
theorem SubL.get {cells : List (Str × Addr)} : ∀ {cl : List (Str × Addr)} {x : Str} {c : Addr}, SubL cells cl → cl.lookup x = some c → cells.lookup x = some c
  | [], _, _, _, e => by cases e
  | p :: r, x, c, h, e => by
    rw [List.lookup_cons] at e
    cases hx : x == p.1 with
    | true =>
      rw [hx] at e
      have e1 : x = p.1 := by simpa using hx
      have e2 : p.2 = c := Option.some.inj e
      rw [e1, ← e2]
      exact h.1
    | false =>
      rw [hx] at e
      exact SubL.get h.2 e
def IxOk (X : Cx) (rn : List (Str × NameKind)) (cl : List (Str × Addr)) : List Str → List (Option Nat) → Prop
  | [], [] => True
  | _ :: N, none :: ix => IxOk X rn cl N ix
  | x :: N, some j :: ix => (X.N[j]? = some x ∧ Vis X.env.scope x ∧ (X.env.kindOf x ≠ some .local) ∧ (cl.lookup x).isSome = true ∧ (rn.lookup x = some .cell ∨ rn.lookup x = some .free)) ∧ IxOk X rn cl N ix
  | _, _ => False
theorem IxOk.len {X : Cx} {rn : List (Str × NameKind)} {cl : List (Str × Addr)} : ∀ {N : List Str} {ix : List (Option Nat)}, IxOk X rn cl N ix → ix.length = N.length
  | [], [], _ => rfl
  | _ :: _, none :: _, h => congrArg Nat.succ (IxOk.len (show IxOk X rn cl _ _ from h))
  | _ :: _, some _ :: _, h => congrArg Nat.succ (IxOk.len h.2)
  | [], none :: _, h => h.elim
  | [], some _ :: _, h => h.elim
  | _ :: _, [], h => h.elim
theorem IxOk.get {X : Cx} {rn : List (Str × NameKind)} {cl : List (Str × Addr)} : ∀ {N : List Str} {ix : List (Option Nat)} {σ : St} {i : Nat} {x : Str} {v : V}, IxOk X rn cl N ix → N[i]? = some x → (compS ix σ)[i]? = some (some v) →
    ∃ j : Nat, X.N[j]? = some x ∧ σ[j]? = some (some v) ∧ Vis X.env.scope x ∧ X.env.kindOf x ≠ some .local ∧ (cl.lookup x).isSome = true ∧ (rn.lookup x = some .cell ∨ rn.lookup x = some .free)
  | [], [], _, _, _, _, _, e, _ => by simp at e
  | y :: N, none :: ix, σ, 0, x, v, _, _, e => by
    have z : (none : Option V) = some v := by simpa [compS] using e
    cases z
  | y :: N, none :: ix, σ, i + 1, x, v, h, e, e' => IxOk.get (N := N) (ix := ix) (σ := σ) (i := i) (show IxOk X rn cl N ix from h) (by simpa using e) (by simpa [compS] using e')
  | y :: N, some j :: ix, σ, 0, x, v, h, e, e' => by
    have z : ixS σ j = some v := by simpa [compS] using e'
    have y1 : y = x := by simpa using e
    subst y1
    exact ⟨j, h.1.1, ixS_some z, h.1.2⟩
  | y :: N, some j :: ix, σ, i + 1, x, v, h, e, e' => IxOk.get (N := N) (ix := ix) (σ := σ) (i := i) h.2 (by simpa using e) (by simpa [compS] using e')
  | [], none :: _, _, _, _, _, h, _, _ => h.elim
  | [], some _ :: _, _, _, _, _, h, _, _ => h.elim
  | _ :: _, [], _, _, _, _, h, _, _ => h.elim
structure CompOk (X : Cx) (scope : Scope) (cl : List (Str × Addr)) (N : List Str) (ix : List (Option Nat)) : Prop where
  clos : closureFor scope X.env = pure cl := by rfl
  kind : scope.kind = .function := by rfl
  nms : (scope.names.all fun x => x.2 != .local || scope.names.lookup x.1 == some .local) = true := by rfl
  nocell : (scope.names.all fun x => x.2 != .cell) = true := by rfl
  sub : SubL X.env.cells cl
  has : ((relabel scope X.env).names.all fun x => x.2 == .local || (cl.lookup x.1).isSome || !(x.2 == .cell || x.2 == .free)) = true := by rfl
  ixs : IxOk X (relabel scope X.env).names cl N ix
section
variable {X : Cx} {scope : Scope} {cl : List (Str × Addr)} {N : List Str} {ix : List (Option Nat)} {pins : List (Addr × Obj)} {σ : St} {H : Hp} {s : Shared}
theorem lookup_mem : ∀ {l : List (Str × NameKind)} {x : Str} {k : NameKind}, l.lookup x = some k → (x, k) ∈ l
  | [], _, _, h => by cases h
  | (y, k') :: r, x, k, h => by
    rw [List.lookup_cons] at h
    cases hx : x == y with
    | true =>
      rw [hx] at h
      have e1 : x = y := by simpa using hx
      have e2 : k' = k := Option.some.inj h
      rw [e1, e2]
      exact List.mem_cons_self
    | false =>
      rw [hx] at h
      exact List.mem_cons_of_mem _ (lookup_mem h)
theorem CompOk.cells (k : CompOk X scope cl N ix) {x : Str} (h : (relabel scope X.env).names.lookup x = some .cell ∨ (relabel scope X.env).names.lookup x = some .free) : ∃ c, cl.lookup x = some c := by
  have all := List.all_eq_true.mp k.has
  rcases h with h | h
  · have q := all _ (lookup_mem h)
    exact Option.isSome_iff_exists.mp (by simpa using q)
  · have q := all _ (lookup_mem h)
    exact Option.isSome_iff_exists.mp (by simpa using q)
/-- the context of the block stands -/
theorem CompOk.ok (k : CompOk X scope cl N ix) (I : Inv X pins σ H s) {fp : List Addr} {C : Addr} (hf : ∀ b ∈ fp, FpOk X pins H b ∧ b < s.heap.objs.size) (hC : s.heap.objs.size ≤ C) : (X.comp scope cl N ⟨C, fp, s, H⟩).Ok where
  mod := I.ok.mod
  kind := k.kind
  glob := I.ok.glob
  blt := I.ok.blt
  above := hC
  inj := fun x y c e1 e2 => I.ok.inj x y c (k.sub.get e1) (k.sub.get e2)
  has := fun x h => k.cells h
  cab := fun x c h _ => by cases h
  hd := I.ok.hd
  frames := I.ok.frames
  stk := .inl rfl
  exf := fun b hb => ⟨Nat.ne_of_lt (Nat.lt_of_lt_of_le (hf b hb).2 hC), fun x c e => (hf b hb).1.2.2.2.2.1 x c (k.sub.get e)⟩
  bs := fun b o e => I.bs b o e
  bsz := Nat.le_trans I.ok.bsz I.sz
  noex := fun b o e hb => by
    obtain ⟨⟨_, _, _, z, _⟩, _⟩ := hf b hb
    rcases z with z | z
    · exact I.ok.noex b o e z
    · exact absurd (Nat.lt_of_lt_of_le (Heap.lt_size e) (Nat.le_trans I.ok.bsz z)) (Nat.lt_irrefl _)
  exfs := fun b hb z => by
    obtain ⟨⟨_, nl, nf, _⟩, _⟩ := hf b hb
    rcases List.mem_cons.mp (I.stkSub b z) with e | e
    · exact nl e
    · exact nf e
  funs := I.stack
  frf := I.stkFree
/-- the block's invariant at its entry -/
theorem CompOk.enter (k : CompOk X scope cl N ix) (I : Inv X pins σ H s) {fp : List Addr} {C : Addr} {h' : Heap} {t' : Nat} {m : Str → Option Value} (hf : ∀ b ∈ fp, FpOk X pins H b ∧ b < s.heap.objs.size) (hC : s.heap.objs.size ≤ C)
    (keep : ∀ b o, s.heap.get? b = some o → h'.get? b = some o) (hn : h'.Ns C m) : Inv (X.comp scope cl N ⟨C, fp, s, H⟩) [] (compS ix σ) H { s with heap := h', toks := t' } where
  ok := k.ok I hf hC
  os := rfl
  bare := I.bare
  base := Un.kept keep
  loc := ⟨m, hn, fun i x v e1 e2 _ => by
    obtain ⟨j, h1, h2, h3, h4, h5, h6⟩ := k.ixs.get e1 e2
    obtain ⟨m0, _, hl⟩ := I.loc
    obtain ⟨u, r, l⟩ := hl j x v h1 h2 h3
    rcases l with ⟨l, _⟩ | ⟨_, c, ec, z⟩
    · exact absurd l h4
    · obtain ⟨c', ec'⟩ := Option.isSome_iff_exists.mp h5
      have e3 := k.sub.get ec'
      rw [ec] at e3
      have e4 : c = c' := Option.some.inj e3
      subst e4
      obtain ⟨o, ho, hd⟩ := z
      exact ⟨u, r, .inr ⟨h6, c, ec', o, keep _ _ ho, hd⟩⟩⟩
  cell := fun x c e => by
    obtain ⟨v, o, ho, hd⟩ := I.cell x c (k.sub.get e)
    exact ⟨v, o, keep _ _ ho, hd⟩
  free := I.hok.fresh hC
  freeC := fun x c e => I.freeC x c (k.sub.get e)
  pin := fun p hp => by cases hp
  hok := I.hok.kept keep
  len := (compS_len ix σ).trans k.ixs.len
end
end L2
namespace L2
open PySem PySem.Spec PyProof.Rows BP
section
variable {prog : Program} {w : World} {A : Around} {R : Result → Shared → Prop} {s : Shared}
/-- one clause, any target, any tests: the loop by an invariant with a measure -/
theorem comp_loop {elt tg iter : Expr} {ifs : List Expr} {scope : Scope} {pos : Pos} {it acc : Value} {env : Env} (J : Nat → Shared → Prop)
    (turn : ∀ n s1, J n s1 → ∀ E : Value → Shared → Prop, wpAny (model prog w) A (pyNext it) (fun r s2 => (r = none ∧ R (.ok .next) s2) ∨ ∃ v, r = some v ∧
      wpAny (model prog w) A (letOwnedTupleGo tg it v) (fun _ s3 => wpAny (model prog w) A (assign tg env v) (fun _ s4 =>
        wpAny (model prog w) A (forIn ifs true fun c b => if b = true then do let ok ← isTrue c env (eval c env); pure (ForInStep.yield ok) else pure (ForInStep.yield b)) (fun ok s5 =>
          (ok = true ∧ wpAny (model prog w) A (eval elt env) (fun x s6 => wpAny (model prog w) A (call (.builtin "list.append") [acc, x]) (fun _ s7 => ∃ m, m < n ∧ J m s7) E s6) E s5) ∨ (ok = false ∧ ∃ m, m < n ∧ J m s5)) E s4) E s3) E s2) E s1)
    (n : Nat) (h : J n s) : codeAny (model prog w) A (.compLoop (.ListComp elt [⟨tg, iter, ifs, 0⟩] scope pos) 0 it acc env) R s := by
  refine codeAny_loop rfl J (fun n s1 hJ => ?_) n h
  show wpAny _ _ ((compTurn (.ListComp elt [⟨tg, iter, ifs, 0⟩] scope pos) 0 it acc env).onRaise fun x => do
    noteFrame x env
    theTreesLotGoes x) _ _ s1
  refine wpAny_noted ?_
  rw [compTurn_list]
  refine wpAny_bind (wpAny_standAt (wpAny_bind (thn (turn n s1 hJ _) fun r s2 h2 => ?_)))
  rcases h2 with ⟨e, q⟩ | ⟨v, e, q⟩
  · subst e
    exact wpAny_pure q
  · subst e
    refine wpAny_bind (thn q fun _ s3 q3 => wpAny_bind (thn q3 fun _ s4 q4 => wpAny_bind (thn q4 fun ok s5 q5 => ?_)))
    rcases q5 with ⟨e, q5⟩ | ⟨e, q5⟩
    · subst e
      exact wpAny_bind (wpAny_bind (thn q5 fun x s6 q6 => wpAny_bind (thn q6 fun _ s7 q7 => wpAny_pure (wpAny_pure ⟨rfl, q7⟩))))
    · subst e
      exact wpAny_pure ⟨rfl, q5⟩
end

/-- the tests of a clause: none, or one -/
def PIfs (X : Cx) (ifs : List Expr) (t : TT) : Prop :=
  ∀ (pins : List (Addr × Obj)) (s : Shared) (σ : St) (H : Hp) (Q : Bool → Hp → Prop), Inv X pins σ H s → t σ H Q →
    wpAny (model X.prog X.w) X.A (forIn ifs true fun c b => if b = true then do let ok ← isTrue c X.env (eval c X.env); pure (ForInStep.yield ok) else pure (ForInStep.yield b)) (TP X pins σ Q) X.xe s
def tNoIf : TT := fun _ H Q => Q true H
theorem pif_none {X : Cx} : PIfs X [] tNoIf := fun _ _ _ H _ I h => wpAny_tests_nil ⟨H, I, h⟩
theorem pif_one {X : Cx} {c : Expr} {t : TT} (h : PT X c t) : PIfs X [c] t := fun pins s σ H Q I q => wpAny_tests_one (h pins s σ H Q I q)

/-- W: by the turn, a measure, what was gathered so far -/
def tCompZ (ix : List (Option Nat)) (wi : TI) (g : CP → TG) (tt : CP → TT) (te : CP → TE) (σ : St) (H : Hp) (Z : List V → Hp → Prop) : Prop :=
  wi σ H fun J H1 => ∃ W : Nat → Nat → List V → Hp → Prop, (∃ m, W 0 m [] H1) ∧ ∀ i m ys H, W i m ys H → ys.length < sizeLine ∧
    ((J.stop i H ∧ Z ys H) ∨ (J.go i H ∧ ∀ c x H', J.yld i H x H' → g c x (compS ix σ) H' fun σ2 H2 => tt c σ2 H2 fun b H3 =>
      (b = true ∧ te c σ2 H3 fun y H4 => ∃ m', m' < m ∧ W (i + 1) m' (ys ++ [y]) H4) ∨ (b = false ∧ ∃ m', m' < m ∧ W (i + 1) m' ys H3)))
def tComp (ix : List (Option Nat)) (wi : TI) (g : CP → TG) (tt : CP → TT) (te : CP → TE) : TE := fun σ H Q =>
  tCompZ ix wi g tt te σ H fun ys H1 => ∀ D, H1 D = none → Q (.ref D) (upd H1 D (.lst ys))
def sComp (ix : List (Option Nat)) (i : Nat) (wi : TI) (g : CP → TG) (tt : CP → TT) (te : CP → TE) : TS := fun D σ H =>
  tCompZ ix wi g tt te σ H fun ys H1 => ∀ p, H1 p = none → D.nx (σ.set i (some (.ref p))) (upd H1 p (.lst ys))

theorem comp_run {X : Cx} {scope : Scope} {cl : List (Str × Addr)} {N : List Str} {ix : List (Option Nat)} {elt tg iter : Expr} {ifs : List Expr} {pos pos' : Pos} {wi : TI} {g : CP → TG} {tt : CP → TT} {te : CP → TE}
    {pins : List (Addr × Obj)} {σ : St} {H : Hp} {s : Shared} {Z : List V → Hp → Prop} {use : Option (Value → Sem Unit)} {Q0 : Value → Shared → Prop}
    (k : CompOk X scope cl N ix) (hc : X.calm = true) (hi : PI X tg iter wi) (hg : ∀ c, PG (X.comp scope cl N c) tg (g c)) (ho : ∀ c σ, GOk (g c) (compS ix σ)) (ht : ∀ c, PIfs (X.comp scope cl N c) ifs (tt c)) (he : ∀ c, PE (X.comp scope cl N c) elt (te c))
    (hs : ∀ x, foldedSetIterable iter X.env x = pure x) (I : Inv X pins σ H s) (h : tCompZ ix wi g tt te σ H Z)
    (fin : ∀ (D C : Addr) (s' : Shared) (H' : Hp) (ys : List V) (m : Str → Option Value), Inv X pins σ (upd H' D (.lst ys)) s' → FpOk X pins (upd H' D (.lst ys)) C → s'.heap.Ns C m → H' D = none → Z ys H' →
      compPost (model X.prog X.w) X.A X.xe use Q0 (.ref D) C (.ok .next) s') :
    wpAny (model X.prog X.w) X.A (comprehension (.ListComp elt [⟨tg, iter, ifs, 0⟩] scope pos) scope X.env pos' (newList []) false (eval iter X.env) use) Q0 X.xe s := by
  have hnm : ∀ x ∈ scope.names, x.2 = .local → scope.names.lookup x.1 = some .local := fun x hx hl => by
    have q := List.all_eq_true.mp k.nms x hx
    rw [hl] at q
    simpa using q
  have hnc : ∀ x ∈ scope.names, x.2 ≠ .cell := fun x hx => by
    have q := List.all_eq_true.mp k.nocell x hx
    simpa using q
  refine wpAny_comprehension_free rfl hs k.clos k.kind hnm (thn (hi pins s σ H _ I h) fun v s1 h1 => thn h1 fun itv s2 h2 => ?_)
  obtain ⟨it, fp, tn, J, H2, e, I2, T, st2, f2, W, ⟨m0, w0⟩, step⟩ := h2
  subst e
  refine wpAny_newObj_type (wpAny_newFunctionEnv hnc (by intro y hy; simp at hy) (fun h3 hns hsb => ?_) k.kind)
  dsimp only at hns hsb ⊢
  generalize hD : s2.heap.objs.size = D at hns hsb ⊢
  generalize hP : s2.heap.push { cls := .type "list", dict := none, data := .seq ([] : List Value).toArray } = P2 at hns hsb ⊢
  generalize hCe : P2.objs.size = C at hns hsb ⊢
  have szC : C = D + 1 := by rw [← hCe, ← hP, Heap.size_push, hD]
  have hDC : D ≠ C := by rw [szC]; exact Nat.ne_of_lt (Nat.lt_succ_self _)
  have ltD : ∀ {b : Addr} {o : Obj}, s2.heap.get? b = some o → b < D := fun e => hD ▸ Heap.lt_size e
  have pD : P2.get? D = some { cls := .type "list", dict := none, data := .seq ([] : List Value).toArray } := by rw [← hP, ← hD]; exact Heap.get?_push_size _ rfl
  have old : ∀ b o, s2.heap.get? b = some o → h3.get? b = some o := fun b o e => by
    have lb := ltD e
    have nb : b ≠ C := by rw [szC]; exact Nat.ne_of_lt (Nat.lt_succ_of_lt lb)
    refine (hsb.2 b nb).trans ?_
    refine Heap.get?_push_of_some _ ?_
    rw [← hP]
    exact Heap.get?_push_of_some _ e
  have lst0 : h3.PlainList D #[] := ⟨_, (hsb.2 D hDC).trans (Heap.get?_push_of_some _ pD)⟩
  have lt2 : ∀ b ∈ fp, b < s2.heap.objs.size := fun b hb => let ⟨_, e, _⟩ := T.obj _ _ st2 b hb; Heap.lt_size e
  have f2' : ∀ b ∈ fp, FpOk X pins H2 b ∧ b < s2.heap.objs.size := fun b hb => ⟨f2 b hb, lt2 b hb⟩
  have leC : s2.heap.objs.size ≤ C := by rw [szC, hD]; exact Nat.le_succ _
  have leD : s2.heap.objs.size ≤ D := by rw [hD]; exact Nat.le_refl _
  have nD : D ∉ fp := fun z => Nat.lt_irrefl _ (hD ▸ lt2 D z)
  have nC : C ∉ fp := fun z => Nat.lt_irrefl _ (Nat.lt_of_lt_of_le (lt2 C z) leC)
  have st3 : tn 0 h3 := T.keep _ _ _ st2 fun b _ o e => old b o e
  -- the block's own context
  generalize hY : X.comp scope cl N ⟨C, fp, s2, H2⟩ = Y
  have I3 : Inv Y [] (compS ix σ) H2 { s2 with heap := h3, toks := s2.toks + ([] : List (Str × Value)).length } := hY ▸ k.enter I2 f2' leC old hns
  -- what is told of the records and the list through the loop
  have fpY : ∀ {H' : Hp}, (∀ b ∈ fp, H' b = none) → ∀ b ∈ fp, FpOk Y [] H' b := fun {H'} hn b hb => by
    subst hY
    obtain ⟨_, a1, a2, a3, a4, a5⟩ := f2 b hb
    refine ⟨hn b hb, Nat.ne_of_lt (Nat.lt_of_lt_of_le (lt2 b hb) leC), fun z => ?_, .inl hb, fun x c e => a4 x c (k.sub.get e), fun p hp => by cases hp⟩
    rcases List.mem_cons.mp (I2.stkSub b z) with e | e
    · exact a1 e
    · exact a2 e
  have nDs : D ∉ frs X.stack := fun z => by
    rcases List.mem_cons.mp (I2.stkSub D z) with e | e
    · exact absurd I2.lt (by rw [← e]; exact Nat.not_lt.mpr leD)
    · exact I2.nofs leD e
  have cD : ∀ x c, cl.lookup x = some c → c ≠ D := fun x c e z => by
    obtain ⟨v, o, ho, _⟩ := I2.cell x c (k.sub.get e)
    exact absurd (Heap.lt_size ho) (by rw [z]; exact Nat.not_lt.mpr leD)
  have prgY : Y.prog = X.prog := by rw [← hY]
  have wY : Y.w = X.w := by rw [← hY]
  have KY : Y.K = X.K := by rw [← hY]
  have AY : Y.A = X.A := by rw [← hY]
  have cY : Y.calm = true := by rw [← hY]; exact hc
  have xeY : Y.xe = fun _ _ => False := by rw [← hY]
  have envY : Y.env = compEnvC scope cl C X.env := by rw [← hY]
  have pinD : ∀ {σ' : St} {H' : Hp} {s' : Shared} {us : Array Value} {n0 : Nat}, Inv Y [] σ' H' s' → H' D = none → s'.heap.PlainList D us → s'.heap.get? D = some { cls := .type "list", data := .seq us n0 } →
      Inv Y [(D, { cls := .type "list", data := .seq us n0 })] σ' H' s' := fun I' hn _ e => I'.pins_of fun p hp => by
    have e1 : p = (D, _) := List.mem_singleton.mp hp
    subst e1
    exact ⟨e, hn, by rw [← hY]; exact hDC, by rw [← hY]; exact nDs, fun v z => by cases z⟩
  have fpD : ∀ {H' : Hp}, (∀ b ∈ fp, H' b = none) → ∀ (o : Obj), ∀ b ∈ fp, FpOk Y [(D, o)] H' b := fun {H'} hn o b hb => by
    obtain ⟨a0, a1, a2, a3, a4, a5⟩ := fpY hn b hb
    refine ⟨a0, a1, a2, a3, a4, fun p hp => ?_⟩
    rcases List.mem_append.mp hp with z | z
    · exact a5 p (List.mem_append_left _ z)
    · have e1 : p = (D, o) := List.mem_singleton.mp z
      subst e1
      exact fun z => by
        have z' : D = b := z
        rw [z'] at nD
        exact nD hb
  -- the end of the block, seen from around
  have leave : ∀ {s' : Shared} {H' : Hp} {ys : List V} {us : Array Value}, Inv Y [] (compS ix σ) H' s' → H' D = none → s'.heap.PlainList D us → Vals ys us.toList → ys.length ≤ sizeLine → Z ys H' →
      compPost (model X.prog X.w) X.A X.xe use Q0 (.ref D) C (.ok .next) s' := fun {s' H' ys us} I' hn hpl rv hl z => by
    subst hY
    have I4 : Inv X pins σ H' s' := I2.call' (ch := fp) I'.os I'.base I'.hok I'.bare fun b hb => let ⟨_, a1, _, a3, a4, a5⟩ := f2 b hb; ⟨a3, a1, a4, a5⟩
    have fD := I2.fpOk (H' := H') leD hn
    have ok : ObjOk X.prog X.w (upd H' D (.lst ys)) s'.heap D (.lst ys) := by
      obtain ⟨n, e⟩ := hpl
      exact ⟨hl, us.toList, n, rv, by simpa using e⟩
    have I5 : Inv X pins σ (upd H' D (.lst ys)) s' := by
      refine I4.track hn ?_ fD.2.2.2.2.2 fD.2.1 fD.2.2.2.2.1 ok
      refine Heap.get?_none_of_le (Nat.le_trans I2.sz leD)
    obtain ⟨m, hm, _⟩ := I'.loc
    have hC' : upd H' D (.lst ys) C = none := by
      rw [upd_ne (Ne.symm hDC)]
      exact I'.free
    exact fin D C s' H' ys m I5 (I2.fpOk leC hC') hm hn z
  have loop : codeAny (model X.prog X.w) X.A (.compLoop (.ListComp elt [⟨tg, iter, ifs, 0⟩] scope pos) 0 (.ref it) (.ref D) (compEnvC scope cl C X.env))
      (compPost (model X.prog X.w) X.A X.xe use Q0 (.ref D) C) { s2 with heap := h3, toks := s2.toks + ([] : List (Str × Value)).length } := by
    refine comp_loop (fun n s' => ∃ i H' ys us, Inv Y [] (compS ix σ) H' s' ∧ tn i s'.heap ∧ (∀ b ∈ fp, H' b = none) ∧ H' D = none ∧ s'.heap.PlainList D us ∧ Vals ys us.toList ∧ W i n ys H') ?_ m0
      ⟨0, H2, [], #[], I3, st3, fun b hb => (f2 b hb).1, I2.hok.fresh leD, lst0, .nil, w0⟩
    rintro n s4 ⟨i, H4, ys, us, I4, st4, fr4, d4, l4, v4, w4⟩ E
    obtain ⟨hl, step4⟩ := step i n ys H4 w4
    rcases step4 with ⟨stop, z⟩ | ⟨go, turn⟩
    · obtain ⟨n0, e0⟩ := l4
      have I4' := pinD I4 d4 ⟨n0, e0⟩ e0
      have q := T.done Y prgY wY KY cY i _ s4 (compS ix σ) H4 E I4' (fpD fr4 _) st4 stop
      rw [AY] at q
      refine thn q fun r s5 q5 => .inl ⟨q5.1, ?_⟩
      have e5 := (q5.2.pin _ (List.mem_append_right _ List.mem_cons_self)).1
      exact leave (q5.2.pins_of fun p hp => by cases hp) d4 ⟨n0, e5⟩ v4 (Nat.le_of_lt hl) z
    · obtain ⟨n0, e0⟩ := l4
      have I4' := pinD I4 d4 ⟨n0, e0⟩ e0
      have q := T.item Y prgY wY KY cY i _ s4 (compS ix σ) H4 E I4' (fpD fr4 _) st4 go
      rw [AY] at q
      refine thn q fun r s5 q5 => .inr ?_
      obtain ⟨v, er, q5⟩ := q5
      refine ⟨v, er, thn q5 fun _ s6 q6 => ?_⟩
      obtain ⟨x, H6, I6, r6, y6, st6, fr6⟩ := q6
      have I6' := I6.pinned (fpD fr6 _) (T.obj _ _ st6)
      have g6 := ho ⟨C, fp, s2, H2⟩ σ x H6 _ (turn ⟨C, fp, s2, H2⟩ x H6 y6)
      have inD : ∀ {l : List (Addr × Obj)}, (D, ({ cls := .type "list", data := .seq us n0 } : Obj)) ∈ Y.pn ++ ([(D, { cls := .type "list", data := .seq us n0 })] ++ l) := List.mem_append_right _ (List.mem_append_left _ List.mem_cons_self)
      have inF : ∀ {b : Addr} {o : Obj}, b ∈ fp → s6.heap.get? b = some o → (b, o) ∈ Y.pn ++ ([(D, ({ cls := .type "list", data := .seq us n0 } : Obj))] ++ pinsAt fp s6.heap) := fun hb e => List.mem_append_right _ (List.mem_append_right _ (mem_pinsAt hb e))
      -- what is had again behind the tests or the item
      have back : ∀ {σ7 : St} {H7 : Hp} {s7 : Shared}, Inv Y ([(D, { cls := .type "list", data := .seq us n0 })] ++ pinsAt fp s6.heap) σ7 H7 s7 → LeS (compS ix σ) σ7 →
          Inv Y [] (compS ix σ) H7 s7 ∧ tn (i + 1) s7.heap ∧ (∀ b ∈ fp, H7 b = none) ∧ H7 D = none ∧ s7.heap.PlainList D us := fun {σ7 H7 s7} I7 le => by
        refine ⟨(I7.weak le.len fun i v e => le.get e).pins_of (fun p hp => (by cases hp)), T.keep _ _ _ st6 fun b hb o e => (I7.pin _ (inF hb e)).1, fun b hb => ?_, (I7.pin _ inD).2.1, n0, (I7.pin _ inD).1⟩
        obtain ⟨o, e, _⟩ := T.obj _ _ st6 b hb
        exact (I7.pin _ (inF hb e)).2.1
      have hgY := hg ⟨C, fp, s2, H2⟩
      have htY := ht ⟨C, fp, s2, H2⟩
      have heY := he ⟨C, fp, s2, H2⟩
      rw [hY] at hgY htY heY
      have q7 := hgY _ s6 _ H6 x v _ I6' r6 g6
      rw [prgY, wY, AY, xeY, envY] at q7
      refine wpAny_mono q7 (fun _ s7 q7 => ?_) fun _ _ z => z.elim
      obtain ⟨σ7, H7, I7, le7, t7⟩ := q7
      have q8 := htY _ s7 σ7 H7 _ I7 t7
      rw [prgY, wY, AY, xeY, envY] at q8
      refine wpAny_mono q8 (fun ok s8 q8 => ?_) fun _ _ z => z.elim
      obtain ⟨H8, I8, q8⟩ := q8
      rcases q8 with ⟨eo, q8⟩ | ⟨eo, m', hm, w8⟩
      · refine .inl ⟨eo, ?_⟩
        have q9 := heY _ s8 σ7 H8 _ I8 q8
        rw [prgY, wY, AY, xeY, envY] at q9
        refine wpAny_mono q9 (fun u s9 q9 => ?_) fun _ _ z => z.elim
        obtain ⟨y, H9, I9, r9, m', hm, w9⟩ := q9
        obtain ⟨J9, t9, f9, d9, l9⟩ := back I9 le7
        have hsz : us.size ≤ sizeLine := by
          have e1 : ys.length = us.toList.length := v4.length
          have e2 : us.toList.length = us.size := by simp
          exact Nat.le_of_lt (e2 ▸ e1 ▸ hl)
        refine wpAny_list_append_plain l9 (fun h10 l10 sb => ?_) hsz
        have J10 : Inv Y [] (compS ix σ) H9 { s9 with heap := h10 } := J9.turned (t' := s9.toks) (fun b o hb e => (sb.2 b hb).trans e) d9 (by rw [← hY]; exact hDC) (.inr (by rw [← hY]; exact leD)) (fun x c e => by rw [← hY] at e; exact cD x c e) fun p hp => by rw [← hY] at hp; cases hp
        refine ⟨m', hm, i + 1, H9, ys ++ [y], us.push u, J10, T.keep _ _ _ t9 fun b hb o e => (sb.2 b fun z => nD (z ▸ hb)).trans e, f9, d9, l10, ?_, w9⟩
        rw [Array.toList_push]
        exact v4.append (.cons r9 .nil)
      · refine .inr ⟨eo, m', hm, i + 1, H8, ys, us, ?_⟩
        obtain ⟨J8, t8, f8, d8, l8⟩ := back I8 le7
        exact ⟨J8, t8, f8, d8, l8, v4, w8⟩
  exact codeAny_compStart_list loop (T.self _ 0 _ _ _ st3 loop)

/-- the free names' cells, as the program gathers them -/
def closL (scope : Scope) (env : Env) : List (Str × Addr) := scope.names.foldl (fun cs p => if p.2 == .free then (p.1, (env.cells.lookup p.1).getD 0) :: cs else cs) []
theorem ne_loc {k : Option NameKind} (h : k = some .cell) : k ≠ some .local := fun z => by rw [h] at z; cases z
theorem pe_comp {X : Cx} {scope : Scope} {N : List Str} {ix : List (Option Nat)} {elt tg iter : Expr} {ifs : List Expr} {pos : Pos} {wi : TI} {g : CP → TG} {tt : CP → TT} {te : CP → TE}
    (k : CompOk X scope (closL scope X.env) N ix) (hc : X.calm = true) (hi : PI X tg iter wi) (hg : ∀ c, PG (X.comp scope (closL scope X.env) N c) tg (g c)) (ho : ∀ c σ, GOk (g c) (compS ix σ)) (ht : ∀ c, PIfs (X.comp scope (closL scope X.env) N c) ifs (tt c)) (he : ∀ c, PE (X.comp scope (closL scope X.env) N c) elt (te c))
    (hs : ∀ x, foldedSetIterable iter X.env x = pure x := by intro _; rfl) : PE X (.ListComp elt [⟨tg, iter, ifs, 0⟩] scope pos) (tComp ix wi g tt te) := by
  intro pins s σ H Q I h
  rw [eval_ListComp]
  refine comp_run (use := none) k hc hi hg ho ht he hs I h fun D C s' H' ys m I' fC hm hn z => ?_
  refine ⟨m, hm, fun h' sb => ⟨.ref D, _, I'.turned (t' := s'.toks) (fun b o hb e => (sb.2 b hb).trans e) fC.1 fC.2.1 fC.2.2.2.1 fC.2.2.2.2.1 fC.2.2.2.2.2, rfl, z D hn⟩⟩
/-- name = [.. for ..], the name a local one: it is stored ahead of the block's end -/
theorem ps_setComp {X : Cx} {scope : Scope} {N : List Str} {ix : List (Option Nat)} {elt tg iter : Expr} {ifs : List Expr} {pos ps pn : Pos} {wi : TI} {g : CP → TG} {tt : CP → TT} {te : CP → TE} {i : Nat} {x : Str}
    (hN : X.N.Nodup) (hx : X.N[i]? = some x) (hl : Loc X.env.scope x) (k : CompOk X scope (closL scope X.env) N ix) (hc : X.calm = true) (hi : PI X tg iter wi) (hg : ∀ c, PG (X.comp scope (closL scope X.env) N c) tg (g c)) (ho : ∀ c σ, GOk (g c) (compS ix σ)) (ht : ∀ c, PIfs (X.comp scope (closL scope X.env) N c) ifs (tt c))
    (he : ∀ c, PE (X.comp scope (closL scope X.env) N c) elt (te c)) (hsw : swapsWith (.ListComp elt [⟨tg, iter, ifs, 0⟩] scope pos) (some (.Name x pn)) ps.line X.env = pure true := by rfl)
    (hs : ∀ x, foldedSetIterable iter X.env x = pure x := by intro _; rfl) (hf : X.fn x = true ∨ X.env.scope.names.lookup x = some .local := by first | exact .inl rfl | exact .inr rfl | assumption) :
    PS X (.Assign [.Name x pn] (.ListComp elt [⟨tg, iter, ifs, 0⟩] scope pos) ps) (sComp ix i wi g tt te) := by
  intro pins s σ H D I h
  rw [exec_Assign_Name_used _ _ _ _ hsw]
  refine wpAny_bind (wpAny_standAt (wpAny_bind ?_))
  show wpAny _ _ (comprehension (.ListComp elt [⟨tg, iter, ifs, 0⟩] scope pos) scope X.env _ (newList []) false (eval iter X.env) (some (assign (.Name x pn) X.env)) >>= fun _ => _) _ _ s
  refine wpAny_bind (thn (comp_run (use := some (assign (.Name x pn) X.env)) (Q0 := fun _ s' => SP X pins D .next s') k hc hi hg ho ht he hs I h fun p C s' H' ys m I' fC hm hn z => ?_) fun _ s' q => wpAny_pure (wpAny_pure q))
  show wpAny _ _ (assign (.Name x pn) X.env (.ref p)) _ _ s'
  refine wpAny_assign_Name (store_ok2 (v := .ref p) I' hN hx hl rfl (fun s3 I3 same => ?_) hf)
  obtain ⟨b, sb, hb⟩ := same
  have nb : C ≠ b := by
    rcases hb with e | e
    · rw [e]; exact fC.2.1
    · exact Ne.symm (fC.2.2.2.2.1 x b e)
  refine ⟨m, hm.sameBut sb nb, fun h' sb' => ⟨_, _, I3.turned (t' := s3.toks) (fun c o hc e => (sb'.2 c hc).trans e) fC.1 fC.2.1 fC.2.2.2.1 fC.2.2.2.2.1 fC.2.2.2.2.2, z p hn⟩⟩
/-! ### the forms one uses -/
def CW (n : Nat) (Pv : Nat → List V → Hp → Prop) (i m : Nat) (ys : List V) (H : Hp) : Prop := m + i = n ∧ ys.length ≤ i ∧ Pv i ys H
/-- so many turns -/
theorem comp_by {J : It} {n : Nat} {ix : List (Option Nat)} {g : CP → TG} {tt : CP → TT} {te : CP → TE} {σ : St} {H1 : Hp} {Z : List V → Hp → Prop} (Pv : Nat → List V → Hp → Prop) (h0 : Pv 0 [] H1) (hn : n < sizeLine)
    (stop : ∀ ys H, Pv n ys H → J.stop n H ∧ Z ys H) (go : ∀ i ys H, i < n → Pv i ys H → J.go i H)
    (step : ∀ i m ys H c x H', i < n → Pv i ys H → J.yld i H x H' → (∀ y H4, Pv (i + 1) (ys ++ [y]) H4 → ∃ m', m' < m ∧ CW n Pv (i + 1) m' (ys ++ [y]) H4) → (∀ H4, Pv (i + 1) ys H4 → ∃ m', m' < m ∧ CW n Pv (i + 1) m' ys H4) →
      g c x (compS ix σ) H' fun σ2 H2 => tt c σ2 H2 fun b H3 => (b = true ∧ te c σ2 H3 fun y H4 => ∃ m', m' < m ∧ CW n Pv (i + 1) m' (ys ++ [y]) H4) ∨ (b = false ∧ ∃ m', m' < m ∧ CW n Pv (i + 1) m' ys H3)) :
    ∃ W : Nat → Nat → List V → Hp → Prop, (∃ m, W 0 m [] H1) ∧ ∀ i m ys H, W i m ys H → ys.length < sizeLine ∧
      ((J.stop i H ∧ Z ys H) ∨ (J.go i H ∧ ∀ c x H', J.yld i H x H' → g c x (compS ix σ) H' fun σ2 H2 => tt c σ2 H2 fun b H3 =>
        (b = true ∧ te c σ2 H3 fun y H4 => ∃ m', m' < m ∧ W (i + 1) m' (ys ++ [y]) H4) ∨ (b = false ∧ ∃ m', m' < m ∧ W (i + 1) m' ys H3))) := by
  refine ⟨CW n Pv, ⟨n, by omega, Nat.le_refl _, h0⟩, ?_⟩
  rintro i m ys H ⟨hm, hl, p⟩
  refine ⟨by omega, ?_⟩
  by_cases hi : i < n
  · refine .inr ⟨go i ys H hi p, fun c x H' hy => step i m ys H c x H' hi p hy (fun y H4 q => ⟨m - 1, by omega, by omega, ?_, q⟩) fun H4 q => ⟨m - 1, by omega, by omega, by omega, q⟩⟩
    rw [List.length_append, List.length_singleton]
    omega
  · have e : i = n := by omega
    subst e
    exact .inl (stop ys H p)
/-- a loop of so many turns -/
theorem for_by {J : It} {n : Nat} {g : TG} {tb : TS} {D : Ends} {σ : St} {H : Hp} (Pv : Nat → St → Hp → Prop) (h0 : Pv 0 σ H) (stop : ∀ σ H, Pv n σ H → J.stop n H ∧ D.nx σ H) (go : ∀ i σ H, i < n → Pv i σ H → J.go i H)
    (step : ∀ i σ H x H', i < n → Pv i σ H → J.yld i H x H' → g x σ H' fun σ2 H2 => tb { D with nx := Pv (i + 1), ct := Pv (i + 1), bk := D.nx } σ2 H2) :
    ∃ W : Nat → Nat → St → Hp → Prop, (∃ m, W 0 m σ H) ∧ ∀ i m σ H, W i m σ H →
      (J.stop i H ∧ D.nx σ H) ∨ (J.go i H ∧ ∃ N : St → Hp → Prop, (∀ σ' H', N σ' H' → ∃ m', m' < m ∧ W (i + 1) m' σ' H') ∧ ∀ x H', J.yld i H x H' → g x σ H' fun σ2 H2 => tb { D with nx := N, ct := N, bk := D.nx } σ2 H2) := by
  refine ⟨fun i m σ H => m + i = n ∧ Pv i σ H, ⟨n, by omega, h0⟩, ?_⟩
  rintro i m σ H ⟨hm, p⟩
  by_cases hi : i < n
  · exact .inr ⟨go i σ H hi p, Pv (i + 1), fun σ' H' q => ⟨m - 1, by omega, by omega, q⟩, fun x H' y => step i σ H x H' hi p y⟩
  · have e : i = n := by omega
    subst e
    exact .inl (stop σ H p)
end L2
/-! own rules: all, any; zip and enumerate of lists as what is walked -/
namespace L2
open PySem PySem.Spec PyProof.Rows BP
theorem boot_enumerate : bootBuiltins "enumerate" = some (.type "enumerate") := PyProof.Rows.boot_enumerate
section
variable {X : Cx}
end

/-! ### zip of two lists -/
theorem ty_ne {x y : String} (h : x ≠ y) : Value.type x ≠ Value.type y := fun q => h (Value.type.inj q)
structure ZipSt (z TI TO i1 i2 a b : Addr) (i : Nat) (h : Heap) : Prop where
  nd : [z, TI, TO, i1, i2].Nodup
  zip : IsZip h z TI TO .none
  its : IsPair h TI (.ref i1) (.ref i2)
  out : ∃ x y, IsPair h TO x y
  one : h.IsListIter i1 a i
  two : h.IsListIter i2 b i
theorem ZipSt.apart {z TI TO i1 i2 a b : Addr} {i : Nat} {h : Heap} {xs ys : Array Value} (t : ZipSt z TI TO i1 i2 a b i h) (ha : h.IsList a xs) (hb : h.IsList b ys) : ZipApart z TI TO i1 i2 a b := by
  have nd := t.nd
  simp only [List.nodup_cons, List.mem_cons, List.not_mem_nil, or_false, not_or, List.nodup_nil, and_true, not_false_eq_true] at nd
  obtain ⟨⟨n1, n2, n3, n4⟩, ⟨n5, n6, n7⟩, ⟨n8, n9⟩, n10⟩ := nd
  have lst : ∀ {c d : Addr} {zs : Array Value} {o : Obj}, h.IsList c zs → h.get? d = some o → o.cls ≠ .type "list" → c ≠ d := fun {c d zs o} hc e hn q => by
    obtain ⟨o', e', c', _⟩ := hc
    rw [q, e] at e'
    cases e'
    exact hn c'
  obtain ⟨x, y, ho⟩ := t.out
  obtain ⟨o1, e1, c1, _⟩ := t.one
  obtain ⟨o2, e2, c2, _⟩ := t.two
  have k1 : o1.cls ≠ .type "list" := by rw [c1]; exact ty_ne (by decide)
  have k2 : o2.cls ≠ .type "list" := by rw [c2]; exact ty_ne (by decide)
  exact { TIz := Ne.symm n1, TOz := Ne.symm n2, i1z := Ne.symm n3, i2z := Ne.symm n4, TITO := n5, TIi1 := n6, TIi2 := n7, TOi1 := n8, TOi2 := n9, i12 := n10,
          l1z := lst ha t.zip (ty_ne (by decide)), l1TO := lst ha ho (ty_ne (by decide)), l1i1 := lst ha e1 k1, l1i2 := lst ha e2 k2,
          l2z := lst hb t.zip (ty_ne (by decide)), l2TO := lst hb ho (ty_ne (by decide)), l2i1 := lst hb e1 k1, l2i2 := lst hb e2 k2 }
/-- several untracked records of ours have turned, a new tuple is laid -/
theorem Inv.turnedAll {X : Cx} {pins : List (Addr × Obj)} {σ : St} {H : Hp} {s : Shared} {h' : Heap} {t' : Nat} {fp : List Addr} (I : Inv X pins σ H s) (hf : ∀ b ∈ fp, FpOk X pins H b)
    (k : ∀ b o, b ∉ fp → s.heap.get? b = some o → h'.get? b = some o) : Inv X pins σ H { s with heap := h', toks := t' } := by
  have nf : ∀ b u, H b = some u → b ∉ fp := fun b u e z => by rw [(hf b z).1] at e; cases e
  refine I.step (g' := s.gens) (d' := s.drawn) (ch := fp) (fun b hb => ?_) (fun b o _ _ hc e _ => k b o hc e) (fun b o _ _ hc e _ => ⟨o.slots, k b o hc e⟩) (fun _ _ _ _ n => n)
    (fun b o hc e => ⟨o, k b o hc e⟩) (fun _ _ e => e) (fun _ _ _ e => e) (fun b ps e => ⟨#[], by rw [e]; simp⟩) (fun m hm => ?_) (fun b u e => ?_) I.bare
  · obtain ⟨_, a1, _, a3, a4, a5⟩ := hf b hb
    exact ⟨a3, a1, a4, a5⟩
  · obtain ⟨o, es, ep, ho, r⟩ := hm
    exact ⟨o, es, ep, k _ o (fun z => (hf _ z).2.1 rfl) ho, r⟩
  · refine (I.hok b u e).stay (fun c v hc q => k c v ?_ q) (fun _ q => q) fun _ _ q => q
    rcases hc with z | z
    · rw [z]; exact nf b u e
    · exact nf c _ z
theorem pair_ok {P : Program} {w : World} {H : Hp} {h : Heap} {p : Addr} {x y : V} {u v : Value} (e : IsPair h p u v) (rx : RelV x u) (ry : RelV y v) : ObjOk P w H h p (.tup [x, y]) :=
  ⟨(show 2 ≤ sizeLine by decide), [u, v], .cons rx (.cons ry .nil), _, e, rfl, _, rfl⟩
/-! ### enumerate of a list -/
def Ite (K : PySem.W.Frag) (a : Addr) : It :=
  ⟨fun i H => ∃ xs x, SqL K H a xs ∧ xs[i]? = some x,
   fun i H v H' => ∃ p x, H p = none ∧ v = .ref p ∧ H' = upd H p (.tup [.int i, x]) ∧ ∀ xs, SqL K H a xs → xs[i]? = some x,
   fun i H => ∃ xs, SqL K H a xs ∧ xs.length ≤ i⟩
structure EnumSt (e it a : Addr) (i : Nat) (h : Heap) : Prop where
  ne : e ≠ it
  enm : ∃ old, IsEnum h e it i old
  one : h.IsListIter it a i
theorem turn_enum {P : Program} {w : World} {K : PySem.W.Frag} {es : List Expr} {k1 : Nat} {pt : Pos} (e it a : Addr) : Turn P w K (.Tuple es k1 pt) (Ite K a) [e, it] e (EnumSt e it a) where
  mem := by simp
  obj := fun i h t c hc => by
    obtain ⟨old, e0⟩ := t.enm
    obtain ⟨o1, e1, c1, d1⟩ := t.one
    simp only [List.mem_cons, List.not_mem_nil, or_false] at hc
    rcases hc with rfl | rfl
    · exact ⟨_, e0, fun v q => by cases q⟩
    · exact ⟨_, e1, fun v q => by rw [d1] at q; cases q⟩
  keep := fun i h h' t k => by
    obtain ⟨old, e0⟩ := t.enm
    exact ⟨t.ne, ⟨old, k e (by simp) _ e0⟩, t.one.at fun o q => k it (by simp) o q⟩
  item := by
    intro X hP hw hK hc i pins s σ H E I hf t hg
    subst hP hw hK
    obtain ⟨xs, x, qa, hx⟩ := hg
    obtain ⟨as, ra, pa, _⟩ := I.list qa
    obtain ⟨u, hu, ru⟩ := ra.get hx
    obtain ⟨old, e0⟩ := t.enm
    refine wpAny_pyNext_enum_item e0 t.one pa.isList (x := u) (by simpa using hu) t.ne fun h1 a1 a2 a3 a4 hk => ⟨_, rfl, ?_⟩
    refine wpAny_letOwnedTupleGo_enum (s := { s with heap := h1, toks := s.toks + 1 }) a1 fun h2 b1 sb => ?_
    have el : e < s.heap.objs.size := Heap.lt_size e0
    have il : it < s.heap.objs.size := by obtain ⟨_, q, _⟩ := t.one; exact Heap.lt_size q
    have kp : ∀ c o, c ∉ [e, it] → s.heap.get? c = some o → h2.get? c = some o := fun c o hc q => by
      simp only [List.mem_cons, List.not_mem_nil, or_false, not_or] at hc
      exact (sb.2 c hc.1).trans (hk c o hc.1 hc.2 q)
    have I1 : Inv X pins σ H { s with heap := h2, toks := s.toks + 1 } := I.turnedAll hf kp
    have np : H s.heap.objs.size = none := I.hok.fresh (Nat.le_refl _)
    have pr : IsPair h2 s.heap.objs.size (.int i s.toks) u := (sb.2 _ (Nat.ne_of_gt el)).trans a3
    have I2 : Inv X pins σ (upd H s.heap.objs.size (.tup [.int i, x])) { s with heap := h2, toks := s.toks + 1 } := by
      have fo := I.fpOk (H' := H) (Nat.le_refl _) np
      refine I1.track np ?_ fo.2.2.2.2.2 fo.2.1 fo.2.2.2.2.1 (pair_ok pr ⟨_, rfl⟩ ru)
      exact Heap.get?_none_of_le I.sz
    refine ⟨.ref s.heap.objs.size, _, I2, rfl, ⟨_, x, np, rfl, rfl, fun zs hz => by rw [I.list_inj hz qa]; exact hx⟩, ⟨t.ne, ⟨u, b1⟩, a2.at fun o q => (sb.2 it (Ne.symm t.ne)).trans q⟩, fun c hc => ?_⟩
    obtain ⟨c0, c1, _⟩ := hf c hc
    have ne : c ≠ s.heap.objs.size := fun q => by
      simp only [List.mem_cons, List.not_mem_nil, or_false] at hc
      rcases hc with h | h
      · rw [← h, q] at el
        exact Nat.lt_irrefl _ el
      · rw [← h, q] at il
        exact Nat.lt_irrefl _ il
    rw [upd_ne ne]
    exact c0
  done := by
    intro X hP hw hK hc i pins s σ H E I hf t hg
    subst hP hw hK
    obtain ⟨xs, qa, hl⟩ := hg
    obtain ⟨as, ra, pa, _⟩ := I.list qa
    obtain ⟨old, e0⟩ := t.enm
    have l1 := ra.length
    refine wpAny_pyNext_enum_end (I.ok.hd hc) e0 t.one pa.isList (by simp; omega) fun h1 hk => ⟨rfl, ?_⟩
    refine I.turnedAll (t' := s.toks) hf fun c o hc q => ?_
    simp only [List.mem_cons, List.not_mem_nil, or_false, not_or] at hc
    exact hk c o hc.2 q
  self := fun A i s Q E t h => by
    obtain ⟨old, e0⟩ := t.enm
    exact wpAny_pyIter_enum e0 h
def iEnum (K : PySem.W.Frag) (ta : TA) : TI := fun σ H R => ta σ H fun vs H1 => ∃ a, vs = [.ref a] ∧ (∃ xs, SqL K H1 a xs) ∧ R (Ite K a) H1
theorem pi_enum {X : Cx} {es : List Expr} {k1 : Nat} {pt p pos : Pos} {e1 : Expr} {ta : TA} (hg : Gl X "enumerate") (hm : X.mg "enumerate" = none) (ha : PA X [e1] ta) (q1 : plainE e1 = true := by rfl) :
    PI X (.Tuple es k1 pt) (.Call (.Name "enumerate" p) [e1] [] pos) (iEnum X.K ta) := by
  intro pins s σ H R I h
  refine Call_ (ld_blt I hg hm boot_enumerate (PyProof.Rows.callWith_type1 (thn (ha pos pins s σ H _ I h) fun us s1 ⟨vs, H1, I1, r1, q⟩ => ?_) (starEach_plain q1 _ _) rfl))
  obtain ⟨a, rfl, ⟨xs, qa⟩, q⟩ := q
  obtain ⟨u, rfl, ra⟩ := vals1 r1
  cases ra
  obtain ⟨as, _, pa, _⟩ := I1.list qa
  refine call_enumerate_list pa.isList fun h2 z1 z2 z3 kp => ?_
  refine wpAny_pyIter_enum z1 ?_
  have I2 : Inv X pins σ H1 { s1 with heap := h2, toks := s1.toks } := I1.kept kp
  refine ⟨_, _, _, _, H1, rfl, I2, turn_enum _ _ a, ⟨Nat.succ_ne_self _, ⟨_, z1⟩, z2⟩, fun c hc => ?_, q⟩
  have hc' : s1.heap.objs.size ≤ c := by
    simp only [List.mem_cons, List.not_mem_nil, or_false] at hc
    rcases hc with h | h <;> rw [h] <;> first | exact Nat.le_refl _ | exact Nat.le_add_right _ _
  exact I1.fpOk hc' (I1.hok.fresh hc')
end L2
/-! own rules: == and != of lists and tuples that are alike through and through -/
namespace L2
open PySem PySem.Spec PyProof.Rows BP
/-- alike, at most so many lists and tuples deep -/
inductive DEq (K : PySem.W.Frag) (H : Hp) : Nat → V → V → Prop where
  | flat {n : Nat} {x : V} (h : flatV x = true) : DEq K H n x x
  | same {n : Nat} (a : Addr) : DEq K H n (.ref a) (.ref a)
  | tup {n : Nat} {a b : Addr} {xs ys : List V} (ha : SqT K H a xs) (hb : SqT K H b ys) (hl : xs.length = ys.length) (h : ∀ (j : Nat) (x y : V), xs[j]? = some x → ys[j]? = some y → DEq K H n x y) : DEq K H (n + 1) (.ref a) (.ref b)
  | lst {n : Nat} {a b : Addr} {xs ys : List V} (ha : SqL K H a xs) (hb : SqL K H b ys) (hl : xs.length = ys.length) (h : ∀ (j : Nat) (x y : V), xs[j]? = some x → ys[j]? = some y → DEq K H n x y) : DEq K H (n + 1) (.ref a) (.ref b)
theorem eqV_self {x : V} (h : flatV x = true) : eqV x x = true := by
  cases x <;> first | rfl | (unfold eqV; simp; done) | (exact absurd (show false = true from h) Bool.false_ne_true)
theorem all_true (n : Nat) : (List.range n).all (fun _ => true) = true := List.all_eq_true.mpr fun _ _ => rfl
section
variable {X : Cx} {pins : List (Addr × Obj)} {σ : St} {H : Hp} {s : Shared}
theorem DEq.at (I : Inv X pins σ H s) {n : Nat} {x y : V} (d : DEq X.K H n x y) : ∀ (A : Around) (u v : Value), RelV x u → RelV y v → A.units + n < cLine → SeqAt.EqAt A s u v true := by
  induction d with
  | flat h =>
    intro A u v rx ry _
    have q := eqAt_V (A := A) (s := s) rx ry h h
    rw [eqV_self h] at q
    exact q
  | same a =>
    intro A u v rx ry _
    cases rx
    cases ry
    exact SeqAt.EqAt.same _
  | @tup n a b xs ys ha hb hl h ih =>
    intro A u v rx ry hu
    cases rx
    cases ry
    by_cases hab : a = b
    · subst hab
      exact SeqAt.EqAt.same _
    · obtain ⟨its, r1, p1, _⟩ := I.tuple ha
      obtain ⟨its2, r2, p2, _⟩ := I.tuple hb
      have h1 := r1.length
      have h2 := r2.length
      have q := SeqAt.RcAt.tuples (A := A) (e := fun _ => true) p1 p2 (by omega) fun j g1 g2 => by
        obtain ⟨x, e1, q1⟩ := vals_at r1 j (by simpa using g1)
        obtain ⟨y, e2, q2⟩ := vals_at r2 j (by simpa using g2)
        exact ih j x y e1 e2 A.in1 _ _ (by simpa using q1) (by simpa using q2) (by show A.units + 1 + n < cLine; omega)
      have e : ((List.range (min its.toArray.size its2.toArray.size)).all (fun _ => true) && its.toArray.size == its2.toArray.size) = true := by
        rw [all_true, List.size_toArray, List.size_toArray, ← h1, ← h2, hl]
        simp
      rw [e] at q
      exact SeqAt.EqAt.of_refs hab q
  | @lst n a b xs ys ha hb hl h ih =>
    intro A u v rx ry hu
    cases rx
    cases ry
    by_cases hab : a = b
    · subst hab
      exact SeqAt.EqAt.same _
    · obtain ⟨its, r1, p1, _⟩ := I.list ha
      obtain ⟨its2, r2, p2, _⟩ := I.list hb
      have h1 := r1.length
      have h2 := r2.length
      have q := SeqAt.RcAt.lists (A := A) (e := fun _ => true) p1.isList p2.isList (by simp only [List.size_toArray]; omega) (by omega) fun j g1 g2 => by
        obtain ⟨x, e1, q1⟩ := vals_at r1 j (by simpa using g1)
        obtain ⟨y, e2, q2⟩ := vals_at r2 j (by simpa using g2)
        exact ih j x y e1 e2 A.in1 _ _ (by simpa using q1) (by simpa using q2) (by show A.units + 1 + n < cLine; omega)
      rw [all_true] at q
      exact SeqAt.EqAt.of_refs hab q
/-- the items of two sequences, alike -/
def Alike (K : PySem.W.Frag) (H : Hp) (xs ys : List V) : Prop := xs.length = ys.length ∧ ∀ (j : Nat) (x y : V), xs[j]? = some x → ys[j]? = some y → DEq K H 20 x y
def rEqD (K : PySem.W.Frag) (b : Bool) : R2 := fun x y H Q => ∃ p r xs ys, x = .ref p ∧ y = .ref r ∧ ((SqL K H p xs ∧ SqL K H r ys) ∨ (SqT K H p xs ∧ SqT K H r ys)) ∧ Alike K H xs ys ∧ Q (.bl b) H
theorem op_eqD (hu : X.A.units + 64 < cLine) : OpR X (compareOp .Eq) (rEqD X.K true) := by
  intro pins s σ H x y v u Q I rx ry h
  obtain ⟨p, r, xs, ys, rfl, rfl, hq, ⟨hl, al⟩, q⟩ := h
  cases rx
  cases ry
  rcases hq with ⟨ha, hb⟩ | ⟨ha, hb⟩
  · obtain ⟨its, r1, p1, _⟩ := I.list ha
    obtain ⟨its2, r2, p2, _⟩ := I.list hb
    have h1 := r1.length
    have h2 := r2.length
    refine SeqAt.eq_listAt (e := fun _ => true) p1.isList p2.isList (by simp only [List.size_toArray]; omega) (by omega) (fun j g1 g2 => ?_) ⟨.bl true, H, I, by rw [all_true]; rfl, q⟩
    obtain ⟨x, e1, q1⟩ := vals_at r1 j (by simpa using g1)
    obtain ⟨y, e2, q2⟩ := vals_at r2 j (by simpa using g2)
    exact (al j x y e1 e2).at I X.A.in1 _ _ (by simpa using q1) (by simpa using q2) (by show X.A.units + 1 + 20 < cLine; omega)
  · obtain ⟨its, r1, p1, _⟩ := I.tuple ha
    obtain ⟨its2, r2, p2, _⟩ := I.tuple hb
    have h1 := r1.length
    have h2 := r2.length
    refine SeqAt.eq_tupleAt (e := fun _ => true) p1 p2 (by omega) (fun j g1 g2 => ?_) ⟨.bl true, H, I, ?_, q⟩
    · obtain ⟨x, e1, q1⟩ := vals_at r1 j (by simpa using g1)
      obtain ⟨y, e2, q2⟩ := vals_at r2 j (by simpa using g2)
      exact (al j x y e1 e2).at I X.A.in1 _ _ (by simpa using q1) (by simpa using q2) (by show X.A.units + 1 + 20 < cLine; omega)
    · rw [all_true, List.size_toArray, List.size_toArray, ← h1, ← h2, hl]
      simp [RelV]
end
end L2
/-! own rule: sum of a list of whole numbers, however great -/
namespace L2
open PySem PySem.Spec PyProof.Rows BP
theorem boot_sum : bootBuiltins "sum" = some (.builtin "sum") := PyProof.Rows.boot_sum
theorem vals_int : ∀ {ns : List Int} {us : List Value} {i : Nat} {v : Value}, Vals (ns.map V.int) us → us[i]? = some v → ∃ t, v = .int (ns.getD i 0) t
  | [], _, _, _, .nil, e => by simp at e
  | n :: ns, u :: us, 0, v, .cons r _, e => by
    obtain ⟨t, h⟩ := r
    have e' : u = v := by simpa using e
    exact ⟨t, by rw [← e', h]; rfl⟩
  | n :: ns, u :: us, i + 1, v, .cons _ t, e => by
    have q := vals_int (i := i) (v := v) t (by simpa using e)
    simpa using q
theorem preSum_shift (val : Nat → Int) : ∀ n, preSum val (n + 1) = val 0 + preSum (fun i => val (i + 1)) n
  | 0 => by simp [preSum]
  | n + 1 => by
    have h := preSum_shift val n
    show preSum val (n + 1) + val (n + 1) = val 0 + (preSum (fun i => val (i + 1)) n + val (n + 1))
    rw [h]; omega
theorem preSum_list : ∀ (ns : List Int), preSum (fun i => ns.getD i 0) ns.length = ns.sum
  | [] => rfl
  | n :: ns => by
    rw [List.length_cons, preSum_shift, List.sum_cons, ← preSum_list ns]
    rfl
section
variable {X : Cx}
theorem call_sum (hc : X.calm = true) : CallR X (.builtin "sum") (fun xs H Q => ∃ (p : Addr) (ns : List Int), xs = [.ref p] ∧ SqL X.K H p (ns.map V.int) ∧ Q (.int ns.sum) H) := by
  intro pins s σ H xs us Q I r h
  obtain ⟨p, ns, rfl, hq, q⟩ := h
  obtain ⟨u, rfl, rx⟩ := vals1 r
  cases rx
  obtain ⟨its, rv, pl, hz⟩ := I.list hq
  have hlen : its.length = ns.length := by rw [← rv.length, List.length_map]
  have ne : p ≠ s.heap.objs.size := Nat.ne_of_lt pl.lt
  refine call_sum_walkAnyS (wpAny_pyIter_list pl.isList ?_)
  refine ⟨s.heap.objs.size, _, _, _, _, _, _, fun i => ns.getD i 0, rfl, (Walks.list (A := X.A.in1) (I.ok.hd hc) _ p ne its.toArray).toS, ⟨⟨_, Heap.get?_push_size _ rfl, rfl, rfl⟩, ?_⟩, fun b hb => ?_, fun i v hv => vals_int rv (by simpa using hv), fun s' t' mv => ?_⟩
  · obtain ⟨o, e, r⟩ := pl.isList
    exact ⟨o, Heap.get?_push_of_some _ e, r⟩
  · rw [Heap.size_push]
    have hb' : b = s.heap.objs.size ∨ b = p := by simpa using hb
    rcases hb' with e | e
    · rw [e]; exact Nat.lt_succ_self _
    · rw [e]; exact Nat.lt_succ_of_lt pl.lt
  · have hs : its.toArray.size = ns.length := by rw [List.size_toArray, hlen]
    refine ⟨.int ns.sum, H, ?_, ⟨t', by rw [hs, preSum_list]⟩, q⟩
    have I' : Inv X pins σ H { s with heap := s'.heap, toks := s'.toks } := I.kept fun b o e => mv.heap b o (fun z => by
      have e1 : b = s.heap.objs.size := by simpa using z
      exact absurd (Heap.lt_size e) (by rw [e1]; exact Nat.lt_irrefl _)) (Heap.get?_push_of_some _ e)
    have e1 := mv.gens
    have e2 := mv.drawn
    have e3 := mv.os
    obtain ⟨h', g', d', tk', o'⟩ := s'
    dsimp only at e1 e2 e3
    subst e2 e3
    first
      | (subst e1; exact I')
      | (have e1' : g' = s.gens := e1; subst e1'; exact I')
      | (have e1' : s.gens = g' := e1; subst e1'; exact I')
end
end L2
/-! own rule: == of a list with an empty one -/
namespace L2
open PySem PySem.Spec PyProof.Rows BP
section
variable {X : Cx}
end
end L2
/-! own rules: a tuple of flat things in a list of such; is True, is False -/
namespace L2
open PySem PySem.Spec PyProof.Rows BP
section
variable {X : Cx} {pins : List (Addr × Obj)} {σ : St} {H : Hp} {s : Shared}
end
end L2
/-! values of forms, boxes, corners -/
namespace BP
/-- a point in the box -/
def InB : List (Rat × Rat) → List Rat → Prop
  | [], [] => True
  | s :: ss, q :: qs => s.1 ≤ q ∧ q ≤ s.2 ∧ InB ss qs
  | _, _ => False
/-- a corner -/
def Cho : List (Rat × Rat) → List Rat → Prop
  | [], [] => True
  | s :: ss, q :: qs => (q = s.1 ∨ q = s.2) ∧ Cho ss qs
  | _, _ => False
theorem InB.len : ∀ {ss : List (Rat × Rat)} {qs : List Rat}, InB ss qs → qs.length = ss.length
  | [], [], _ => rfl
  | _ :: ss, _ :: qs, h => by rw [List.length_cons, List.length_cons, InB.len h.2.2]
  | [], _ :: _, h => h.elim
  | _ :: _, [], h => h.elim
theorem Cho.len : ∀ {ss : List (Rat × Rat)} {qs : List Rat}, Cho ss qs → qs.length = ss.length
  | [], [], _ => rfl
  | _ :: ss, _ :: qs, h => by rw [List.length_cons, List.length_cons, Cho.len h.2]
  | [], _ :: _, h => h.elim
  | _ :: _, [], h => h.elim
theorem Cho.sm {n : Nat} : ∀ {ss : List (Rat × Rat)} {qs : List Rat}, (∀ s ∈ ss, SmQ n s.1 ∧ SmQ n s.2) → Cho ss qs → ∀ q ∈ qs, SmQ n q
  | [], [], _, _, q, hq => by cases hq
  | s :: ss, q0 :: qs, l, h, q, hq => by
    rcases List.mem_cons.mp hq with e | e
    · rw [e]
      rcases h.1 with e | e
      · rw [e]; exact (l s List.mem_cons_self).1
      · rw [e]; exact (l s List.mem_cons_self).2
    · exact Cho.sm (fun x hx => l x (List.mem_cons_of_mem _ hx)) h.2 q e
  | [], _ :: _, _, h, _, _ => h.elim
  | _ :: _, [], _, h, _, _ => h.elim
theorem InB.snoc : ∀ {ss : List (Rat × Rat)} {qs : List Rat} {s : Rat × Rat} {q : Rat}, InB ss qs → s.1 ≤ q → q ≤ s.2 → InB (ss ++ [s]) (qs ++ [q])
  | [], [], _, _, _, h1, h2 => ⟨h1, h2, trivial⟩
  | _ :: _, _ :: _, _, _, h, h1, h2 => ⟨h.1, h.2.1, InB.snoc h.2.2 h1 h2⟩
  | [], _ :: _, _, _, h, _, _ => h.elim
  | _ :: _, [], _, _, h, _, _ => h.elim
def absQ (q : Rat) : Rat := if q.num < 0 then -q else q
theorem absQ_nn (q : Rat) : 0 ≤ absQ q := by
  unfold absQ
  split
  · exact Rat.num_nonneg.mp (by show 0 ≤ -q.num; omega)
  · exact Rat.num_nonneg.mp (by omega)
theorem absQ_num (q : Rat) : (absQ q).num = (if q.num < 0 then -q.num else q.num) ∧ (absQ q).den = q.den := by
  unfold absQ
  split <;> exact ⟨rfl, rfl⟩
end BP
/-! own rules: range as a thing, list of it; set of a list of whole numbers, len of it -/
namespace L2
open PySem PySem.Spec PyProof.Rows BP
def RngAt (p : Addr) (n : Nat) (h : Heap) : Prop := ∃ t u v, IsRange h p 0 n 1 t u v
theorem boot_range : bootBuiltins "range" = some (.type "range") := PyProof.Rows.boot_range
theorem boot_divmod : bootBuiltins "divmod" = some (.builtin "divmod") := PyProof.Rows.boot_divmod
theorem boot_min : bootBuiltins "min" = some (.builtin "min") := PyProof.Rows.boot_min
theorem boot_set : bootBuiltins "set" = some (.type "set") := PyProof.Rows.boot_set
section
variable {X : Cx}
theorem call_range1 : CallR X (.type "range") (fun xs H Q => ∃ n : Nat, xs = [.int n] ∧ ∀ p, H p = none → Q (.ref p) (upd H p (.ext (RngAt p n)))) := by
  intro pins s σ H xs us Q I r h
  obtain ⟨n, rfl, q⟩ := h
  obtain ⟨u, rfl, t, rfl⟩ := vals1 r
  refine call_range_1 ⟨.ref s.heap.objs.size, _, I.laid (a := s.heap.objs.size) (o := .ext (RngAt s.heap.objs.size n)) (t' := s.toks + 1 + 1) (fun b o e => Heap.get?_push_of_some _ e) (Nat.le_refl _) ?_, rfl, q _ (I.hok.fresh (Nat.le_refl _))⟩
  exact ⟨⟨_, _, _, IsRange.new _ _ _ _ _ _ _⟩, ⟨_, Heap.get?_push_size _ rfl⟩, fun h1 h2 ⟨t, u, v, e⟩ k => ⟨t, u, v, k _ e⟩⟩
theorem vals_of_get : ∀ {xs : List V} {us : List Value}, xs.length = us.length → (∀ (j : Nat) (x : V) (u : Value), xs[j]? = some x → us[j]? = some u → RelV x u) → Vals xs us
  | [], [], _, _ => .nil
  | x :: xs, u :: us, hl, h => .cons (h 0 x u rfl rfl) (vals_of_get (by simpa using hl) fun j y v e1 e2 => h (j + 1) y v (by simpa using e1) (by simpa using e2))
  | [], _ :: _, hl, _ => by simp at hl
  | _ :: _, [], hl, _ => by simp at hl
theorem call_list_rng (hc : X.calm = true) : CallR X (.type "list") (fun xs H Q => ∃ (p : Addr) (n : Nat), xs = [.ref p] ∧ H p = some (.ext (RngAt p n)) ∧ n ≤ 1000 ∧ ∀ l, H l = none → Q (.ref l) (upd H l (.lst ((List.range n).map fun k : Nat => V.int (k : Int))))) := by
  intro pins s σ H xs us Q I r h
  obtain ⟨p, n, rfl, hp, small, q⟩ := h
  obtain ⟨u, rfl, rx⟩ := vals1 r
  cases rx
  obtain ⟨⟨t, u, v, e⟩, _, _⟩ := (show ObjOk X.prog X.w H s.heap p (.ext (RngAt p n)) from I.hok p _ hp)
  refine call_list_range (n := n) (I.ok.hd hc) e (small_one (by omega) (by omega) (by omega) (by omega)) (by rw [rangeSize_one]; split <;> omega) (by omega) fun h' tk acc' c' kp e' its => ?_
  obtain ⟨i1, i2⟩ := its
  have rv : Vals ((List.range n).map fun k : Nat => V.int (k : Int)) acc'.toList := by
    refine vals_of_get (by simp [i1]) fun j x u e1 e2 => ?_
    obtain ⟨t, rfl⟩ := i2 j u (by simpa using e2)
    have hj : j < n := by
      have := (List.getElem?_eq_some_iff.mp e1).1
      simpa using this
    have ex : V.int (j : Int) = x := by simpa [hj] using e1
    subst ex
    exact ⟨t, by simp⟩
  refine ⟨.ref s.heap.objs.size, _, I.laid (t' := tk) kp (Nat.le_refl _) (show ObjOk X.prog X.w _ h' _ (.lst _) from ⟨?_, acc'.toList, c', rv, by simpa using e'⟩), rfl, q _ (I.hok.fresh (Nat.le_refl _))⟩
  have hs : sizeLine = 16777216 := sizeLine_eq
  simp; omega
theorem ints_are : ∀ {ns : List Int} {us : List Value}, Vals (ns.map V.int) us → PyProof.Rows.IntsAre us ns
  | [], _, .nil => by constructor
  | n :: ns, _, .cons h t => by
    obtain ⟨k, rfl⟩ := h
    constructor
    exact ints_are t
theorem dedup_nodup : ∀ (xs acc : List Int), (acc ++ xs).Nodup → xs.foldl step_dedup acc = acc ++ xs
  | [], acc, _ => by simp
  | x :: xs, acc, h => by
    have hx : x ∉ acc := fun z => by
      rw [List.nodup_append] at h
      exact h.2.2 x z x List.mem_cons_self rfl
    have e : step_dedup acc x = acc ++ [x] := by
      unfold step_dedup
      simp [hx]
    rw [List.foldl_cons, e, dedup_nodup xs (acc ++ [x]) (by simpa using h)]
    simp
theorem firstMet_nodup {ns : List Int} (h : ns.Nodup) : firstMet (fun i => ns.getD i 0) ns.length = ns := by
  unfold firstMet
  have e : (List.range ns.length).map (fun i => ns.getD i 0) = ns := by
    apply List.ext_getElem?
    intro j
    by_cases hj : j < ns.length
    · simp [hj, List.getD]
    · simp [hj]
  rw [e, dedup_nodup ns [] (by simpa using h)]
  simp
theorem call_set_ints (hc : X.calm = true) : CallR X (.type "set") (fun xs H Q => ∃ (p : Addr) (ns : List Int), xs = [.ref p] ∧ SqL X.K H p (ns.map V.int) ∧ ns.length ≤ 100 ∧ ns.Nodup ∧ ∀ l S, H l = none → Q (.ref l) (upd H l (.set S ns.length))) := by
  intro pins s σ H xs us Q I r h
  obtain ⟨p, ns, rfl, hq, small, nd, q⟩ := h
  obtain ⟨u, rfl, rx⟩ := vals1 r
  cases rx
  obtain ⟨its, rv, pl, hz⟩ := I.list hq
  have hlen : its.length = ns.length := by rw [← rv.length, List.length_map]
  refine call_set_list (I.ok.hd hc) pl.isList (ns := ns) (by simpa using ints_are rv) (by rw [List.size_toArray, hlen]; exact Nat.lt_of_le_of_lt (show ns.length + 1 ≤ 101 by omega) (by decide)) fun h' tk hs kp => ?_
  have ez : its.toArray.size = ns.length := by rw [List.size_toArray, hlen]
  rw [ez, firstMet_nodup nd] at hs
  exact ⟨.ref s.heap.objs.size, _, I.laid (t' := tk) (fun b o e => kp b o (Heap.lt_size e) e) (Nat.le_refl _) (show ObjOk X.prog X.w _ h' _ (.set _ _) from hs), rfl, q _ _ (I.hok.fresh (Nat.le_refl _))⟩
theorem call_len_setV : CallR X (.builtin "len") (fun xs H Q => ∃ (p : Addr) (S : Int → Bool) (n : Nat), xs = [.ref p] ∧ H p = some (.set S n) ∧ n ≤ 100 ∧ Q (.int n) H) := by
  intro pins s σ H xs us Q I r h
  obtain ⟨p, S, n, rfl, hp, small, q⟩ := h
  obtain ⟨u, rfl, rx⟩ := vals1 r
  cases rx
  obtain ⟨o, es, ep, t, h1, h2, h3, _, _, _, h7, h8⟩ := (show ObjOk X.prog X.w H s.heap p (.set S n) from I.hok p _ hp)
  exact call_len_set h1 h2 h3 h7 (by omega) ⟨.int n, H, I.tok _, ⟨_, by rw [h8]⟩, q⟩
end
end L2
/-! sizes of ratios whose bottoms divide a power of one number -/
namespace BP
def D0 : Nat := 84000000000
/-- the bottom divides a power of D0, and it is within 2 ^ b either way -/
def Bq (d b : Nat) (q : Rat) : Prop := q.den ∣ D0 ^ d ∧ q.num.natAbs ≤ 2 ^ b * q.den
theorem Bq.mono {d b d' b' : Nat} {q : Rat} (h : Bq d b q) (hd : d ≤ d') (hb : b ≤ b') : Bq d' b' q :=
  ⟨Nat.dvd_trans h.1 (Nat.pow_dvd_pow _ hd), Nat.le_trans h.2 (Nat.mul_le_mul_right _ (Nat.pow_le_pow_right (by decide) hb))⟩
theorem den_le {d : Nat} {q : Rat} (h : q.den ∣ D0 ^ d) : q.den < 2 ^ (37 * d + 1) := by
  have p : 0 < D0 ^ d := Nat.pow_pos (by decide)
  have k := Nat.le_of_dvd p h
  have l : D0 ^ d ≤ (2 ^ 37) ^ d := Nat.pow_le_pow_left (by decide) d
  rw [← Nat.pow_mul] at l
  have m : 2 ^ (37 * d) < 2 ^ (37 * d + 1) := Nat.pow_lt_pow_right (by decide) (Nat.lt_succ_self _)
  omega
theorem Bq.sm {d b : Nat} {q : Rat} (h : Bq d b q) : SmQ (b + (37 * d + 1)) q := by
  have k := den_le h.1
  constructor
  · show q.num.natAbs < 2 ^ (b + (37 * d + 1))
    rw [Nat.pow_add]
    exact Nat.lt_of_le_of_lt h.2 (Nat.mul_lt_mul_of_pos_left k (Nat.pow_pos (by decide)))
  · show (q.den : Int).natAbs < 2 ^ (b + (37 * d + 1))
    rw [Int.natAbs_natCast]
    exact Nat.lt_of_lt_of_le k (Nat.pow_le_pow_right (by decide) (by omega))
/-- a ratio by any top and bottom that stand for it -/
theorem Bq.of {d b : Nat} {t : Int} {m : Nat} (hm : 0 < m) (h1 : m ∣ D0 ^ d) (h2 : t.natAbs ≤ 2 ^ b * m) : Bq d b (Rat.divInt t m) := by
  have hne : (m : Int) ≠ 0 := by omega
  have e := n_rat (t := t) (b := (m : Int)) hne
  have s1 := sg_nt t (m : Int)
  have s2 := sg_nb t (m : Int)
  rw [e.1] at s1
  rw [e.2] at s2
  have a1 := congrArg Int.natAbs s1
  have a2 := congrArg Int.natAbs s2
  rw [Int.natAbs_mul, sg_abs] at a1 a2
  have g := gcd_pos (t := t) hne
  rw [Int.natAbs_natCast, Int.natAbs_natCast] at a2
  refine ⟨Nat.dvd_trans ⟨Int.gcd t m, by rw [Nat.mul_comm]; exact a2.symm⟩ h1, ?_⟩
  have h2 : Int.gcd t m * (Rat.divInt t m).num.natAbs ≤ 2 ^ b * (Int.gcd t m * (Rat.divInt t m).den) := by rw [a1, a2]; exact h2
  refine Nat.le_of_mul_le_mul_left (c := Int.gcd t m) ?_ g
  calc Int.gcd t m * (Rat.divInt t m).num.natAbs ≤ 2 ^ b * (Int.gcd t m * (Rat.divInt t m).den) := h2
    _ = Int.gcd t m * (2 ^ b * (Rat.divInt t m).den) := by rw [← Nat.mul_assoc, ← Nat.mul_assoc, Nat.mul_comm (2 ^ b)]
theorem Bq.mul {d b e c : Nat} {x y : Rat} (h : Bq d b x) (k : Bq e c y) : Bq (d + e) (b + c) (x * y) := by
  have r : x * y = Rat.divInt (x.num * y.num) ((x.den * y.den : Nat) : Int) := by
    rw [Int.natCast_mul, ← Rat.divInt_mul_divInt, Rat.num_divInt_den, Rat.num_divInt_den]
  rw [r]
  refine Bq.of (Nat.mul_pos x.den_pos y.den_pos) ?_ ?_
  · rw [Nat.pow_add]; exact Nat.mul_dvd_mul h.1 k.1
  · rw [Int.natAbs_mul, Nat.pow_add]
    calc x.num.natAbs * y.num.natAbs ≤ (2 ^ b * x.den) * (2 ^ c * y.den) := Nat.mul_le_mul h.2 k.2
      _ = 2 ^ b * 2 ^ c * (x.den * y.den) := by ac_rfl
theorem Bq.add {d b : Nat} {x y : Rat} (h : Bq d b x) (k : Bq d b y) : Bq d (b + 1) (x + y) := by
  obtain ⟨p, hp⟩ := h.1
  obtain ⟨q, hq⟩ := k.1
  have D : 0 < D0 ^ d := Nat.pow_pos (by decide)
  have ne : ((D0 ^ d : Nat) : Int) ≠ 0 := by omega
  have pp : p ≠ 0 := fun z => by rw [z, Nat.mul_zero] at hp; omega
  have qp : q ≠ 0 := fun z => by rw [z, Nat.mul_zero] at hq; omega
  have ex : x = Rat.divInt (x.num * (p : Int)) ((D0 ^ d : Nat) : Int) := by
    have e : ((D0 ^ d : Nat) : Int) = (x.den : Int) * (p : Int) := by rw [← Int.natCast_mul, ← hp]
    rw [e, Rat.divInt_mul_right (by omega), Rat.num_divInt_den]
  have ey : y = Rat.divInt (y.num * (q : Int)) ((D0 ^ d : Nat) : Int) := by
    have e : ((D0 ^ d : Nat) : Int) = (y.den : Int) * (q : Int) := by rw [← Int.natCast_mul, ← hq]
    rw [e, Rat.divInt_mul_right (by omega), Rat.num_divInt_den]
  have s : x + y = Rat.divInt (x.num * (p : Int) + y.num * (q : Int)) ((D0 ^ d : Nat) : Int) := by
    have z := Rat.divInt_add_divInt (x.num * (p : Int)) (y.num * (q : Int)) ne ne
    rw [← ex, ← ey] at z
    rw [z]
    have e : x.num * (p : Int) * ((D0 ^ d : Nat) : Int) + y.num * (q : Int) * ((D0 ^ d : Nat) : Int) = (x.num * (p : Int) + y.num * (q : Int)) * ((D0 ^ d : Nat) : Int) := by rw [Int.add_mul]
    rw [e, Rat.divInt_mul_right ne]
  rw [s]
  refine Bq.of D (Nat.dvd_refl _) ?_
  have a1 : (x.num * (p : Int)).natAbs ≤ 2 ^ b * D0 ^ d := by
    rw [Int.natAbs_mul, Int.natAbs_natCast, hp]
    calc x.num.natAbs * p ≤ 2 ^ b * x.den * p := Nat.mul_le_mul_right _ h.2
      _ = 2 ^ b * (x.den * p) := Nat.mul_assoc _ _ _
  have a2 : (y.num * (q : Int)).natAbs ≤ 2 ^ b * D0 ^ d := by
    rw [Int.natAbs_mul, Int.natAbs_natCast, hq]
    calc y.num.natAbs * q ≤ 2 ^ b * y.den * q := Nat.mul_le_mul_right _ k.2
      _ = 2 ^ b * (y.den * q) := Nat.mul_assoc _ _ _
  have a3 := Int.natAbs_add_le (x.num * (p : Int)) (y.num * (q : Int))
  have e : 2 ^ (b + 1) * D0 ^ d = 2 ^ b * D0 ^ d + 2 ^ b * D0 ^ d := by rw [Nat.pow_succ, Nat.mul_comm (2 ^ b) 2, Nat.mul_assoc, Nat.two_mul]
  omega
theorem Bq.zero (d b : Nat) : Bq d b 0 := ⟨Nat.one_dvd _, Nat.zero_le _⟩
theorem Bq.neg {d b : Nat} {q : Rat} (h : Bq d b q) : Bq d b (-q) := ⟨h.1, by show (-q.num).natAbs ≤ _; rw [Int.natAbs_neg]; exact h.2⟩
/-- a share -/
def Shr (q : Rat) : Prop := Bq 1 63 q
theorem shr_part {t : Int} {m : Nat} (h : m = 1 ∨ m = 2 ∨ m = 3 ∨ m = 4 ∨ m = 7 ∨ m = 1000000000) (ht : t.natAbs ≤ 2 ^ 63) : Shr (Rat.divInt t m) := by
  refine Bq.of (by omega) ?_ (Nat.le_trans ht (Nat.le_mul_of_pos_right _ (by omega)))
  rcases h with h | h | h | h | h | h <;> subst h <;> decide
def bentQ (q : Rat) : Rat := if 0 < q then q else 0
theorem Bq.bent {d b : Nat} {q : Rat} (h : Bq d b q) : Bq d b (bentQ q) := by
  unfold bentQ
  split
  · exact h
  · exact Bq.zero d b
end BP
/-! sizes of ratios whose bottoms divide one number -/
namespace BP
/-- the bottom divides D, and it is within 2 ^ b either way -/
def Bd (D b : Nat) (q : Rat) : Prop := q.den ∣ D ∧ q.num.natAbs ≤ 2 ^ b * q.den
theorem Bd.mono {D b D' b' : Nat} {q : Rat} (h : Bd D b q) (hd : D ∣ D') (hb : b ≤ b') : Bd D' b' q :=
  ⟨Nat.dvd_trans h.1 hd, Nat.le_trans h.2 (Nat.mul_le_mul_right _ (Nat.pow_le_pow_right (by decide) hb))⟩
theorem Bd.sm {D b n : Nat} {q : Rat} (h : Bd D b q) (h0 : 0 < D) (hD : D < 2 ^ n) : SmQ (b + n) q := by
  have k : q.den < 2 ^ n := Nat.lt_of_le_of_lt (Nat.le_of_dvd h0 h.1) hD
  constructor
  · show q.num.natAbs < 2 ^ (b + n)
    rw [Nat.pow_add]
    exact Nat.lt_of_le_of_lt h.2 (Nat.mul_lt_mul_of_pos_left k (Nat.pow_pos (by decide)))
  · show (q.den : Int).natAbs < 2 ^ (b + n)
    rw [Int.natAbs_natCast]
    exact Nat.lt_of_lt_of_le k (Nat.pow_le_pow_right (by decide) (by omega))
theorem Bd.of {D b : Nat} {t : Int} {m : Nat} (hm : 0 < m) (h1 : m ∣ D) (h2 : t.natAbs ≤ 2 ^ b * m) : Bd D b (Rat.divInt t m) := by
  have hne : (m : Int) ≠ 0 := by omega
  have e := n_rat (t := t) (b := (m : Int)) hne
  have s1 := sg_nt t (m : Int)
  have s2 := sg_nb t (m : Int)
  rw [e.1] at s1
  rw [e.2] at s2
  have a1 := congrArg Int.natAbs s1
  have a2 := congrArg Int.natAbs s2
  rw [Int.natAbs_mul, sg_abs] at a1 a2
  have g := gcd_pos (t := t) hne
  rw [Int.natAbs_natCast, Int.natAbs_natCast] at a2
  refine ⟨Nat.dvd_trans ⟨Int.gcd t m, by rw [Nat.mul_comm]; exact a2.symm⟩ h1, ?_⟩
  have h2 : Int.gcd t m * (Rat.divInt t m).num.natAbs ≤ 2 ^ b * (Int.gcd t m * (Rat.divInt t m).den) := by rw [a1, a2]; exact h2
  refine Nat.le_of_mul_le_mul_left (c := Int.gcd t m) ?_ g
  calc Int.gcd t m * (Rat.divInt t m).num.natAbs ≤ 2 ^ b * (Int.gcd t m * (Rat.divInt t m).den) := h2
    _ = Int.gcd t m * (2 ^ b * (Rat.divInt t m).den) := by rw [← Nat.mul_assoc, ← Nat.mul_assoc, Nat.mul_comm (2 ^ b)]
theorem Bd.mul {D b E c : Nat} {x y : Rat} (h : Bd D b x) (k : Bd E c y) : Bd (D * E) (b + c) (x * y) := by
  have r : x * y = Rat.divInt (x.num * y.num) ((x.den * y.den : Nat) : Int) := by
    rw [Int.natCast_mul, ← Rat.divInt_mul_divInt, Rat.num_divInt_den, Rat.num_divInt_den]
  rw [r]
  refine Bd.of (Nat.mul_pos x.den_pos y.den_pos) (Nat.mul_dvd_mul h.1 k.1) ?_
  rw [Int.natAbs_mul, Nat.pow_add]
  calc x.num.natAbs * y.num.natAbs ≤ (2 ^ b * x.den) * (2 ^ c * y.den) := Nat.mul_le_mul h.2 k.2
    _ = 2 ^ b * 2 ^ c * (x.den * y.den) := by ac_rfl
theorem Bd.add {D b : Nat} {x y : Rat} (D0 : 0 < D) (h : Bd D b x) (k : Bd D b y) : Bd D (b + 1) (x + y) := by
  obtain ⟨p, hp⟩ := h.1
  obtain ⟨q, hq⟩ := k.1
  have ne : ((D : Nat) : Int) ≠ 0 := by omega
  have pp : p ≠ 0 := fun z => by rw [z, Nat.mul_zero] at hp; omega
  have qp : q ≠ 0 := fun z => by rw [z, Nat.mul_zero] at hq; omega
  have ex : x = Rat.divInt (x.num * (p : Int)) ((D : Nat) : Int) := by
    have e : ((D : Nat) : Int) = (x.den : Int) * (p : Int) := by rw [← Int.natCast_mul, ← hp]
    rw [e, Rat.divInt_mul_right (by omega), Rat.num_divInt_den]
  have ey : y = Rat.divInt (y.num * (q : Int)) ((D : Nat) : Int) := by
    have e : ((D : Nat) : Int) = (y.den : Int) * (q : Int) := by rw [← Int.natCast_mul, ← hq]
    rw [e, Rat.divInt_mul_right (by omega), Rat.num_divInt_den]
  have s : x + y = Rat.divInt (x.num * (p : Int) + y.num * (q : Int)) ((D : Nat) : Int) := by
    have z := Rat.divInt_add_divInt (x.num * (p : Int)) (y.num * (q : Int)) ne ne
    rw [← ex, ← ey] at z
    rw [z]
    have e : x.num * (p : Int) * ((D : Nat) : Int) + y.num * (q : Int) * ((D : Nat) : Int) = (x.num * (p : Int) + y.num * (q : Int)) * ((D : Nat) : Int) := by rw [Int.add_mul]
    rw [e, Rat.divInt_mul_right ne]
  rw [s]
  refine Bd.of D0 (Nat.dvd_refl _) ?_
  have a1 : (x.num * (p : Int)).natAbs ≤ 2 ^ b * D := by
    rw [Int.natAbs_mul, Int.natAbs_natCast, hp]
    calc x.num.natAbs * p ≤ 2 ^ b * x.den * p := Nat.mul_le_mul_right _ h.2
      _ = 2 ^ b * (x.den * p) := Nat.mul_assoc _ _ _
  have a2 : (y.num * (q : Int)).natAbs ≤ 2 ^ b * D := by
    rw [Int.natAbs_mul, Int.natAbs_natCast, hq]
    calc y.num.natAbs * q ≤ 2 ^ b * y.den * q := Nat.mul_le_mul_right _ k.2
      _ = 2 ^ b * (y.den * q) := Nat.mul_assoc _ _ _
  have a3 := Int.natAbs_add_le (x.num * (p : Int)) (y.num * (q : Int))
  have e : 2 ^ (b + 1) * D = 2 ^ b * D + 2 ^ b * D := by rw [Nat.pow_succ, Nat.mul_comm (2 ^ b) 2, Nat.mul_assoc, Nat.two_mul]
  omega
theorem Bd.zero (D b : Nat) : Bd D b 0 := ⟨Nat.one_dvd _, Nat.zero_le _⟩
/-- any ratio, by its own size -/
theorem Bd.own {n : Nat} {q : Rat} (h : SmQ n q) : Bd q.den n q := ⟨Nat.dvd_refl _, Nat.le_trans (Nat.le_of_lt h.1) (Nat.le_mul_of_pos_right _ q.den_pos)⟩
theorem Bd.bent {D b : Nat} {q : Rat} (h : Bd D b q) : Bd D b (bentQ q) := by
  unfold bentQ
  split
  · exact h
  · exact Bd.zero D b
end BP
/-! divmod by a greater number -/
namespace L2
open PySem PySem.Spec PyProof.Rows BP
end L2
/-! own rule: insert ahead of a list -/
namespace L2
open PySem PySem.Spec PyProof.Rows
section
variable {X : Cx}
end
end L2
/-! own rule: count of a text in a list of texts -/
namespace L2
open PySem PySem.Spec PyProof.Rows
section
variable {X : Cx}
end
end L2
/-! own rule: isinstance of lists, tuples and numbers, by list and tuple -/
namespace L2
open PySem PySem.Spec PyProof.Rows
section
variable {X : Cx}
inductive IsL (K : PySem.W.Frag) (H : Hp) : V → String → Bool → Prop where
  | old {v : V} {s : String} {b : Bool} (h : IsI K H v s b) : IsL K H v s b
  | lstTup {a : Addr} {xs : List V} (h : SqL K H a xs) : IsL K H (.ref a) "tuple" false
  | tupList {a : Addr} {xs : List V} (h : SqT K H a xs) : IsL K H (.ref a) "list" false
  | intList (i : Int) : IsL K H (.int i) "list" false
  | intTup (i : Int) : IsL K H (.int i) "tuple" false
end
end L2
/-! own rule: zip over any two iterators that give their items one by one; two tuples as a case -/
namespace L2
open PySem PySem.Spec PyProof.Rows
section
variable {prog : Program} {w : World} {A : Around} {E : Value → Shared → Prop} {h : Heap} {gs : Array GenState} {dr : Drawn} {tk : Nat} {os : OsState}
abbrev zobj (I O : Addr) (f0 : Value) : Obj := { cls := .type "zip", dict := none, data := .fields #[f0, .bool false, .bool false, .ref I, .ref O], slots := #[] }
abbrev pobj (x y : Value) : Obj := { cls := .type "tuple", data := .seq #[x, y] }
/-- a tuple's iterator -/
abbrev tobj (b : Addr) (n : Nat) : Obj := { cls := .type "tuple_iterator", data := .fields #[.ref b, .int n 0] }
end
/-- a zip of two tuples of which n items each were drawn -/
structure ZipStT (z I O i j a b : Addr) (n : Nat) (h : Heap) : Prop where
  nd : [z, I, O, i, j].Nodup
  zip : h.get? z = some (zobj I O .none)
  its : h.get? I = some (pobj (.ref i) (.ref j))
  out : ∃ x y, h.get? O = some (pobj x y)
  one : h.get? i = some (tobj a n)
  two : h.get? j = some (tobj b n)
  far : a ≠ O ∧ b ≠ O
theorem ZipStT.has {z I O i j a b : Addr} {n : Nat} {h : Heap} (t : ZipStT z I O i j a b n h) {c : Addr} (hc : c ∈ [z, I, O, i, j]) : ∃ o, h.get? c = some o ∧ ∀ v, o.data ≠ .cell v := by
  obtain ⟨x, y, ho⟩ := t.out
  simp only [List.mem_cons, List.not_mem_nil, or_false] at hc
  rcases hc with rfl | rfl | rfl | rfl | rfl
  · exact ⟨_, t.zip, fun _ q => nomatch q⟩
  · exact ⟨_, t.its, fun _ q => nomatch q⟩
  · exact ⟨_, ho, fun _ q => nomatch q⟩
  · exact ⟨_, t.one, fun _ q => nomatch q⟩
  · exact ⟨_, t.two, fun _ q => nomatch q⟩
/-- a tuple is no object of another class -/
theorem tup_not {h : Heap} {c d : Addr} {vs : Array Value} {o : Obj} (hc : h.IsTuple c vs) (e : h.get? d = some o) (n : o.cls ≠ .type "tuple") : c ≠ d := fun q => by
  obtain ⟨o', e', k, _⟩ := hc
  rw [q, e] at e'
  cases e'
  exact n k
theorem ZipStT.parts {z I O i j a b : Addr} {n : Nat} {h : Heap} {xs ys : Array Value} (t : ZipStT z I O i j a b n h) (ha : h.IsTuple a xs) (hb : h.IsTuple b ys) :
    (∀ c ∈ [I, O, i, j, a, b], c ≠ z) ∧ (∀ c ∈ [i, j, a, b], c ≠ O) ∧ ∀ c ∈ [j, b], c ≠ i := by
  have nd := t.nd
  simp only [List.nodup_cons, List.mem_cons, List.not_mem_nil, or_false, not_or, List.nodup_nil, and_true, not_false_eq_true] at nd
  obtain ⟨⟨n1, n2, n3, n4⟩, -, ⟨n8, n9⟩, n10⟩ := nd
  have k1 : (Value.type "tuple_iterator") ≠ .type "tuple" := ty_ne (by decide)
  have k2 : (Value.type "zip") ≠ .type "tuple" := ty_ne (by decide)
  simp only [List.mem_cons, List.not_mem_nil, or_false, forall_eq_or_imp, forall_eq]
  exact ⟨⟨Ne.symm n1, Ne.symm n2, Ne.symm n3, Ne.symm n4, tup_not ha t.zip k2, tup_not hb t.zip k2⟩, ⟨Ne.symm n8, Ne.symm n9, t.far.1, t.far.2⟩, Ne.symm n10, tup_not hb t.one k1⟩
end L2
/-! own rule: // where what is parted is below 2 ^ 13500 -/
namespace L2
open PySem PySem.Spec PyProof.Rows
section
variable {X : Cx}
theorem noPylong_left {x y : Int} (h : x.natAbs.log2 < 13500) : Builtin.divisionGoesByPylong x y = false := by
  have a : (if x == 0 then 0 else x.natAbs.log2 / 30 + 1) ≤ 450 := by
    split
    · exact Nat.zero_le _
    · omega
  show (decide ((if y == 0 then 0 else y.natAbs.log2 / 30 + 1) > 300) && decide ((if x == 0 then 0 else x.natAbs.log2 / 30 + 1) > (if y == 0 then 0 else y.natAbs.log2 / 30 + 1) + 150)) = false
  generalize (if y == 0 then 0 else y.natAbs.log2 / 30 + 1) = dy at *
  generalize (if x == 0 then 0 else x.natAbs.log2 / 30 + 1) = dx at *
  by_cases c : dy > 300
  · rw [decide_eq_false (show ¬ dx > dy + 150 by omega), Bool.and_false]
  · rw [decide_eq_false c, Bool.false_and]
def CDivL (i j : Int) : Prop := j ≠ 0 ∧ i.natAbs.log2 < 13500
theorem op_fdivL : OpR X (binaryOp .FloorDiv) (rI CDivL fun i j => .int (i.fdiv j)) := opI fun _ _ _ _ _ _ _ hc q => floordiv_int hc.1 q (.inl (noPylong_left hc.2))
end
end L2
/-! own rules over the hand layer: exceptions of the program's own classes (under ValueError), raised, passed on, caught by a class above them -/
namespace L2
open PySem PySem.Spec PyProof.Rows BP
section
variable {P : Program} {w : World} {H : Hp} {h : Heap} {a : Addr} {o : HO}
theorem ObjOk.has (x : ObjOk P w H h a o) : ∃ u, h.get? a = some u := by
  cases o with
  | lst xs => obtain ⟨_, _, _, _, e⟩ := x; exact ⟨_, e⟩
  | tup xs => obtain ⟨_, _, _, u, e, _⟩ := x; exact ⟨u, e⟩
  | dK kvs => obtain ⟨_, _, _, _, u, _, _, e, _⟩ := x; exact ⟨u, e⟩
  | dT kvs => obtain ⟨_, _, _, _, u, _, _, e, _⟩ := x; exact ⟨u, e⟩
  | set S n => obtain ⟨u, _, _, _, e, _⟩ := x; exact ⟨u, e⟩
  | ins C dx fs => obtain ⟨_, _, _, e, _⟩ := x; exact ⟨_, e⟩
  | own y => exact x
  | xd fs => obtain ⟨_, ⟨u, _, _, e, _⟩, _⟩ := x; exact ⟨u, e⟩
  | rng lo hi => obtain ⟨_, _, _, e⟩ := x; exact ⟨_, e⟩
  | frz ob u => exact ⟨_, x.1⟩
  | tbl ps => exact ⟨_, (show h.get? a = some _ from x)⟩
  | met f y => exact ⟨_, (show h.get? a = some _ from x)⟩
  | ext f => exact x.2.1
theorem HOk.has (x : HOk P w H h) (e : (H a).isSome = true) : ∃ u, h.get? a = some u := by
  obtain ⟨o, e⟩ := Option.isSome_iff_exists.mp e
  exact (x a o e).has
end

/-- B holds all that stood at the call and all that is tracked, but the frames -/
def Cov (B : Heap) (outer : List Env) (s : Shared) (H' : Hp) (h' : Heap) : Prop :=
  ∀ b o, h'.get? b = some o → ((∃ u, s.heap.get? b = some u) ∨ (H' b).isSome = true) → b ∉ frs outer → B.get? b = some o
/-- an exception of an own class flies out of a call -/
def CXE (P : Program) (w : World) : CXT := fun outer H s E e s' =>
  ∃ (ea C : Addr) (a0 : Value) (H' : Hp) (B : Heap), e = .ref ea ∧ s'.os = s.os ∧ AllBare s'.gens ∧ Un (frs outer) [] H H' s.heap s'.heap ∧ HOk P w H' s'.heap ∧
    Heap.FlyingW B outer ea (.ref C) a0 s'.heap ∧ Cov B outer s H' s'.heap ∧ H' ea = none ∧ E (.ref C) none H'

section
variable {X : Cx} {pins : List (Addr × Obj)} {σ : St} {H H' : Hp} {s s' : Shared} {h' B : Heap}
theorem Inv.inStack (I : Inv X pins σ H s) {b : Addr} {u : Obj} (q : X.s₀.heap.get? b = some u) (hb : b ∉ X.fs) : b ∉ frs X.stack := fun z => by
  rcases List.mem_cons.mp (I.stkSub b z) with e | e
  · exact absurd (Nat.lt_of_lt_of_le (Heap.lt_size q) I.ok.above) (by rw [e]; exact Nat.lt_irrefl _)
  · exact hb e
/-- the heap turns while the exception flies: what B holds stays, frames stay up to slots -/
theorem Inv.flown (I : Inv X pins σ H' s') (hex : X.ex = []) (st : B.StaysIn h')
    (cov : ∀ b o, s'.heap.get? b = some o → ((∃ u, X.s₀.heap.get? b = some u) ∨ (H' b).isSome = true) → b ∉ frs X.stack → B.get? b = some o) (up : s'.heap.UpToSlots h') :
    Un X.fs [] X.H₀ H' X.s₀.heap h' ∧ HOk X.prog X.w H' h' ∧ Cov B X.outer X.s₀ H' h' := by
  have nex : ∀ b : Addr, b ∉ X.ex := fun b z => by rw [hex] at z; cases z
  have fr : ∀ b, b ∈ X.fs → ∀ o, s'.heap.get? b = some o → ∃ sl, h'.get? b = some { o with slots := sl } := fun b hb o e => by
    obtain ⟨_, o', e', hd⟩ := I.funs.mem hb
    rw [e] at e'
    cases e'
    exact up b o e hd
  have tr : ∀ c : Addr, (H' c).isSome = true → c ∉ frs X.stack := fun c hc z => by
    rw [I.stkFree c z] at hc
    cases hc
  refine ⟨⟨fun b o q n hb _ => ?_, fun b o q n hb _ => ?_, fun b o q n _ => I.base.free b o q n (nex b), fun b o q _ => ?_, I.base.tups, I.base.frzs, I.base.tbls⟩, fun b u e => ?_, fun b o q hb hn => ?_⟩
  · exact st b o (cov b o (I.base.keep b o q n hb (nex b)) (.inl ⟨o, q⟩) (I.inStack q hb))
  · obtain ⟨sl, e⟩ := I.base.slot b o q n hb (nex b)
    obtain ⟨sl', e'⟩ := fr b hb _ e
    exact ⟨sl', e'⟩
  · obtain ⟨o', e⟩ := I.base.there b o q (nex b)
    by_cases hb : b ∈ X.fs
    · obtain ⟨sl, e'⟩ := fr b hb _ e
      exact ⟨_, e'⟩
    · exact ⟨o', st b o' (cov b o' e (.inl ⟨o, q⟩) (I.inStack q hb))⟩
  · refine (I.hok b u e).stay (fun c v hc q => ?_) (fun _ q => q) fun _ _ q => q
    have hs : (H' c).isSome = true := by
      rcases hc with rfl | hc
      · rw [e]; rfl
      · rw [hc]; rfl
    exact st c v (cov c v q (.inr hs) (tr c hs))
  · have ex : ∃ o', s'.heap.get? b = some o' := by
      rcases hb with ⟨u, hu⟩ | hs
      · exact I.base.there b u hu (nex b)
      · exact I.hok.has hs
    obtain ⟨o', e⟩ := ex
    have hns : b ∉ frs X.stack := by
      rcases hb with ⟨u, hu⟩ | hs
      · exact I.inStack hu hn
      · exact tr b hs
    have e2 := cov b o' e hb hns
    have e3 := st b o' e2
    rw [q] at e3
    cases e3
    exact e2
/-- it leaves this frame -/
theorem leaveE {E : XK} {e : Value} {E2 : Value → Shared → Prop} (I : Inv X pins σ H s) (hst : X.stack = X.env :: X.outer) (hfr : X.env.frame = some X.env.locals) (hex : X.ex = [])
    (h : CXE X.prog X.w X.stack H s E e s') : wpAny (model X.prog X.w) X.A (leaving X.env e) (fun _ s'' => CXE X.prog X.w X.outer X.H₀ X.s₀ E e s'') E2 s' := by
  obtain ⟨ea, C, a0, H', B, rfl, os, bare, un, hok, fl, cov, hea, hE⟩ := h
  have I2 : Inv X pins σ H' s' := I.call' (ch := []) os un hok bare (fun b z => absurd z (by simp))
  have fl2 : Heap.FlyingW B (X.env :: X.outer) ea (.ref C) a0 s'.heap := by rw [← hst]; exact fl
  refine wpAny_leaves_onW (by rw [I.ok.frames, hst]) hfr fl2 fun h' fl' up => ?_
  obtain ⟨u1, k1, c1⟩ := I2.flown hex fl'.1 (fun b o q hb hn => cov b o q (hb.imp (fun ⟨u, hu⟩ => I.base.there b u hu (by rw [hex]; simp)) id) hn) up
  exact ⟨ea, C, a0, H', B, rfl, I2.os, bare, u1, k1, fl', c1, hea, hE⟩
theorem passE {P : Program} {w : World} {K : PySem.W.Frag} {mg : Str → Option Value} {base : Heap} {N : List Str} {qual : Str} {scope : Scope} {f : Addr} {cd : Value} {A : Around} {outer : List Env} {s : Shared} {H : Hp} {E : XK} :
    Passes (CXE P w) (cxOf (CXE P w) P w K mg base N qual scope f cd A outer s H E) E := fun _ _ _ _ _ _ I h => leaveE I rfl rfl rfl h
end

/-! ### a def that may raise -/
theorem FnOk.up {P : Program} {w : World} {K : PySem.W.Frag} {mg : Str → Option Value} {base : Heap} {CX : CXT} {k : Nat} {f : Addr} {fd : FuncData} {ps : List Str} {sp : Sp} (F : FnOk P w K mg base CX0 k f fd ps sp) : FnOk P w K mg base CX k f fd ps sp :=
  ⟨F.len, fun A outer s H args us vs Q E hr he hb hv hs => codeAny_mono (F.run A outer s H args us vs Q E hr he hb hv hs) fun r s' hq => by
    cases r with
    | error e => exact False.elim hq
    | ok fl => cases fl <;> exact hq⟩
theorem Fun.okE {P : Program} {w : World} {K : PySem.W.Frag} {mg : Str → Option Value} {base : Heap} {x qual : Str} {st : Stmt} {f : Addr} {fd : FuncData} {N ps : List Str} {k : Nat} {sp : Sp} (F : Fun K x qual st f fd) (S : FnScope N ps (defScope st))
    (len : ∀ vs H Q E, sp vs H Q E → vs.length = ps.length)
    (hbody : ∀ (cdv : Value) (A : Around) (outer : List Env) (s : Shared) (H : Hp) (vs : List V) (Q : VK) (E : XK), Room k (A.deeper (envOfC qual (defScope st) s.heap.objs.size f cdv)) → sp vs H Q E →
      ∃ t, PSs (cxOf (CXE P w) P w K mg base N qual (defScope st) f cdv A outer s H E) (defBody st) t ∧ t { nx := fun _ H' => Q .non H', rt := Q } (start N vs) H) : FnOk P w K mg base (CXE P w) (k + 1) f fd ps sp := by
  obtain ⟨oc, od, kV, doc, pm, an, cdv, ct, osl, rfl, lk, hcd⟩ := F.ex
  exact fn_of lk hcd S len fun A outer s H vs Q E hr hsp => hbody cdv A outer s H vs Q E hr hsp
theorem PS.nox {X : Cx} {st : Stmt} {t : TS} (h : PS X.nox st t) : PS X st t := fun pins s σ H D I hw =>
  wpAny_mono (h pins s σ H D (I.wish _) hw) (fun _ _ q => q.unwish) fun _ _ z => False.elim z

/-! ### raise C(e, ..) -/
abbrev veB : List Value := [.type "ValueError", .type "Exception", .type "BaseException", .type "object"]
theorem own_obj {K : PySem.W.Frag} {h : Heap} {C : Addr} {newId : String} (Y : K.In h) (q : PySem.W.excIn K C veB newId = true) :
    ∃ bm N nm qn bs hd sn sub ab col dd k0 k1 k2 k3 k5 mN, h.get? C = some (excClassObj nm qn C N bs bm hd sn sub ab col dd k0 k1 k2 k3 k5 newId) ∧ h.Ns N mN ∧ mN "__init__" = none ∧ OwnTail h veB bm := by
  unfold PySem.W.excIn at q
  split at q
  next dd cd sl look =>
    split at q
    next C2 bm k0 k1 k2 k3 n2 k5 em es =>
      rw [Bool.and_eq_true, Bool.and_eq_true, Bool.and_eq_true, Bool.and_eq_true, Bool.and_eq_true] at q
      obtain ⟨⟨⟨⟨⟨q1, q2⟩, q3⟩, q4⟩, q5⟩, q6⟩ := q
      have r1 : C2 = C := beq_iff_eq.mp q1
      have r2 : n2 = newId := beq_iff_eq.mp q2
      subst r1 r2
      obtain ⟨nm, bs, mro, ns, qn, hd, sn, sub, ab, col, del⟩ := cd
      have r3 : del = false := by simpa using q3
      have r4 : mro = .ref C2 :: bm := em
      subst r3 r4
      have r5 : sl = #[k0, k1, k2, k3, some (.builtin n2), k5] := by
        cases sl with
        | mk l => exact congrArg Array.mk es
      subst r5
      refine ⟨bm, ns, nm, qn, bs, hd, sn, sub, ab, col, dd, k0, k1, k2, k3, k5, h.nsMap ns, Y _ _ look, ?_, ?_, ?_⟩
      · exact Heap.Ns.of_isNs (PySem.W.isNs_of_in Y q5)
      · exact PySem.W.nsMap_none_of_in Y q5 (beq_iff_eq.mp q6)
      · exact PySem.W.tail_of_in Y q4
    all_goals exact absurd q Bool.false_ne_true
  all_goals exact absurd q Bool.false_ne_true

section
variable {X : Cx}
def tRaise (C : Addr) (E : XK) (ta : TA) : TS := fun _ σ H => ta σ H fun vs H1 => vs.length ≤ sizeLine ∧ E (.ref C) none H1
theorem ps_raise {E : XK} {x : Str} {C : Addr} {e0 : Expr} {es : List Expr} {ta : TA} {np cpos pos : Pos} (hst : X.stack = X.env :: X.outer) (hfr : X.env.frame = some X.env.locals) (hex : X.ex = []) (hcalm : X.calm = true)
    (hxe : X.xe = fun e s' => wpAny (model X.prog X.w) X.A (leaving X.env e) (fun _ s'' => CXE X.prog X.w X.outer X.H₀ X.s₀ E e s'') (fun e' s'' => CXE X.prog X.w X.outer X.H₀ X.s₀ E e' s'') s')
    (hC : PySem.W.excIn X.K C veB "ValueError.__new__" = true) (hg : Gl X x) (hm : X.mg x = some (.ref C)) (ha : PA X (e0 :: es) ta)
    (hd : (x == ("__debug__" : Str)) = false := by decide) (he : starEach (e0 :: es) X.env = (false, eval e0 X.env) :: starEach es X.env := by rfl)
    (hpl : (backTo cpos (starEach (e0 :: es) X.env)).any (·.1) = false := by rfl) (hpl2 : (backTo cpos (starEach es X.env)).any (·.1) = false := by rfl) :
    PS X (.Raise (some (.Call (.Name x np) (e0 :: es) [] cpos)) none pos) (tRaise C E ta) := by
  intro pins s σ H D I h
  obtain ⟨bm, N, nm, qn, bs, hdc, sn, sub, ab, col, dd, k0, k1, k2, k3, k5, mN, oC, oN, oi, oT⟩ := own_obj I.mod.kin hC
  refine wpAny_Raise_call_subT (C := C) (nm := nm) (q := qn) (N := N) (bs := bs) (bm := bm) (hdct := hdc) (sn := sn) (sub := sub) (ab := ab) (col := col) (dd := dd) (k0 := k0) (k1 := k1) (k2 := k2) (k3 := k3) (k5 := k5)
    PySem.F.excBase_ValueError (mN := mN) (oT.hasType (by decide)) (I.ok.hd hcalm) hpl oi (ld_glob I hg hm ⟨rfl, ?_⟩ hd)
  have pa := ha cpos pins s σ H _ I h
  rw [he] at pa ⊢
  refine Calls.evalArgs_plain (wpAny_mono pa (fun us s2 z => ?_) fun _ _ y => y)
  obtain ⟨vs, H1, I1, r, hl, hE⟩ := z
  refine ⟨rfl, by rw [← r.length]; exact hl, I1.bk _ _ oC, oN.keeps I1.bk, oT.keeps I1.bk, fun h3 e3 made => ?_⟩
  rw [hxe]
  have I3 : Inv X pins σ H1 { s2 with heap := h3 } := I1.kept (t' := s2.toks) made.keeps
  have stk : s2.heap.FunFrames (PySem.W.hideAll s2.heap (frs X.stack)) (X.env :: X.outer) := by
    rw [← hst]
    exact PySem.W.funFrames_hide I1.stack fun env hen b hb => List.mem_filterMap.mpr ⟨env, hen, hb⟩
  refine wpAny_leaves_madeW (base := PySem.W.hideAll s2.heap (frs X.stack)) (by rw [I1.ok.frames, hst]) hfr (fun b o q => PySem.W.of_hideAll _ q) stk made fun h4 t fl _ _ up => ?_
  have cov3 : ∀ b o, h3.get? b = some o → ((∃ u, X.s₀.heap.get? b = some u) ∨ (H1 b).isSome = true) → b ∉ frs X.stack → (PySem.W.hideAll s2.heap (frs X.stack)).get? b = some o := fun b o q hb hn => by
    have ex : ∃ o', s2.heap.get? b = some o' := by
      rcases hb with ⟨u, hu⟩ | hs
      · exact I1.base.there b u hu (by rw [hex]; simp)
      · exact I1.hok.has hs
    obtain ⟨o', eo⟩ := ex
    have eo2 : h3.get? b = some o' := made.keeps b o' eo
    have eq : some o = some o' := Eq.trans (Eq.symm q) eo2
    cases eq
    exact PySem.W.hideAll_get _ eo hn
  obtain ⟨u1, k1, c1⟩ := I3.flown hex fl.1 cov3 up
  refine ⟨e3, C, _, H1, _, rfl, I3.os, I3.bare, u1, k1, fl, c1, ?_, hE⟩
  cases z : H1 e3 with
  | none => rfl
  | some v =>
    obtain ⟨u, hu⟩ := I1.hok.has (a := e3) (by rw [z]; rfl)
    rw [made.new] at hu
    cases hu
end
end L2
/-! own rules: try with one call of a def, caught by an own class; isinstance of what was caught -/
namespace L2
open PySem PySem.Spec PyProof.Rows BP
section
variable {X : Cx} {pins : List (Addr × Obj)} {σ : St} {H H1 H' : Hp} {s s1 s' : Shared} {h' B : Heap}
theorem Inv.fly (I1 : Inv X pins σ H1 s1) (I2 : Inv X pins σ H' s') (hex : X.ex = []) (cov : Cov B X.stack s1 H' s'.heap) (st : B.StaysIn h') (up : s'.heap.UpToSlots h') : Inv X pins σ H' { s' with heap := h' } := by
  obtain ⟨u1, k1, _⟩ := I2.flown hex st (fun b o q hb hn => cov b o q (hb.imp (fun ⟨u, hu⟩ => I1.base.there b u hu (by rw [hex]; simp)) id) hn) up
  have cl : ∀ c v, s'.heap.IsCell c v → h'.IsCell c v := fun c v z => by
    obtain ⟨o, ho, hd⟩ := z
    obtain ⟨sl, e⟩ := up c o ho (fun vs q => by rw [hd] at q; cases q)
    exact ⟨_, e, hd⟩
  refine ⟨I2.ok, I2.os, I2.bare, ?_, ?_, fun x c e => ?_, I2.free, I2.freeC, fun p hp => ?_, k1, I2.len⟩
  · rw [hex]
    exact u1
  · obtain ⟨m, hn, hl⟩ := I2.loc
    refine ⟨m, up.ns hn, fun i x v e1 e2 e3 => ?_⟩
    obtain ⟨u, r, l⟩ := hl i x v e1 e2 e3
    refine ⟨u, r, ?_⟩
    rcases l with l | ⟨k, c, e, z⟩
    · exact .inl l
    · exact .inr ⟨k, c, e, cl c _ z⟩
  · obtain ⟨v, z⟩ := I2.cell x c e
    exact ⟨v, cl c v z⟩
  · obtain ⟨e, n, ne, nf, d⟩ := I2.pin p hp
    obtain ⟨e1, _⟩ := I1.pin p hp
    have hns : p.1 ∉ frs X.stack := fun z => (List.mem_cons.mp (I2.stkSub _ z)).elim ne nf
    exact ⟨st _ _ (cov _ _ e (.inl ⟨_, e1⟩) hns), n, ne, nf, d⟩
/-- within an except suite -/
abbrev Cx.inHandler (X : Cx) (ea : Addr) : Cx := { X with A := X.A.mark (some (.ref ea)), calm := false, xe := fun _ _ => False }
theorem Inv.toHandler (I : Inv X pins σ H s) (ea : Addr) : Inv (X.inHandler ea) pins σ H s :=
  ⟨⟨I.ok.mod, I.ok.kind, I.ok.glob, I.ok.blt, I.ok.above, I.ok.inj, I.ok.has, I.ok.cab, fun z => absurd z Bool.false_ne_true, I.ok.frames, I.ok.stk, I.ok.exf, I.ok.bs, I.ok.bsz, I.ok.noex, I.ok.exfs, I.ok.funs, I.ok.frf⟩,
    I.os, I.bare, I.base, I.loc, I.cell, I.free, I.freeC, I.pin, I.hok, I.len⟩
theorem Inv.fromHandler {ea : Addr} (I : Inv (X.inHandler ea) pins σ H s) (ok : X.Ok) : Inv X pins σ H s := ⟨ok, I.os, I.bare, I.base, I.loc, I.cell, I.free, I.freeC, I.pin, I.hok, I.len⟩
/-- the name of what was caught goes -/
theorem Inv.goes {M : Model} {A : Around} {E : Value → Shared → Prop} {n : Str} {i : Nat} {pos : Pos} {Q : Unit → Shared → Prop} (I : Inv X pins σ H s) (hN : X.N.Nodup) (hi : X.N[i]? = some n) (hk : X.env.scope.names.lookup n = some .local)
    (h : ∀ s', Inv X pins (σ.set i none) H s' → Q () s') : wpAny M A (do bindName X.env n .none; unbindBehindTheSuite X.env n pos) Q E s := by
  obtain ⟨m, hn, hl⟩ := id I.loc
  refine wpAny_nameGoes_keeps hk hn (by rw [I.ok.kind]; rfl) fun h' v hn' hs => h _ ?_
  have hiσ : i < σ.length := by rw [I.len]; exact (List.getElem?_eq_some_iff.mp hi).1
  have lt : ∀ b o, X.s₀.heap.get? b = some o → b ≠ X.env.locals := fun b o e => Nat.ne_of_lt (Nat.lt_of_lt_of_le (Heap.lt_size e) I.ok.above)
  refine ⟨I.ok, I.os, I.bare, ⟨fun b o e n hb hx => (hs.2 b (lt b o e)).trans (I.base.keep b o e n hb hx), fun b o e n hb hx => ?_, I.base.free, fun b o e hx => ?_, I.base.tups, I.base.frzs, I.base.tbls⟩, ⟨_, hn', fun j y v' e1 e2 e3 => ?_⟩, fun y c e => ?_, I.free, I.freeC, fun p hp => ?_, fun b u e => ?_, by simpa using I.len⟩
  · obtain ⟨sl, z⟩ := I.base.slot b o e n hb hx
    exact ⟨sl, (hs.2 b (lt b o e)).trans z⟩
  · obtain ⟨o', z⟩ := I.base.there b o e hx
    exact ⟨o', (hs.2 b (lt b o e)).trans z⟩
  · by_cases hj : j = i
    · subst hj
      rw [List.getElem?_set_self hiσ] at e2
      cases e2
    · rw [List.getElem?_set_ne (Ne.symm hj)] at e2
      obtain ⟨u', r', q⟩ := hl j y v' e1 e2 e3
      refine ⟨u', r', ?_⟩
      rcases q with ⟨k, e⟩ | ⟨k, c, e, z⟩
      · refine .inl ⟨k, ?_⟩
        have ny : y ≠ n := fun e => hj (nodup_ix hN e1 (e ▸ hi))
        simp [ny, e]
      · exact .inr ⟨k, c, e, z.sameBut hs (I.cne y c e)⟩
  · obtain ⟨w', z⟩ := I.cell y c e
    exact ⟨w', z.sameBut hs (I.cne y c e)⟩
  · obtain ⟨e, n, ne, nf, d⟩ := I.pin p hp
    exact ⟨(hs.2 p.1 ne).trans e, n, ne, nf, d⟩
  · have nl : ∀ c, (H c).isSome = true → c ≠ X.env.locals := fun c hc z => by
      rw [z, I.free] at hc
      cases hc
    refine (I.hok b u e).stay (fun c w' hc q => (hs.2 c (nl c ?_)).trans q) (fun _ q => q) fun _ _ q => q
    rcases hc with rfl | hc
    · rw [e]; rfl
    · rw [hc]; rfl
end

/-! ### except C as n -/
theorem matches_up {K : PySem.W.Frag} {M : Model} {A : Around} {E : Value → Shared → Prop} {h : Heap} {g : Array GenState} {d : Drawn} {t : Nat} {os : OsState} {e C CB : Addr} {oe : Obj} {Q : Bool → Shared → Prop}
    (Y : K.In h) (he : h.get? e = some oe) (hcls : oe.cls = .ref C) (hB : PySem.W.excIn K CB veB "ValueError.__new__" = true) (hm : PySem.W.mroIn K C (.ref CB) = some true)
    (hq : Q true ⟨h, g, d, t, os⟩) : wpAny M A (excMatches (.ref e) (.ref CB)) Q E ⟨h, g, d, t, os⟩ := by
  obtain ⟨bm, N, nm, qn, bs, hd, sn, sub, ab, col, dd, k0, k1, k2, k3, k5, mN, oB, _, _, oT⟩ := own_obj Y hB
  have a1 : (Value.ref CB :: bm).contains (.type "BaseException") = true := by rw [List.contains_cons, oT.hasType (b := true) (by decide), Bool.or_true]
  have LM := PySem.W.looks_mroIn (M := M) Y hm
  have nt := tc_notTuple
  unfold excMatches
  repeat (first
    | (with_reducible refine wpAny_loadPart_at he ?_; rw [hcls])
    | with_reducible refine wpAny_loadPart_at oB ?_
    | (with_reducible refine wpAny_isSubtype_exc oB ?_; rw [a1])
    | with_reducible refine PySem.W.Looks.at LM ?_
    | wp_step)
  exact hq

/-- what is known of a caught exception: its class -/
def ExcAt (e C : Addr) (h : Heap) : Prop := ∃ ox, h.get? e = some ox ∧ ox.cls = .ref C
theorem excAt_ok {P : Program} {w : World} {H : Hp} {h : Heap} {e C : Addr} (x : ExcAt e C h) : ObjOk P w H h e (.ext (ExcAt e C)) := by
  obtain ⟨ox, h1, h2⟩ := x
  exact ⟨⟨ox, h1, h2⟩, ⟨ox, h1⟩, fun _ _ ⟨o, a, b⟩ k => ⟨o, k o a, b⟩⟩
/-- the class C lies under the class CB, both the program's own, below ValueError -/
structure Under (K : PySem.W.Frag) (C CB : Addr) : Prop where
  up : PySem.W.excIn K CB veB "ValueError.__new__" = true
  mro : PySem.W.mroIn K C (.ref CB) = some true

section
variable {X : Cx}
def tTry (K : PySem.W.Frag) (i : Nat) (CB : Addr) (sp : Sp) (ta : TA) (ts : Addr → TS) : TS := fun D σ H => ta σ H fun vs H1 => sp vs H1 (fun _ H2 => D.nx σ H2) fun cls _ H2 =>
  ∃ C, cls = .ref C ∧ Under K C CB ∧ ∀ ea, H2 ea = none → ts ea { nx := fun σ' H' => D.nx (σ'.set i none) H', rt := fun _ _ => False } (σ.set i (some (.ref ea))) (upd H2 ea (.ext (ExcAt ea C)))
theorem ps_try {k : Nat} {f : Addr} {fd : FuncData} {ps : List Str} {sp : Sp} {x n bn : Str} {e : Expr} {es : List Expr} {ta : TA} {ts : Addr → TS} {i : Nat} {CB : Addr} {b0 : Stmt} {suite : List Stmt} {p pos p1 hp np p2 : Pos}
    (hst : X.stack = X.env :: X.outer) (hfr : X.env.frame = some X.env.locals) (hex : X.ex = []) (hN : X.N.Nodup) (hi : X.N[i]? = some n) (hn : X.env.scope.names.lookup n = some .local)
    (F : FnOk X.prog X.w X.K X.mg X.base (CXE X.prog X.w) k f fd ps sp) (hr : Room k X.A) (hg : Gl X x) (hm : X.mg x = some (.ref f)) (hk : PySem.W.keepIn X.K (.ref f) = true) (hb : Binds X.K fd ps [])
    (hgB : Gl X bn) (hmB : X.mg bn = some (.ref CB)) (ha : PA X.nox (e :: es) ta) (hs : ∀ ea, PSs (X.inHandler ea) (b0 :: suite) (ts ea))
    (hdb : (x == ("__debug__" : Str)) = false := by decide) (hdB : (bn == ("__debug__" : Str)) = false := by decide)
    (he : starEach (e :: es) X.env = (false, eval e X.env) :: starEach es X.env := by rfl) (hpl : (backTo pos (starEach es X.env)).any (·.1) = false := by rfl)
    (hsw : swapsWith (.Call (.Name x p) (e :: es) [] pos) none p1.line X.env = pure false := by rfl) :
    PS X (.Try [.Expr (.Call (.Name x p) (e :: es) [] pos) p1] [.ExceptHandler (some (.Name bn np)) (some n) (b0 :: suite) hp] [] [] p2) (tTry X.K i CB sp ta ts) := by
  intro pins s σ H D I h
  refine wpAny_Try_except ?_
  let EH : XK := fun cls _ H2 => ∃ C, cls = .ref C ∧ Under X.K C CB ∧ ∀ ea, H2 ea = none → ts ea { nx := fun σ' H' => D.nx (σ'.set i none) H', rt := fun _ _ => False } (σ.set i (some (.ref ea))) (upd H2 ea (.ext (ExcAt ea C)))
  have body : wpAny (model X.prog X.w) X.A (eval (.Call (.Name x p) (e :: es) [] pos) X.env) (fun _ s2 => ∃ H2, Inv X pins σ H2 s2 ∧ D.nx σ H2)
      (fun e s2 => ∃ H1 s1, Inv X pins σ H1 s1 ∧ CXE X.prog X.w X.stack H1 s1 EH e s2) s := by
    refine wpAny_Call_Name_kw (ld_glob I hg hm ?_ hdb)
    have pa := ha pos pins s σ H _ (I.wish _) h
    refine PySem.W.callWith_K (h₀ := X.base) I.ok.mod.kin hk (wpAny_mono pa (fun us s1 z => ?_) fun _ _ z => False.elim z) he hpl
    obtain ⟨vs, H1, I1, r, q⟩ := z
    have I1 : Inv X pins σ H1 s1 := I1.unwish
    refine ⟨I1.kIn, ?_⟩
    have hl : us.length = ps.length := by rw [← r.length]; exact F.len _ _ _ _ q
    have bd := hb s1 us I1.kIn (by rw [List.append_nil]; exact hl)
    rw [List.append_nil] at bd
    refine wpAny_call (codeAny_mono (F.run X.A X.stack s1 H1 ⟨us, []⟩ us vs _ EH hr I1.env0 bd r q) fun r s' hq => ?_)
    cases r with
    | error e => exact ⟨H1, s1, I1, hq⟩
    | ok fl =>
      cases fl with
      | ret u =>
        obtain ⟨v, H2, I2, _, q2⟩ := I1.after hq
        exact ⟨H2, I2, q2⟩
      | next => exact False.elim hq
      | brk => exact False.elim hq
      | cont => exact False.elim hq
  refine wpAny_execs_cons (wpAny_Expr_any (wpAny_mono body (fun v s2 z => ?_) fun e2 s2 z => ?_) I.quiet hsw)
  · obtain ⟨H2, I2, q⟩ := z
    exact wpAny_execs_nil (wpAny_execs_nil ⟨σ, H2, I2, q⟩)
  · obtain ⟨H1, s1, I1, ea, C, a0, H', B, rfl, os, bare, un, hok, fl, cov, hea, C', ec, und, q⟩ := z
    cases ec
    have I2 : Inv X pins σ H' s2 := I1.call' (ch := []) os un hok bare (fun b z => absurd z (by simp))
    have fl2 : Heap.FlyingW B (X.env :: X.outer) ea (.ref C) a0 s2.heap := by rw [← hst]; exact fl
    have no1 : ∀ u, s1.heap.get? ea ≠ some u := fun u z => by
      obtain ⟨ox, ws, e1, _, e3, _⟩ := fl2.first
      by_cases hb : ea ∈ frs X.stack
      · obtain ⟨_, o', e', hd⟩ := I2.stack.mem hb
        rw [e1] at e'
        cases e'
        exact hd _ e3
      · have e4 := cov ea ox e1 (.inl ⟨u, z⟩) hb
        rw [fl2.2.1] at e4
        cases e4
    refine wpAny_looks_onW (by rw [I.ok.frames, hst]) hfr fl2 fun h4 held up4 => ?_
    refine wpAny_landsW held fun h5 fl5 up5 => ?_
    have I5 : Inv X pins σ H' { s2 with heap := h5 } := I1.fly I2 hex cov fl5.1 (up4.trans up5)
    obtain ⟨ob, hob, hobc⟩ := fl5.there
    refine wpAny_handleBy_cons (codeAny_handlers_test (ld_glob (X := X.inHandler ea) (I5.toHandler ea) hgB hmB ?_ hdB)) (by intro z; cases z)
    refine matches_up (K := X.K) I5.kIn hob hobc und.up und.mro (codeAny_handlers_suite_as ?_)
    refine lands_againW fl5 fun h6 fl6 up6 => ?_
    have I6 : Inv X pins σ H' { s2 with heap := h6 } := I1.fly I2 hex cov fl6.1 ((up4.trans up5).trans up6)
    obtain ⟨ob6, hob6, hobc6⟩ := fl6.there
    have n0 : X.s₀.heap.get? ea = none := by
      cases z : X.s₀.heap.get? ea with
      | none => rfl
      | some u =>
        obtain ⟨u', z'⟩ := I1.base.there ea u z (by rw [hex]; simp)
        exact absurd z' (no1 u')
    have I7 : Inv X pins σ (upd H' ea (.ext (ExcAt ea C))) { s2 with heap := h6 } := by
      refine I6.track hea n0 (fun pp hpp z => ?_) (fun z => ?_) (fun y c ec z => ?_) (excAt_ok ⟨ob6, hob6, hobc6⟩)
      · obtain ⟨e1, _⟩ := I1.pin pp hpp
        rw [z] at e1
        exact no1 _ e1
      · obtain ⟨m, ⟨o, _, _, ho, _⟩, _⟩ := I1.loc
        rw [← z] at ho
        exact no1 _ ho
      · obtain ⟨v, o, ho, _⟩ := I1.cell y c ec
        rw [z] at ho
        exact no1 _ ho
    refine store_ok (X := X.inHandler ea) (I7.toHandler ea) hN hi (.inl hn) (v := .ref ea) rfl (fun s8 I8 => ?_) (.inr hn)
    refine wpAny_mono (hs ea pins s8 _ _ _ I8 (q ea hea)) (fun fl9 s9 z => ?_) fun _ _ z => False.elim z
    cases fl9 with
    | next =>
      obtain ⟨σ9, H9, I9, q9⟩ := z
      exact Inv.goes (I9.fromHandler I.ok) hN hi hn fun s10 I10 => ⟨_, H9, I10, q9⟩
    | ret u =>
      obtain ⟨_, _, _, _, _, q9⟩ := z
      exact False.elim q9
    | brk =>
      obtain ⟨_, _, _, q9⟩ := z
      exact False.elim q9
    | cont =>
      obtain ⟨_, _, _, q9⟩ := z
      exact False.elim q9
end
end L2
/-! own rule: isinstance of a caught exception of an own class -/
namespace L2
open PySem PySem.Spec PyProof.Rows BP
open PySem.Calls PySem.Builtin PySem.Builtin.ObjectAttr PySem.Builtin.Getset_descriptor
/-- what is read off the written part of an exception class of the program's own -/
structure ExcCls (K : PySem.W.Frag) (C : Addr) : Prop where
  cls : (PySem.W.clsIn K C).isSome = true
  ga : PySem.W.findIn K (.ref C) "__getattribute__" = some (some (.builtin "BaseException.__getattribute__"))
  hook : PySem.W.findIn K (.ref C) "__getattr__" = some none
  own : PySem.W.findIn K (.ref C) "__class__" = some (some (.builtin "object.__class__"))
  get : PySem.W.specialIn K (.builtin "object.__class__") "__get__" = some (some (.builtin "getset_descriptor.__get__"))
  takes : PySem.W.takesIn K (.builtin "object.__class__") = some true
  obj : PySem.W.mroIn K C (.type "object") = some true
  exc : PySem.W.mroIn K C (.type "BaseException") = some true

theorem cls_of_exc {K : PySem.W.Frag} {C : Addr} {n : String} (q : PySem.W.excIn K C veB n = true) : (PySem.W.clsIn K C).isSome = true := by
  unfold PySem.W.excIn at q
  split at q
  next dd cd sl look =>
    unfold PySem.W.clsIn
    rw [look]
    rfl
  all_goals exact absurd q Bool.false_ne_true
section
variable {K : PySem.W.Frag} {C ea : Addr} {prog : Program} {w : World} {A : Around} {E : Value → Shared → Prop} {s : Shared}
theorem excAt_type {M : Model} {h : Heap} (x : ExcAt ea C h) : PySem.W.Looks M h (typeOf (.ref ea)) (.ref C) := by
  obtain ⟨ox, h1, h2⟩ := x
  exact h2 ▸ (PySem.W.Looks.ld h1).andThen .now
theorem exc_class_get {R : Result → Shared → Prop} {tp : Value} (Y : K.In s.heap) (x : ExcAt ea C s.heap) (Z : ExcCls K C) (q : R (.ok (.ret (.ref C))) s) :
    codeAny (model prog w) A (.call (.builtin "getset_descriptor.__get__") ⟨[.builtin "object.__class__", .ref ea, tp], []⟩) R s := by
  have LT := excAt_type (M := model prog w) x
  have LO := PySem.W.looks_mroIn (M := model prog w) Y Z.obj
  obtain ⟨hh, g, dr, t, os⟩ := s
  refine codeAny_call_builtin PySem.F.slot_gs_get.plain PySem.F.entry_gs_get
    (PySem.F.slot_gs_get.check _ _ _ _ _ _ _ _ (show (⟨hh, g, dr, t, os⟩ : Shared).TypeIs (.builtin "object.__class__") "getset_descriptor" from PySem.F.typeOf_object_class) (PySem.F.args_gs_get _ _ _) ?_)
  unfold Builtin.«getset_descriptor.__get__» descrGet
  rw [PySem.W.dga_obj]
  refine wpAny_bind (wpAny_pure ?_)
  unfold descrGetter descrCheckInstance descrNameAndClass isInstance
  simp only [PySem.W.KF.owner_class]
  repeat lk
  refine ⟨Code.quiet_builtin _ (by decide +kernel), codeAny_builtin PySem.F.entry_object_class ?_⟩
  unfold Builtin.«object.__class__» shownTypeOf
  repeat lk
  exact q
theorem exc_find {M : Model} {h : Heap} (Y : K.In h) (Z : ExcCls K C) : PySem.W.Looks M h (find (.ref ea) (.ref C) "__class__") (.bind (.builtin "getset_descriptor.__get__") (.builtin "object.__class__")) := by
  have L1 := PySem.W.looks_findIn (M := M) Y Z.own
  have L2 : PySem.W.Looks M h (getOf (some (.builtin "object.__class__"))) (some (.builtin "getset_descriptor.__get__")) := PySem.W.looks_specialIn Y Z.get
  have L3 := PySem.W.looks_takesIn (M := M) Y Z.takes
  refine L1.andThen (L2.andThen ?_)
  refine PySem.W.Looks.andThen (a := some (Value.builtin "getset_descriptor.__get__", Value.builtin "object.__class__")) ?_ (PySem.W.Looks.tag .now)
  refine L3.andThen ?_
  exact .now
theorem exc_class {Q : Option Value → Shared → Prop} (Y : K.In s.heap) (x : ExcAt ea C s.heap) (Z : ExcCls K C) (q : Q (some (.ref C)) { s with toks := s.toks + 1 }) :
    wpAny (model prog w) A (getAttr? (.ref ea) "__class__") Q E s := by
  obtain ⟨hh, g, d, t, os⟩ := s
  have LT := excAt_type (M := model prog w) x
  have LG := PySem.W.looks_findIn (M := model prog w) Y Z.ga
  have LH := PySem.W.looks_findIn (M := model prog w) Y Z.hook
  have LB := PySem.W.looks_mroIn (M := model prog w) Y Z.exc
  have LF := exc_find (M := model prog w) (ea := ea) Y Z
  unfold getAttr? getAttrBy? getAttrBy
  refine wpAny_bind (wpAny_mkText (wpAny_bind (wpAny_attempt ?_)))
  refine wpAny_holding (wpAny_bind (LT.at ?_))
  refine wpAny_bind (LG.at ?_)
  show wpAny _ _ (getAttrByItsOwn _ _ _ _ _ _) _ _ _
  unfold getAttrByItsOwn
  refine wpAny_bind (LH.at ?_)
  refine wpAny_bind (wpAny_attempt (wpAny_holding ?_))
  show wpAny _ _ (boundAndCalled _ _ _) _ _ _
  unfold boundAndCalled
  rw [PySem.F.excAttr_ValueError.ga.bind (.ref ea)]
  refine wpAny_bind (wpAny_pure ?_)
  refine wpAny_call (codeAny_call_builtin PySem.F.excAttr_ValueError.ga.plain PySem.F.entry_bexc_ga ?_)
  have kd : builtinKind "BaseException.__getattribute__" = some .slot := by
    decide +kernel
  have sp : splitId "BaseException.__getattribute__" = some ("BaseException", "__getattribute__") := by
    decide +kernel
  have ok := PySem.F.args_bexc_ga (.ref ea) (.str "__class__" t)
  simp only [checkBuiltinCall, kd, sp]
  refine wpAny_bind ?_
  unfold isInstance
  repeat lk
  refine wpAny_run (h := none) (c := .call (.builtin "getset_descriptor.__get__") ⟨[.builtin "object.__class__", .ref ea, .ref C], []⟩) ?_
  refine exc_class_get (s := ⟨hh, g, d, t + 1, os⟩) Y x Z ?_
  repeat lk
  exact q
theorem kitx_exc (Z : ExcCls K C) : PySem.W.KitX K (.ref ea) (.ref C) (ExcAt ea C) where
  ty := fun _ _ _ x => excAt_type x
  it := fun _ _ Y _ => by
    have z := Z.cls
    unfold PySem.W.clsIn at z
    split at z
    next c' d' cd' sl' ho =>
      intro A' Q' E' s' k q
      unfold isType loadHead
      refine wpAny_bind ?_
      exact wpAny_loadPart (k _ _ (Y _ _ ho)) (wpAny_pure q)
    next => exact absurd z (by decide)
  ne := fun h tp dd its n sl Y htp => by
    have z := Z.cls
    refine Bool.eq_false_iff.mpr fun q => ?_
    have e : C = tp := Value.ref.inj (beq_iff_eq.mp q)
    subst e
    unfold PySem.W.clsIn at z
    split at z
    next c' d' cd' sl' ho =>
      have y := Eq.trans (Eq.symm (Y _ _ ho)) htp
      cases y
    next => exact absurd z (by decide)
  ca := fun Y x q => exc_class Y x Z q
end
def clsV : V → Option Value
  | .ref D => some (.ref D)
  | .ty t => some (.type t)
  | _ => none
theorem call_isiE {X : Cx} : CallR X (.builtin "isinstance") (fun xs H Q => ∃ ea C c cv b, xs = [.ref ea, c] ∧ clsV c = some cv ∧ H ea = some (.ext (ExcAt ea C)) ∧ ExcCls X.K C ∧ PySem.W.kitOne X.K (.ref C) cv = some b ∧ Q (.bl b) H) := by
  intro pins s σ H xs us Q I r h
  obtain ⟨ea, C, c, cv, b, rfl, hc, he, Z, kt, q⟩ := h
  obtain ⟨u, u', rfl, rx, rc⟩ := vals2 r
  cases rx
  have ev : u' = cv := by
    cases c with
    | ref D => cases rc; exact Option.some.inj hc
    | ty t => cases rc; exact Option.some.inj hc
    | _ => exact absurd hc (by simp [clsV])
  subst ev
  obtain ⟨x, _, _⟩ := (show ObjOk X.prog X.w H s.heap ea (.ext (ExcAt ea C)) from I.hok ea _ he)
  exact PySem.W.kia_one (kitx_exc Z) I.kIn x kt (fun z => nomatch z) fun tk => ⟨.bl b, H, I.tok tk, rfl, q⟩
theorem passN {P : Program} {w : World} {X : Cx} : Passes (CXE P w) X E0 := fun _ _ _ _ _ _ _ h => by
  obtain ⟨_, _, _, _, _, _, _, _, _, _, _, _, _, hE⟩ := h
  exact hE.elim
theorem boot_ValueError : bootBuiltins "ValueError" = some (.type "ValueError") := PyProof.Rows.Boot.«ValueError»
end L2
/-! own rules: a list's slice by a step; isinstance of a caught exception by a tuple of classes that are none of its -/
namespace L2
open PySem PySem.Spec PyProof.Rows BP
section
variable {X : Cx} {e stp : Expr} {te : TE} {lo hi : Option Expr} {tl th ts : TO} {pos p2 : Pos}
/-- items picked by numbers -/
def pickV (xs : List V) (ns : List Nat) : List V := ns.filterMap (xs[·]?)
theorem pick_vals {xs : List V} {its : List Value} (r : Vals xs its) : ∀ ns : List Nat, Vals (pickV xs ns) (ns.filterMap (its.toArray[·]?))
  | [] => .nil
  | n :: ns => by
    have ih := pick_vals r ns
    unfold pickV at ih ⊢
    cases c : xs[n]? with
    | none =>
      have c2 : its.toArray[n]? = none := by rw [List.getElem?_toArray]; exact r.none_of c
      rw [List.filterMap_cons_none c, List.filterMap_cons_none c2]
      exact ih
    | some x =>
      obtain ⟨u, eu, rx⟩ := r.get c
      have c2 : its.toArray[n]? = some u := by rw [List.getElem?_toArray]; exact eu
      rw [List.filterMap_cons_some c, List.filterMap_cons_some c2]
      exact .cons rx ih
theorem pick_ints (zs : List Int) : ∀ ns : List Nat, ∃ ks : List Int, pickV (zs.map V.int) ns = ks.map V.int
  | [] => ⟨[], rfl⟩
  | n :: ns => by
    obtain ⟨ks, ek⟩ := pick_ints zs ns
    unfold pickV at ek ⊢
    cases c : (zs.map V.int)[n]? with
    | none => exact ⟨ks, by rw [List.filterMap_cons_none c, ek]⟩
    | some x =>
      rw [List.getElem?_map] at c
      cases z : zs[n]? with
      | none => rw [z] at c; cases c
      | some i =>
        rw [z] at c
        cases c
        refine ⟨i :: ks, ?_⟩
        rw [List.filterMap_cons_some (b := V.int i) (by rw [List.getElem?_map, z]; rfl), ek]
        rfl
/-- xs[lo:hi:step]: a new list of some of its items -/
def tStep (K : PySem.W.Frag) (te : TE) (tl th ts : TO) : TE := fun σ H Q => te σ H fun x H1 => tl σ H1 fun _ H2 => th σ H2 fun _ H3 => ts σ H3 fun k H4 =>
  k ≠ some 0 ∧ ∃ a xs, x = .ref a ∧ SqL K H4 a xs ∧ ∀ ns : List Nat, (pickV xs ns).length ≤ xs.length → ∀ p, H4 p = none → Q (.ref p) (upd H4 p (.lst (pickV xs ns)))
theorem pe_step (he : PE X e te) (hl : PO X lo tl) (hu : PO X hi th) (hk : PO X (some stp) ts) : PE X (.Subscript e (.Slice lo hi (some stp) p2) pos) (tStep X.K te tl th ts) := by
  intro pins s σ H Q I h
  refine Subscript_ (thn (he pins s σ H _ I h) fun v s1 ⟨x, H1, I1, r1, q1⟩ => ?_)
  refine wpAny_Slice (thn (hl pins s1 σ H1 _ I1 q1) fun vl s2 ⟨l, H2, I2, pl, q2⟩ => thn (hu pins s2 σ H2 _ I2 q2) fun vu s3 ⟨u, H3, I3, pu, q3⟩ => thn (hk pins s3 σ H3 _ I3 q3) fun vk s4 ⟨k, H4, I4, pk, q4⟩ => ?_)
  obtain ⟨k0, a, xs, rfl, hx, q⟩ := q4
  cases r1
  have I5 : Inv X pins σ H4 { s4 with heap := s4.heap.push { cls := .type "slice", data := .fields #[vl, vu, vk] } } := I4.kept (t' := s4.toks) fun b ob z => Heap.get?_push_of_some _ z
  obtain ⟨its, r, ht, hz⟩ := I5.list hx
  have hlen := r.length
  show wpAny (model X.prog X.w) X.A (subscriptTail e (.Slice lo hi (some stp) p2) (.ref a) (.ref s4.heap.objs.size)) (EP X pins σ Q) X.xe { s4 with heap := s4.heap.push { cls := .type "slice", data := .fields #[vl, vu, vk] } }
  refine tail_any (ops := [.ref a, .ref s4.heap.objs.size]) ht.isList.typeIs slot_list_getitem.lookup (wpAny_getItem_list_slice ht.isList (Heap.IsSliceOf.new ..) pl pu pk k0 ?_ (by rw [List.size_toArray] <;> omega)) (by with_unfolding_all rfl)
  have rp := pick_vals r (sliceRange (sliceBounds l u k its.toArray.size).1 (sliceBounds l u k its.toArray.size).2.1 (sliceBounds l u k its.toArray.size).2.2)
  have sz := slicePick_size_le its.toArray l u k
  have le : (pickV xs (sliceRange (sliceBounds l u k its.toArray.size).1 (sliceBounds l u k its.toArray.size).2.1 (sliceBounds l u k its.toArray.size).2.2)).length ≤ xs.length := by
    rw [rp.length, hlen]
    unfold slicePick at sz
    rw [List.size_toArray, List.size_toArray] at sz
    exact sz
  refine ⟨.ref _, _, I5.laid (t' := s4.toks) (o := .lst (pickV xs (sliceRange (sliceBounds l u k its.toArray.size).1 (sliceBounds l u k its.toArray.size).2.1 (sliceBounds l u k its.toArray.size).2.2))) (fun b ob z => Heap.get?_push_of_some _ z) (Nat.le_refl _) ?_, rfl, q _ le _ (I5.hok.fresh (Nat.le_refl _))⟩
  exact ⟨Nat.le_trans le hz, _, 0, rp, Heap.get?_push_size _ rfl⟩
theorem kit_none {K : PySem.W.Frag} {C : Addr} : ∀ {Cs : List Addr}, (∀ D ∈ Cs, PySem.W.kitOne K (.ref C) (.ref D) = some false) → PySem.W.kitAny K (.ref C) (Cs.map Value.ref) = some false
  | [], _ => rfl
  | D :: Cs, h => by
    rw [List.map_cons]
    unfold PySem.W.kitAny
    rw [h D (List.mem_cons_self ..)]
    exact kit_none fun E hE => h E (List.mem_cons_of_mem _ hE)
theorem vals_refs : ∀ {Cs : List Addr} {us : List Value}, Vals (Cs.map V.ref) us → us = Cs.map Value.ref
  | [], _, .nil => rfl
  | _ :: _, _, .cons h r => by
    cases h
    rw [vals_refs r]
    rfl
theorem call_isiN : CallR X (.builtin "isinstance") (fun xs H Q => ∃ (ea C tp : Addr) (Cs : List Addr), xs = [.ref ea, .ref tp] ∧ H ea = some (.ext (ExcAt ea C)) ∧ ExcCls X.K C ∧ SqT X.K H tp (Cs.map V.ref) ∧ (∀ D ∈ Cs, PySem.W.kitOne X.K (.ref C) (.ref D) = some false) ∧ Q (.bl false) H) := by
  intro pins s σ H xs us Q I r h
  obtain ⟨ea, C, tp, Cs, rfl, he, Z, ht, kt, q⟩ := h
  obtain ⟨u, u', rfl, rx, rc⟩ := vals2 r
  cases rx
  cases rc
  obtain ⟨x, _, _⟩ := (show ObjOk X.prog X.w H s.heap ea (.ext (ExcAt ea C)) from I.hok ea _ he)
  obtain ⟨its, rv, ⟨o, ho, hc, hd⟩, _⟩ := I.tuple ht
  have ei := vals_refs rv
  subst ei
  obtain ⟨c, d, dt, sl⟩ := o
  cases hc
  obtain ⟨n, hn⟩ := hd
  cases hn
  exact PySem.W.kia_tup (kitx_exc Z) I.kIn x ho (kit_none kt) (fun z => nomatch z) fun tk => ⟨.bl false, H, I.tok tk, rfl, q⟩
end
end L2
namespace BP
open PySem L2
theorem sc_law_cell_at : FnScope ["_law_script", "_law_k"] ["_law_script", "_law_k"] (defScope s_law_cell_at) := ⟨rfl, rfl, rfl, by decide +kernel, rfl, by decide +kernel, by decide +kernel⟩
theorem sc_law_mixed : FnScope ["_law_cell", "_law_k", "_law_number"] ["_law_cell", "_law_k"] (defScope s_law_mixed) := ⟨rfl, rfl, rfl, by decide +kernel, rfl, by decide +kernel, by decide +kernel⟩
theorem sc_law_wide : FnScope ["_law_number", "_law_k", "_law_wide_here", "_law_j"] ["_law_number", "_law_k"] (defScope s_law_wide) := ⟨rfl, rfl, rfl, by decide +kernel, rfl, by decide +kernel, by decide +kernel⟩
theorem sc_law_seeds : FnScope ["_law_script", "_law_start", "_law_many", "_law_total", "_law_rest", "_law_at", "_law_cell", "_law_seeds_here", "_law_k"] ["_law_script", "_law_start", "_law_many"] (defScope s_law_seeds) := ⟨rfl, rfl, rfl, by decide +kernel, rfl, by decide +kernel, by decide +kernel⟩
theorem sc_law_part : FnScope ["_law_top", "_law_bottom", "_law_rest", "_law_by"] ["_law_top", "_law_bottom"] (defScope s_law_part) := ⟨rfl, rfl, rfl, by decide +kernel, rfl, by decide +kernel, by decide +kernel⟩
theorem sc_law_taken : FnScope ["_law_number", "_law_great", "_law_top", "_law_way", "_law_far", "_law_tail"] ["_law_number", "_law_great"] (defScope s_law_taken) := ⟨rfl, rfl, rfl, by decide +kernel, rfl, by decide +kernel, by decide +kernel⟩
theorem sc_law_small : FnScope ["_law_number", "_law_great"] ["_law_number", "_law_great"] (defScope s_law_small) := ⟨rfl, rfl, rfl, by decide +kernel, rfl, by decide +kernel, by decide +kernel⟩
theorem sc_law_unit : FnScope ["_law_number", "_law_places", "_law_bent", "_law_great", "_law_kind", "_law_way", "_law_more_here", "_law_left", "_law_terms", "_law_k", "_law_coin", "_law_spot", "_law_share"] ["_law_number", "_law_places", "_law_bent", "_law_great"] (defScope s_law_unit) := ⟨rfl, rfl, rfl, by decide +kernel, rfl, by decide +kernel, by decide +kernel⟩
theorem sc_law_net : FnScope ["_law_script", "_law_start", "_law_most_bends", "_law_seeds_here", "_law_lead", "_law_more_here", "_law_many", "_law_great", "_law_size", "_law_units", "_law_bends", "_law_number", "_law_unit_here", "_law_outs", "_law_k"] ["_law_script", "_law_start", "_law_most_bends"] (defScope s_law_net) := ⟨rfl, rfl, rfl, by decide +kernel, rfl, by decide +kernel, by decide +kernel⟩
theorem sc_less : FnScope ["one", "other"] ["one", "other"] (defScope s_less) := ⟨rfl, rfl, rfl, by decide +kernel, rfl, by decide +kernel, by decide +kernel⟩
theorem sc_plain : FnScope ["one"] ["one"] (defScope s_plain) := ⟨rfl, rfl, rfl, by decide +kernel, rfl, by decide +kernel, by decide +kernel⟩
theorem sc_common : FnScope ["one", "other", "rest"] ["one", "other"] (defScope s_common) := ⟨rfl, rfl, rfl, by decide +kernel, rfl, by decide +kernel, by decide +kernel⟩
theorem sc_is_whole : FnScope ["thing"] ["thing"] (defScope s_is_whole) := ⟨rfl, rfl, rfl, by decide +kernel, rfl, by decide +kernel, by decide +kernel⟩
theorem sc_is_ratio : FnScope ["thing"] ["thing"] (defScope s_is_ratio) := ⟨rfl, rfl, rfl, by decide +kernel, rfl, by decide +kernel, by decide +kernel⟩
theorem sc_checked_side : FnScope ["side"] ["side"] (defScope s_checked_side) := ⟨rfl, rfl, rfl, by decide +kernel, rfl, by decide +kernel, by decide +kernel⟩
theorem sc_Box_init : FnScope ["self", "sides"] ["self", "sides"] (defScope s_Box_init) := ⟨rfl, rfl, rfl, by decide +kernel, rfl, by decide +kernel, by decide +kernel⟩
theorem sc_checked_place : FnScope ["place", "end"] ["place", "end"] (defScope s_checked_place) := ⟨rfl, rfl, rfl, by decide +kernel, rfl, by decide +kernel, by decide +kernel⟩
theorem sc_checked_term : FnScope ["term", "end"] ["term", "end"] (defScope s_checked_term) := ⟨rfl, rfl, rfl, by decide +kernel, rfl, by decide +kernel, by decide +kernel⟩
theorem sc_checked_sum : FnScope ["constant", "terms", "end", "found"] ["constant", "terms", "end"] (defScope s_checked_sum) := ⟨rfl, rfl, rfl, by decide +kernel, rfl, by decide +kernel, by decide +kernel⟩
theorem sc_checked_unit : FnScope ["unit", "end"] ["unit", "end"] (defScope s_checked_unit) := ⟨rfl, rfl, rfl, by decide +kernel, rfl, by decide +kernel, by decide +kernel⟩
theorem sc_checked_units : FnScope ["units", "many", "found"] ["units", "many"] (defScope s_checked_units) := ⟨rfl, rfl, rfl, by decide +kernel, rfl, by decide +kernel, by decide +kernel⟩
theorem sc_checked_outs : FnScope ["outs", "end"] ["outs", "end"] (defScope s_checked_outs) := ⟨rfl, rfl, rfl, by decide +kernel, rfl, by decide +kernel, by decide +kernel⟩
theorem sc_Net_init : FnScope ["self", "many", "units", "outs"] ["self", "many", "units", "outs"] (defScope s_Net_init) := ⟨rfl, rfl, rfl, by decide +kernel, rfl, by decide +kernel, by decide +kernel⟩
theorem sc_law_more : FnScope ["_law_told", "_law_size", "_law_many", "_law_units", "_law_outs"] ["_law_told", "_law_size"] (defScope s_law_more) := ⟨rfl, rfl, rfl, by decide +kernel, rfl, by decide +kernel, by decide +kernel⟩
theorem sc_law_sum : FnScope ["_law_one", "_law_other", "_law_top"] ["_law_one", "_law_other"] (defScope s_law_sum) := ⟨rfl, rfl, rfl, by decide +kernel, rfl, by decide +kernel, by decide +kernel⟩
theorem sc_law_sides : FnScope ["_law_script", "_law_start", "_law_many", "_law_sides_here", "_law_number", "_law_low", "_law_wide_here"] ["_law_script", "_law_start", "_law_many"] (defScope s_law_sides) := ⟨rfl, rfl, rfl, by decide +kernel, rfl, by decide +kernel, by decide +kernel⟩
theorem sc_told_unit : FnScope ["unit"] ["unit"] (defScope s_told_unit) := ⟨rfl, rfl, rfl, by decide +kernel, rfl, by decide +kernel, by decide +kernel⟩
theorem sc_Net_told : FnScope ["self"] ["self"] (defScope s_Net_told) := ⟨rfl, rfl, rfl, by decide +kernel, rfl, by decide +kernel, by decide +kernel⟩
theorem sc_moved_place : FnScope ["place", "many", "by"] ["place", "many", "by"] (defScope s_moved_place) := ⟨rfl, rfl, rfl, by decide +kernel, rfl, by decide +kernel, by decide +kernel⟩
theorem sc_moved_unit : FnScope ["unit", "many", "by"] ["unit", "many", "by"] (defScope s_moved_unit) := ⟨rfl, rfl, rfl, by decide +kernel, rfl, by decide +kernel, by decide +kernel⟩
theorem sc_joined : FnScope ["net", "other", "one", "two", "many", "by", "units"] ["net", "other"] (defScope s_joined) := ⟨rfl, rfl, rfl, by decide +kernel, rfl, by decide +kernel, by decide +kernel⟩
theorem sc_alike : FnScope ["net", "other", "box", "one", "two", "both", "outs", "half", "trees", "k", "places", "under", "above"] ["net", "other", "box"] (defScope s_alike) := ⟨rfl, rfl, rfl, by decide +kernel, rfl, by decide +kernel, by decide +kernel⟩
theorem sc_law_kinds : FnScope ["_law_net_here", "_law_beside", "_law_box", "_law_seen", "e"] ["_law_net_here", "_law_beside", "_law_box"] (defScope s_law_kinds) := ⟨rfl, rfl, rfl, by decide +kernel, rfl, by decide +kernel, by decide +kernel⟩
theorem sc_law : FnScope ["_law_script", "_law_one", "_law_other", "_law_number", "_law_size", "_law_box", "_law_net_here", "_law_beside"] ["_law_script"] (defScope s_law) := ⟨rfl, rfl, rfl, by decide +kernel, rfl, by decide +kernel, by decide +kernel⟩
structure Adr where
  f_law_cell_at : Addr
  d_law_cell_at : FuncData
  f_law_mixed : Addr
  d_law_mixed : FuncData
  f_law_wide : Addr
  d_law_wide : FuncData
  f_law_seeds : Addr
  d_law_seeds : FuncData
  f_law_part : Addr
  d_law_part : FuncData
  f_law_taken : Addr
  d_law_taken : FuncData
  f_law_small : Addr
  d_law_small : FuncData
  f_law_unit : Addr
  d_law_unit : FuncData
  f_law_net : Addr
  d_law_net : FuncData
  f_less : Addr
  d_less : FuncData
  f_plain : Addr
  d_plain : FuncData
  f_common : Addr
  d_common : FuncData
  f_is_whole : Addr
  d_is_whole : FuncData
  f_is_ratio : Addr
  d_is_ratio : FuncData
  f_checked_side : Addr
  d_checked_side : FuncData
  f_Box_init : Addr
  d_Box_init : FuncData
  f_checked_place : Addr
  d_checked_place : FuncData
  f_checked_term : Addr
  d_checked_term : FuncData
  f_checked_sum : Addr
  d_checked_sum : FuncData
  f_checked_unit : Addr
  d_checked_unit : FuncData
  f_checked_units : Addr
  d_checked_units : FuncData
  f_checked_outs : Addr
  d_checked_outs : FuncData
  f_Net_init : Addr
  d_Net_init : FuncData
  f_law_more : Addr
  d_law_more : FuncData
  f_law_sum : Addr
  d_law_sum : FuncData
  f_law_sides : Addr
  d_law_sides : FuncData
  f_told_unit : Addr
  d_told_unit : FuncData
  f_Net_told : Addr
  d_Net_told : FuncData
  f_moved_place : Addr
  d_moved_place : FuncData
  f_moved_unit : Addr
  d_moved_unit : FuncData
  f_joined : Addr
  d_joined : FuncData
  f_alike : Addr
  d_alike : FuncData
  f_law_kinds : Addr
  d_law_kinds : FuncData
  f_law : Addr
  d_law : FuncData
  c_BendError : Addr
  c_NoRatio : Addr
  c_NoText : Addr
  c_NoBox : Addr
  c_NoNet : Addr
  c_Unlike : Addr
  c_NoLine : Addr
  c_Box : Addr
  c_Net : Addr
  t_MOST_SIDES : Tok
  t_MOST_BENDS : Tok
  t_MOST_UNITS : Tok
  t_MOST_OUTS : Tok
  t_MOST_INS : Tok
structure Txt (K : PySem.W.Frag) (mg : Str → Option Value) (a : Adr) : Prop where
  F_law_cell_at : Fun K "_law_cell_at" "_law_cell_at" s_law_cell_at a.f_law_cell_at a.d_law_cell_at
  m_law_cell_at : mg "_law_cell_at" = some (.ref a.f_law_cell_at)
  b_law_cell_at : Binds K a.d_law_cell_at ["_law_script", "_law_k"] []
  F_law_mixed : Fun K "_law_mixed" "_law_mixed" s_law_mixed a.f_law_mixed a.d_law_mixed
  m_law_mixed : mg "_law_mixed" = some (.ref a.f_law_mixed)
  b_law_mixed : Binds K a.d_law_mixed ["_law_cell", "_law_k"] []
  F_law_wide : Fun K "_law_wide" "_law_wide" s_law_wide a.f_law_wide a.d_law_wide
  m_law_wide : mg "_law_wide" = some (.ref a.f_law_wide)
  b_law_wide : Binds K a.d_law_wide ["_law_number", "_law_k"] []
  F_law_seeds : Fun K "_law_seeds" "_law_seeds" s_law_seeds a.f_law_seeds a.d_law_seeds
  m_law_seeds : mg "_law_seeds" = some (.ref a.f_law_seeds)
  b_law_seeds : Binds K a.d_law_seeds ["_law_script", "_law_start", "_law_many"] []
  F_law_part : Fun K "_law_part" "_law_part" s_law_part a.f_law_part a.d_law_part
  m_law_part : mg "_law_part" = some (.ref a.f_law_part)
  b_law_part : Binds K a.d_law_part ["_law_top", "_law_bottom"] []
  F_law_taken : Fun K "_law_taken" "_law_taken" s_law_taken a.f_law_taken a.d_law_taken
  m_law_taken : mg "_law_taken" = some (.ref a.f_law_taken)
  b_law_taken : Binds K a.d_law_taken ["_law_number", "_law_great"] []
  F_law_small : Fun K "_law_small" "_law_small" s_law_small a.f_law_small a.d_law_small
  m_law_small : mg "_law_small" = some (.ref a.f_law_small)
  b_law_small : Binds K a.d_law_small ["_law_number", "_law_great"] []
  F_law_unit : Fun K "_law_unit" "_law_unit" s_law_unit a.f_law_unit a.d_law_unit
  m_law_unit : mg "_law_unit" = some (.ref a.f_law_unit)
  b_law_unit : Binds K a.d_law_unit ["_law_number", "_law_places", "_law_bent", "_law_great"] []
  F_law_net : Fun K "_law_net" "_law_net" s_law_net a.f_law_net a.d_law_net
  m_law_net : mg "_law_net" = some (.ref a.f_law_net)
  b_law_net : Binds K a.d_law_net ["_law_script", "_law_start", "_law_most_bends"] []
  F_less : Fun K "less" "less" s_less a.f_less a.d_less
  m_less : mg "less" = some (.ref a.f_less)
  b_less : Binds K a.d_less ["one", "other"] []
  F_plain : Fun K "plain" "plain" s_plain a.f_plain a.d_plain
  m_plain : mg "plain" = some (.ref a.f_plain)
  b_plain : Binds K a.d_plain ["one"] []
  F_common : Fun K "common" "common" s_common a.f_common a.d_common
  m_common : mg "common" = some (.ref a.f_common)
  b_common : Binds K a.d_common ["one", "other"] []
  F_is_whole : Fun K "is_whole" "is_whole" s_is_whole a.f_is_whole a.d_is_whole
  m_is_whole : mg "is_whole" = some (.ref a.f_is_whole)
  b_is_whole : Binds K a.d_is_whole ["thing"] []
  F_is_ratio : Fun K "is_ratio" "is_ratio" s_is_ratio a.f_is_ratio a.d_is_ratio
  m_is_ratio : mg "is_ratio" = some (.ref a.f_is_ratio)
  b_is_ratio : Binds K a.d_is_ratio ["thing"] []
  F_checked_side : Fun K "checked_side" "checked_side" s_checked_side a.f_checked_side a.d_checked_side
  m_checked_side : mg "checked_side" = some (.ref a.f_checked_side)
  b_checked_side : Binds K a.d_checked_side ["side"] []
  F_Box_init : Fun K "__init__" "Box.__init__" s_Box_init a.f_Box_init a.d_Box_init
  M_Box : Mk K a.c_Box a.f_Box_init
  b_Box_init : Binds K a.d_Box_init ["self", "sides"] []
  F_checked_place : Fun K "checked_place" "checked_place" s_checked_place a.f_checked_place a.d_checked_place
  m_checked_place : mg "checked_place" = some (.ref a.f_checked_place)
  b_checked_place : Binds K a.d_checked_place ["place", "end"] []
  F_checked_term : Fun K "checked_term" "checked_term" s_checked_term a.f_checked_term a.d_checked_term
  m_checked_term : mg "checked_term" = some (.ref a.f_checked_term)
  b_checked_term : Binds K a.d_checked_term ["term", "end"] []
  F_checked_sum : Fun K "checked_sum" "checked_sum" s_checked_sum a.f_checked_sum a.d_checked_sum
  m_checked_sum : mg "checked_sum" = some (.ref a.f_checked_sum)
  b_checked_sum : Binds K a.d_checked_sum ["constant", "terms", "end"] []
  F_checked_unit : Fun K "checked_unit" "checked_unit" s_checked_unit a.f_checked_unit a.d_checked_unit
  m_checked_unit : mg "checked_unit" = some (.ref a.f_checked_unit)
  b_checked_unit : Binds K a.d_checked_unit ["unit", "end"] []
  F_checked_units : Fun K "checked_units" "checked_units" s_checked_units a.f_checked_units a.d_checked_units
  m_checked_units : mg "checked_units" = some (.ref a.f_checked_units)
  b_checked_units : Binds K a.d_checked_units ["units", "many"] []
  F_checked_outs : Fun K "checked_outs" "checked_outs" s_checked_outs a.f_checked_outs a.d_checked_outs
  m_checked_outs : mg "checked_outs" = some (.ref a.f_checked_outs)
  b_checked_outs : Binds K a.d_checked_outs ["outs", "end"] []
  F_Net_init : Fun K "__init__" "Net.__init__" s_Net_init a.f_Net_init a.d_Net_init
  M_Net : Mk K a.c_Net a.f_Net_init
  b_Net_init : Binds K a.d_Net_init ["self", "many", "units", "outs"] []
  F_law_more : Fun K "_law_more" "_law_more" s_law_more a.f_law_more a.d_law_more
  m_law_more : mg "_law_more" = some (.ref a.f_law_more)
  b_law_more : Binds K a.d_law_more ["_law_told", "_law_size"] []
  F_law_sum : Fun K "_law_sum" "_law_sum" s_law_sum a.f_law_sum a.d_law_sum
  m_law_sum : mg "_law_sum" = some (.ref a.f_law_sum)
  b_law_sum : Binds K a.d_law_sum ["_law_one", "_law_other"] []
  F_law_sides : Fun K "_law_sides" "_law_sides" s_law_sides a.f_law_sides a.d_law_sides
  m_law_sides : mg "_law_sides" = some (.ref a.f_law_sides)
  b_law_sides : Binds K a.d_law_sides ["_law_script", "_law_start", "_law_many"] []
  F_told_unit : Fun K "told_unit" "told_unit" s_told_unit a.f_told_unit a.d_told_unit
  m_told_unit : mg "told_unit" = some (.ref a.f_told_unit)
  b_told_unit : Binds K a.d_told_unit ["unit"] []
  F_Net_told : Fun K "told" "Net.told" s_Net_told a.f_Net_told a.d_Net_told
  t_Net_told : Meth K a.c_Net "told" a.f_Net_told
  b_Net_told : Binds K a.d_Net_told ["self"] []
  F_moved_place : Fun K "moved_place" "moved_place" s_moved_place a.f_moved_place a.d_moved_place
  m_moved_place : mg "moved_place" = some (.ref a.f_moved_place)
  b_moved_place : Binds K a.d_moved_place ["place", "many", "by"] []
  F_moved_unit : Fun K "moved_unit" "moved_unit" s_moved_unit a.f_moved_unit a.d_moved_unit
  m_moved_unit : mg "moved_unit" = some (.ref a.f_moved_unit)
  b_moved_unit : Binds K a.d_moved_unit ["unit", "many", "by"] []
  F_joined : Fun K "joined" "joined" s_joined a.f_joined a.d_joined
  m_joined : mg "joined" = some (.ref a.f_joined)
  b_joined : Binds K a.d_joined ["net", "other"] []
  F_alike : Fun K "alike" "alike" s_alike a.f_alike a.d_alike
  m_alike : mg "alike" = some (.ref a.f_alike)
  b_alike : Binds K a.d_alike ["net", "other", "box"] []
  F_law_kinds : Fun K "_law_kinds" "_law_kinds" s_law_kinds a.f_law_kinds a.d_law_kinds
  m_law_kinds : mg "_law_kinds" = some (.ref a.f_law_kinds)
  b_law_kinds : Binds K a.d_law_kinds ["_law_net_here", "_law_beside", "_law_box"] []
  F_law : Fun K "law" "law" s_law a.f_law a.d_law
  m_law : mg "law" = some (.ref a.f_law)
  b_law : Binds K a.d_law ["_law_script"] []
  m_len : mg "len" = none
  m_range : mg "range" = none
  m_enumerate : mg "enumerate" = none
  m_abs : mg "abs" = none
  m_divmod : mg "divmod" = none
  m_list : mg "list" = none
  m_min : mg "min" = none
  m_int : mg "int" = none
  m_isinstance : mg "isinstance" = none
  m_bool : mg "bool" = none
  m_tuple : mg "tuple" = none
  m_set : mg "set" = none
  m_str : mg "str" = none
  m_ValueError : mg "ValueError" = none
  m_sum : mg "sum" = none
  m_BendError : mg "BendError" = some (.ref a.c_BendError)
  m_NoRatio : mg "NoRatio" = some (.ref a.c_NoRatio)
  m_NoText : mg "NoText" = some (.ref a.c_NoText)
  m_NoBox : mg "NoBox" = some (.ref a.c_NoBox)
  m_NoNet : mg "NoNet" = some (.ref a.c_NoNet)
  m_Unlike : mg "Unlike" = some (.ref a.c_Unlike)
  m_NoLine : mg "NoLine" = some (.ref a.c_NoLine)
  x_BendError : PySem.W.excIn K a.c_BendError veB "ValueError.__new__" = true
  x_Unlike : PySem.W.excIn K a.c_Unlike veB "ValueError.__new__" = true
  u_Unlike : PySem.W.mroIn K a.c_Unlike (.ref a.c_BendError) = some true
  e_Unlike : ExcCls K a.c_Unlike
  k_ValueError : PySem.W.kitOne K (.ref a.c_Unlike) (.type "ValueError") = some true
  k_NoRatio : PySem.W.kitOne K (.ref a.c_Unlike) (.ref a.c_NoRatio) = some false
  k_NoText : PySem.W.kitOne K (.ref a.c_Unlike) (.ref a.c_NoText) = some false
  k_NoBox : PySem.W.kitOne K (.ref a.c_Unlike) (.ref a.c_NoBox) = some false
  k_NoNet : PySem.W.kitOne K (.ref a.c_Unlike) (.ref a.c_NoNet) = some false
  k_Unlike : PySem.W.kitOne K (.ref a.c_Unlike) (.ref a.c_Unlike) = some true
  k_NoLine : PySem.W.kitOne K (.ref a.c_Unlike) (.ref a.c_NoLine) = some false
  x_NoNet : PySem.W.excIn K a.c_NoNet veB "ValueError.__new__" = true
  u_NoNet : PySem.W.mroIn K a.c_NoNet (.ref a.c_BendError) = some true
  e_NoNet : ExcCls K a.c_NoNet
  k_NoNet_ValueError : PySem.W.kitOne K (.ref a.c_NoNet) (.type "ValueError") = some true
  k_NoNet_NoRatio : PySem.W.kitOne K (.ref a.c_NoNet) (.ref a.c_NoRatio) = some false
  k_NoNet_NoText : PySem.W.kitOne K (.ref a.c_NoNet) (.ref a.c_NoText) = some false
  k_NoNet_NoBox : PySem.W.kitOne K (.ref a.c_NoNet) (.ref a.c_NoBox) = some false
  k_NoNet_NoNet : PySem.W.kitOne K (.ref a.c_NoNet) (.ref a.c_NoNet) = some true
  k_NoNet_Unlike : PySem.W.kitOne K (.ref a.c_NoNet) (.ref a.c_Unlike) = some false
  k_NoNet_NoLine : PySem.W.kitOne K (.ref a.c_NoNet) (.ref a.c_NoLine) = some false
  C_Box : Cls K a.c_Box
  m_Box : mg "Box" = some (.ref a.c_Box)
  n_Box_sides : NoAttr K a.c_Box "sides"
  C_Net : Cls K a.c_Net
  m_Net : mg "Net" = some (.ref a.c_Net)
  n_Net_many : NoAttr K a.c_Net "many"
  n_Net_units : NoAttr K a.c_Net "units"
  n_Net_outs : NoAttr K a.c_Net "outs"
  m_MOST_SIDES : mg "MOST_SIDES" = some (.int 6 a.t_MOST_SIDES)
  m_MOST_BENDS : mg "MOST_BENDS" = some (.int 20 a.t_MOST_BENDS)
  m_MOST_UNITS : mg "MOST_UNITS" = some (.int 80 a.t_MOST_UNITS)
  m_MOST_OUTS : mg "MOST_OUTS" = some (.int 12 a.t_MOST_OUTS)
  m_MOST_INS : mg "MOST_INS" = some (.int 6 a.t_MOST_INS)

section
variable {P : Program} {w : World} {K : PySem.W.Frag} {mg : Str → Option Value} {base : Heap} {a : Adr}
def spGcd : Sp := fun vs H Q _ => ∃ x y : Int, vs = [.int x, .int y] ∧ 0 ≤ x ∧ 0 ≤ y ∧ Q (.int (Int.gcd x y : Nat)) H
theorem ok_common (T : Txt K mg a) : FnOk P w K mg base CX0 1 a.f_common a.d_common ["one", "other"] spGcd := by
  refine T.F_common.ok sc_common (fun vs H Q E h => ?_) (fun cdv A outer s H vs Q E hr h => ?_)
  · obtain ⟨x, y, rfl, _⟩ := h
    rfl
  obtain ⟨x0, y0, rfl, h1, h2, q⟩ := h
  refine ⟨_, (pss_cons (ps_while PassesOwn.never (pt_cmpR op_ne (pv 1) pe_int (nomark _))
        (pss_cons (ps_set (i := 2) sc_common.nd rfl (Or.inl rfl) (pe_op op_mod (pv 0) (pv 1)))
      (pss_cons (ps_set (i := 0) sc_common.nd rfl (Or.inl rfl) (pv 1))
      (pss_one (ps_set (i := 1) sc_common.nd rfl (Or.inl rfl) (pv 2))))))
      (pss_one (ps_ret (pv 0)))), ?_⟩
  refine while_by (fun σ H' => H' = H ∧ ∃ (x y : Int) (r : Option V), σ = [some (.int x), some (.int y), r] ∧ 0 ≤ x ∧ 0 ≤ y ∧ Int.gcd x y = Int.gcd x0 y0)
    (fun σ _ => match σ with | [_, some (.int y), _] => y.toNat | _ => 0) ⟨rfl, x0, y0, none, rfl, h1, h2, rfl⟩ ?_ ?_
  · rintro σ H' ⟨rfl, x, y, r, rfl, hx, hy, hg⟩
    refine ⟨_, rfl, rfl, _, rfl, ?_⟩
    by_cases e : y = 0
    · subst e
      refine iteNS rfl ?_
      refine ⟨_, rfl, ?_⟩
      rw [← hg, gcd_end hx] at q
      exact q
    · refine iteNP (fun z => e (V.int.inj z)) ?_
      refine ⟨_, rfl, _, rfl, _, _, rfl, rfl, (by omega : (0 : Int) < y), _, rfl, _, rfl, ?_⟩
      refine ⟨⟨rfl, y, x % y, _, rfl, hy, Int.emod_nonneg _ e, gcd_step.trans hg⟩, ?_⟩
      have := Int.emod_lt_of_pos x (show 0 < y by omega)
      show (x % y).toNat < y.toNat
      have := Int.emod_nonneg x e
      omega
  · rintro σ H' Q1 Q2 hq ⟨v, e, hs, k, ek, q1⟩
    exact ⟨v, e, hs, k, ek, hq _ _ q1⟩

theorem cdivB {n : Nat} {t j : Int} (h0 : j ≠ 0) (h : Sm n j) (hn : n ≤ 8999 := by decide) : CDivB t j := ⟨h0, Nat.lt_of_lt_of_le ((h.mono hn).log2 (by decide)) (by decide)⟩
theorem Sm.fdiv {n : Nat} {x g : Int} (h : Sm n x) (d : g ∣ x) (h0 : g ≠ 0) : Sm n (x.fdiv g) := by
  obtain ⟨k, e⟩ := d
  subst e
  rw [Int.mul_fdiv_cancel_left k h0]
  refine h.le ?_
  rw [Int.natAbs_mul]
  exact Nat.le_mul_of_pos_left _ (by omega)
theorem RetT.mono {H H' : Hp} {Q : VK} {xs : List V} (h : RetT H Q xs) (g : Same H H') : RetT H' Q xs := fun p H2 s e => h p H2 (g.trans s) e
abbrev TQ (q : Rat) : List V := T2 q.num q.den
/-- two ratios in, by what they stand for -/
def spBinQ (K : PySem.W.Frag) (f : Rat → Rat → Rat) : Sp := fun vs H Q _ => ∃ (p r : Addr) (x y : Rat), vs = [.ref p, .ref r] ∧ SqT K H p (TQ x) ∧ SqT K H r (TQ y) ∧ SmQ 6500 x ∧ SmQ 6500 y ∧ RetT H Q (TQ (f x y))
/-- values that are ratios -/
def IsQ (K : PySem.W.Frag) (H : Hp) (v : V) (q : Rat) : Prop := ∃ p, v = .ref p ∧ SqT K H p (TQ q)
def RL (K : PySem.W.Frag) (H : Hp) (vs : List V) (qs : List Rat) : Prop := Paired (IsQ K H) vs qs
theorem IsQ.mono {K : PySem.W.Frag} {H H' : Hp} {v : V} {q : Rat} (h : IsQ K H v q) (g : Same H H') : IsQ K H' v q := by
  obtain ⟨p, e, s⟩ := h
  exact ⟨p, e, g.tup s⟩
theorem RL.mono {K : PySem.W.Frag} {H H' : Hp} {vs : List V} {qs : List Rat} (h : RL K H vs qs) (g : Same H H') : RL K H' vs qs := Paired.mapP h fun _ _ q => q.mono g
theorem RL.length {K : PySem.W.Frag} {H : Hp} {vs : List V} {qs : List Rat} (h : RL K H vs qs) : vs.length = qs.length := Paired.length h
theorem RL.get {K : PySem.W.Frag} {H : Hp} : ∀ {vs : List V} {qs : List Rat} {i : Nat} {v : V}, RL K H vs qs → vs[i]? = some v → ∃ q, qs[i]? = some q ∧ IsQ K H v q
  | _, _, _, _, .nil, e => by simp at e
  | v0 :: _, q0 :: _, 0, v, .cons h _, e => by
    have e' : v0 = v := by simpa using e
    subst e'
    exact ⟨_, rfl, h⟩
  | _ :: _, _ :: _, i + 1, v, .cons _ t, e => by
    obtain ⟨q, h1, h2⟩ := RL.get (i := i) (v := v) t (by simpa using e)
    exact ⟨q, by simpa using h1, h2⟩
theorem RL.snoc {K : PySem.W.Frag} {H : Hp} {vs : List V} {qs : List Rat} {v : V} {q : Rat} (h : RL K H vs qs) (k : IsQ K H v q) : RL K H (vs ++ [v]) (qs ++ [q]) := Paired.snoc h k
theorem RL.take {K : PySem.W.Frag} {H : Hp} : ∀ {vs : List V} {qs : List Rat} (n : Nat), RL K H vs qs → RL K H (vs.take n) (qs.take n)
  | _, _, 0, _ => by rw [List.take_zero, List.take_zero]; exact .nil
  | _, _, _ + 1, .nil => .nil
  | _, _, n + 1, .cons h t => .cons h (RL.take n t)
theorem RL.drop {K : PySem.W.Frag} {H : Hp} : ∀ {vs : List V} {qs : List Rat} (n : Nat), RL K H vs qs → RL K H (vs.drop n) (qs.drop n)
  | _, _, 0, h => h
  | _, _, _ + 1, .nil => .nil
  | _, _, n + 1, .cons _ t => RL.drop n t
theorem take_snoc {α : Type} {xs : List α} {i : Nat} {x : α} (h : xs[i]? = some x) : xs.take (i + 1) = xs.take i ++ [x] := by
  rw [List.take_succ, h]; rfl
theorem two_alike {K : PySem.W.Frag} {H : Hp} {n : Nat} {v w : V} {q : Rat} (h : IsQ K H v q) (k : IsQ K H w q) : DEq K H (n + 1) v w := by
  obtain ⟨p, rfl, hp⟩ := h
  obtain ⟨r, rfl, hr⟩ := k
  refine .tup hp hr rfl fun j x y e1 e2 => ?_
  rw [e1] at e2
  have e : x = y := Option.some.inj e2
  subst e
  match j, e1 with
  | 0, e1 => have e : V.int q.num = x := Option.some.inj e1; subst e; exact .flat rfl
  | 1, e1 => have e : V.int (q.den : Int) = x := Option.some.inj e1; subst e; exact .flat rfl
  | j + 2, e1 => exact absurd e1 (by simp)
theorem RL.alike {K : PySem.W.Frag} {H : Hp} {vs ws : List V} {qs : List Rat} (h : RL K H vs qs) (k : RL K H ws qs) : Alike K H vs ws := by
  refine ⟨h.length.trans k.length.symm, fun j x y e1 e2 => ?_⟩
  obtain ⟨q1, f1, g1⟩ := h.get e1
  obtain ⟨q2, f2, g2⟩ := k.get e2
  rw [f1] at f2
  have e : q1 = q2 := Option.some.inj f2
  subst e
  exact two_alike (n := 19) g1 g2
theorem _root_.L2.Same.laid {H H' : Hp} {p : Addr} (g : Same H H') (hn : H p = none) (o : HO) : Same H (upd H' p o) := fun b u q => by
  rw [upd_ne (ne_of_none q hn)]
  exact g _ _ q
theorem none_back {H H' : Hp} {p : Addr} (g : Same H H') (h : H' p = none) : H p = none := by
  cases e : H p with
  | none => rfl
  | some o => rw [g _ _ e] at h; cases h
theorem at0 {x : V} {r : List V} : atI (x :: r) 0 = some x := by
  unfold atI ixN
  rw [if_pos (Int.le_refl _), if_pos (by rw [List.length_cons]; omega)]
  rfl
theorem atN {vs : List V} {n : Nat} {x : V} (h : vs[n]? = some x) : atI vs (n : Int) = some x := by
  have hn := (List.getElem?_eq_some_iff.mp h).1
  unfold atI ixN
  rw [if_pos (by omega), if_pos (by omega)]
  show vs[((n : Int)).toNat]? = some x
  rw [Int.toNat_natCast]
  exact h
theorem paired_get {α β : Type} {F : α → β → Prop} : ∀ {vs : List α} {qs : List β} {i : Nat} {v : α}, Paired F vs qs → vs[i]? = some v → ∃ q, qs[i]? = some q ∧ F v q
  | _, _, _, _, .nil, e => by simp at e
  | v0 :: _, q0 :: _, 0, v, .cons h _, e => by
    have e' : v0 = v := by simpa using e
    subst e'
    exact ⟨_, rfl, h⟩
  | _ :: _, _ :: _, i + 1, v, .cons _ t, e => by
    obtain ⟨q, h1, h2⟩ := paired_get (i := i) (v := v) t (by simpa using e)
    exact ⟨q, by simpa using h1, h2⟩
theorem nil_get {α : Type} {j : Nat} {x : α} {p : Prop} (h : ([] : List α)[j]? = some x) : p := by simp at h
def spWhole : Sp := fun vs H Q _ => ∃ i, vs = [.int i] ∧ Q (.bl true) H

theorem ok_is_whole (T : Txt K mg a) : FnOk P w K mg base CX0 1 a.f_is_whole a.d_is_whole ["thing"] spWhole := by
  refine T.F_is_whole.ok sc_is_whole (fun vs H Q E h => ?_) (fun cdv A outer s H vs Q E hr h => ?_)
  · obtain ⟨i, rfl, _⟩ := h
    rfl
  obtain ⟨i, rfl, q⟩ := h
  refine ⟨_, (pss_one (ps_ret (pe_and (pe_callB (call_isi) rfl T.m_isinstance boot_isinstance (pa_c (pv 0) (pa_c (pe_bltn (v := .ty "int") rfl T.m_int boot_int rfl) pa_nil)) (he := starEach_plain rfl _ _) (hpl := noStar rfl)) (pe_one (pe_not (pe_callB (call_isi) rfl T.m_isinstance boot_isinstance (pa_c (pv 0) (pa_c (pe_bltn (v := .ty "bool") rfl T.m_bool boot_bool rfl) pa_nil)) (he := starEach_plain rfl _ _) (hpl := noStar rfl))))))), ?_⟩
  refine ⟨_, rfl, _, _, _, rfl, IsI.intInt i, _, rfl, iteT ?_⟩
  exact ⟨_, rfl, _, _, _, rfl, IsI.intBool i, _, rfl, q⟩

def spLessQ (K : PySem.W.Frag) : Sp := fun vs H Q _ => ∃ (p r : Addr) (x y : Rat), vs = [.ref p, .ref r] ∧ SqT K H p (TQ x) ∧ SqT K H r (TQ y) ∧ SmQ 9000 x ∧ SmQ 9000 y ∧ Q (.bl (decide (x < y))) H
theorem ok_less (T : Txt K mg a) : FnOk P w K mg base CX0 1 a.f_less a.d_less ["one", "other"] (spLessQ K) := by
  refine T.F_less.ok sc_less (fun vs H Q E h => ?_) (fun cdv A outer s H vs Q E hr h => ?_)
  · obtain ⟨_, _, _, _, rfl, _⟩ := h
    rfl
  obtain ⟨p, r, x, y, rfl, hp, hq, sx, sy, q⟩ := h
  refine ⟨_, (pss_one (ps_ret (pe_cmpR op_lt (pe_op op_mulB (pe_ix ix_tup (pv 0) pe_int (fun _ _ => rfl)) (pe_ix ix_tup (pv 1) pe_int (fun _ _ => rfl))) (pe_op op_mulB (pe_ix ix_tup (pv 1) pe_int (fun _ _ => rfl)) (pe_ix ix_tup (pv 0) pe_int (fun _ _ => rfl))) (nomark _)))), ?_⟩
  rw [← q_less] at q
  exact ⟨_, rfl, _, _, _, _, rfl, rfl, hp, rfl, _, rfl, _, _, _, _, rfl, rfl, hq, rfl, _, _, rfl, rfl, mulOk sx.1 sy.2, _, rfl, _, _, _, _, rfl, rfl, hq, rfl, _, rfl, _, _, _, _, rfl, rfl, hp, rfl, _, _, rfl, rfl, mulOk sy.1 sx.2, _, _, rfl, rfl, q⟩


def spIsQ (K : PySem.W.Frag) : Sp := fun vs H Q _ => ∃ (p : Addr) (x : Rat), vs = [.ref p] ∧ SqT K H p (TQ x) ∧ Q (.bl true) H
theorem ok_is_ratio (T : Txt K mg a) : FnOk P w K mg base CX0 2 a.f_is_ratio a.d_is_ratio ["thing"] (spIsQ K) := by
  refine T.F_is_ratio.ok sc_is_ratio (fun vs H Q E h => ?_) (fun cdv A outer s H vs Q E hr h => ?_)
  · obtain ⟨_, _, rfl, _⟩ := h
    rfl
  obtain ⟨p, x, rfl, hp, q⟩ := h
  refine ⟨_, (pss_cons (ps_if (PW.pt (pw_or (pt_not (pt_val (pe_callB (call_isi) rfl T.m_isinstance boot_isinstance (pa_c (pv 0) (pa_c (pe_bltn (v := .ty "tuple") rfl T.m_tuple boot_tuple rfl) pa_nil)) (he := starEach_plain rfl _ _) (hpl := noStar rfl)))) (pw_or1 (pt_cmpR op_ne (pe_callB (call_len_seq) rfl T.m_len boot_len (pa_c (pv 0) pa_nil) (he := starEach_plain rfl _ _) (hpl := noStar rfl)) pe_int (nomark _)))))
        (pss_one (ps_ret pe_bl))
        pss_nil)
      (pss_cons (ps_if (PW.pt (pw_or (pt_not (pt_val (pe_call (ok_is_whole T) (hr.mono (by decide)) rfl T.m_is_whole T.F_is_whole.kp T.b_is_whole .nil pass0 (pa_c (pe_ix ix_tup (pv 0) pe_int (fun _ _ => rfl)) pa_nil) (he := starEach_plain rfl _ _) (hpl := noStar rfl)))) (pw_or (pt_not (pt_val (pe_call (ok_is_whole T) (hr.mono (by decide)) rfl T.m_is_whole T.F_is_whole.kp T.b_is_whole .nil pass0 (pa_c (pe_ix ix_tup (pv 0) pe_int (fun _ _ => rfl)) pa_nil) (he := starEach_plain rfl _ _) (hpl := noStar rfl)))) (pw_or1 (pt_cmpR op_lt (pe_ix ix_tup (pv 0) pe_int (fun _ _ => rfl)) pe_int (nomark _))))))
        (pss_one (ps_ret pe_bl))
        pss_nil)
      (pss_one (ps_ret (pe_cmpR op_eq (pe_call (ok_common T) (hr.mono (by decide)) rfl T.m_common T.F_common.kp T.b_common .nil pass0 (pa_c (pe_callB (call_abs) rfl T.m_abs boot_abs (pa_c (pe_ix ix_tup (pv 0) pe_int (fun _ _ => rfl)) pa_nil) (he := starEach_plain rfl _ _) (hpl := noStar rfl)) (pa_c (pe_ix ix_tup (pv 0) pe_int (fun _ _ => rfl)) pa_nil)) (he := starEach_plain rfl _ _) (hpl := noStar rfl)) pe_int (nomark _)))))), ?_⟩
  have R := isR_rat x
  have hy := R.pos
  refine ⟨_, rfl, _, _, _, rfl, IsI.tupTup hp, _, rfl, iteF ⟨_, rfl, _, _, rfl, .inr hp, rfl, _, rfl, iteF ?_⟩⟩
  refine ⟨_, rfl, _, _, _, _, rfl, rfl, hp, rfl, _, rfl, _, rfl, iteF ⟨_, rfl, _, _, _, _, rfl, rfl, hp, rfl, _, rfl, _, rfl, iteF ⟨_, rfl, _, _, _, _, rfl, rfl, hp, rfl, _, _, rfl, rfl, _, rfl, iteN (by omega) ?_⟩⟩⟩
  refine ⟨_, rfl, _, _, _, _, rfl, rfl, hp, rfl, _, rfl, _, rfl, _, _, _, _, rfl, rfl, hp, rfl, _, _, rfl, abs_nn _, by omega, rfl, ?_⟩
  dsimp only
  have e : Int.gcd (if x.num < 0 then -x.num else x.num) (x.den : Int) = 1 := by
    have g := R.low
    split <;> simp [Int.neg_gcd, g]
  rw [e]
  exact q

def spPlain (K : PySem.W.Frag) : Sp := fun vs H Q _ => ∃ (p : Addr) (x : Rat), vs = [.ref p] ∧ SqT K H p (TQ x) ∧ RetT H Q (TQ x)
theorem ok_plain (T : Txt K mg a) : FnOk P w K mg base CX0 1 a.f_plain a.d_plain ["one"] (spPlain K) := by
  refine T.F_plain.ok sc_plain (fun vs H Q E h => ?_) (fun cdv A outer s H vs Q E hr h => ?_)
  · obtain ⟨_, _, rfl, _⟩ := h
    rfl
  obtain ⟨p, x, rfl, hp, q⟩ := h
  refine ⟨_, (pss_one (ps_ret (pe_tup (pa_c (pe_callTy (call_int1) rfl T.m_int boot_int (pa_c (pe_ix ix_tup (pv 0) pe_int (fun _ _ => rfl)) pa_nil) (he := starEach_plain rfl _ _) (hpl := noStar rfl)) (pa_c (pe_callTy (call_int1) rfl T.m_int boot_int (pa_c (pe_ix ix_tup (pv 0) pe_int (fun _ _ => rfl)) pa_nil) (he := starEach_plain rfl _ _) (hpl := noStar rfl)) pa_nil))))), ?_⟩
  exact ⟨_, rfl, _, _, _, _, rfl, rfl, hp, rfl, .inl ⟨_, rfl, _, rfl, _, _, _, _, rfl, rfl, hp, rfl, .inl ⟨_, rfl, two_le, fun p' hp' => q.new hp'⟩⟩⟩
/-- a side -/
def SideAt (K : PySem.W.Frag) (H : Hp) (v : V) (s : Rat × Rat) : Prop := ∃ p pl ph, v = .ref p ∧ SqT K H p [.ref pl, .ref ph] ∧ SqT K H pl (TQ s.1) ∧ SqT K H ph (TQ s.2)
theorem SideAt.mono {K : PySem.W.Frag} {H H' : Hp} {v : V} {s : Rat × Rat} (h : SideAt K H v s) (g : Same H H') : SideAt K H' v s := by
  obtain ⟨p, pl, ph, e, h1, h2, h3⟩ := h
  exact ⟨p, pl, ph, e, g.tup h1, g.tup h2, g.tup h3⟩
def SL (K : PySem.W.Frag) (H : Hp) (vs : List V) (ss : List (Rat × Rat)) : Prop := Paired (SideAt K H) vs ss
theorem SL.mono {K : PySem.W.Frag} {H H' : Hp} {vs : List V} {ss : List (Rat × Rat)} (h : SL K H vs ss) (g : Same H H') : SL K H' vs ss := Paired.mapP h fun _ _ q => q.mono g
theorem SL.length {K : PySem.W.Frag} {H : Hp} {vs : List V} {ss : List (Rat × Rat)} (h : SL K H vs ss) : vs.length = ss.length := Paired.length h
theorem SL.get {K : PySem.W.Frag} {H : Hp} {vs : List V} {ss : List (Rat × Rat)} {i : Nat} {v : V} (h : SL K H vs ss) (e : vs[i]? = some v) : ∃ s, ss[i]? = some s ∧ SideAt K H v s := paired_get h e
theorem SL.snoc {K : PySem.W.Frag} {H : Hp} {vs : List V} {ss : List (Rat × Rat)} {v : V} {s : Rat × Rat} (h : SL K H vs ss) (k : SideAt K H v s) : SL K H (vs ++ [v]) (ss ++ [s]) := Paired.snoc h k
theorem SqT.upd_lst {K : PySem.W.Frag} {H : Hp} {b t : Addr} {xs ys : List V} {o : HO} (h : SqT K H b xs) (e : H t = some (.lst ys)) : SqT K (upd H t o) b xs := by
  rcases h with (h | ⟨u, h⟩) | h
  · exact .inl (.inl (by rw [upd_ne (ne_of h e (by intro z; cases z))]; exact h))
  · exact .inl (.inr ⟨u, by rw [upd_ne (ne_of h e (by intro z; cases z))]; exact h⟩)
  · exact .inr h

theorem SqT.upd_ins {K : PySem.W.Frag} {H : Hp} {b t C dx : Addr} {xs : List V} {fs : List (Str × V)} {o : HO} (h : SqT K H b xs) (e : H t = some (.ins C dx fs)) : SqT K (upd H t o) b xs := by
  rcases h with (h | ⟨u, h⟩) | h
  · exact .inl (.inl (by rw [upd_ne (ne_of h e (by intro z; cases z))]; exact h))
  · exact .inl (.inr ⟨u, by rw [upd_ne (ne_of h e (by intro z; cases z))]; exact h⟩)
  · exact .inr h
theorem SL.upd_ins {K : PySem.W.Frag} {H : Hp} {t C dx : Addr} {vs : List V} {ss : List (Rat × Rat)} {fs : List (Str × V)} {o : HO} (h : SL K H vs ss) (e : H t = some (.ins C dx fs)) : SL K (upd H t o) vs ss :=
  Paired.mapP h fun _ _ ⟨p, pl, ph, e0, h1, h2, h3⟩ => ⟨p, pl, ph, e0, SqT.upd_ins h1 e, SqT.upd_ins h2 e, SqT.upd_ins h3 e⟩
theorem SL.upd_lst {K : PySem.W.Frag} {H : Hp} {t : Addr} {vs ys : List V} {ss : List (Rat × Rat)} {o : HO} (h : SL K H vs ss) (e : H t = some (.lst ys)) : SL K (upd H t o) vs ss :=
  Paired.mapP h fun _ _ ⟨p, pl, ph, e0, h1, h2, h3⟩ => ⟨p, pl, ph, e0, SqT.upd_lst h1 e, SqT.upd_lst h2 e, SqT.upd_lst h3 e⟩
theorem RL.upd_lst {K : PySem.W.Frag} {H : Hp} {t : Addr} {vs ys : List V} {qs : List Rat} {o : HO} (h : RL K H vs qs) (e : H t = some (.lst ys)) : RL K (upd H t o) vs qs := Paired.mapP h fun _ _ ⟨p, e1, s⟩ => ⟨p, e1, SqT.upd_lst s e⟩
/-- a side is told -/
def RetSide (K : PySem.W.Frag) (H : Hp) (Q : VK) (s : Rat × Rat) : Prop := ∀ p H', Same H H' → SideAt K H' (.ref p) s → Q (.ref p) H'

def spSide (K : PySem.W.Frag) : Sp := fun vs H Q _ => ∃ (v : V) (s : Rat × Rat), vs = [v] ∧ SideAt K H v s ∧ s.1 ≤ s.2 ∧ SmQ 9000 s.1 ∧ SmQ 9000 s.2 ∧ RetSide K H Q s
theorem ok_checked_side (T : Txt K mg a) : FnOk P w K mg base CX0 3 a.f_checked_side a.d_checked_side ["side"] (spSide K) := by
  refine T.F_checked_side.ok sc_checked_side (fun vs H Q E h => ?_) (fun cdv A outer s H vs Q E hr h => ?_)
  · obtain ⟨_, _, rfl, _⟩ := h
    rfl
  obtain ⟨v, sd, rfl, ⟨p, pl, ph, rfl, hp, h1, h2⟩, le, m1, m2, q⟩ := h
  have h0 : PS (cxOf CX0 P w K mg base ["side"] "checked_side" (defScope s_checked_side) a.f_checked_side cdv A outer s H E).nox ((defBody s_checked_side).getD 0 (.Pass ⟨0, 0, 0, 0⟩)) _ := (ps_if (PW.pt (pw_or (pt_not (pt_val (pe_callB (call_isi) rfl T.m_isinstance boot_isinstance (pa_c (pv 0) (pa_c (pe_bltn (v := .ty "tuple") rfl T.m_tuple boot_tuple rfl) pa_nil)) (he := starEach_plain rfl _ _) (hpl := noStar rfl)))) (pw_or1 (pt_cmpR op_ne (pe_callB (call_len_seq) rfl T.m_len boot_len (pa_c (pv 0) pa_nil) (he := starEach_plain rfl _ _) (hpl := noStar rfl)) pe_int (nomark _)))))
        (pss_one ps_never)
        pss_nil)
  have h1 : PS (cxOf CX0 P w K mg base ["side"] "checked_side" (defScope s_checked_side) a.f_checked_side cdv A outer s H E).nox ((defBody s_checked_side).getD 1 (.Pass ⟨0, 0, 0, 0⟩)) _ := (ps_if (PW.pt (pw_or (pt_not (pt_val (pe_call (ok_is_ratio T) (hr.mono (by decide)) rfl T.m_is_ratio T.F_is_ratio.kp T.b_is_ratio .nil pass0 (pa_c (pe_ix ix_tup (pv 0) pe_int (fun _ _ => rfl)) pa_nil) (he := starEach_plain rfl _ _) (hpl := noStar rfl)))) (pw_or1 (pt_not (pt_val (pe_call (ok_is_ratio T) (hr.mono (by decide)) rfl T.m_is_ratio T.F_is_ratio.kp T.b_is_ratio .nil pass0 (pa_c (pe_ix ix_tup (pv 0) pe_int (fun _ _ => rfl)) pa_nil) (he := starEach_plain rfl _ _) (hpl := noStar rfl)))))))
        (pss_one ps_never)
        pss_nil)
  have h2 : PS (cxOf CX0 P w K mg base ["side"] "checked_side" (defScope s_checked_side) a.f_checked_side cdv A outer s H E).nox ((defBody s_checked_side).getD 2 (.Pass ⟨0, 0, 0, 0⟩)) _ := (ps_if (pt_val (pe_call (ok_less T) (hr.mono (by decide)) rfl T.m_less T.F_less.kp T.b_less .nil pass0 (pa_c (pe_ix ix_tup (pv 0) pe_int (fun _ _ => rfl)) (pa_c (pe_ix ix_tup (pv 0) pe_int (fun _ _ => rfl)) pa_nil)) (he := starEach_plain rfl _ _) (hpl := noStar rfl)))
        (pss_one ps_never)
        pss_nil)
  have h3 : PS (cxOf CX0 P w K mg base ["side"] "checked_side" (defScope s_checked_side) a.f_checked_side cdv A outer s H E).nox ((defBody s_checked_side).getD 3 (.Pass ⟨0, 0, 0, 0⟩)) _ := (ps_ret (pe_tup (pa_c (pe_call (ok_plain T) (hr.mono (by decide)) rfl T.m_plain T.F_plain.kp T.b_plain .nil pass0 (pa_c (pe_ix ix_tup (pv 0) pe_int (fun _ _ => rfl)) pa_nil) (he := starEach_plain rfl _ _) (hpl := noStar rfl)) (pa_c (pe_call (ok_plain T) (hr.mono (by decide)) rfl T.m_plain T.F_plain.kp T.b_plain .nil pass0 (pa_c (pe_ix ix_tup (pv 0) pe_int (fun _ _ => rfl)) pa_nil) (he := starEach_plain rfl _ _) (hpl := noStar rfl)) pa_nil))))
  have hb : defBody s_checked_side = [((defBody s_checked_side).getD 0 (.Pass ⟨0, 0, 0, 0⟩)), ((defBody s_checked_side).getD 1 (.Pass ⟨0, 0, 0, 0⟩)), ((defBody s_checked_side).getD 2 (.Pass ⟨0, 0, 0, 0⟩)), ((defBody s_checked_side).getD 3 (.Pass ⟨0, 0, 0, 0⟩))] := by rfl
  generalize ((defBody s_checked_side).getD 0 (.Pass ⟨0, 0, 0, 0⟩)) = S0 at *
  generalize ((defBody s_checked_side).getD 1 (.Pass ⟨0, 0, 0, 0⟩)) = S1 at *
  generalize ((defBody s_checked_side).getD 2 (.Pass ⟨0, 0, 0, 0⟩)) = S2 at *
  generalize ((defBody s_checked_side).getD 3 (.Pass ⟨0, 0, 0, 0⟩)) = S3 at *
  rw [hb]
  refine ⟨_, (pss_cons h0 (pss_cons h1 (pss_cons h2 (pss_one h3)))), ?_⟩
  clear hb h0 h1 h2 h3 S0 S1 S2 S3
  refine ⟨_, rfl, _, _, _, rfl, IsI.tupTup hp, _, rfl, iteF ⟨_, rfl, _, _, rfl, .inr hp, rfl, _, rfl, iteF ?_⟩⟩
  refine ⟨_, rfl, _, _, _, _, rfl, rfl, hp, rfl, pl, _, rfl, h1, _, rfl, iteF ⟨_, rfl, _, _, _, _, rfl, rfl, hp, rfl, ph, _, rfl, h2, _, rfl, iteF ?_⟩⟩
  refine ⟨_, rfl, _, _, _, _, rfl, rfl, hp, rfl, _, rfl, _, _, _, _, rfl, rfl, hp, rfl, ph, pl, _, _, rfl, h2, h1, m2, m1, _, rfl, iteN (Rat.not_lt.mpr le) ?_⟩
  refine ⟨_, rfl, _, _, _, _, rfl, rfl, hp, rfl, pl, _, rfl, h1, fun p1 H1 g1 e1 => ?_⟩
  refine ⟨_, rfl, _, _, _, _, rfl, rfl, g1.tup hp, rfl, ph, _, rfl, g1.tup h2, fun p2 H2 g2 e2 => ⟨two_le, fun t ht => ?_⟩⟩
  have g3 := same_new ht (.tup [.ref p1, .ref p2])
  exact q t _ (g1.trans (g2.trans g3)) ⟨t, p1, p2, rfl, SqT.of upd_same, SqT.of (g3 _ _ (g2 _ _ e1)), SqT.of (g3 _ _ e2)⟩


/-- a box stands at p, its sides at l -/
def BoxAt (C : Addr) (H : Hp) (p l : Addr) : Prop := ∃ dx, H p = some (.ins C dx [("sides", .ref l)])
theorem BoxAt.mono {C : Addr} {H H' : Hp} {p l : Addr} (h : BoxAt C H p l) (g : Same H H') : BoxAt C H' p l := by
  obtain ⟨dx, e⟩ := h
  exact ⟨dx, g _ _ e⟩

def spInit (K : PySem.W.Frag) (C : Addr) : Sp := fun vs H Q _ => ∃ (x dx l : Addr) (v1 : List V) (ss : List (Rat × Rat)), vs = [.ref x, .ref l] ∧ H x = some (.ins C dx []) ∧ SqL K H l v1 ∧ SL K H v1 ss ∧ 1 ≤ ss.length ∧ ss.length ≤ 6 ∧
  (∀ s ∈ ss, s.1 ≤ s.2 ∧ SmQ 9000 s.1 ∧ SmQ 9000 s.2) ∧ ∀ m v2 H', (∀ b u, b ≠ x → H b = some u → H' b = some u) → H m = none → BoxAt C H' x m → H' m = some (.lst v2) → SL K H' v2 ss → Q .non H'
theorem ok_Box_init (T : Txt K mg a) : FnOk P w K mg base CX0 4 a.f_Box_init a.d_Box_init ["self", "sides"] (spInit K a.c_Box) := by
  refine T.F_Box_init.ok sc_Box_init (fun vs H Q E h => ?_) (fun cdv A outer s H vs Q E hr h => ?_)
  · obtain ⟨_, _, _, _, _, rfl, _⟩ := h
    rfl
  obtain ⟨x, dx, l, v1, ss, rfl, hx, hl, r1, lo, hi, sz, q⟩ := h
  refine ⟨_, (pss_cons (ps_if (PW.pt (pw_or (pt_not (pt_val (pe_callB (call_isi) rfl T.m_isinstance boot_isinstance (pa_c (pv 1) (pa_c (pe_bltn (v := .ty "list") rfl T.m_list boot_list rfl) pa_nil)) (he := starEach_plain rfl _ _) (hpl := noStar rfl)))) (pw_or (pt_cmpR op_lt (pe_callB (call_len_seq) rfl T.m_len boot_len (pa_c (pv 1) pa_nil) (he := starEach_plain rfl _ _) (hpl := noStar rfl)) pe_int (nomark _)) (pw_or1 (pt_cmpR op_gt (pe_callB (call_len_seq) rfl T.m_len boot_len (pa_c (pv 1) pa_nil) (he := starEach_plain rfl _ _) (hpl := noStar rfl)) (pe_glob (v := .int 6) rfl T.m_MOST_SIDES ⟨_, rfl⟩) (nomark _))))))
        (pss_one ps_never)
        pss_nil)
      (pss_one (ps_fld (pv 0) (pe_comp (N := ["side"]) (ix := [none]) ⟨rfl, rfl, rfl, rfl, trivial, rfl, trivial⟩ rfl (pi_list (pv 1)) (fun _ => (pg_name (i := 0) (show (["side"] : List Str).Nodup by decide +kernel) rfl (Or.inl rfl))) (fun _ σ => go_name rfl σ) (fun _ => pif_none) (fun _ => (pe_call (ok_checked_side T) (hr.mono (by decide)) rfl T.m_checked_side T.F_checked_side.kp T.b_checked_side .nil pass0 (pa_c (pv 0) pa_nil) (he := starEach_plain rfl _ _) (hpl := noStar rfl)))) rfl))), ?_⟩
  have l1 := r1.length
  refine ⟨_, rfl, _, _, _, rfl, IsI.lstList hl, _, rfl, iteF ⟨_, rfl, _, _, rfl, .inl hl, _, _, rfl, rfl, _, rfl, iteN (by omega) ⟨_, rfl, _, _, rfl, .inl hl, _, _, rfl, rfl, _, rfl, iteN (by omega) ?_⟩⟩⟩
  refine ⟨_, rfl, l, rfl, ⟨_, hl⟩, comp_by (n := ss.length) (fun i ys H' => Same H H' ∧ SL K H' ys (ss.take i)) ⟨Same.refl _, .nil⟩ (small1000 (by omega)) ?_ ?_ ?_⟩
  · rintro ys H' ⟨g, r⟩
    refine ⟨⟨v1, g.seq hl, by omega⟩, fun D hD => ?_⟩
    rw [List.take_of_length_le (Nat.le_refl _)] at r
    have g2 := same_new hD (.lst ys)
    have hx2 := (g.trans g2) _ _ hx
    have ne : D ≠ x := Ne.symm (ne_of_none (g _ _ hx) hD)
    refine ⟨_, rfl, x, _, dx, [], rfl, hx2, T.C_Box, T.n_Box_sides, by decide, ?_⟩
    exact q D ys _ (fun b u hb e => by rw [upd_ne hb]; exact (g.trans g2) _ _ e) (none_back g hD) ⟨dx, upd_same⟩ (by rw [upd_ne ne]; exact upd_same) (SL.upd_ins (r.mono g2) hx2)
  · rintro i ys H' hi' ⟨g, r⟩
    exact ⟨v1, _, g.seq hl, List.getElem?_eq_getElem (by omega)⟩
  · rintro i m' ys H' c y H2 hi' ⟨g, r⟩ ⟨rfl, y1⟩ nx _
    obtain ⟨sd, es, hs⟩ := r1.get (y1 _ (g.seq hl))
    obtain ⟨k1, k2, k3⟩ := sz sd (List.mem_of_getElem? es)
    refine Or.inl ⟨rfl, _, rfl, y, sd, rfl, hs.mono g, k1, k2, k3, fun p3 H3 g3 e3 => nx _ _ ⟨g.trans g3, ?_⟩⟩
    rw [take_snoc es]
    exact (r.mono g3).snoc e3


/-- a unit: a sum, or a bend -/
inductive Un where
  | sum (c : Rat) (ts : List (Nat × Rat))
  | bend (p : Nat)
def TermAt (K : PySem.W.Frag) (H : Hp) (v : V) (x : Nat × Rat) : Prop := ∃ t r, v = .ref t ∧ SqT K H t [.int (x.1 : Int), .ref r] ∧ SqT K H r (TQ x.2)
theorem TermAt.mono {K : PySem.W.Frag} {H H' : Hp} {v : V} {x : Nat × Rat} (h : TermAt K H v x) (g : Same H H') : TermAt K H' v x := by
  obtain ⟨t, r, e, h1, h2⟩ := h
  exact ⟨t, r, e, g.tup h1, g.tup h2⟩
def TL (K : PySem.W.Frag) (H : Hp) (vs : List V) (ts : List (Nat × Rat)) : Prop := Paired (TermAt K H) vs ts
theorem TL.mono {K : PySem.W.Frag} {H H' : Hp} {vs : List V} {ts : List (Nat × Rat)} (h : TL K H vs ts) (g : Same H H') : TL K H' vs ts := Paired.mapP h fun _ _ q => q.mono g
theorem TL.length {K : PySem.W.Frag} {H : Hp} {vs : List V} {ts : List (Nat × Rat)} (h : TL K H vs ts) : vs.length = ts.length := Paired.length h
theorem TL.get {K : PySem.W.Frag} {H : Hp} {vs : List V} {ts : List (Nat × Rat)} {i : Nat} {v : V} (h : TL K H vs ts) (e : vs[i]? = some v) : ∃ t, ts[i]? = some t ∧ TermAt K H v t := paired_get h e
/-- a unit whose terms are a list (b: a tuple) -/
def UnAt (b : Bool) (K : PySem.W.Frag) (H : Hp) (v : V) : Un → Prop
  | .sum c ts => ∃ t pc pt vs, v = .ref t ∧ SqT K H t [.str "sum", .ref pc, .ref pt] ∧ SqT K H pc (TQ c) ∧ (if b then SqT K H pt vs else SqL K H pt vs) ∧ TL K H vs ts
  | .bend p => ∃ t, v = .ref t ∧ SqT K H t [.str "bend", .int (p : Int)]
theorem UnAt.mono {b : Bool} {K : PySem.W.Frag} {H H' : Hp} {v : V} {u : Un} (h : UnAt b K H v u) (g : Same H H') : UnAt b K H' v u := by
  cases u with
  | sum c ts =>
    obtain ⟨t, pc, pt, vs, e, h1, h2, h3, h4⟩ := h
    refine ⟨t, pc, pt, vs, e, g.tup h1, g.tup h2, ?_, h4.mono g⟩
    cases b with
    | true => exact g.tup h3
    | false => exact g.seq h3
  | bend p =>
    obtain ⟨t, e, h1⟩ := h
    exact ⟨t, e, g.tup h1⟩
def UL (b : Bool) (K : PySem.W.Frag) (H : Hp) (vs : List V) (us : List Un) : Prop := Paired (UnAt b K H) vs us
theorem UL.mono {b : Bool} {K : PySem.W.Frag} {H H' : Hp} {vs : List V} {us : List Un} (h : UL b K H vs us) (g : Same H H') : UL b K H' vs us := Paired.mapP h fun _ _ q => q.mono g
theorem UL.length {b : Bool} {K : PySem.W.Frag} {H : Hp} {vs : List V} {us : List Un} (h : UL b K H vs us) : vs.length = us.length := Paired.length h
theorem UL.get {b : Bool} {K : PySem.W.Frag} {H : Hp} {vs : List V} {us : List Un} {i : Nat} {v : V} (h : UL b K H vs us) (e : vs[i]? = some v) : ∃ u, us[i]? = some u ∧ UnAt b K H v u := paired_get h e
theorem UL.snoc {b : Bool} {K : PySem.W.Frag} {H : Hp} {vs : List V} {us : List Un} {v : V} {u : Un} (h : UL b K H vs us) (k : UnAt b K H v u) : UL b K H (vs ++ [v]) (us ++ [u]) := Paired.snoc h k
/-- a unit whose terms are a list that stands apart from another one -/
def UnF (lf : Addr) (K : PySem.W.Frag) (H : Hp) (v : V) : Un → Prop
  | .sum c ts => ∃ t pc pt vs, v = .ref t ∧ SqT K H t [.str "sum", .ref pc, .ref pt] ∧ SqT K H pc (TQ c) ∧ H pt = some (.lst vs) ∧ pt ≠ lf ∧ TL K H vs ts
  | .bend p => ∃ t, v = .ref t ∧ SqT K H t [.str "bend", .int (p : Int)]
theorem UnF.mono {lf : Addr} {K : PySem.W.Frag} {H H' : Hp} {v : V} {u : Un} (h : UnF lf K H v u) (g : Same H H') : UnF lf K H' v u := by
  cases u with
  | sum c ts =>
    obtain ⟨t, pc, pt, vs, e, h1, h2, h3, n, h4⟩ := h
    exact ⟨t, pc, pt, vs, e, g.tup h1, g.tup h2, g _ _ h3, n, h4.mono g⟩
  | bend p =>
    obtain ⟨t, e, h1⟩ := h
    exact ⟨t, e, g.tup h1⟩
theorem UnF.un {lf : Addr} {K : PySem.W.Frag} {H : Hp} {v : V} {u : Un} (h : UnF lf K H v u) : UnAt false K H v u := by
  cases u with
  | sum c ts =>
    obtain ⟨t, pc, pt, vs, e, h1, h2, h3, n, h4⟩ := h
    exact ⟨t, pc, pt, vs, e, h1, h2, SqL.of h3, h4⟩
  | bend p => exact h
theorem UnF.upd {lf : Addr} {K : PySem.W.Frag} {H : Hp} {v : V} {u : Un} {ys : List V} {o : HO} (h : UnF lf K H v u) (e : H lf = some (.lst ys)) : UnF lf K (upd H lf o) v u := by
  cases u with
  | sum c ts =>
    obtain ⟨t, pc, pt, vs, e0, h1, h2, h3, n, h4⟩ := h
    exact ⟨t, pc, pt, vs, e0, SqT.upd_lst h1 e, SqT.upd_lst h2 e, by rw [upd_ne n]; exact h3, n, Paired.mapP h4 fun _ _ ⟨t, r, e1, k1, k2⟩ => ⟨t, r, e1, SqT.upd_lst k1 e, SqT.upd_lst k2 e⟩⟩
  | bend p =>
    obtain ⟨t, e0, h1⟩ := h
    exact ⟨t, e0, SqT.upd_lst h1 e⟩
def UF (lf : Addr) (K : PySem.W.Frag) (H : Hp) (vs : List V) (us : List Un) : Prop := Paired (UnF lf K H) vs us
theorem UF.mono {lf : Addr} {K : PySem.W.Frag} {H H' : Hp} {vs : List V} {us : List Un} (h : UF lf K H vs us) (g : Same H H') : UF lf K H' vs us := Paired.mapP h fun _ _ q => q.mono g
theorem UF.un {lf : Addr} {K : PySem.W.Frag} {H : Hp} {vs : List V} {us : List Un} (h : UF lf K H vs us) : UL false K H vs us := Paired.mapP h fun _ _ q => q.un
theorem UF.upd {lf : Addr} {K : PySem.W.Frag} {H : Hp} {vs : List V} {us : List Un} {ys : List V} {o : HO} (h : UF lf K H vs us) (e : H lf = some (.lst ys)) : UF lf K (upd H lf o) vs us := Paired.mapP h fun _ _ q => q.upd e
theorem UF.length {lf : Addr} {K : PySem.W.Frag} {H : Hp} {vs : List V} {us : List Un} (h : UF lf K H vs us) : vs.length = us.length := Paired.length h
theorem UF.get {lf : Addr} {K : PySem.W.Frag} {H : Hp} {vs : List V} {us : List Un} {i : Nat} {v : V} (h : UF lf K H vs us) (e : vs[i]? = some v) : ∃ u, us[i]? = some u ∧ UnF lf K H v u := paired_get h e
theorem UF.snoc {lf : Addr} {K : PySem.W.Frag} {H : Hp} {vs : List V} {us : List Un} {v : V} {u : Un} (h : UF lf K H vs us) (k : UnF lf K H v u) : UF lf K H (vs ++ [v]) (us ++ [u]) := Paired.snoc h k
/-- a unit apart from all that was there -/
def UnN (H0 : Hp) (K : PySem.W.Frag) (H : Hp) (v : V) (u : Un) : Prop := ∀ lf o, H0 lf = some o → UnF lf K H v u
def WfU (e : Nat) : Un → Prop
  | .sum _ ts => (∀ x ∈ ts, x.1 < e) ∧ (ts.map (·.1)).Nodup ∧ ts.length ≤ 100
  | .bend p => p < e
def isB : Un → Bool
  | .sum _ _ => false
  | .bend _ => true
def WfN (many : Nat) (us : List Un) : Prop := ∀ (k : Nat) (u : Un), us[k]? = some u → WfU (many + k) u
/-- a thing is told, all else stays -/
def RetBy (H : Hp) (Q : VK) (P : Hp → V → Prop) : Prop := ∀ p H', Same H H' → P H' (.ref p) → Q (.ref p) H'

def spPlace : Sp := fun vs H Q _ => ∃ p e : Nat, vs = [.int (p : Int), .int (e : Int)] ∧ p < e ∧ Q (.int (p : Int)) H
theorem ok_checked_place (T : Txt K mg a) : FnOk P w K mg base CX0 2 a.f_checked_place a.d_checked_place ["place", "end"] spPlace := by
  refine T.F_checked_place.ok sc_checked_place (fun vs H Q E h => ?_) (fun cdv A outer s H vs Q E hr h => ?_)
  · obtain ⟨_, _, rfl, _⟩ := h
    rfl
  obtain ⟨p, e, rfl, lt, q⟩ := h
  refine ⟨_, (pss_cons (ps_if (PW.pt (pw_or (pt_not (pt_val (pe_call (ok_is_whole T) (hr.mono (by decide)) rfl T.m_is_whole T.F_is_whole.kp T.b_is_whole .nil pass0 (pa_c (pv 0) pa_nil) (he := starEach_plain rfl _ _) (hpl := noStar rfl)))) (pw_or (pt_cmpR op_lt (pv 0) pe_int (nomark _)) (pw_or1 (pt_cmpR op_ge (pv 0) (pv 1) (nomark _))))))
        (pss_one ps_never)
        pss_nil)
      (pss_one (ps_ret (pe_callTy (call_int1) rfl T.m_int boot_int (pa_c (pv 0) pa_nil) (he := starEach_plain rfl _ _) (hpl := noStar rfl))))), ?_⟩
  refine ⟨_, rfl, _, rfl, _, rfl, iteF ⟨_, rfl, _, _, rfl, rfl, _, rfl, iteN (by omega) ⟨_, rfl, _, rfl, _, _, rfl, rfl, _, rfl, iteN (by omega) ?_⟩⟩⟩
  exact ⟨_, rfl, .inl ⟨_, rfl, q⟩⟩
def spTerm (K : PySem.W.Frag) : Sp := fun vs H Q _ => ∃ (v : V) (x : Nat × Rat) (e : Nat), vs = [v, .int (e : Int)] ∧ TermAt K H v x ∧ x.1 < e ∧ RetBy H Q fun H' v => TermAt K H' v x
theorem ok_checked_term (T : Txt K mg a) : FnOk P w K mg base CX0 3 a.f_checked_term a.d_checked_term ["term", "end"] (spTerm K) := by
  refine T.F_checked_term.ok sc_checked_term (fun vs H Q E h => ?_) (fun cdv A outer s H vs Q E hr h => ?_)
  · obtain ⟨_, _, _, rfl, _⟩ := h
    rfl
  obtain ⟨v, x, e, rfl, ⟨t, r, rfl, ht, hr'⟩, lt, q⟩ := h
  refine ⟨_, (pss_cons (ps_if (PW.pt (pw_or (pt_not (pt_val (pe_callB (call_isi) rfl T.m_isinstance boot_isinstance (pa_c (pv 0) (pa_c (pe_bltn (v := .ty "tuple") rfl T.m_tuple boot_tuple rfl) pa_nil)) (he := starEach_plain rfl _ _) (hpl := noStar rfl)))) (pw_or1 (pt_cmpR op_ne (pe_callB (call_len_seq) rfl T.m_len boot_len (pa_c (pv 0) pa_nil) (he := starEach_plain rfl _ _) (hpl := noStar rfl)) pe_int (nomark _)))))
        (pss_one ps_never)
        pss_nil)
      (pss_cons (ps_if (pt_not (pt_val (pe_call (ok_is_ratio T) (hr.mono (by decide)) rfl T.m_is_ratio T.F_is_ratio.kp T.b_is_ratio .nil pass0 (pa_c (pe_ix ix_tup (pv 0) pe_int (fun _ _ => rfl)) pa_nil) (he := starEach_plain rfl _ _) (hpl := noStar rfl))))
        (pss_one ps_never)
        pss_nil)
      (pss_one (ps_ret (pe_tup (pa_c (pe_call (ok_checked_place T) (hr.mono (by decide)) rfl T.m_checked_place T.F_checked_place.kp T.b_checked_place .nil pass0 (pa_c (pe_ix ix_tup (pv 0) pe_int (fun _ _ => rfl)) (pa_c (pv 1) pa_nil)) (he := starEach_plain rfl _ _) (hpl := noStar rfl)) (pa_c (pe_call (ok_plain T) (hr.mono (by decide)) rfl T.m_plain T.F_plain.kp T.b_plain .nil pass0 (pa_c (pe_ix ix_tup (pv 0) pe_int (fun _ _ => rfl)) pa_nil) (he := starEach_plain rfl _ _) (hpl := noStar rfl)) pa_nil))))))), ?_⟩
  refine ⟨_, rfl, _, _, _, rfl, IsI.tupTup ht, _, rfl, iteF ⟨_, rfl, _, _, rfl, .inr ht, rfl, _, rfl, iteF ?_⟩⟩
  refine ⟨_, rfl, _, _, _, _, rfl, rfl, ht, rfl, r, _, rfl, hr', _, rfl, iteF ?_⟩
  refine ⟨_, rfl, _, _, _, _, rfl, rfl, ht, rfl, _, rfl, x.1, e, rfl, lt, _, rfl, _, _, _, _, rfl, rfl, ht, rfl, r, _, rfl, hr', fun p1 H1 g1 e1 => ⟨two_le, fun t2 h2 => ?_⟩⟩
  have g2 := same_new h2 (.tup [.int (x.1 : Int), .ref p1])
  exact q t2 _ (g1.trans g2) ⟨t2, p1, rfl, SqT.of upd_same, SqT.of (g2 _ _ e1)⟩
theorem nodup_int : ∀ {ns : List Nat}, ns.Nodup → (ns.map fun n : Nat => (n : Int)).Nodup
  | [], _ => List.nodup_nil
  | n :: ns, h => by
    rw [List.map_cons, List.nodup_cons]
    rw [List.nodup_cons] at h
    refine ⟨fun z => ?_, nodup_int h.2⟩
    obtain ⟨m, hm, e⟩ := List.mem_map.mp z
    have e : m = n := by omega
    exact h.1 (e ▸ hm)
def spSum (K : PySem.W.Frag) : Sp := fun vs H Q _ => ∃ (pc pt : Addr) (vt : List V) (c : Rat) (ts : List (Nat × Rat)) (e : Nat), vs = [.ref pc, .ref pt, .int (e : Int)] ∧ SqT K H pc (TQ c) ∧ SqL K H pt vt ∧ TL K H vt ts ∧ WfU e (.sum c ts) ∧
  RetBy H Q fun H' v => UnAt true K H' v (.sum c ts)
set_option maxHeartbeats 0 in
theorem ok_checked_sum (T : Txt K mg a) : FnOk P w K mg base CX0 4 a.f_checked_sum a.d_checked_sum ["constant", "terms", "end"] (spSum K) := by
  refine T.F_checked_sum.ok sc_checked_sum (fun vs H Q E h => ?_) (fun cdv A outer s H vs Q E hr h => ?_)
  · obtain ⟨_, _, _, _, _, _, rfl, _⟩ := h
    rfl
  obtain ⟨pc, pt, vt, c, ts, e, rfl, hc, ht, rt, ⟨wp, nd, l100⟩, q⟩ := h
  have h0 : PS (cxOf CX0 P w K mg base ["constant", "terms", "end", "found"] "checked_sum" (defScope s_checked_sum) a.f_checked_sum cdv A outer s H E).nox ((defBody s_checked_sum).getD 0 (.Pass ⟨0, 0, 0, 0⟩)) _ := (ps_if (pt_not (pt_val (pe_call (ok_is_ratio T) (hr.mono (by decide)) rfl T.m_is_ratio T.F_is_ratio.kp T.b_is_ratio .nil pass0 (pa_c (pv 0) pa_nil) (he := starEach_plain rfl _ _) (hpl := noStar rfl))))
        (pss_one ps_never)
        pss_nil)
  have h1 : PS (cxOf CX0 P w K mg base ["constant", "terms", "end", "found"] "checked_sum" (defScope s_checked_sum) a.f_checked_sum cdv A outer s H E).nox ((defBody s_checked_sum).getD 1 (.Pass ⟨0, 0, 0, 0⟩)) _ := (ps_if (pt_not (pt_val (pe_callB (call_isi) rfl T.m_isinstance boot_isinstance (pa_c (pv 1) (pa_c (pe_bltn (v := .ty "list") rfl T.m_list boot_list rfl) pa_nil)) (he := starEach_plain rfl _ _) (hpl := noStar rfl))))
        (pss_one ps_never)
        pss_nil)
  have h2 : PS (cxOf CX0 P w K mg base ["constant", "terms", "end", "found"] "checked_sum" (defScope s_checked_sum) a.f_checked_sum cdv A outer s H E).nox ((defBody s_checked_sum).getD 2 (.Pass ⟨0, 0, 0, 0⟩)) _ := (ps_setComp (i := 3) sc_checked_sum.nd rfl (Or.inl rfl) (N := ["term", "end"]) (ix := [none, some 2]) ⟨rfl, rfl, rfl, rfl, ⟨rfl, trivial⟩, rfl, ⟨⟨rfl, Or.inr (Or.inl rfl), ne_loc rfl, rfl, Or.inl rfl⟩, trivial⟩⟩ rfl (pi_list (pv 1)) (fun _ => (pg_name (i := 0) (show (["term", "end"] : List Str).Nodup by decide +kernel) rfl (Or.inl rfl))) (fun _ σ => go_name rfl σ) (fun _ => pif_none) (fun _ => (pe_call (ok_checked_term T) (hr.mono (by decide)) rfl T.m_checked_term T.F_checked_term.kp T.b_checked_term .nil pass0 (pa_c (pv 0) (pa_c (pv 1) pa_nil)) (he := starEach_plain rfl _ _) (hpl := noStar rfl))))
  have h3 : PS (cxOf CX0 P w K mg base ["constant", "terms", "end", "found"] "checked_sum" (defScope s_checked_sum) a.f_checked_sum cdv A outer s H E).nox ((defBody s_checked_sum).getD 3 (.Pass ⟨0, 0, 0, 0⟩)) _ := (ps_if (pt_cmpR op_ne (pe_callB (call_len_setV) rfl T.m_len boot_len (pa_c (pe_callTy (call_set_ints rfl) rfl T.m_set boot_set (pa_c (pe_comp (N := ["place", "share"]) (ix := [none, none]) ⟨rfl, rfl, rfl, rfl, trivial, rfl, trivial⟩ rfl (pi_list (pv 3)) (fun _ => (pg_tup rfl (pgs_cons (pg_name (i := 0) (show (["place", "share"] : List Str).Nodup by decide +kernel) rfl (Or.inl rfl)) (pgs_cons (pg_name (i := 1) (show (["place", "share"] : List Str).Nodup by decide +kernel) rfl (Or.inl rfl)) pgs_nil)))) (fun _ σ => go_two rfl rfl (by decide) σ) (fun _ => pif_none) (fun _ => (pv 0))) pa_nil) (he := starEach_plain rfl _ _) (hpl := noStar rfl)) pa_nil) (he := starEach_plain rfl _ _) (hpl := noStar rfl)) (pe_callB (call_len_seq) rfl T.m_len boot_len (pa_c (pv 3) pa_nil) (he := starEach_plain rfl _ _) (hpl := noStar rfl)) (nomark _))
        (pss_one ps_never)
        pss_nil)
  have h4 : PS (cxOf CX0 P w K mg base ["constant", "terms", "end", "found"] "checked_sum" (defScope s_checked_sum) a.f_checked_sum cdv A outer s H E).nox ((defBody s_checked_sum).getD 4 (.Pass ⟨0, 0, 0, 0⟩)) _ := (ps_ret (pe_tup (pa_c pe_str (pa_c (pe_call (ok_plain T) (hr.mono (by decide)) rfl T.m_plain T.F_plain.kp T.b_plain .nil pass0 (pa_c (pv 0) pa_nil) (he := starEach_plain rfl _ _) (hpl := noStar rfl)) (pa_c (pe_callTy (call_tuple_of) rfl T.m_tuple boot_tuple (pa_c (pv 3) pa_nil) (he := starEach_plain rfl _ _) (hpl := noStar rfl)) pa_nil)))))
  have hb : defBody s_checked_sum = [((defBody s_checked_sum).getD 0 (.Pass ⟨0, 0, 0, 0⟩)), ((defBody s_checked_sum).getD 1 (.Pass ⟨0, 0, 0, 0⟩)), ((defBody s_checked_sum).getD 2 (.Pass ⟨0, 0, 0, 0⟩)), ((defBody s_checked_sum).getD 3 (.Pass ⟨0, 0, 0, 0⟩)), ((defBody s_checked_sum).getD 4 (.Pass ⟨0, 0, 0, 0⟩))] := by rfl
  generalize ((defBody s_checked_sum).getD 0 (.Pass ⟨0, 0, 0, 0⟩)) = S0 at *
  generalize ((defBody s_checked_sum).getD 1 (.Pass ⟨0, 0, 0, 0⟩)) = S1 at *
  generalize ((defBody s_checked_sum).getD 2 (.Pass ⟨0, 0, 0, 0⟩)) = S2 at *
  generalize ((defBody s_checked_sum).getD 3 (.Pass ⟨0, 0, 0, 0⟩)) = S3 at *
  generalize ((defBody s_checked_sum).getD 4 (.Pass ⟨0, 0, 0, 0⟩)) = S4 at *
  rw [hb]
  refine ⟨_, (pss_cons h0 (pss_cons h1 (pss_cons h2 (pss_cons h3 (pss_one h4))))), ?_⟩
  clear hb h0 h1 h2 h3 h4 S0 S1 S2 S3 S4
  have lt := rt.length
  refine ⟨_, rfl, pc, _, rfl, hc, _, rfl, iteF ?_⟩
  refine ⟨_, rfl, _, _, _, rfl, IsI.lstList ht, _, rfl, iteF ?_⟩
  refine ⟨_, rfl, pt, rfl, ⟨_, ht⟩, comp_by (n := ts.length) (fun i ys H' => Same H H' ∧ TL K H' ys (ts.take i)) ⟨Same.refl _, .nil⟩ (small1000 (by omega)) ?_ ?_ ?_⟩
  case refine_2 =>
    rintro i ys H' hi ⟨g, _⟩
    exact ⟨_, _, g.seq ht, List.getElem?_eq_getElem (by omega)⟩
  case refine_3 =>
    rintro i m' ys H' cc x H2 hi ⟨g, r⟩ ⟨rfl, y1⟩ nx _
    obtain ⟨x0, ex, hx⟩ := rt.get (y1 _ (g.seq ht))
    refine Or.inl ⟨rfl, _, rfl, _, rfl, x, x0, e, rfl, hx.mono g, wp x0 (List.mem_of_getElem? ex), fun p3 H3 g3 e3 => nx _ _ ⟨g.trans g3, ?_⟩⟩
    rw [take_snoc ex]
    exact Paired.snoc (r.mono g3) e3
  rintro vf H1 ⟨g1, r1⟩
  rw [List.take_of_length_le (Nat.le_refl _)] at r1
  refine ⟨⟨_, g1.seq ht, by omega⟩, fun lf hlf => ?_⟩
  have g2 := same_new hlf (.lst vf)
  have ef := upd_same (H := H1) (a := lf) (o := .lst vf)
  have r1 := r1.mono g2
  have gA := g1.trans g2
  generalize upd H1 lf (.lst vf) = H2 at *
  clear g1 g2 hlf
  have lvf := TL.length r1
  -- len(set([place for place, share in found])) != len(found)
  refine ⟨_, rfl, lf, rfl, ⟨_, SqL.of ef⟩, comp_by (n := ts.length) (fun i ys H' => H' = H2 ∧ ys = ((ts.take i).map fun x => V.int (x.1 : Int))) ⟨rfl, rfl⟩ (small1000 (by omega)) ?_ ?_ ?_⟩
  case refine_2 =>
    rintro i ys H' hi ⟨rfl, _⟩
    exact ⟨_, _, SqL.of ef, List.getElem?_eq_getElem (by omega)⟩
  case refine_3 =>
    rintro i m' ys H' cc x H3 hi ⟨rfl, rfl⟩ ⟨rfl, y1⟩ nx _
    obtain ⟨x0, ex, tt, rr, rfl, h1, h2⟩ := TL.get r1 (y1 _ (SqL.of ef))
    refine ⟨tt, _, rfl, h1, rfl, _, _, rfl, _, _, rfl, rfl, Or.inl ⟨rfl, _, rfl, nx _ _ ⟨rfl, ?_⟩⟩⟩
    rw [take_snoc ex, List.map_append]
    rfl
  rintro ys H3 ⟨rfl, rfl⟩
  rw [List.take_of_length_le (Nat.le_refl _)]
  refine ⟨⟨_, SqL.of ef, by omega⟩, fun lp hlp => ?_⟩
  have g3 := same_new hlp (.lst (ts.map fun x => V.int (x.1 : Int)))
  have ep := upd_same (H := H3) (a := lp) (o := .lst (ts.map fun x => V.int (x.1 : Int)))
  have em : (ts.map fun x => V.int (x.1 : Int)) = ((ts.map (·.1)).map fun n : Nat => (n : Int)).map V.int := by rw [List.map_map, List.map_map]; rfl
  rw [em] at ep g3 ⊢
  generalize upd H3 lp (.lst (((ts.map (·.1)).map fun n : Nat => (n : Int)).map V.int)) = H4 at *
  refine ⟨lp, _, rfl, SqL.of ep, by rw [List.length_map, List.length_map]; omega, nodup_int nd, fun ls S hls => ?_⟩
  have g4 := same_new hls (.set S ((ts.map (·.1)).map fun n : Nat => (n : Int)).length)
  have gB := gA.trans (g3.trans g4)
  have ef4 := (g3.trans g4) _ _ ef
  refine ⟨ls, _, _, rfl, upd_same, by rw [List.length_map, List.length_map]; omega, _, rfl, _, _, rfl, .inl (SqL.of ef4), rfl, _, rfl, iteNS (congrArg V.int (by rw [List.length_map, List.length_map]; omega)) ?_⟩
  have r4 := r1.mono (g3.trans g4)
  have hc4 := gB.tup hc
  generalize upd H4 ls (.set S ((ts.map (·.1)).map fun n : Nat => (n : Int)).length) = H5 at *
  refine ⟨_, rfl, pc, _, rfl, hc4, fun p1 H6 g6 e6 => ?_⟩
  refine ⟨_, rfl, lf, vf, rfl, .inl ⟨SqL.of (g6 _ _ ef4), fun lt2 hlt2 => ⟨(show 3 ≤ sizeLine by decide), fun t3 h3 => ?_⟩⟩⟩
  have g7 := same_new hlt2 (.tup vf)
  have g8 := same_new h3 (.tup [.str "sum", .ref p1, .ref lt2])
  have g78 := g7.trans g8
  exact q t3 _ (gB.trans (g6.trans g78)) ⟨t3, p1, lt2, vf, rfl, SqT.of upd_same, SqT.of (g78 _ _ e6), SqT.of (g8 _ _ upd_same), TL.mono r4 (g6.trans g78)⟩
def spUnit (K : PySem.W.Frag) : Sp := fun vs H Q _ => ∃ (v : V) (u : Un) (e : Nat), vs = [v, .int (e : Int)] ∧ UnAt false K H v u ∧ WfU e u ∧ RetBy H Q fun H' v => UnAt true K H' v u
theorem ok_checked_unit (T : Txt K mg a) : FnOk P w K mg base CX0 5 a.f_checked_unit a.d_checked_unit ["unit", "end"] (spUnit K) := by
  refine T.F_checked_unit.ok sc_checked_unit (fun vs H Q E h => ?_) (fun cdv A outer s H vs Q E hr h => ?_)
  · obtain ⟨_, _, _, rfl, _⟩ := h
    rfl
  obtain ⟨v, u, e, rfl, hu, wf, q⟩ := h
  have h0 : PS (cxOf CX0 P w K mg base ["unit", "end"] "checked_unit" (defScope s_checked_unit) a.f_checked_unit cdv A outer s H E).nox ((defBody s_checked_unit).getD 0 (.Pass ⟨0, 0, 0, 0⟩)) _ := (ps_if (PW.pt (pw_or (pt_not (pt_val (pe_callB (call_isi) rfl T.m_isinstance boot_isinstance (pa_c (pv 0) (pa_c (pe_bltn (v := .ty "tuple") rfl T.m_tuple boot_tuple rfl) pa_nil)) (he := starEach_plain rfl _ _) (hpl := noStar rfl)))) (pw_or (pt_cmpR op_eq (pe_callB (call_len_seq) rfl T.m_len boot_len (pa_c (pv 0) pa_nil) (he := starEach_plain rfl _ _) (hpl := noStar rfl)) pe_int (nomark _)) (pw_or1 (pt_not (pt_val (pe_callB (call_isi) rfl T.m_isinstance boot_isinstance (pa_c (pe_ix ix_tup (pv 0) pe_int (fun _ _ => rfl)) (pa_c (pe_bltn (v := .ty "str") rfl T.m_str boot_str rfl) pa_nil)) (he := starEach_plain rfl _ _) (hpl := noStar rfl))))))))
        (pss_one ps_never)
        pss_nil)
  have h1 : PS (cxOf CX0 P w K mg base ["unit", "end"] "checked_unit" (defScope s_checked_unit) a.f_checked_unit cdv A outer s H E).nox ((defBody s_checked_unit).getD 1 (.Pass ⟨0, 0, 0, 0⟩)) _ := (ps_if (PW.pt (pw_and (pt_cmpR op_eq (pe_ix ix_tup (pv 0) pe_int (fun _ _ => rfl)) pe_str (nomark _)) (pw_and1 (pt_cmpR op_eq (pe_callB (call_len_seq) rfl T.m_len boot_len (pa_c (pv 0) pa_nil) (he := starEach_plain rfl _ _) (hpl := noStar rfl)) pe_int (nomark _)))))
        (pss_one (ps_ret (pe_call (ok_checked_sum T) (hr.mono (by decide)) rfl T.m_checked_sum T.F_checked_sum.kp T.b_checked_sum .nil pass0 (pa_c (pe_ix ix_tup (pv 0) pe_int (fun _ _ => rfl)) (pa_c (pe_ix ix_tup (pv 0) pe_int (fun _ _ => rfl)) (pa_c (pv 1) pa_nil))) (he := starEach_plain rfl _ _) (hpl := noStar rfl))))
        pss_nil)
  have h2 : PS (cxOf CX0 P w K mg base ["unit", "end"] "checked_unit" (defScope s_checked_unit) a.f_checked_unit cdv A outer s H E).nox ((defBody s_checked_unit).getD 2 (.Pass ⟨0, 0, 0, 0⟩)) _ := (ps_if (PW.pt (pw_and (pt_cmpR op_eq (pe_ix ix_tup (pv 0) pe_int (fun _ _ => rfl)) pe_str (nomark _)) (pw_and1 (pt_cmpR op_eq (pe_callB (call_len_seq) rfl T.m_len boot_len (pa_c (pv 0) pa_nil) (he := starEach_plain rfl _ _) (hpl := noStar rfl)) pe_int (nomark _)))))
        (pss_one (ps_ret (pe_tup (pa_c pe_str (pa_c (pe_call (ok_checked_place T) (hr.mono (by decide)) rfl T.m_checked_place T.F_checked_place.kp T.b_checked_place .nil pass0 (pa_c (pe_ix ix_tup (pv 0) pe_int (fun _ _ => rfl)) (pa_c (pv 1) pa_nil)) (he := starEach_plain rfl _ _) (hpl := noStar rfl)) pa_nil)))))
        pss_nil)
  have h3 : PS (cxOf CX0 P w K mg base ["unit", "end"] "checked_unit" (defScope s_checked_unit) a.f_checked_unit cdv A outer s H E).nox ((defBody s_checked_unit).getD 3 (.Pass ⟨0, 0, 0, 0⟩)) _ := ps_never
  have hb : defBody s_checked_unit = [((defBody s_checked_unit).getD 0 (.Pass ⟨0, 0, 0, 0⟩)), ((defBody s_checked_unit).getD 1 (.Pass ⟨0, 0, 0, 0⟩)), ((defBody s_checked_unit).getD 2 (.Pass ⟨0, 0, 0, 0⟩)), ((defBody s_checked_unit).getD 3 (.Pass ⟨0, 0, 0, 0⟩))] := by rfl
  generalize ((defBody s_checked_unit).getD 0 (.Pass ⟨0, 0, 0, 0⟩)) = S0 at *
  generalize ((defBody s_checked_unit).getD 1 (.Pass ⟨0, 0, 0, 0⟩)) = S1 at *
  generalize ((defBody s_checked_unit).getD 2 (.Pass ⟨0, 0, 0, 0⟩)) = S2 at *
  generalize ((defBody s_checked_unit).getD 3 (.Pass ⟨0, 0, 0, 0⟩)) = S3 at *
  rw [hb]
  refine ⟨_, (pss_cons h0 (pss_cons h1 (pss_cons h2 (pss_one h3)))), ?_⟩
  clear hb h0 h1 h2 h3 S0 S1 S2 S3
  cases u with
  | sum c ts =>
    obtain ⟨t, pc, pt, vs, rfl, h1, h2, h3, h4⟩ := hu
    refine ⟨_, rfl, _, _, _, rfl, IsI.tupTup h1, _, rfl, iteF ⟨_, rfl, _, _, rfl, .inr h1, rfl, _, rfl, iteF ⟨_, rfl, _, _, _, _, rfl, rfl, h1, rfl, _, _, _, rfl, IsI.strStr _, _, rfl, iteF ?_⟩⟩⟩
    refine ⟨_, rfl, _, _, _, _, rfl, rfl, h1, rfl, rfl, _, rfl, iteP rfl ⟨_, rfl, _, _, rfl, .inr h1, rfl, _, rfl, iteP rfl ?_⟩⟩
    exact ⟨_, rfl, _, _, _, _, rfl, rfl, h1, rfl, _, rfl, _, _, _, _, rfl, rfl, h1, rfl, _, rfl, pc, pt, vs, c, ts, e, rfl, h2, h3, h4, wf, q⟩
  | bend p =>
    obtain ⟨t, rfl, h1⟩ := hu
    refine ⟨_, rfl, _, _, _, rfl, IsI.tupTup h1, _, rfl, iteF ⟨_, rfl, _, _, rfl, .inr h1, rfl, _, rfl, iteF ⟨_, rfl, _, _, _, _, rfl, rfl, h1, rfl, _, _, _, rfl, IsI.strStr _, _, rfl, iteF ?_⟩⟩⟩
    refine ⟨_, rfl, _, _, _, _, rfl, rfl, h1, rfl, rfl, _, rfl, iteN (by decide) (iteF ?_)⟩
    refine ⟨_, rfl, _, _, _, _, rfl, rfl, h1, rfl, rfl, _, rfl, iteP rfl ⟨_, rfl, _, _, rfl, .inr h1, rfl, _, rfl, iteP rfl ?_⟩⟩
    refine ⟨_, rfl, _, _, _, _, rfl, rfl, h1, rfl, _, rfl, p, e, rfl, wf, two_le, fun t2 h2 => ?_⟩
    exact q t2 _ (same_new h2 _) ⟨t2, rfl, SqT.of upd_same⟩

def NetOk (many : Nat) (us : List Un) (outs : List Nat) : Prop := WfN many us ∧ us.length ≤ 80 ∧ (us.filter isB).length ≤ 20 ∧ 1 ≤ many ∧ many ≤ 6 ∧ 1 ≤ outs.length ∧ outs.length ≤ 12 ∧ ∀ o ∈ outs, o < many + us.length
theorem kind_at {b : Bool} {K : PySem.W.Frag} {H : Hp} {v : V} {u : Un} (h : UnAt b K H v u) : ∃ t ys, v = .ref t ∧ SqT K H t (.str (if isB u then "bend" else "sum") :: ys) := by
  cases u with
  | sum c ts =>
    obtain ⟨t, pc, pt, vs, rfl, h1, _⟩ := h
    exact ⟨t, _, rfl, h1⟩
  | bend p =>
    obtain ⟨t, rfl, h1⟩ := h
    exact ⟨t, _, rfl, h1⟩
theorem filter_snoc {α : Type} (p : α → Bool) (xs : List α) (x : α) : (xs ++ [x]).filter p = xs.filter p ++ (if p x then [x] else []) := by
  rw [List.filter_append]
  cases h : p x <;> simp [h]


/-! nets made, or refused -/
/-- a net that is not too great -/
def Fits (us : List Un) (outs : List Nat) : Prop := (us.length ≤ 80 ∧ (us.filter isB).length ≤ 20) ∧ outs.length ≤ 12
def spUnitsE (K : PySem.W.Frag) (C : Addr) : Sp := fun vs H Q E => ∃ (l : Addr) (many : Nat) (vu : List V) (us : List Un), vs = [.ref l, .int (many : Int)] ∧ SqL K H l vu ∧ UL false K H vu us ∧ WfN many us ∧ us.length ≤ 400 ∧
  (us.length ≤ 80 ∧ (us.filter isB).length ≤ 20 → ∀ p H' vk, H p = none → Same H H' → H' p = some (.lst vk) → UL true K H' vk us → Q (.ref p) H') ∧
  (¬ (us.length ≤ 80 ∧ (us.filter isB).length ≤ 20) → ∀ H', Same H H' → E (.ref C) none H')
set_option maxHeartbeats 0 in
theorem ok_checked_units (T : Txt K mg a) : FnOk P w K mg base (CXE P w) 6 a.f_checked_units a.d_checked_units ["units", "many"] (spUnitsE K a.c_NoNet) := by
  refine T.F_checked_units.okE sc_checked_units (fun vs H Q E h => ?_) (fun cdv A outer s H vs Q E hr h => ?_)
  · obtain ⟨_, _, _, _, rfl, _⟩ := h
    rfl
  obtain ⟨l, many, vu, us, rfl, hl, ru, wf, l400, q, qe⟩ := h
  have h0 : PS (cxOf (CXE P w) P w K mg base ["units", "many", "found"] "checked_units" (defScope s_checked_units) a.f_checked_units cdv A outer s H E) ((defBody s_checked_units).getD 0 (.Pass ⟨0, 0, 0, 0⟩)) _ := (ps_if (PW.pt (pw_or (pt_not (pt_val (pe_callB (call_isi) rfl T.m_isinstance boot_isinstance (pa_c (pv 0) (pa_c (pe_bltn (v := .ty "list") rfl T.m_list boot_list rfl) pa_nil)) (he := starEach_plain rfl _ _) (hpl := noStar rfl)))) (pw_or1 (pt_cmpR op_gt (pe_callB (call_len_seq) rfl T.m_len boot_len (pa_c (pv 0) pa_nil) (he := starEach_plain rfl _ _) (hpl := noStar rfl)) (pe_glob (v := .int 80) rfl T.m_MOST_UNITS ⟨_, rfl⟩) (nomark _)))))
        (pss_one (ps_raise rfl rfl rfl rfl rfl T.x_NoNet rfl T.m_NoNet (pa_c pe_str pa_nil)))
        pss_nil)
  have h1 : PS (cxOf (CXE P w) P w K mg base ["units", "many", "found"] "checked_units" (defScope s_checked_units) a.f_checked_units cdv A outer s H E) ((defBody s_checked_units).getD 1 (.Pass ⟨0, 0, 0, 0⟩)) _ := (ps_setComp (i := 2) sc_checked_units.nd rfl (Or.inl rfl) (N := ["k", "unit", "many"]) (ix := [none, none, some 1]) ⟨rfl, rfl, rfl, rfl, ⟨rfl, trivial⟩, rfl, ⟨⟨rfl, Or.inr (Or.inl rfl), ne_loc rfl, rfl, Or.inl rfl⟩, trivial⟩⟩ rfl (pi_enum rfl T.m_enumerate (pa_c (pv 0) pa_nil)) (fun _ => (pg_tup rfl (pgs_cons (pg_name (i := 0) (show (["k", "unit", "many"] : List Str).Nodup by decide +kernel) rfl (Or.inl rfl)) (pgs_cons (pg_name (i := 1) (show (["k", "unit", "many"] : List Str).Nodup by decide +kernel) rfl (Or.inl rfl)) pgs_nil)))) (fun _ σ => go_two rfl rfl (by decide) σ) (fun _ => pif_none) (fun _ => (pe_call (ok_checked_unit T) (hr.mono (by decide)) rfl T.m_checked_unit T.F_checked_unit.kp T.b_checked_unit .nil pass0 (pa_c (pv 1) (pa_c (pe_op op_add (pv 2) (pv 0)) pa_nil)) (he := starEach_plain rfl _ _) (hpl := noStar rfl))))
  have h2 : PS (cxOf (CXE P w) P w K mg base ["units", "many", "found"] "checked_units" (defScope s_checked_units) a.f_checked_units cdv A outer s H E) ((defBody s_checked_units).getD 2 (.Pass ⟨0, 0, 0, 0⟩)) _ := (ps_if (pt_cmpR op_gt (pe_callB (call_len_seq) rfl T.m_len boot_len (pa_c (pe_comp (N := ["unit"]) (ix := [none]) ⟨rfl, rfl, rfl, rfl, trivial, rfl, trivial⟩ rfl (pi_list (pv 2)) (fun _ => (pg_name (i := 0) (show (["unit"] : List Str).Nodup by decide +kernel) rfl (Or.inl rfl))) (fun _ σ => go_name rfl σ) (fun _ => (pif_one (pt_cmpR op_eq (pe_ix ix_tup (pv 0) pe_int (fun _ _ => rfl)) pe_str (nomark _)))) (fun _ => (pv 0))) pa_nil) (he := starEach_plain rfl _ _) (hpl := noStar rfl)) (pe_glob (v := .int 20) rfl T.m_MOST_BENDS ⟨_, rfl⟩) (nomark _))
        (pss_one (ps_raise rfl rfl rfl rfl rfl T.x_NoNet rfl T.m_NoNet (pa_c pe_str pa_nil)))
        pss_nil)
  have h3 : PS (cxOf (CXE P w) P w K mg base ["units", "many", "found"] "checked_units" (defScope s_checked_units) a.f_checked_units cdv A outer s H E) ((defBody s_checked_units).getD 3 (.Pass ⟨0, 0, 0, 0⟩)) _ := (ps_ret (pv 2))
  have hb : defBody s_checked_units = [((defBody s_checked_units).getD 0 (.Pass ⟨0, 0, 0, 0⟩)), ((defBody s_checked_units).getD 1 (.Pass ⟨0, 0, 0, 0⟩)), ((defBody s_checked_units).getD 2 (.Pass ⟨0, 0, 0, 0⟩)), ((defBody s_checked_units).getD 3 (.Pass ⟨0, 0, 0, 0⟩))] := by rfl
  generalize ((defBody s_checked_units).getD 0 (.Pass ⟨0, 0, 0, 0⟩)) = S0 at *
  generalize ((defBody s_checked_units).getD 1 (.Pass ⟨0, 0, 0, 0⟩)) = S1 at *
  generalize ((defBody s_checked_units).getD 2 (.Pass ⟨0, 0, 0, 0⟩)) = S2 at *
  generalize ((defBody s_checked_units).getD 3 (.Pass ⟨0, 0, 0, 0⟩)) = S3 at *
  rw [hb]
  refine ⟨_, (pss_cons h0 (pss_cons h1 (pss_cons h2 (pss_one h3)))), ?_⟩
  clear hb h0 h1 h2 h3 S0 S1 S2 S3
  have lu := ru.length
  refine ⟨_, rfl, _, _, _, rfl, IsI.lstList hl, _, rfl, iteF ⟨_, rfl, _, _, rfl, .inl hl, _, _, rfl, rfl, _, rfl, iteD (fun c => ?_) (fun c => ?_)⟩⟩
  · exact ⟨(show 1 ≤ sizeLine by decide), qe (fun z => by have := z.1; omega) H (Same.refl _)⟩
  have l80 : us.length ≤ 80 := by omega
  refine ⟨_, rfl, l, rfl, ⟨_, hl⟩, comp_by (n := us.length) (fun i ys H' => Same H H' ∧ UL true K H' ys (us.take i)) ⟨Same.refl _, .nil⟩ (small1000 (by omega)) ?_ ?_ ?_⟩
  case refine_2 =>
    rintro i ys H' hi ⟨g, _⟩
    exact ⟨_, _, g.seq hl, List.getElem?_eq_getElem (by omega)⟩
  case refine_3 =>
    rintro i m' ys H' cc x H2 hi ⟨g, r⟩ ⟨p, x2, hp, rfl, rfl, y1⟩ nx _
    obtain ⟨u0, eu, hu⟩ := ru.get (y1 _ (g.seq hl))
    have g2 := same_new hp (.tup [.int (i : Int), x2])
    refine ⟨p, _, rfl, SqT.of upd_same, rfl, _, _, rfl, _, _, rfl, rfl, Or.inl ⟨rfl, _, rfl, _, rfl, _, rfl, _, _, rfl, rfl, x2, u0, many + i, congrArg (fun z => [x2, V.int z]) (show (many : Int) + (i : Int) = ((many + i : Nat) : Int) by omega), hu.mono (g.trans g2), wf i u0 eu, fun p3 H3 g3 e3 => nx _ _ ⟨g.trans (g2.trans g3), ?_⟩⟩⟩
    rw [take_snoc eu]
    exact UL.snoc (r.mono (g2.trans g3)) e3
  rintro vk H1 ⟨g1, r1⟩
  rw [List.take_of_length_le (Nat.le_refl _)] at r1
  refine ⟨⟨_, g1.seq hl, by omega⟩, fun lf hlf => ?_⟩
  have nlf : H lf = none := none_back g1 hlf
  have g2 := same_new hlf (.lst vk)
  have ef := upd_same (H := H1) (a := lf) (o := .lst vk)
  have r1 := r1.mono g2
  have gA := g1.trans g2
  generalize upd H1 lf (.lst vk) = H2 at *
  clear g1 g2 hlf
  have lvk := UL.length r1
  refine ⟨_, rfl, lf, rfl, ⟨_, SqL.of ef⟩, comp_by (n := us.length) (fun i ys H' => H' = H2 ∧ ys.length = ((us.take i).filter isB).length) ⟨rfl, rfl⟩ (small1000 (by omega)) ?_ ?_ ?_⟩
  case refine_2 =>
    rintro i ys H' hi ⟨rfl, _⟩
    exact ⟨_, _, SqL.of ef, List.getElem?_eq_getElem (by omega)⟩
  case refine_3 =>
    rintro i m' ys H' cc x H3 hi ⟨rfl, ly⟩ ⟨rfl, y1⟩ nx sk
    obtain ⟨u0, eu, hu⟩ := UL.get r1 (y1 _ (SqL.of ef))
    obtain ⟨t, zs, rfl, ht⟩ := kind_at hu
    refine ⟨_, rfl, _, _, _, _, rfl, rfl, ht, at0, rfl, _, rfl, ?_⟩
    have es : us.take (i + 1) = us.take i ++ [u0] := take_snoc eu
    cases hb : isB u0 with
    | true =>
      refine Or.inl ⟨by rfl, _, rfl, nx _ _ ⟨rfl, ?_⟩⟩
      rw [es, filter_snoc, hb, List.length_append, List.length_append, ly]
      rfl
    | false =>
      refine Or.inr ⟨by rfl, sk _ ⟨rfl, ?_⟩⟩
      rw [es, filter_snoc, hb, List.length_append, ly]
      rfl
  rintro ys H3 ⟨rfl, ly⟩
  rw [List.take_of_length_le (Nat.le_refl _)] at ly
  refine ⟨⟨_, SqL.of ef, by omega⟩, fun lb hlb => ?_⟩
  have g3 := same_new hlb (.lst ys)
  refine ⟨_, _, rfl, .inl (SqL.of upd_same), _, _, rfl, rfl, _, rfl, iteD (fun c => ?_) (fun c => ?_)⟩
  · exact ⟨(show 1 ≤ sizeLine by decide), qe (fun z => by have := z.2; rw [ly] at c; omega) _ (gA.trans g3)⟩
  · exact ⟨_, rfl, q ⟨l80, by rw [ly] at c; omega⟩ lf _ vk nlf (gA.trans g3) (g3 _ _ ef) (r1.mono g3)⟩
def outV (outs : List Nat) : List V := outs.map fun n : Nat => V.int (n : Int)
theorem out_at {outs : List Nat} {i : Nat} {x : V} (h : (outV outs)[i]? = some x) : ∃ n : Nat, outs[i]? = some n ∧ x = .int (n : Int) := by
  unfold outV at h
  rw [List.getElem?_map] at h
  cases e : outs[i]? with
  | none => rw [e] at h; cases h
  | some z => rw [e] at h; exact ⟨z, rfl, (Option.some.inj h).symm⟩

def spOutsE (K : PySem.W.Frag) (C : Addr) : Sp := fun vs H Q E => ∃ (l : Addr) (e : Nat) (outs : List Nat), vs = [.ref l, .int (e : Int)] ∧ SqL K H l (outV outs) ∧ (∀ o ∈ outs, o < e) ∧ 1 ≤ outs.length ∧
  (outs.length ≤ 12 → ∀ p, H p = none → Q (.ref p) (upd H p (.lst (outV outs)))) ∧ (¬ outs.length ≤ 12 → E (.ref C) none H)
theorem ok_checked_outs (T : Txt K mg a) : FnOk P w K mg base (CXE P w) 3 a.f_checked_outs a.d_checked_outs ["outs", "end"] (spOutsE K a.c_NoNet) := by
  refine T.F_checked_outs.okE sc_checked_outs (fun vs H Q E h => ?_) (fun cdv A outer s H vs Q E hr h => ?_)
  · obtain ⟨_, _, _, rfl, _⟩ := h
    rfl
  obtain ⟨l, e, outs, rfl, hl, lt, l1, q, qe⟩ := h
  refine ⟨_, (pss_cons (ps_if (PW.pt (pw_or (pt_not (pt_val (pe_callB (call_isi) rfl T.m_isinstance boot_isinstance (pa_c (pv 0) (pa_c (pe_bltn (v := .ty "list") rfl T.m_list boot_list rfl) pa_nil)) (he := starEach_plain rfl _ _) (hpl := noStar rfl)))) (pw_or (pt_cmpR op_lt (pe_callB (call_len_seq) rfl T.m_len boot_len (pa_c (pv 0) pa_nil) (he := starEach_plain rfl _ _) (hpl := noStar rfl)) pe_int (nomark _)) (pw_or1 (pt_cmpR op_gt (pe_callB (call_len_seq) rfl T.m_len boot_len (pa_c (pv 0) pa_nil) (he := starEach_plain rfl _ _) (hpl := noStar rfl)) (pe_glob (v := .int 12) rfl T.m_MOST_OUTS ⟨_, rfl⟩) (nomark _))))))
        (pss_one (ps_raise rfl rfl rfl rfl rfl T.x_NoNet rfl T.m_NoNet (pa_c pe_str pa_nil)))
        pss_nil)
      (pss_one (ps_ret (pe_comp (N := ["place", "end"]) (ix := [none, some 1]) ⟨rfl, rfl, rfl, rfl, ⟨rfl, trivial⟩, rfl, ⟨⟨rfl, Or.inr (Or.inl rfl), ne_loc rfl, rfl, Or.inl rfl⟩, trivial⟩⟩ rfl (pi_list (pv 0)) (fun _ => (pg_name (i := 0) (show (["place", "end"] : List Str).Nodup by decide +kernel) rfl (Or.inl rfl))) (fun _ σ => go_name rfl σ) (fun _ => pif_none) (fun _ => (pe_call (ok_checked_place T) (hr.mono (by decide)) rfl T.m_checked_place T.F_checked_place.kp T.b_checked_place .nil pass0 (pa_c (pv 0) (pa_c (pv 1) pa_nil)) (he := starEach_plain rfl _ _) (hpl := noStar rfl))))))), ?_⟩
  have lo : (outV outs).length = outs.length := by unfold outV; rw [List.length_map]
  refine ⟨_, rfl, _, _, _, rfl, IsI.lstList hl, _, rfl, iteF ⟨_, rfl, _, _, rfl, .inl hl, _, _, rfl, rfl, _, rfl, iteN (by omega) ⟨_, rfl, _, _, rfl, .inl hl, _, _, rfl, rfl, _, rfl, iteD (fun c => ?_) (fun c => ?_)⟩⟩⟩
  · exact ⟨(show 1 ≤ sizeLine by decide), qe (by omega)⟩
  have l12 : outs.length ≤ 12 := by omega
  refine ⟨_, rfl, l, rfl, ⟨_, hl⟩, comp_by (n := outs.length) (fun i ys H' => H' = H ∧ ys = outV (outs.take i)) ⟨rfl, rfl⟩ (small1000 (by omega)) ?_ ?_ ?_⟩
  · rintro ys H' ⟨rfl, rfl⟩
    rw [List.take_of_length_le (Nat.le_refl _)]
    exact ⟨⟨_, hl, by omega⟩, fun D hD => q l12 D hD⟩
  · rintro i ys H' hi ⟨rfl, _⟩
    exact ⟨_, _, hl, List.getElem?_eq_getElem (by omega)⟩
  · rintro i m' ys H' cc x H2 hi ⟨rfl, rfl⟩ ⟨rfl, y1⟩ nx _
    obtain ⟨o, eo, rfl⟩ := out_at (y1 _ hl)
    refine Or.inl ⟨rfl, _, rfl, _, rfl, o, e, rfl, lt o (List.mem_of_getElem? eo), nx _ _ ⟨rfl, ?_⟩⟩
    rw [take_snoc eo]
    unfold outV
    rw [List.map_append]
    rfl
def NetAt (C : Addr) (H : Hp) (p lu lo : Addr) (many : Nat) : Prop := ∃ dx, H p = some (.ins C dx [("many", .int (many : Int)), ("units", .ref lu), ("outs", .ref lo)])
theorem NetAt.mono {C : Addr} {H H' : Hp} {p lu lo : Addr} {many : Nat} (h : NetAt C H p lu lo many) (g : Same H H') : NetAt C H' p lu lo many := by
  obtain ⟨dx, e⟩ := h
  exact ⟨dx, g _ _ e⟩
theorem UL.upd_ins {K : PySem.W.Frag} {H : Hp} {t C dx : Addr} {vs : List V} {us : List Un} {fs : List (Str × V)} {o : HO} (h : UL true K H vs us) (e : H t = some (.ins C dx fs)) : UL true K (upd H t o) vs us :=
  Paired.mapP h fun v u hu => by
    cases u with
    | sum c ts =>
      obtain ⟨t', pc, pt, vs, e0, h1, h2, h3, h4⟩ := hu
      exact ⟨t', pc, pt, vs, e0, SqT.upd_ins h1 e, SqT.upd_ins h2 e, SqT.upd_ins h3 e, Paired.mapP h4 fun _ _ ⟨t, r, e1, k1, k2⟩ => ⟨t, r, e1, SqT.upd_ins k1 e, SqT.upd_ins k2 e⟩⟩
    | bend p =>
      obtain ⟨t', e0, h1⟩ := hu
      exact ⟨t', e0, SqT.upd_ins h1 e⟩
theorem SqL.upd_ins {K : PySem.W.Frag} {H : Hp} {b t C dx : Addr} {xs : List V} {fs : List (Str × V)} {o : HO} (h : SqL K H b xs) (e : H t = some (.ins C dx fs)) : SqL K (upd H t o) b xs := by
  rcases h with (h | ⟨u, h⟩) | h
  · exact .inl (.inl (by rw [upd_ne (ne_of h e (by intro z; cases z))]; exact h))
  · exact .inl (.inr ⟨u, by rw [upd_ne (ne_of h e (by intro z; cases z))]; exact h⟩)
  · exact .inr h

/-- what a net is but for its greatness -/
def NetW (many : Nat) (us : List Un) (outs : List Nat) : Prop := WfN many us ∧ us.length ≤ 400 ∧ 1 ≤ many ∧ many ≤ 6 ∧ 1 ≤ outs.length ∧ ∀ o ∈ outs, o < many + us.length
theorem NetOk.wf {many : Nat} {us : List Un} {outs : List Nat} (h : NetOk many us outs) : NetW many us outs ∧ Fits us outs := by
  obtain ⟨wf, l80, b20, m1, m6, o1, o12, ol⟩ := h
  exact ⟨⟨wf, by omega, m1, m6, o1, ol⟩, ⟨l80, b20⟩, o12⟩
def spNetInitE (K : PySem.W.Frag) (C CE : Addr) : Sp := fun vs H Q E => ∃ (x dx l m : Addr) (many : Nat) (vu : List V) (us : List Un) (outs : List Nat), vs = [.ref x, .int (many : Int), .ref l, .ref m] ∧ H x = some (.ins C dx []) ∧ SqL K H l vu ∧ UL false K H vu us ∧
  SqL K H m (outV outs) ∧ NetW many us outs ∧
  (Fits us outs → ∀ lu lo vk H', (∀ b u, b ≠ x → H b = some u → H' b = some u) → H lu = none → H lo = none → NetAt C H' x lu lo many → H' lu = some (.lst vk) → H' lo = some (.lst (outV outs)) → UL true K H' vk us → Q .non H') ∧
  (¬ Fits us outs → ∀ H', (∀ b u, b ≠ x → H b = some u → H' b = some u) → E (.ref CE) none H')
set_option maxHeartbeats 0 in
theorem ok_Net_init (T : Txt K mg a) : FnOk P w K mg base (CXE P w) 7 a.f_Net_init a.d_Net_init ["self", "many", "units", "outs"] (spNetInitE K a.c_Net a.c_NoNet) := by
  refine T.F_Net_init.okE sc_Net_init (fun vs H Q E h => ?_) (fun cdv A outer s H vs Q E hr h => ?_)
  · obtain ⟨_, _, _, _, _, _, _, _, rfl, _⟩ := h
    rfl
  obtain ⟨x, dx, l, m, many, vu, us, outs, rfl, hx, hl, ru, hm, ⟨wf, l400, m1, m6, o1, ol⟩, q, qe⟩ := h
  have h0 : PS (cxOf (CXE P w) P w K mg base ["self", "many", "units", "outs"] "Net.__init__" (defScope s_Net_init) a.f_Net_init cdv A outer s H E) ((defBody s_Net_init).getD 0 (.Pass ⟨0, 0, 0, 0⟩)) _ := (ps_if (PW.pt (pw_or (pt_not (pt_val (pe_call (ok_is_whole T) (hr.mono (by decide)) rfl T.m_is_whole T.F_is_whole.kp T.b_is_whole .nil pass0 (pa_c (pv 1) pa_nil) (he := starEach_plain rfl _ _) (hpl := noStar rfl)))) (pw_or (pt_cmpR op_lt (pv 1) pe_int (nomark _)) (pw_or1 (pt_cmpR op_gt (pv 1) (pe_glob (v := .int 6) rfl T.m_MOST_INS ⟨_, rfl⟩) (nomark _))))))
        (pss_one (ps_raise rfl rfl rfl rfl rfl T.x_NoNet rfl T.m_NoNet (pa_c pe_str pa_nil)))
        pss_nil)
  have h1 : PS (cxOf (CXE P w) P w K mg base ["self", "many", "units", "outs"] "Net.__init__" (defScope s_Net_init) a.f_Net_init cdv A outer s H E) ((defBody s_Net_init).getD 1 (.Pass ⟨0, 0, 0, 0⟩)) _ := (ps_fld (pv 0) (pe_callTy (call_int1) rfl T.m_int boot_int (pa_c (pv 1) pa_nil) (he := starEach_plain rfl _ _) (hpl := noStar rfl)) rfl)
  have h2 : PS (cxOf (CXE P w) P w K mg base ["self", "many", "units", "outs"] "Net.__init__" (defScope s_Net_init) a.f_Net_init cdv A outer s H E) ((defBody s_Net_init).getD 2 (.Pass ⟨0, 0, 0, 0⟩)) _ := (ps_fld (pv 0) (pe_call (ok_checked_units T) (hr.mono (by decide)) rfl T.m_checked_units T.F_checked_units.kp T.b_checked_units .nil passE (pa_c (pv 2) (pa_c (pe_fld (pv 0) rfl) pa_nil)) (he := starEach_plain rfl _ _) (hpl := noStar rfl)) rfl)
  have h3 : PS (cxOf (CXE P w) P w K mg base ["self", "many", "units", "outs"] "Net.__init__" (defScope s_Net_init) a.f_Net_init cdv A outer s H E) ((defBody s_Net_init).getD 3 (.Pass ⟨0, 0, 0, 0⟩)) _ := (ps_fld (pv 0) (pe_call (ok_checked_outs T) (hr.mono (by decide)) rfl T.m_checked_outs T.F_checked_outs.kp T.b_checked_outs .nil passE (pa_c (pv 3) (pa_c (pe_op op_add (pe_fld (pv 0) rfl) (pe_callB (call_len_seq) rfl T.m_len boot_len (pa_c (pe_fld (pv 0) rfl) pa_nil) (he := starEach_plain rfl _ _) (hpl := noStar rfl))) pa_nil)) (he := starEach_plain rfl _ _) (hpl := noStar rfl)) rfl)
  have hb : defBody s_Net_init = [((defBody s_Net_init).getD 0 (.Pass ⟨0, 0, 0, 0⟩)), ((defBody s_Net_init).getD 1 (.Pass ⟨0, 0, 0, 0⟩)), ((defBody s_Net_init).getD 2 (.Pass ⟨0, 0, 0, 0⟩)), ((defBody s_Net_init).getD 3 (.Pass ⟨0, 0, 0, 0⟩))] := by rfl
  generalize ((defBody s_Net_init).getD 0 (.Pass ⟨0, 0, 0, 0⟩)) = S0 at *
  generalize ((defBody s_Net_init).getD 1 (.Pass ⟨0, 0, 0, 0⟩)) = S1 at *
  generalize ((defBody s_Net_init).getD 2 (.Pass ⟨0, 0, 0, 0⟩)) = S2 at *
  generalize ((defBody s_Net_init).getD 3 (.Pass ⟨0, 0, 0, 0⟩)) = S3 at *
  rw [hb]
  refine ⟨_, (pss_cons h0 (pss_cons h1 (pss_cons h2 (pss_one h3)))), ?_⟩
  clear hb h0 h1 h2 h3 S0 S1 S2 S3
  refine ⟨_, rfl, _, rfl, _, rfl, iteF ⟨_, rfl, _, _, rfl, rfl, _, rfl, iteN (by omega) ⟨_, rfl, _, _, rfl, rfl, _, rfl, iteN (by omega) ?_⟩⟩⟩
  -- many
  refine ⟨_, rfl, .inl ⟨_, rfl, _, rfl, x, _, dx, [], rfl, hx, T.C_Net, T.n_Net_many, by decide, ?_⟩⟩
  have hx1 : upd H x (.ins a.c_Net dx (putF "many" (.int (many : Int)) [])) x = some (.ins a.c_Net dx [("many", .int (many : Int))]) := upd_same
  have but1 : ∀ b u, b ≠ x → H b = some u → upd H x (.ins a.c_Net dx (putF "many" (.int (many : Int)) [])) b = some u := fun b u hb e => by rw [upd_ne hb]; exact e
  have hl1 := SqL.upd_ins (o := .ins a.c_Net dx (putF "many" (.int (many : Int)) [])) hl hx
  have hm1 := SqL.upd_ins (o := .ins a.c_Net dx (putF "many" (.int (many : Int)) [])) hm hx
  have ru1 : UL false K (upd H x (.ins a.c_Net dx (putF "many" (.int (many : Int)) []))) vu us := Paired.mapP ru fun v u hu => by
    cases u with
    | sum c ts =>
      obtain ⟨t', pc, pt, vs, e0, h1, h2, h3, h4⟩ := hu
      exact ⟨t', pc, pt, vs, e0, SqT.upd_ins h1 hx, SqT.upd_ins h2 hx, SqL.upd_ins h3 hx, Paired.mapP h4 fun _ _ ⟨t, r, e1, k1, k2⟩ => ⟨t, r, e1, SqT.upd_ins k1 hx, SqT.upd_ins k2 hx⟩⟩
    | bend p =>
      obtain ⟨t', e0, h1⟩ := hu
      exact ⟨t', e0, SqT.upd_ins h1 hx⟩
  have none1 : ∀ b, upd H x (.ins a.c_Net dx (putF "many" (.int (many : Int)) [])) b = none → H b = none := fun b e => by
    by_cases hb : b = x
    · rw [hb, upd_same] at e; cases e
    · rw [upd_ne hb] at e; exact e
  generalize upd H x (.ins a.c_Net dx (putF "many" (.int (many : Int)) [])) = H1 at *
  -- units
  refine ⟨_, rfl, _, rfl, x, _, dx, _, _, rfl, hx1, T.C_Net, T.n_Net_many, rfl, l, many, vu, us, rfl, hl1, ru1, wf, l400, fun fu lu H2 vk nlu g2 eu rk => ?_, fun nf H2 g2 => qe (fun z => nf z.1) H2 fun b u hb e => g2 _ _ (but1 b u hb e)⟩
  have hx2 := g2 _ _ hx1
  refine ⟨_, rfl, x, _, dx, _, rfl, hx2, T.C_Net, T.n_Net_units, (show 1 < 1000 by decide), ?_⟩
  have nux : lu ≠ x := Ne.symm (ne_of_none hx1 nlu)
  have hx3 : upd H2 x (.ins a.c_Net dx (putF "units" (.ref lu) [("many", .int (many : Int))])) x = some (.ins a.c_Net dx [("many", .int (many : Int)), ("units", .ref lu)]) := upd_same
  have but3 : ∀ b u, b ≠ x → H b = some u → upd H2 x (.ins a.c_Net dx (putF "units" (.ref lu) [("many", .int (many : Int))])) b = some u := fun b u hb e => by rw [upd_ne hb]; exact g2 _ _ (but1 b u hb e)
  have eu3 : upd H2 x (.ins a.c_Net dx (putF "units" (.ref lu) [("many", .int (many : Int))])) lu = some (.lst vk) := by rw [upd_ne nux]; exact eu
  have rk3 := UL.upd_ins (o := .ins a.c_Net dx (putF "units" (.ref lu) [("many", .int (many : Int))])) rk hx2
  have hm3 := SqL.upd_ins (o := .ins a.c_Net dx (putF "units" (.ref lu) [("many", .int (many : Int))])) (g2.seq hm1) hx2
  have none3 : ∀ b, upd H2 x (.ins a.c_Net dx (putF "units" (.ref lu) [("many", .int (many : Int))])) b = none → H b = none := fun b e => by
    by_cases hb : b = x
    · rw [hb, upd_same] at e; cases e
    · rw [upd_ne hb] at e; exact none1 b (none_back g2 e)
  have nlu0 := none1 lu nlu
  generalize upd H2 x (.ins a.c_Net dx (putF "units" (.ref lu) [("many", .int (many : Int))])) = H3 at *
  clear but1 none1 hl1 hm1 ru1 g2 eu rk hx1 hx2
  have lvk := UL.length rk3
  -- outs
  refine ⟨_, rfl, _, rfl, x, _, dx, _, _, rfl, hx3, T.C_Net, T.n_Net_many, rfl, _, rfl, x, _, dx, _, _, rfl, hx3, T.C_Net, T.n_Net_units, rfl, _, _, rfl, .inl (SqL.of eu3), _, _, rfl, rfl, m, many + us.length, outs, congrArg (fun z => [V.ref m, V.int z]) (show (many : Int) + (vk.length : Int) = ((many + us.length : Nat) : Int) by omega), hm3, ol, o1, fun o12 lo hlo => ?_, fun nf => qe (fun z => nf z.2) _ but3⟩
  have g4 := same_new hlo (.lst (outV outs))
  have hx4 := g4 _ _ hx3
  have nox : lo ≠ x := Ne.symm (ne_of_none hx3 hlo)
  refine ⟨_, rfl, x, _, dx, _, rfl, hx4, T.C_Net, T.n_Net_outs, (show 2 < 1000 by decide), ?_⟩
  refine q ⟨fu, o12⟩ lu lo vk _ (fun b u hb e => by rw [upd_ne hb]; exact g4 _ _ (but3 b u hb e)) nlu0 (none3 lo hlo) ⟨dx, upd_same⟩ (by rw [upd_ne nux]; exact g4 _ _ eu3) (by rw [upd_ne nox]; exact upd_same) (UL.upd_ins (UL.mono rk3 g4) hx4)

def spToldU (K : PySem.W.Frag) : Sp := fun vs H Q _ => ∃ (v : V) (u : Un), vs = [v] ∧ UnAt true K H v u ∧ RetBy H Q fun H' v => UnN H K H' v u
theorem ok_told_unit (T : Txt K mg a) : FnOk P w K mg base CX0 1 a.f_told_unit a.d_told_unit ["unit"] (spToldU K) := by
  refine T.F_told_unit.ok sc_told_unit (fun vs H Q E h => ?_) (fun cdv A outer s H vs Q E hr h => ?_)
  · obtain ⟨_, _, rfl, _⟩ := h
    rfl
  obtain ⟨v, u, rfl, hu, q⟩ := h
  refine ⟨_, (pss_cons (ps_if (pt_cmpR op_eq (pe_ix ix_tup (pv 0) pe_int (fun _ _ => rfl)) pe_str (nomark _))
        (pss_one (ps_ret (pe_tup (pa_c pe_str (pa_c (pe_ix ix_tup (pv 0) pe_int (fun _ _ => rfl)) (pa_c (pe_callTy (call_list_of) rfl T.m_list boot_list (pa_c (pe_ix ix_tup (pv 0) pe_int (fun _ _ => rfl)) pa_nil) (he := starEach_plain rfl _ _) (hpl := noStar rfl)) pa_nil))))))
        pss_nil)
      (pss_one (ps_ret (pv 0)))), ?_⟩
  cases u with
  | sum c ts =>
    obtain ⟨t, pc, pt, vs, rfl, h1, h2, h3, h4⟩ := hu
    refine ⟨_, rfl, _, _, _, _, rfl, rfl, h1, rfl, rfl, _, rfl, iteP rfl ?_⟩
    refine ⟨_, rfl, _, _, _, _, rfl, rfl, h1, rfl, _, rfl, _, _, _, _, rfl, rfl, h1, rfl, pt, vs, rfl, .inr h3, fun l2 hl2 => ⟨(show 3 ≤ sizeLine by decide), fun t2 ht2 => ?_⟩⟩
    have g1 := same_new hl2 (.lst vs)
    have g2 := same_new ht2 (.tup [.str "sum", .ref pc, .ref l2])
    have g := g1.trans g2
    exact q t2 _ g fun lf o e => ⟨t2, pc, l2, vs, rfl, SqT.of upd_same, g.tup h2, g2 _ _ upd_same, Ne.symm (ne_of_none e hl2), h4.mono g⟩
  | bend p =>
    obtain ⟨t, rfl, h1⟩ := hu
    refine ⟨_, rfl, _, _, _, _, rfl, rfl, h1, rfl, rfl, _, rfl, iteN (by decide) ?_⟩
    exact ⟨_, rfl, q t H (Same.refl _) fun lf o e => ⟨t, rfl, h1⟩⟩
def spNetTold (K : PySem.W.Frag) (C : Addr) : Sp := fun vs H Q _ => ∃ (p lu lo : Addr) (many : Nat) (vk : List V) (us : List Un) (outs : List Nat), vs = [.ref p] ∧ NetAt C H p lu lo many ∧ SqL K H lu vk ∧ UL true K H vk us ∧ us.length ≤ 80 ∧ SqL K H lo (outV outs) ∧
  ∀ t l2 o2 vu H', Same H H' → SqT K H' t [.int (many : Int), .ref l2, .ref o2] → H l2 = none → H' l2 = some (.lst vu) → (∀ lf o, H lf = some o → UF lf K H' vu us) → H o2 = none → H' o2 = some (.lst (outV outs)) → Q (.ref t) H'
theorem ok_Net_told (T : Txt K mg a) : FnOk P w K mg base CX0 2 a.f_Net_told a.d_Net_told ["self"] (spNetTold K a.c_Net) := by
  refine T.F_Net_told.ok sc_Net_told (fun vs H Q E h => ?_) (fun cdv A outer s H vs Q E hr h => ?_)
  · obtain ⟨_, _, _, _, _, _, _, rfl, _⟩ := h
    rfl
  obtain ⟨p, lu, lo, many, vk, us, outs, rfl, ⟨dx, hp⟩, hu, rk, l80, ho, q⟩ := h
  refine ⟨_, (pss_one (ps_ret (pe_tup (pa_c (pe_fld (pv 0) rfl) (pa_c (pe_comp (N := ["unit"]) (ix := [none]) ⟨rfl, rfl, rfl, rfl, trivial, rfl, trivial⟩ rfl (pi_list (pe_fld (pv 0) rfl)) (fun _ => (pg_name (i := 0) (show (["unit"] : List Str).Nodup by decide +kernel) rfl (Or.inl rfl))) (fun _ σ => go_name rfl σ) (fun _ => pif_none) (fun _ => (pe_call (ok_told_unit T) (hr.mono (by decide)) rfl T.m_told_unit T.F_told_unit.kp T.b_told_unit .nil pass0 (pa_c (pv 0) pa_nil) (he := starEach_plain rfl _ _) (hpl := noStar rfl)))) (pa_c (pe_callTy (call_list_of) rfl T.m_list boot_list (pa_c (pe_fld (pv 0) rfl) pa_nil) (he := starEach_plain rfl _ _) (hpl := noStar rfl)) pa_nil)))))), ?_⟩
  have lk := rk.length
  refine ⟨_, rfl, p, _, dx, _, _, rfl, hp, T.C_Net, T.n_Net_many, rfl, _, rfl, p, _, dx, _, _, rfl, hp, T.C_Net, T.n_Net_units, rfl, lu, rfl, ⟨_, hu⟩, comp_by (n := us.length) (fun i ys H' => Same H H' ∧ ∀ lf o, H lf = some o → UF lf K H' ys (us.take i)) ⟨Same.refl _, fun lf o e => .nil⟩ (small1000 (by omega)) ?_ ?_ ?_⟩
  · rintro ys H1 ⟨g1, r1⟩
    rw [List.take_of_length_le (Nat.le_refl _)] at r1
    refine ⟨⟨_, g1.seq hu, by omega⟩, fun l2 hl2 => ?_⟩
    have g2 := same_new hl2 (.lst ys)
    have gA := g1.trans g2
    refine ⟨_, rfl, p, _, dx, _, _, rfl, gA _ _ hp, T.C_Net, T.n_Net_outs, rfl, lo, _, rfl, .inl (gA.seq ho), fun o2 ho2 => ⟨(show 3 ≤ sizeLine by decide), fun t ht => ?_⟩⟩
    have g3 := same_new ho2 (.lst (outV outs))
    have g4 := same_new ht (.tup [.int (many : Int), .ref l2, .ref o2])
    have g34 := g3.trans g4
    exact q t l2 o2 ys _ (gA.trans g34) (SqT.of upd_same) (none_back g1 hl2) (g34 _ _ upd_same) (fun lf o e => (r1 lf o e).mono (g2.trans g34)) (none_back gA ho2) (g4 _ _ upd_same)
  · rintro i ys H' hi ⟨g, _⟩
    exact ⟨_, _, g.seq hu, List.getElem?_eq_getElem (by omega)⟩
  · rintro i m' ys H' cc x H2 hi ⟨g, r⟩ ⟨rfl, y1⟩ nx _
    obtain ⟨u0, eu, h0⟩ := rk.get (y1 _ (g.seq hu))
    refine Or.inl ⟨rfl, _, rfl, x, u0, rfl, h0.mono g, fun p3 H3 g3 e3 => nx _ _ ⟨g.trans g3, fun lf o e => ?_⟩⟩
    rw [take_snoc eu]
    exact UF.snoc ((r lf o e).mono g3) (e3 lf o (g _ _ e))

def NetHere (K : PySem.W.Frag) (a : Adr) (H : Hp) (pn : Addr) (many : Nat) (us : List Un) (outs : List Nat) : Prop := ∃ lu lo vk, NetAt a.c_Net H pn lu lo many ∧ SqL K H lu vk ∧ UL true K H vk us ∧ SqL K H lo (outV outs)
theorem NetHere.mono {K : PySem.W.Frag} {a : Adr} {H H' : Hp} {pn : Addr} {many : Nat} {us : List Un} {outs : List Nat} (h : NetHere K a H pn many us outs) (g : Same H H') : NetHere K a H' pn many us outs := by
  obtain ⟨lu, lo, vk, h1, h2, h3, h4⟩ := h
  exact ⟨lu, lo, vk, h1.mono g, g.seq h2, h3.mono g, g.seq h4⟩

/-! nets joined -/
/-- a place but those below l, so many higher -/
def mvP (l d p : Nat) : Nat := if p < l then p else p + d
def mvU (l d : Nat) : Un → Un
  | .sum c ts => .sum c (ts.map fun x => (mvP l d x.1, x.2))
  | .bend p => .bend (mvP l d p)
theorem mvP_lt {l d p e : Nat} (h : p < e) : mvP l d p < e + d := by unfold mvP; split <;> omega
theorem mvP_inj {l d p r : Nat} (h : mvP l d p = mvP l d r) : p = r := by
  unfold mvP at h
  split at h <;> split at h <;> omega
theorem nodup_mv {l d : Nat} : ∀ {ns : List Nat}, ns.Nodup → (ns.map (mvP l d)).Nodup
  | [], _ => List.nodup_nil
  | n :: ns, h => by
    have h := List.nodup_cons.mp h
    refine List.nodup_cons.mpr ⟨fun z => ?_, nodup_mv h.2⟩
    obtain ⟨m, hm, e⟩ := List.mem_map.mp z
    exact h.1 (mvP_inj e ▸ hm)
theorem WfU.mv {l d e : Nat} {u : Un} (h : WfU e u) : WfU (e + d) (mvU l d u) := by
  cases u with
  | sum c ts =>
    obtain ⟨h1, h2, h3⟩ := h
    refine ⟨fun x hx => ?_, ?_, by rw [List.length_map]; exact h3⟩
    · obtain ⟨y, hy, rfl⟩ := List.mem_map.mp hx
      exact mvP_lt (h1 y hy)
    · have e : (ts.map fun x => (mvP l d x.1, x.2)).map (·.1) = (ts.map (·.1)).map (mvP l d) := by rw [List.map_map, List.map_map]; rfl
      rw [e]
      exact nodup_mv h2
  | bend p => exact mvP_lt (show p < e from h)
/-- units behind others -/
theorem WfN.behind {many d : Nat} {as us : List Un} (ha : WfN many as) (h : WfN many us) (hd : d = as.length) : WfN many (as ++ us.map (mvU many d)) := fun j u e => by
  by_cases hj : j < as.length
  · rw [List.getElem?_append_left hj] at e
    exact ha j u e
  · rw [List.getElem?_append_right (by omega), List.getElem?_map] at e
    cases z : us[j - as.length]? with
    | none => rw [z] at e; cases e
    | some v =>
      rw [z] at e
      have e : mvU many d v = u := Option.some.inj e
      subst e
      have := (h _ v z).mv (l := many) (d := d)
      rw [show many + (j - as.length) + d = many + j by omega] at this
      exact this
theorem le1000 {n : Nat} (h : n ≤ 1000) : n ≤ sizeLine := Nat.le_trans h (by decide)
theorem outV_append (xs ys : List Nat) : outV xs ++ outV ys = outV (xs ++ ys) := by unfold outV; rw [List.map_append]
theorem outV_length (xs : List Nat) : (outV xs).length = xs.length := by unfold outV; rw [List.length_map]
theorem UL.append {b : Bool} {K : PySem.W.Frag} {H : Hp} {vs ws : List V} {us xs : List Un} (h : UL b K H vs us) (k : UL b K H ws xs) : UL b K H (vs ++ ws) (us ++ xs) := by
  unfold UL at h k ⊢
  induction h with
  | nil => exact k
  | cons h _ ih => exact .cons h ih
def spMvP : Sp := fun vs H Q _ => ∃ p l d : Nat, vs = [.int (p : Int), .int (l : Int), .int (d : Int)] ∧ Q (.int (mvP l d p : Nat)) H
theorem ok_moved_place (T : Txt K mg a) : FnOk P w K mg base CX0 1 a.f_moved_place a.d_moved_place ["place", "many", "by"] spMvP := by
  refine T.F_moved_place.ok sc_moved_place (fun vs H Q E h => ?_) (fun cdv A outer s H vs Q E hr h => ?_)
  · obtain ⟨_, _, _, rfl, _⟩ := h
    rfl
  obtain ⟨p, l, d, rfl, q⟩ := h
  refine ⟨_, (pss_one (ps_ret (pe_ifExp (pt_cmpR op_lt (pv 0) (pv 1) (nomark _)) (pv 0) (pe_op op_add (pv 0) (pv 2))))), ?_⟩
  unfold mvP at q
  refine ⟨_, rfl, _, rfl, _, _, rfl, rfl, _, rfl, iteD (fun c => ?_) (fun c => ?_)⟩
  · rw [if_pos (show p < l by omega)] at q
    exact ⟨_, rfl, q⟩
  · rw [if_neg (show ¬ p < l by omega)] at q
    refine ⟨_, rfl, _, rfl, _, _, rfl, rfl, ?_⟩
    dsimp only
    rw [show (p : Int) + (d : Int) = ((p + d : Nat) : Int) by omega]
    exact q
def spMvU (K : PySem.W.Frag) : Sp := fun vs H Q _ => ∃ (v : V) (u : Un) (l d e : Nat), vs = [v, .int (l : Int), .int (d : Int)] ∧ UnAt false K H v u ∧ WfU e u ∧ RetBy H Q fun H' v => UnAt false K H' v (mvU l d u)
set_option maxHeartbeats 0 in
theorem ok_moved_unit (T : Txt K mg a) : FnOk P w K mg base CX0 2 a.f_moved_unit a.d_moved_unit ["unit", "many", "by"] (spMvU K) := by
  refine T.F_moved_unit.ok sc_moved_unit (fun vs H Q E h => ?_) (fun cdv A outer s H vs Q E hr h => ?_)
  · obtain ⟨_, _, _, _, _, rfl, _⟩ := h
    rfl
  obtain ⟨v, u, l, d, e, rfl, hu, wf, q⟩ := h
  refine ⟨_, (pss_cons (ps_if (pt_cmpR op_eq (pe_ix ix_tup (pv 0) pe_int (fun _ _ => rfl)) pe_str (nomark _))
        (pss_one (ps_ret (pe_tup (pa_c pe_str (pa_c (pe_call (ok_moved_place T) (hr.mono (by decide)) rfl T.m_moved_place T.F_moved_place.kp T.b_moved_place .nil pass0 (pa_c (pe_ix ix_tup (pv 0) pe_int (fun _ _ => rfl)) (pa_c (pv 1) (pa_c (pv 2) pa_nil))) (he := starEach_plain rfl _ _) (hpl := noStar rfl)) pa_nil)))))
        pss_nil)
      (pss_one (ps_ret (pe_tup (pa_c pe_str (pa_c (pe_ix ix_tup (pv 0) pe_int (fun _ _ => rfl)) (pa_c (pe_comp (N := ["place", "share", "many", "by"]) (ix := [none, none, some 1, some 2]) ⟨rfl, rfl, rfl, rfl, ⟨rfl, ⟨rfl, trivial⟩⟩, rfl, ⟨⟨rfl, Or.inr (Or.inl rfl), ne_loc rfl, rfl, Or.inl rfl⟩, ⟨⟨rfl, Or.inr (Or.inl rfl), ne_loc rfl, rfl, Or.inl rfl⟩, trivial⟩⟩⟩ rfl (pi_list (pe_ix ix_tup (pv 0) pe_int (fun _ _ => rfl))) (fun _ => (pg_tup rfl (pgs_cons (pg_name (i := 0) (show (["place", "share", "many", "by"] : List Str).Nodup by decide +kernel) rfl (Or.inl rfl)) (pgs_cons (pg_name (i := 1) (show (["place", "share", "many", "by"] : List Str).Nodup by decide +kernel) rfl (Or.inl rfl)) pgs_nil)))) (fun _ σ => go_two rfl rfl (by decide) σ) (fun _ => pif_none) (fun _ => (pe_tup (pa_c (pe_call (ok_moved_place T) (hr.mono (by decide)) rfl T.m_moved_place T.F_moved_place.kp T.b_moved_place .nil pass0 (pa_c (pv 0) (pa_c (pv 2) (pa_c (pv 3) pa_nil))) (he := starEach_plain rfl _ _) (hpl := noStar rfl)) (pa_c (pv 1) pa_nil))))) pa_nil))))))), ?_⟩
  cases u with
  | sum c ts =>
    obtain ⟨t, pc, pt, vs, rfl, h1, h2, h3, h4⟩ := hu
    have l100 : ts.length ≤ 100 := wf.2.2
    have lv := h4.length
    refine ⟨_, rfl, _, _, _, _, rfl, rfl, h1, rfl, rfl, _, rfl, iteN (by decide) ?_⟩
    refine ⟨_, rfl, _, _, _, _, rfl, rfl, h1, rfl, _, rfl, _, _, _, _, rfl, rfl, h1, rfl, pt, rfl, ⟨_, h3⟩, comp_by (n := ts.length) (fun i ys H' => Same H H' ∧ TL K H' ys ((ts.take i).map fun x => (mvP l d x.1, x.2))) ⟨Same.refl _, .nil⟩ (small1000 (by omega)) ?_ ?_ ?_⟩
    · rintro ys H1 ⟨g, r⟩
      rw [List.take_of_length_le (Nat.le_refl _)] at r
      refine ⟨⟨_, g.seq h3, by omega⟩, fun D hD => ⟨(show 3 ≤ sizeLine by decide), fun t3 ht3 => ?_⟩⟩
      have g1 := same_new hD (.lst ys)
      have g2 := same_new ht3 (.tup [.str "sum", .ref pc, .ref D])
      have g12 := g1.trans g2
      exact q t3 _ (g.trans g12) ⟨t3, pc, D, ys, rfl, SqT.of upd_same, (g.trans g12).tup h2, SqL.of (g2 _ _ upd_same), r.mono g12⟩
    · rintro i ys H' hi ⟨g, _⟩
      exact ⟨_, _, g.seq h3, List.getElem?_eq_getElem (by omega)⟩
    · rintro i m' ys H' cc x H2 hi ⟨g, r⟩ ⟨rfl, y1⟩ nx _
      obtain ⟨x0, ex, tt, rr, rfl, k1, k2⟩ := h4.get (y1 _ (g.seq h3))
      have k1 := g.tup k1
      have k2 := g.tup k2
      refine ⟨tt, _, rfl, k1, rfl, _, _, rfl, _, _, rfl, rfl, Or.inl ⟨rfl, _, rfl, _, rfl, _, rfl, x0.1, l, d, rfl, _, rfl, two_le, fun t4 ht4 => nx _ _ ?_⟩⟩
      have g4 := same_new ht4 (.tup [.int (mvP l d x0.1 : Nat), .ref rr])
      refine ⟨g.trans g4, ?_⟩
      rw [take_snoc ex, List.map_append]
      exact Paired.snoc (r.mono g4) ⟨t4, rr, rfl, SqT.of upd_same, g4.tup k2⟩
  | bend p =>
    obtain ⟨t, rfl, h1⟩ := hu
    refine ⟨_, rfl, _, _, _, _, rfl, rfl, h1, rfl, rfl, _, rfl, iteP rfl ?_⟩
    refine ⟨_, rfl, _, _, _, _, rfl, rfl, h1, rfl, _, rfl, _, rfl, p, l, d, rfl, two_le, fun t2 h2 => ?_⟩
    exact q t2 _ (same_new h2 _) ⟨t2, rfl, SqT.of upd_same⟩
/-- the joined net -/
def joinU (many : Nat) (us ws : List Un) : List Un := us ++ ws.map (mvU many us.length)
def joinO (many : Nat) (us : List Un) (outs wuts : List Nat) : List Nat := outs ++ wuts.map (mvP many us.length)
theorem join_wf {many : Nat} {us ws : List Un} {outs wuts : List Nat} (h : NetOk many us outs) (k : NetOk many ws wuts) : NetW many (joinU many us ws) (joinO many us outs wuts) := by
  obtain ⟨wf, l80, b20, m1, m6, o1, o12, ol⟩ := h
  obtain ⟨wf', l80', b20', m1', m6', o1', o12', ol'⟩ := k
  unfold joinU joinO
  refine ⟨wf.behind wf' rfl, by rw [List.length_append, List.length_map]; omega, m1, m6, by rw [List.length_append]; omega, fun o ho => ?_⟩
  rw [List.length_append, List.length_map]
  rcases List.mem_append.mp ho with z | z
  · have := ol o z; omega
  · obtain ⟨y, hy, rfl⟩ := List.mem_map.mp z
    have := mvP_lt (l := many) (d := us.length) (ol' y hy)
    omega
def spJoined (K : PySem.W.Frag) (a : Adr) : Sp := fun vs H Q E => ∃ (p r : Addr) (many : Nat) (us ws : List Un) (outs wuts : List Nat), vs = [.ref p, .ref r] ∧ NetHere K a H p many us outs ∧ NetHere K a H r many ws wuts ∧ NetOk many us outs ∧ NetOk many ws wuts ∧
  (Fits (joinU many us ws) (joinO many us outs wuts) → ∀ x H', Same H H' → NetHere K a H' x many (joinU many us ws) (joinO many us outs wuts) → Q (.ref x) H') ∧
  (¬ Fits (joinU many us ws) (joinO many us outs wuts) → ∀ H', Same H H' → E (.ref a.c_NoNet) none H')
set_option maxHeartbeats 0 in
theorem ok_joined (T : Txt K mg a) : FnOk P w K mg base (CXE P w) 9 a.f_joined a.d_joined ["net", "other"] (spJoined K a) := by
  refine T.F_joined.okE sc_joined (fun vs H Q E h => ?_) (fun cdv A outer s H vs Q E hr h => ?_)
  · obtain ⟨_, _, _, _, _, _, _, rfl, _⟩ := h
    rfl
  obtain ⟨p, r, many, us, ws, outs, wuts, rfl, hp, hr', ok, ok', q, qe⟩ := h
  have jw := join_wf ok ok'
  obtain ⟨wf, l80, b20, m1, m6, o1, o12, ol⟩ := ok
  obtain ⟨wf', l80', b20', m1', m6', o1', o12', ol'⟩ := ok'
  have h0 : PS (cxOf (CXE P w) P w K mg base ["net", "other", "one", "two", "many", "by", "units"] "joined" (defScope s_joined) a.f_joined cdv A outer s H E) ((defBody s_joined).getD 0 (.Pass ⟨0, 0, 0, 0⟩)) _ := (ps_set (i := 2) sc_joined.nd rfl (Or.inl rfl) (pe_meth0 (pv 0) T.C_Net T.t_Net_told (ok_Net_told T) (hr.mono (by decide)) T.b_Net_told .nil pass0))
  have h1 : PS (cxOf (CXE P w) P w K mg base ["net", "other", "one", "two", "many", "by", "units"] "joined" (defScope s_joined) a.f_joined cdv A outer s H E) ((defBody s_joined).getD 1 (.Pass ⟨0, 0, 0, 0⟩)) _ := (ps_set (i := 3) sc_joined.nd rfl (Or.inl rfl) (pe_meth0 (pv 1) T.C_Net T.t_Net_told (ok_Net_told T) (hr.mono (by decide)) T.b_Net_told .nil pass0))
  have h2 : PS (cxOf (CXE P w) P w K mg base ["net", "other", "one", "two", "many", "by", "units"] "joined" (defScope s_joined) a.f_joined cdv A outer s H E) ((defBody s_joined).getD 2 (.Pass ⟨0, 0, 0, 0⟩)) _ := (ps_set (i := 4) sc_joined.nd rfl (Or.inr rfl) (pe_ix ix_tup (pv 2) pe_int (fun _ _ => rfl)))
  have h3 : PS (cxOf (CXE P w) P w K mg base ["net", "other", "one", "two", "many", "by", "units"] "joined" (defScope s_joined) a.f_joined cdv A outer s H E) ((defBody s_joined).getD 3 (.Pass ⟨0, 0, 0, 0⟩)) _ := (ps_if (pt_cmpR op_ne (pe_ix ix_tup (pv 3) pe_int (fun _ _ => rfl)) (pv 4) (nomark _))
        (pss_one (ps_raise rfl rfl rfl rfl rfl T.x_NoNet rfl T.m_NoNet (pa_c pe_str pa_nil)))
        pss_nil)
  have h4 : PS (cxOf (CXE P w) P w K mg base ["net", "other", "one", "two", "many", "by", "units"] "joined" (defScope s_joined) a.f_joined cdv A outer s H E) ((defBody s_joined).getD 4 (.Pass ⟨0, 0, 0, 0⟩)) _ := (ps_set (i := 5) sc_joined.nd rfl (Or.inr rfl) (pe_callB (call_len_seq) rfl T.m_len boot_len (pa_c (pe_ix ix_tup (pv 2) pe_int (fun _ _ => rfl)) pa_nil) (he := starEach_plain rfl _ _) (hpl := noStar rfl)))
  have h5 : PS (cxOf (CXE P w) P w K mg base ["net", "other", "one", "two", "many", "by", "units"] "joined" (defScope s_joined) a.f_joined cdv A outer s H E) ((defBody s_joined).getD 5 (.Pass ⟨0, 0, 0, 0⟩)) _ := (ps_set (i := 6) sc_joined.nd rfl (Or.inl rfl) (pe_op op_cat (pe_ix ix_tup (pv 2) pe_int (fun _ _ => rfl)) (pe_comp (N := ["unit", "many", "by"]) (ix := [none, some 4, some 5]) ⟨rfl, rfl, rfl, rfl, ⟨rfl, ⟨rfl, trivial⟩⟩, rfl, ⟨⟨rfl, Or.inr (Or.inl rfl), ne_loc rfl, rfl, Or.inl rfl⟩, ⟨⟨rfl, Or.inr (Or.inl rfl), ne_loc rfl, rfl, Or.inl rfl⟩, trivial⟩⟩⟩ rfl (pi_list (pe_ix ix_tup (pv 3) pe_int (fun _ _ => rfl))) (fun _ => (pg_name (i := 0) (show (["unit", "many", "by"] : List Str).Nodup by decide +kernel) rfl (Or.inl rfl))) (fun _ σ => go_name rfl σ) (fun _ => pif_none) (fun _ => (pe_call (ok_moved_unit T) (hr.mono (by decide)) rfl T.m_moved_unit T.F_moved_unit.kp T.b_moved_unit .nil pass0 (pa_c (pv 0) (pa_c (pv 1) (pa_c (pv 2) pa_nil))) (he := starEach_plain rfl _ _) (hpl := noStar rfl))))))
  have h6 : PS (cxOf (CXE P w) P w K mg base ["net", "other", "one", "two", "many", "by", "units"] "joined" (defScope s_joined) a.f_joined cdv A outer s H E) ((defBody s_joined).getD 6 (.Pass ⟨0, 0, 0, 0⟩)) _ := (ps_ret (pe_make T.M_Net (ok_Net_init T) (hr.mono (by decide)) rfl T.m_Net T.b_Net_init .nil passE (pa_c (pv 4) (pa_c (pv 6) (pa_c (pe_op op_cat (pe_ix ix_tup (pv 2) pe_int (fun _ _ => rfl)) (pe_comp (N := ["place", "many", "by"]) (ix := [none, some 4, some 5]) ⟨rfl, rfl, rfl, rfl, ⟨rfl, ⟨rfl, trivial⟩⟩, rfl, ⟨⟨rfl, Or.inr (Or.inl rfl), ne_loc rfl, rfl, Or.inl rfl⟩, ⟨⟨rfl, Or.inr (Or.inl rfl), ne_loc rfl, rfl, Or.inl rfl⟩, trivial⟩⟩⟩ rfl (pi_list (pe_ix ix_tup (pv 3) pe_int (fun _ _ => rfl))) (fun _ => (pg_name (i := 0) (show (["place", "many", "by"] : List Str).Nodup by decide +kernel) rfl (Or.inl rfl))) (fun _ σ => go_name rfl σ) (fun _ => pif_none) (fun _ => (pe_call (ok_moved_place T) (hr.mono (by decide)) rfl T.m_moved_place T.F_moved_place.kp T.b_moved_place .nil pass0 (pa_c (pv 0) (pa_c (pv 1) (pa_c (pv 2) pa_nil))) (he := starEach_plain rfl _ _) (hpl := noStar rfl))))) pa_nil))) (he := starEach_plain rfl _ _) (hpl := noStar rfl)))
  have hb : defBody s_joined = [((defBody s_joined).getD 0 (.Pass ⟨0, 0, 0, 0⟩)), ((defBody s_joined).getD 1 (.Pass ⟨0, 0, 0, 0⟩)), ((defBody s_joined).getD 2 (.Pass ⟨0, 0, 0, 0⟩)), ((defBody s_joined).getD 3 (.Pass ⟨0, 0, 0, 0⟩)), ((defBody s_joined).getD 4 (.Pass ⟨0, 0, 0, 0⟩)), ((defBody s_joined).getD 5 (.Pass ⟨0, 0, 0, 0⟩)), ((defBody s_joined).getD 6 (.Pass ⟨0, 0, 0, 0⟩))] := by rfl
  generalize ((defBody s_joined).getD 0 (.Pass ⟨0, 0, 0, 0⟩)) = S0 at *
  generalize ((defBody s_joined).getD 1 (.Pass ⟨0, 0, 0, 0⟩)) = S1 at *
  generalize ((defBody s_joined).getD 2 (.Pass ⟨0, 0, 0, 0⟩)) = S2 at *
  generalize ((defBody s_joined).getD 3 (.Pass ⟨0, 0, 0, 0⟩)) = S3 at *
  generalize ((defBody s_joined).getD 4 (.Pass ⟨0, 0, 0, 0⟩)) = S4 at *
  generalize ((defBody s_joined).getD 5 (.Pass ⟨0, 0, 0, 0⟩)) = S5 at *
  generalize ((defBody s_joined).getD 6 (.Pass ⟨0, 0, 0, 0⟩)) = S6 at *
  rw [hb]
  refine ⟨_, (pss_cons h0 (pss_cons h1 (pss_cons h2 (pss_cons h3 (pss_cons h4 (pss_cons h5 (pss_one h6))))))), ?_⟩
  clear hb h0 h1 h2 h3 h4 h5 h6 S0 S1 S2 S3 S4 S5 S6
  obtain ⟨lu, lo, vk, n1, n2, n3, n4⟩ := hp
  obtain ⟨d1, n1'⟩ := id n1
  refine ⟨_, rfl, p, d1, _, rfl, n1', rfl, p, lu, lo, many, vk, us, outs, rfl, n1, n2, n3, l80, n4, fun t1 l1 q1 v1 H1 g1 ht1 _ e1 r1 _ f1 => ?_⟩
  have r1 := (r1 p _ n1').un
  obtain ⟨mu, mo, wk, k1, k2, k3, k4⟩ := hr'.mono g1
  obtain ⟨d2, k1'⟩ := id k1
  refine ⟨_, rfl, r, d2, _, rfl, k1', rfl, r, mu, mo, many, wk, ws, wuts, rfl, k1, k2, k3, l80', k4, fun t2 l2 q2 v2 H2 g2 ht2 _ e2 r2 _ f2 => ?_⟩
  have r2 := (r2 r _ k1').un
  have ht1 := g2.tup ht1
  have e1 := g2 _ _ e1
  have f1 := g2 _ _ f1
  have r1 := r1.mono g2
  have g := g1.trans g2
  clear g1 g2 k1' n1' n1 n2 n3 n4 k1 k2 k3 k4
  have lv1 := UL.length r1
  have lv2 := UL.length r2
  refine ⟨_, rfl, _, _, _, _, rfl, rfl, ht1, rfl, ?_⟩
  refine ⟨_, rfl, _, _, _, _, rfl, rfl, ht2, rfl, _, rfl, rfl, _, rfl, iteNS rfl ?_⟩
  refine ⟨_, rfl, _, _, _, _, rfl, rfl, ht1, rfl, _, _, rfl, .inl (SqL.of e1), ?_⟩
  rw [lv1]
  -- units
  refine ⟨_, rfl, _, _, _, _, rfl, rfl, ht1, rfl, _, rfl, _, _, _, _, rfl, rfl, ht2, rfl, l2, rfl, ⟨_, SqL.of e2⟩, comp_by (n := ws.length) (fun i ys H' => Same H2 H' ∧ UL false K H' ys ((ws.take i).map (mvU many us.length))) ⟨Same.refl _, .nil⟩ (small1000 (by omega)) ?_ ?_ ?_⟩
  case refine_2 =>
    rintro i ys H' hi ⟨g, _⟩
    exact ⟨_, _, g.seq (SqL.of e2), List.getElem?_eq_getElem (by omega)⟩
  case refine_3 =>
    rintro i m' ys H' cc x H3 hi ⟨g, r⟩ ⟨rfl, y1⟩ nx _
    obtain ⟨u0, eu, hu⟩ := UL.get r2 (y1 _ (g.seq (SqL.of e2)))
    refine Or.inl ⟨rfl, _, rfl, _, rfl, _, rfl, x, u0, many, us.length, many + i, rfl, hu.mono g, wf' i u0 eu, fun p3 H4 g4 e4 => nx _ _ ⟨g.trans g4, ?_⟩⟩
    rw [take_snoc eu, List.map_append]
    exact UL.snoc (r.mono g4) e4
  rintro ys H3 ⟨g3, r3⟩
  rw [List.take_of_length_le (Nat.le_refl _)] at r3
  have ly := UL.length r3
  rw [List.length_map] at ly
  refine ⟨⟨_, g3.seq (SqL.of e2), by omega⟩, fun D hD => ?_⟩
  have g4 := same_new hD (.lst ys)
  have g34 := g3.trans g4
  refine ⟨l1, D, v1, ys, rfl, rfl, g34 _ _ e1, upd_same, le1000 (by omega), fun lc hlc => ?_⟩
  have g5 := same_new hlc (.lst (v1 ++ ys))
  have rc : UL false K (upd (upd H3 D (.lst ys)) lc (.lst (v1 ++ ys))) (v1 ++ ys) (joinU many us ws) := UL.append (r1.mono (g34.trans g5)) (r3.mono (g4.trans g5))
  have ec := upd_same (H := upd H3 D (.lst ys)) (a := lc) (o := .lst (v1 ++ ys))
  have k := g34.trans g5
  generalize upd (upd H3 D (.lst ys)) lc (.lst (v1 ++ ys)) = H5 at *
  have ht1 := k.tup ht1
  have ht2 := k.tup ht2
  have f1 := k _ _ f1
  have f2 := k _ _ f2
  have g := g.trans k
  clear g3 g4 g34 g5 k hlc hD e1 e2 r1 r2 r3
  -- outs, the net
  have lo2 := outV_length wuts
  have lo1 := outV_length outs
  refine ⟨_, rfl, _, rfl, _, rfl, _, _, _, _, rfl, rfl, ht1, rfl, _, rfl, _, _, _, _, rfl, rfl, ht2, rfl, q2, rfl, ⟨_, SqL.of f2⟩, comp_by (n := wuts.length) (fun i ys H' => H' = H5 ∧ ys = outV ((wuts.take i).map (mvP many us.length))) ⟨rfl, rfl⟩ (small1000 (by omega)) ?_ ?_ ?_⟩
  case refine_2 =>
    rintro i ys H' hi ⟨rfl, _⟩
    exact ⟨_, _, SqL.of f2, List.getElem?_eq_getElem (by omega)⟩
  case refine_3 =>
    rintro i m' ys H' cc x H6 hi ⟨rfl, rfl⟩ ⟨rfl, y1⟩ nx _
    obtain ⟨o, eo, rfl⟩ := out_at (y1 _ (SqL.of f2))
    refine Or.inl ⟨rfl, _, rfl, _, rfl, _, rfl, o, many, us.length, rfl, nx _ _ ⟨rfl, ?_⟩⟩
    rw [take_snoc eo, List.map_append, ← outV_append]
    rfl
  rintro ys2 H6 ⟨rfl, rfl⟩
  rw [List.take_of_length_le (Nat.le_refl _)]
  refine ⟨⟨_, SqL.of f2, by omega⟩, fun D hD => ?_⟩
  have g4 := same_new hD (.lst (outV (wuts.map (mvP many us.length))))
  have lm : (outV (wuts.map (mvP many us.length))).length = wuts.length := by rw [outV_length, List.length_map]
  refine ⟨q1, D, outV outs, _, rfl, rfl, g4 _ _ f1, upd_same, le1000 (by omega), fun lq hlq => ?_⟩
  have ea : outV outs ++ outV (wuts.map (mvP many us.length)) = outV (joinO many us outs wuts) := outV_append _ _
  rw [ea]
  have g5 := same_new hlq (.lst (outV (joinO many us outs wuts)))
  have eq := upd_same (H := upd H6 D (.lst (outV (wuts.map (mvP many us.length))))) (a := lq) (o := .lst (outV (joinO many us outs wuts)))
  have k := g4.trans g5
  have ec := k _ _ ec
  have rc := rc.mono k
  have g := g.trans k
  change ∀ x dx, _
  generalize upd (upd H6 D (.lst (outV (wuts.map (mvP many us.length))))) lq (.lst (outV (joinO many us outs wuts))) = H7 at *
  clear g4 g5 k hlq hD f1 f2 ht1 ht2
  intro xn dxn hxn hdxn nen
  have gm : Same H7 (upd (upd H7 dxn (.own xn)) xn (.ins a.c_Net dxn [])) := (same_new hdxn _).trans (same_new (by rw [upd_ne (Ne.symm nen)]; exact hxn) _)
  have bk : ∀ H' : Hp, (∀ b u, b ≠ xn → upd (upd H7 dxn (.own xn)) xn (.ins a.c_Net dxn []) b = some u → H' b = some u) → Same H7 H' := fun H' z b u e => z b u (fun e2 => by rw [e2, hxn] at e; cases e) (gm _ _ e)
  refine ⟨xn, dxn, lc, lq, many, _, _, _, rfl, upd_same, gm.seq (SqL.of ec), rc.mono gm, gm.seq (SqL.of eq), jw, fun f lu' lo' vk' H' z _ _ nt eu' eo' rk' => ⟨rfl, ?_⟩, fun nf H' z => qe nf H' (g.trans (bk H' z))⟩
  exact q f xn H' (g.trans (bk H' z)) ⟨lu', lo', vk', nt, SqL.of eu', rk', SqL.of eo'⟩

/-! spans, as they are reckoned -/
def turnQ (e : Rat × Rat) (q : Rat) : Rat × Rat := if q < 0 then (e.2, e.1) else e
def Bs (d b : Nat) (s : Rat × Rat) : Prop := Bq d b s.1 ∧ Bq d b s.2
def ShrU : Un → Prop
  | .sum c ts => Shr c ∧ (∀ x ∈ ts, Shr x.2) ∧ ts.length ≤ 3
  | .bend _ => True
theorem getD_mem {α : Type} {xs : List α} {i : Nat} {x : α} (d : α) (h : xs[i]? = some x) : xs.getD i d = x := by simp [List.getD, h]
theorem Bs.getD {d b : Nat} {sp : List (Rat × Rat)} (h : ∀ s ∈ sp, Bs d b s) (i : Nat) : Bs d b (sp.getD i (0, 0)) := by
  cases e : sp[i]? with
  | none => rw [show sp.getD i (0, 0) = (0, 0) by simp [List.getD, e]]; exact ⟨Bq.zero d b, Bq.zero d b⟩
  | some s => rw [getD_mem _ e]; exact h s (List.mem_of_getElem? e)
theorem Bs.turn {d b : Nat} {s : Rat × Rat} (h : Bs d b s) (q : Rat) : Bs d b (turnQ s q) := by
  unfold turnQ
  split
  · exact ⟨h.2, h.1⟩
  · exact h
theorem SL.getD {K : PySem.W.Frag} {H : Hp} {vs : List V} {ss : List (Rat × Rat)} {i : Nat} (h : SL K H vs ss) (hi : i < ss.length) : ∃ v, vs[i]? = some v ∧ SideAt K H v (ss.getD i (0, 0)) := by
  have l := h.length
  obtain ⟨v, hv⟩ : ∃ v, vs[i]? = some v := ⟨_, List.getElem?_eq_getElem (by omega)⟩
  obtain ⟨s, es, hs⟩ := h.get hv
  exact ⟨v, hv, by rw [getD_mem _ es]; exact hs⟩

theorem Bq.s4 {d b : Nat} {q : Rat} (h : Bq d b q) (hd : d ≤ 20) (hb : b ≤ 2000) : SmQ 6500 q := h.sm.mono (by omega)
theorem Bq.s9 {d b : Nat} {q : Rat} (h : Bq d b q) (hd : d ≤ 20) (hb : b ≤ 2000) : SmQ 9000 q := h.sm.mono (by omega)
def NetBox (K : PySem.W.Frag) (a : Adr) (H : Hp) (pn pb : Addr) (many : Nat) (us : List Un) (outs : List Nat) (ss : List (Rat × Rat)) : Prop :=
  ∃ lu lo mB vk vB, NetAt a.c_Net H pn lu lo many ∧ SqL K H lu vk ∧ UL true K H vk us ∧ SqL K H lo (outV outs) ∧ BoxAt a.c_Box H pb mB ∧ SqL K H mB vB ∧ SL K H vB ss
theorem NetBox.mono {K : PySem.W.Frag} {a : Adr} {H H' : Hp} {pn pb : Addr} {many : Nat} {us : List Un} {outs : List Nat} {ss : List (Rat × Rat)} (h : NetBox K a H pn pb many us outs ss) (g : Same H H') : NetBox K a H' pn pb many us outs ss := by
  obtain ⟨lu, lo, mB, vk, vB, h1, h2, h3, h4, h5, h6, h7⟩ := h
  exact ⟨lu, lo, mB, vk, vB, h1.mono g, g.seq h2, h3.mono g, g.seq h4, h5.mono g, g.seq h6, h7.mono g⟩

def spMixed : Sp := fun vs H Q _ => ∃ c k : Int, vs = [.int c, .int k] ∧ ∀ m : Int, 0 ≤ m → m < 429496716 → Q (.int m) H
theorem ok_law_mixed (T : Txt K mg a) : FnOk P w K mg base CX0 1 a.f_law_mixed a.d_law_mixed ["_law_cell", "_law_k"] spMixed := by
  refine T.F_law_mixed.ok sc_law_mixed (fun vs H Q E h => ?_) (fun cdv A outer s H vs Q E hr h => ?_)
  · obtain ⟨_, _, rfl, _⟩ := h
    rfl
  obtain ⟨c, k, rfl, q⟩ := h
  refine ⟨_, (pss_cons (ps_set (i := 2) sc_law_mixed.nd rfl (Or.inl rfl) (pe_op op_mod (pe_op op_add (pe_op op_add (pe_op op_mod (pv 0) pe_int) (pe_op op_mulB pe_int (pv 1))) pe_int) pe_int))
      (pss_cons (ps_set (i := 2) sc_law_mixed.nd rfl (Or.inl rfl) (pe_op op_mod (pe_op op_mulB (pe_op op_add (pv 2) pe_int) (pe_op op_add (pe_op op_add (pv 2) pe_int) (pv 1))) pe_int))
      (pss_one (ps_ret (pe_op op_fdivB (pe_op op_mod (pe_op op_mulB (pv 2) (pe_op op_add (pv 2) pe_int)) pe_int) pe_int))))), ?_⟩
  have pos : ∀ {m : Int}, (0 : Int) < m → ∀ x : Int, 0 ≤ x % m ∧ x % m < m := fun {m} h x => ⟨Int.emod_nonneg x (by omega), Int.emod_lt_of_pos x h⟩
  refine ⟨_, rfl, _, _, rfl, rfl, (by show (0 : Int) < 2147483647; decide), _, rfl, _, _, rfl, rfl, IntMulOk.of_left (by decide +kernel), _, _, rfl, rfl, _, _, rfl, rfl, _, _, rfl, rfl, (by show (0 : Int) < 2147483629; decide), ?_⟩
  dsimp only
  have b1 := pos (show (0 : Int) < 2147483629 by decide) (c % 2147483647 + 16807 * k + 7)
  generalize (c % 2147483647 + 16807 * k + 7) % 2147483629 = n1 at b1 ⊢
  refine ⟨_, rfl, _, _, rfl, rfl, _, rfl, _, _, rfl, rfl, _, rfl, _, _, rfl, rfl, _, _, rfl, rfl, IntMulOk.of_left (intBits_le_64 (by omega) (by omega)), _, _, rfl, rfl, (by show (0 : Int) < 2147483587; decide), ?_⟩
  dsimp only
  have b2 := pos (show (0 : Int) < 2147483587 by decide) ((n1 + 48271) * (n1 + 69621 + k))
  generalize ((n1 + 48271) * (n1 + 69621 + k)) % 2147483587 = n2 at b2 ⊢
  refine ⟨_, rfl, _, rfl, _, _, rfl, rfl, _, _, rfl, rfl, IntMulOk.of_left (intBits_le_64 (by omega) (by omega)), _, _, rfl, rfl, (by show (0 : Int) < 2147483579; decide), _, _, rfl, rfl, ⟨by decide, by decide +kernel⟩, ?_⟩
  dsimp only
  have b3 := pos (show (0 : Int) < 2147483579 by decide) (n2 * (n2 + 40692))
  generalize (n2 * (n2 + 40692)) % 2147483579 = n3 at b3 ⊢
  have e : n3.fdiv 5 = n3 / 5 := Int.fdiv_eq_ediv_of_nonneg _ (by decide)
  rw [e]
  exact q _ (by omega) (by omega)

/-! how the law draws a net and a box -/
theorem cut_ints (ns : List Int) (lo hi : Option Int) : ∃ ms : List Int, cutV (ns.map V.int) lo hi = ms.map V.int ∧ ms.length ≤ ns.length := by
  unfold cutV
  rw [← List.map_drop, ← List.map_take]
  refine ⟨_, rfl, ?_⟩
  rw [List.length_take, List.length_drop]
  omega
theorem int_at {zs : List Int} {i : Nat} {x : V} (h : (zs.map V.int)[i]? = some x) : ∃ z : Int, zs[i]? = some z ∧ x = .int z := by
  rw [List.getElem?_map] at h
  cases e : zs[i]? with
  | none => rw [e] at h; cases h
  | some z => rw [e] at h; exact ⟨z, rfl, (Option.some.inj h).symm⟩

def spCell (K : PySem.W.Frag) : Sp := fun vs H Q _ => ∃ (sa : Addr) (ns : List Int) (k : Nat), vs = [.ref sa, .int (k : Int)] ∧ SqL K H sa (ns.map V.int) ∧ ∀ c : Int, Q (.int c) H
theorem ok_law_cell_at (T : Txt K mg a) : FnOk P w K mg base CX0 1 a.f_law_cell_at a.d_law_cell_at ["_law_script", "_law_k"] (spCell K) := by
  refine T.F_law_cell_at.ok sc_law_cell_at (fun vs H Q E h => ?_) (fun cdv A outer s H vs Q E hr h => ?_)
  · obtain ⟨_, _, _, rfl, _⟩ := h
    rfl
  obtain ⟨sa, ns, k, rfl, hS, q⟩ := h
  refine ⟨_, (pss_cons (ps_if (pt_cmpR op_lt (pv 1) (pe_callB (call_len_seq) rfl T.m_len boot_len (pa_c (pv 0) pa_nil) (he := starEach_plain rfl _ _) (hpl := noStar rfl)) (nomark _))
        (pss_one (ps_ret (pe_ix ix_list (pv 0) (pv 1) (fun _ _ => rfl))))
        pss_nil)
      (pss_one (ps_ret pe_int))), ?_⟩
  refine ⟨_, rfl, _, rfl, _, _, rfl, .inl hS, _, _, rfl, rfl, _, rfl, iteD (fun c => ?_) (fun c => ?_)⟩
  · have hk : k < (ns.map V.int).length := by omega
    obtain ⟨x, ex⟩ : ∃ x, (ns.map V.int)[k]? = some x := ⟨_, List.getElem?_eq_getElem hk⟩
    obtain ⟨z, _, rfl⟩ := int_at ex
    exact ⟨_, rfl, _, rfl, sa, _, _, _, rfl, rfl, hS, atN ex, q z⟩
  · exact q 0
def spWide : Sp := fun vs H Q _ => ∃ c k : Int, vs = [.int c, .int k] ∧ ∀ v : Int, Q (.int v) H
theorem ok_law_wide (T : Txt K mg a) : FnOk P w K mg base CX0 2 a.f_law_wide a.d_law_wide ["_law_number", "_law_k"] spWide := by
  refine T.F_law_wide.ok sc_law_wide (fun vs H Q E h => ?_) (fun cdv A outer s H vs Q E hr h => ?_)
  · obtain ⟨_, _, rfl, _⟩ := h
    rfl
  obtain ⟨c, k, rfl, q⟩ := h
  refine ⟨_, (pss_cons (ps_set (i := 2) sc_law_wide.nd rfl (Or.inl rfl) pe_int)
      (pss_cons (ps_for PassesOwn.never rfl (pi_range1 rfl T.m_range (pa_c pe_int pa_nil)) (pg_name (i := 3) sc_law_wide.nd rfl (Or.inl rfl))
        (pss_one (ps_set (i := 2) sc_law_wide.nd rfl (Or.inl rfl) (pe_op op_add (pe_op op_mulB (pv 2) (pe_op op_pow pe_int pe_int)) (pe_op op_mod (pe_call (ok_law_mixed T) (hr.mono (by decide)) rfl T.m_law_mixed T.F_law_mixed.kp T.b_law_mixed .nil pass0 (pa_c (pv 0) (pa_c (pe_op op_add (pe_op op_mulB pe_int (pv 1)) (pv 3)) pa_nil)) (he := starEach_plain rfl _ _) (hpl := noStar rfl)) (pe_op op_pow pe_int pe_int))))))
      (pss_one (ps_ret (pv 2))))), ?_⟩
  refine ⟨6, rfl, by decide, by decide, for_by (n := 6) (fun i σ H' => H' = H ∧ ∃ (v : Int) (u : Option V), σ = [some (.int c), some (.int k), some (.int v), u]) ⟨rfl, _, _, rfl⟩ ?_ ?_ ?_⟩
  · rintro σ H' ⟨rfl, v, u, rfl⟩
    exact ⟨Nat.le_refl _, _, rfl, q v⟩
  · rintro i σ H' hi _
    exact hi
  · rintro i σ H' x H2 hi ⟨rfl, v, u, rfl⟩ ⟨rfl, rfl⟩
    refine ⟨_, rfl, _, _, rfl, rfl, ⟨by decide, by decide, by decide⟩, _, _, rfl, rfl, IntMulOk.of_right (by decide +kernel), _, rfl, _, rfl, _, _, rfl, rfl, IntMulOk.of_left (by decide +kernel), _, rfl, _, _, rfl, rfl, _, _, rfl, fun m m0 m1 => ?_⟩
    exact ⟨_, _, rfl, rfl, ⟨by decide, by decide, by decide⟩, _, _, rfl, rfl, (by show (0 : Int) < 10 ^ (8 : Int).toNat; decide), _, _, rfl, rfl, rfl, _, _, rfl⟩

def RetZ (H : Hp) (Q : VK) (n : Nat) : Prop := ∀ zs : List Int, zs.length = n → ∀ p H', H p = none → Same H H' → H' p = some (.lst (zs.map V.int)) → Q (.ref p) H'
def spSeeds (K : PySem.W.Frag) : Sp := fun vs H Q _ => ∃ (sa : Addr) (ns : List Int) (st n : Nat), vs = [.ref sa, .int (st : Int), .int (n : Int)] ∧ SqL K H sa (ns.map V.int) ∧ n ≤ 40 ∧ RetZ H Q n
set_option maxHeartbeats 0 in
theorem ok_law_seeds (T : Txt K mg a) : FnOk P w K mg base CX0 3 a.f_law_seeds a.d_law_seeds ["_law_script", "_law_start", "_law_many"] (spSeeds K) := by
  refine T.F_law_seeds.ok sc_law_seeds (fun vs H Q E h => ?_) (fun cdv A outer s H vs Q E hr h => ?_)
  · obtain ⟨_, _, _, _, rfl, _⟩ := h
    rfl
  obtain ⟨sa, ns, st, n, rfl, hS, n40, q⟩ := h
  have h0 : PS (cxOf CX0 P w K mg base ["_law_script", "_law_start", "_law_many", "_law_total", "_law_rest", "_law_at", "_law_cell", "_law_seeds_here", "_law_k"] "_law_seeds" (defScope s_law_seeds) a.f_law_seeds cdv A outer s H E).nox ((defBody s_law_seeds).getD 0 (.Pass ⟨0, 0, 0, 0⟩)) _ := (ps_set (i := 3) sc_law_seeds.nd rfl (Or.inl rfl) (pe_call (ok_law_cell_at T) (hr.mono (by decide)) rfl T.m_law_cell_at T.F_law_cell_at.kp T.b_law_cell_at .nil pass0 (pa_c (pv 0) (pa_c (pv 1) pa_nil)) (he := starEach_plain rfl _ _) (hpl := noStar rfl)))
  have h1 : PS (cxOf CX0 P w K mg base ["_law_script", "_law_start", "_law_many", "_law_total", "_law_rest", "_law_at", "_law_cell", "_law_seeds_here", "_law_k"] "_law_seeds" (defScope s_law_seeds) a.f_law_seeds cdv A outer s H E).nox ((defBody s_law_seeds).getD 1 (.Pass ⟨0, 0, 0, 0⟩)) _ := (ps_set (i := 4) sc_law_seeds.nd rfl (Or.inl rfl) pe_int)
  have h2 : PS (cxOf CX0 P w K mg base ["_law_script", "_law_start", "_law_many", "_law_total", "_law_rest", "_law_at", "_law_cell", "_law_seeds_here", "_law_k"] "_law_seeds" (defScope s_law_seeds) a.f_law_seeds cdv A outer s H E).nox ((defBody s_law_seeds).getD 2 (.Pass ⟨0, 0, 0, 0⟩)) _ := (ps_if (pt_cmpR op_eq (pe_op op_mod (pv 3) pe_int) pe_int (nomark _))
        (pss_one (ps_set (i := 4) sc_law_seeds.nd rfl (Or.inl rfl) (pe_op op_fdivB (pe_callB (call_abs) rfl T.m_abs boot_abs (pa_c (pv 3) pa_nil) (he := starEach_plain rfl _ _) (hpl := noStar rfl)) pe_int)))
        pss_nil)
  have h3 : PS (cxOf CX0 P w K mg base ["_law_script", "_law_start", "_law_many", "_law_total", "_law_rest", "_law_at", "_law_cell", "_law_seeds_here", "_law_k"] "_law_seeds" (defScope s_law_seeds) a.f_law_seeds cdv A outer s H E).nox ((defBody s_law_seeds).getD 3 (.Pass ⟨0, 0, 0, 0⟩)) _ := (ps_for PassesOwn.never rfl (pi_enum rfl T.m_enumerate (pa_c (pe_slice sl_list (pv 0) (po_some (pv 1)) po_none) pa_nil)) (pg_tup rfl (pgs_cons (pg_name (i := 5) sc_law_seeds.nd rfl (Or.inl rfl)) (pgs_cons (pg_name (i := 6) sc_law_seeds.nd rfl (Or.inl rfl)) pgs_nil)))
        (pss_one (ps_set (i := 3) sc_law_seeds.nd rfl (Or.inl rfl) (pe_op op_mod (pe_op op_add (pe_op op_mulB (pv 3) pe_int) (pe_call (ok_law_mixed T) (hr.mono (by decide)) rfl T.m_law_mixed T.F_law_mixed.kp T.b_law_mixed .nil pass0 (pa_c (pv 6) (pa_c (pv 5) pa_nil)) (he := starEach_plain rfl _ _) (hpl := noStar rfl))) pe_int))))
  have h4 : PS (cxOf CX0 P w K mg base ["_law_script", "_law_start", "_law_many", "_law_total", "_law_rest", "_law_at", "_law_cell", "_law_seeds_here", "_law_k"] "_law_seeds" (defScope s_law_seeds) a.f_law_seeds cdv A outer s H E).nox ((defBody s_law_seeds).getD 4 (.Pass ⟨0, 0, 0, 0⟩)) _ := (ps_set (i := 7) sc_law_seeds.nd rfl (Or.inl rfl) (pe_lst pa_nil))
  have h5 : PS (cxOf CX0 P w K mg base ["_law_script", "_law_start", "_law_many", "_law_total", "_law_rest", "_law_at", "_law_cell", "_law_seeds_here", "_law_k"] "_law_seeds" (defScope s_law_seeds) a.f_law_seeds cdv A outer s H E).nox ((defBody s_law_seeds).getD 5 (.Pass ⟨0, 0, 0, 0⟩)) _ := (ps_for PassesOwn.never rfl (pi_range1 rfl T.m_range (pa_c (pv 2) pa_nil)) (pg_name (i := 8) sc_law_seeds.nd rfl (Or.inl rfl))
        (pss_cons (ps_if (pt_cmpR op_gt (pv 4) (pe_op op_pow pe_int pe_int) (nomark _))
        (pss_one (ps_expr (pe_bm PySem.F.plainAttrs_list PySem.F.slot_list_append PySem.F.type_list_append mt_append (pv 7) (pa_c (pe_op op_mod (pv 4) (pe_op op_pow pe_int pe_int)) pa_nil) (hs := starEach_plain rfl _ _) (hplain := noStar rfl))))
        (pss_one (ps_expr (pe_bm PySem.F.plainAttrs_list PySem.F.slot_list_append PySem.F.type_list_append mt_append (pv 7) (pa_c (pe_call (ok_law_wide T) (hr.mono (by decide)) rfl T.m_law_wide T.F_law_wide.kp T.b_law_wide .nil pass0 (pa_c (pe_op op_add (pv 3) (pe_op op_mulB pe_int (pv 8))) (pa_c (pv 8) pa_nil)) (he := starEach_plain rfl _ _) (hpl := noStar rfl)) pa_nil) (hs := starEach_plain rfl _ _) (hplain := noStar rfl)))))
      (pss_one (ps_set (i := 4) sc_law_seeds.nd rfl (Or.inl rfl) (pe_op op_fdivB (pv 4) (pe_op op_pow pe_int pe_int))))))
  have h6 : PS (cxOf CX0 P w K mg base ["_law_script", "_law_start", "_law_many", "_law_total", "_law_rest", "_law_at", "_law_cell", "_law_seeds_here", "_law_k"] "_law_seeds" (defScope s_law_seeds) a.f_law_seeds cdv A outer s H E).nox ((defBody s_law_seeds).getD 6 (.Pass ⟨0, 0, 0, 0⟩)) _ := (ps_ret (pv 7))
  have hb : defBody s_law_seeds = [((defBody s_law_seeds).getD 0 (.Pass ⟨0, 0, 0, 0⟩)), ((defBody s_law_seeds).getD 1 (.Pass ⟨0, 0, 0, 0⟩)), ((defBody s_law_seeds).getD 2 (.Pass ⟨0, 0, 0, 0⟩)), ((defBody s_law_seeds).getD 3 (.Pass ⟨0, 0, 0, 0⟩)), ((defBody s_law_seeds).getD 4 (.Pass ⟨0, 0, 0, 0⟩)), ((defBody s_law_seeds).getD 5 (.Pass ⟨0, 0, 0, 0⟩)), ((defBody s_law_seeds).getD 6 (.Pass ⟨0, 0, 0, 0⟩))] := by rfl
  generalize ((defBody s_law_seeds).getD 0 (.Pass ⟨0, 0, 0, 0⟩)) = S0 at *
  generalize ((defBody s_law_seeds).getD 1 (.Pass ⟨0, 0, 0, 0⟩)) = S1 at *
  generalize ((defBody s_law_seeds).getD 2 (.Pass ⟨0, 0, 0, 0⟩)) = S2 at *
  generalize ((defBody s_law_seeds).getD 3 (.Pass ⟨0, 0, 0, 0⟩)) = S3 at *
  generalize ((defBody s_law_seeds).getD 4 (.Pass ⟨0, 0, 0, 0⟩)) = S4 at *
  generalize ((defBody s_law_seeds).getD 5 (.Pass ⟨0, 0, 0, 0⟩)) = S5 at *
  generalize ((defBody s_law_seeds).getD 6 (.Pass ⟨0, 0, 0, 0⟩)) = S6 at *
  rw [hb]
  refine ⟨_, (pss_cons h0 (pss_cons h1 (pss_cons h2 (pss_cons h3 (pss_cons h4 (pss_cons h5 (pss_one h6))))))), ?_⟩
  clear hb h0 h1 h2 h3 h4 h5 h6 S0 S1 S2 S3 S4 S5 S6
  refine ⟨_, rfl, _, rfl, sa, ns, st, rfl, hS, fun c => ?_⟩
  refine ⟨_, rfl, _, _, rfl, rfl, (by show (0 : Int) < 3; decide), rfl, _, rfl, iteD (fun _ => ⟨_, rfl, _, rfl, _, _, rfl, rfl, ⟨by decide, by decide +kernel⟩, ?_⟩) (fun _ => ?_)⟩
  all_goals
    refine ⟨_, rfl, _, rfl, _, rfl, _, _, rfl, hS, fun c2 hc2 => ?_⟩
    obtain ⟨ks, ek, hk⟩ := cut_ints ns (some (st : Int)) none
    rw [ek]
    have g0 := same_new hc2 (.lst (ks.map V.int))
    refine ⟨c2, rfl, ⟨_, SqL.of upd_same⟩, for_by (n := ks.length) (fun i σ H1 => Same H H1 ∧ H1 c2 = some (.lst (ks.map V.int)) ∧ ∃ (t r : Int) (u5 u6 : Option V), σ = [some (.ref sa), some (.int (st : Int)), some (.int (n : Int)), some (.int t), some (.int r), u5, u6, none, none])
      ⟨g0, upd_same, _, _, _, _, rfl⟩ ?_ ?_ ?_⟩
    case refine_2 =>
      rintro i σ H1 hi ⟨_, e2, _⟩
      exact ⟨_, _, SqL.of e2, List.getElem?_eq_getElem (by rw [List.length_map]; omega)⟩
    case refine_3 =>
      rintro i σ H1 x H2 hi ⟨g, e2, t, r, u5, u6, rfl⟩ ⟨p, x2, hp, rfl, rfl, y1⟩
      obtain ⟨ci, hci, rfl⟩ := int_at (y1 _ (SqL.of e2))
      have g3 := same_new hp (.tup [.int (i : Int), .int ci])
      refine ⟨p, _, rfl, SqT.of upd_same, rfl, _, _, rfl, _, _, rfl, rfl, ?_⟩
      refine ⟨_, rfl, _, _, rfl, rfl, IntMulOk.of_right (by decide +kernel), _, rfl, _, rfl, _, _, rfl, fun v v0 v1 => ?_⟩
      exact ⟨_, _, rfl, rfl, _, _, rfl, rfl, (by show (0 : Int) < 999999999989; decide), g.trans g3, g3 _ _ e2, _, _, _, _, rfl⟩
    rintro σ H1 ⟨g, e2, t, r, u5, u6, rfl⟩
    refine ⟨⟨_, SqL.of e2, by rw [List.length_map]; exact Nat.le_refl _⟩, ?_⟩
    refine ⟨(by decide), fun ls hls => ?_⟩
    have nls : H ls = none := none_back g hls
    have g1 := same_new hls (.lst [])
    refine ⟨_, rfl, _, rfl, by omega, by omega, for_by (n := n) (fun i σ H2 => Same H H2 ∧ ∃ (zs : List Int) (r : Int) (u8 : Option V), zs.length = i ∧ H2 ls = some (.lst (zs.map V.int)) ∧ σ = [some (.ref sa), some (.int (st : Int)), some (.int (n : Int)), some (.int t), some (.int r), u5, u6, some (.ref ls), u8])
      ⟨g.trans g1, [], _, _, rfl, upd_same, rfl⟩ ?_ ?_ ?_⟩
    case refine_1 =>
      rintro σ H2 ⟨g2, zs, r, u8, ez, el, rfl⟩
      exact ⟨by show _ ≤ n; omega, _, rfl, q zs ez ls H2 nls g2 el⟩
    case refine_2 =>
      rintro i σ H2 hi _
      show i < _
      omega
    rintro i σ H2 x H3 hi ⟨g2, zs, r, u8, ez, el, rfl⟩ ⟨rfl, rfl⟩
    have lz : (zs.map V.int).length < sizeLine := by rw [List.length_map]; exact small1000 (by omega)
    have ap : ∀ v : Int, zs.map V.int ++ [V.int v] = (zs ++ [v]).map V.int := fun v => by rw [List.map_append]; rfl
    refine ⟨_, rfl, _, _, rfl, rfl, ⟨by decide, by decide, by decide⟩, _, _, rfl, rfl, _, rfl, iteD (fun _ => ?_) (fun _ => ?_)⟩
    · refine ⟨_, rfl, .inl ⟨rfl, _, SqL.of el⟩, _, rfl, _, _, rfl, rfl, ⟨by decide, by decide, by decide⟩, _, _, rfl, rfl, (by show (0 : Int) < 10 ^ (48 : Int).toNat; decide), ls, _, _, rfl, rfl, el, lz, ?_⟩
      refine ⟨_, rfl, _, _, rfl, rfl, ⟨by decide, by decide, by decide⟩, _, _, rfl, rfl, ⟨by decide, by decide +kernel⟩, g2.laid nls _, zs ++ [r % 10 ^ (48 : Int).toNat], _, _, ?_, ?_, rfl⟩
      · rw [List.length_append, ez]; rfl
      · rw [upd_same]; exact congrArg (fun z => some (HO.lst z)) (ap _)
    · refine ⟨_, rfl, .inl ⟨rfl, _, SqL.of el⟩, _, rfl, _, rfl, _, _, rfl, rfl, IntMulOk.of_left (by decide +kernel), _, _, rfl, rfl, _, rfl, _, _, rfl, fun v => ⟨ls, _, _, rfl, rfl, el, lz, ?_⟩⟩
      refine ⟨_, rfl, _, _, rfl, rfl, ⟨by decide, by decide, by decide⟩, _, _, rfl, rfl, ⟨by decide, by decide +kernel⟩, g2.laid nls _, zs ++ [v], _, _, ?_, ?_, rfl⟩
      · rw [List.length_append, ez]; rfl
      · rw [upd_same]; exact congrArg (fun z => some (HO.lst z)) (ap v)
def spPart : Sp := fun vs H Q _ => ∃ t b : Int, vs = [.int t, .int b] ∧ 0 < b ∧ Sm 13400 b ∧ Sm 13400 t ∧ RetT H Q (T2 (nt t b) (nb t b))
theorem ok_law_part (T : Txt K mg a) : FnOk P w K mg base CX0 1 a.f_law_part a.d_law_part ["_law_top", "_law_bottom"] spPart := by
  refine T.F_law_part.ok sc_law_part (fun vs H Q E h => ?_) (fun cdv A outer s H vs Q E hr h => ?_)
  · obtain ⟨_, _, rfl, _⟩ := h
    rfl
  obtain ⟨t, b, rfl, hb, hs, ht, q⟩ := h
  refine ⟨_, (pss_cons (ps_set (i := 2) sc_law_part.nd rfl (Or.inl rfl) (pe_callB (call_abs) rfl T.m_abs boot_abs (pa_c (pv 0) pa_nil) (he := starEach_plain rfl _ _) (hpl := noStar rfl)))
      (pss_cons (ps_set (i := 3) sc_law_part.nd rfl (Or.inl rfl) (pv 1))
      (pss_cons (ps_while PassesOwn.never (pt_cmpR op_gt (pv 2) pe_int (nomark _))
        (pss_one (ps_par (i := 2) (j := 3) rfl sc_law_part.nd rfl rfl (by decide) rfl rfl (pa_c (pe_op op_mod (pv 3) (pv 2)) (pa_c (pv 2) pa_nil)) rfl)))
      (pss_one (ps_ret (pe_tup (pa_c (pe_op op_fdivL (pv 0) (pv 3)) (pa_c (pe_op op_fdivL (pv 1) (pv 3)) pa_nil)))))))), ?_⟩
  have d1 : CDivL t (sg t b) := ⟨sg_ne (show b ≠ 0 by omega), Nat.lt_of_lt_of_le (ht.log2 (by decide)) (by decide)⟩
  have d2 : CDivL b (sg t b) := ⟨sg_ne (show b ≠ 0 by omega), Nat.lt_of_lt_of_le (hs.log2 (by decide)) (by decide)⟩
  refine ⟨_, rfl, _, rfl, ?_⟩
  refine ⟨_, rfl, ?_⟩
  refine while_by (fun σ H' => H' = H ∧ ∃ (r y : Int), σ = [some (.int t), some (.int b), some (.int r), some (.int y)] ∧ 0 ≤ r ∧ 0 ≤ y ∧ Int.gcd y r = Int.gcd b (if t < 0 then -t else t))
    (fun σ _ => match σ with | [_, _, some (.int r), _] => r.toNat | _ => 0) ⟨rfl, _, _, rfl, abs_nn _, by omega, rfl⟩ ?_ ?_
  · rintro σ H' ⟨rfl, r, y, rfl, hr', hy, hg⟩
    refine ⟨_, rfl, _, _, rfl, rfl, _, rfl, iteD (fun c => ?_) (fun c => ?_)⟩
    · refine ⟨_, rfl, _, rfl, _, _, rfl, rfl, c, _, rfl, _, _, rfl, ?_⟩
      refine ⟨⟨rfl, y % r, r, rfl, Int.emod_nonneg _ (by omega), hr', gcd_step.trans hg⟩, ?_⟩
      have := Int.emod_lt_of_pos y c
      have := Int.emod_nonneg y (show r ≠ 0 by omega)
      show (y % r).toNat < r.toNat
      omega
    · have e : r = 0 := by omega
      subst e
      have e2 : y = sg t b := by
        rw [← gcd_end hy, hg]
        unfold sg
        rw [if_neg (show ¬ b < 0 by omega), Int.gcd_comm]
        split <;> simp [Int.neg_gcd]
      subst e2
      exact ⟨_, rfl, _, rfl, _, _, rfl, rfl, d1, _, rfl, _, rfl, _, _, rfl, rfl, d2, two_le, fun p hp => q.new hp⟩
  · rintro σ H' Q1 Q2 hq ⟨v, e, i, j, e1, e2, k, ek, q1⟩
    exact ⟨v, e, i, j, e1, e2, k, ek, hq _ _ q1⟩

theorem ok_law_sum (T : Txt K mg a) : FnOk P w K mg base CX0 2 a.f_law_sum a.d_law_sum ["_law_one", "_law_other"] (spBinQ K (· + ·)) := by
  refine T.F_law_sum.ok sc_law_sum (fun vs H Q E h => ?_) (fun cdv A outer s H vs Q E hr h => ?_)
  · obtain ⟨_, _, _, _, rfl, _⟩ := h
    rfl
  obtain ⟨p, r, x, y, rfl, hp, hq, sx, sy, q⟩ := h
  refine ⟨_, (pss_cons (ps_set (i := 2) sc_law_sum.nd rfl (Or.inl rfl) (pe_op op_add (pe_op op_mulB (pe_ix ix_tup (pv 0) pe_int (fun _ _ => rfl)) (pe_ix ix_tup (pv 1) pe_int (fun _ _ => rfl))) (pe_op op_mulB (pe_ix ix_tup (pv 1) pe_int (fun _ _ => rfl)) (pe_ix ix_tup (pv 0) pe_int (fun _ _ => rfl)))))
      (pss_one (ps_ret (pe_call (ok_law_part T) (hr.mono (by decide)) rfl T.m_law_part T.F_law_part.kp T.b_law_part .nil pass0 (pa_c (pv 2) (pa_c (pe_op op_mulB (pe_ix ix_tup (pv 0) pe_int (fun _ _ => rfl)) (pe_ix ix_tup (pv 1) pe_int (fun _ _ => rfl))) pa_nil)) (he := starEach_plain rfl _ _) (hpl := noStar rfl))))), ?_⟩
  refine ⟨_, rfl, _, _, _, _, rfl, rfl, hp, rfl, _, rfl, _, _, _, _, rfl, rfl, hq, rfl, _, _, rfl, rfl, mulOk sx.1 sy.2, _, rfl, _, _, _, _, rfl, rfl, hq, rfl, _, rfl, _, _, _, _, rfl, rfl, hp, rfl, _, _, rfl, rfl, mulOk sy.1 sx.2, _, _, rfl, rfl, ?_⟩
  refine ⟨_, rfl, _, rfl, _, _, _, _, rfl, rfl, hp, rfl, _, rfl, _, _, _, _, rfl, rfl, hq, rfl, _, _, rfl, rfl, mulOk sx.2 sy.2, _, _, rfl, Int.mul_pos (isR_rat x).pos (isR_rat y).pos, (sx.2.mul sy.2).mono (by decide), (Sm.add ((sx.1.mul sy.2).mono (m := 13000) (n := 13000) (by decide)) ((sy.1.mul sx.2).mono (by decide))).mono (by decide), ?_⟩
  rw [(q_plus x y).1, (q_plus x y).2]
  exact q



/-- a share; a small one where the net is not great -/
def ShrG (g : Bool) (q : Rat) : Prop := Shr q ∧ (g = false → Bd 12 3 q)
theorem sml_part {t : Int} {m : Nat} (hm : 0 < m) (h : m ∣ 12) (ht : t.natAbs ≤ 8) : Bd 12 3 (Rat.divInt t m) := Bd.of hm h (by
  have : 2 ^ 3 * 1 ≤ 2 ^ 3 * m := Nat.mul_le_mul_left _ hm
  omega)
def SmlU : Un → Prop
  | .sum c ts => Bd 12 3 c ∧ ∀ x ∈ ts, Bd 12 3 x.2
  | .bend _ => True
def spTaken (K : PySem.W.Frag) : Sp := fun vs H Q _ => ∃ (n : Int) (g : Bool), vs = [.int n, .bl g] ∧ ∀ (n' : Int) (q : Rat) (t r : Addr) (H' : Hp), ShrG g q → Same H H' → SqT K H' t [.int n', .ref r] → SqT K H' r (TQ q) → Q (.ref t) H'
theorem six_at {y : Int} (h0 : 0 ≤ y) (h6 : y < 6) : ∃ m : Nat, (m = 1 ∨ m = 2 ∨ m = 3 ∨ m = 4 ∨ m = 7 ∨ m = 1000000000) ∧ m ∣ 12 ∧ atI [V.int 1, V.int 1, V.int 1, V.int 2, V.int 3, V.int 4] y = some (.int (m : Int)) := by
  have c : y = 0 ∨ y = 1 ∨ y = 2 ∨ y = 3 ∨ y = 4 ∨ y = 5 := by omega
  rcases c with c | c | c | c | c | c <;> subst c
  · exact ⟨1, by decide, by decide, rfl⟩
  · exact ⟨1, by decide, by decide, rfl⟩
  · exact ⟨1, by decide, by decide, rfl⟩
  · exact ⟨2, by decide, by decide, rfl⟩
  · exact ⟨3, by decide, by decide, rfl⟩
  · exact ⟨4, by decide, by decide, rfl⟩
theorem three_at {y : Int} (h0 : 0 ≤ y) (h3 : y < 3) : ∃ m : Nat, (m = 1 ∨ m = 2 ∨ m = 3 ∨ m = 4 ∨ m = 7 ∨ m = 1000000000) ∧ atI [V.int 1, V.int 7, V.int 1000000000] y = some (.int (m : Int)) := by
  have c : y = 0 ∨ y = 1 ∨ y = 2 := by omega
  rcases c with c | c | c <;> subst c
  · exact ⟨1, by decide, rfl⟩
  · exact ⟨7, by decide, rfl⟩
  · exact ⟨1000000000, by decide, rfl⟩
theorem part_tq {K : PySem.W.Frag} {H : Hp} {p : Addr} {t : Int} {m : Nat} (hm : m = 1 ∨ m = 2 ∨ m = 3 ∨ m = 4 ∨ m = 7 ∨ m = 1000000000) (e : H p = some (.tup (T2 (nt t m) (nb t m)))) : SqT K H p (TQ (Rat.divInt t m)) := by
  have en := n_rat (t := t) (b := (m : Int)) (by omega)
  unfold TQ
  rw [← en.1, ← en.2]
  exact SqT.of e
theorem Sm.few {m : Nat} (hm : m = 1 ∨ m = 2 ∨ m = 3 ∨ m = 4 ∨ m = 7 ∨ m = 1000000000) : Sm 13400 (m : Int) := Sm.mono (m := 64) (by unfold Sm; omega) (by decide)
set_option maxHeartbeats 0 in
theorem ok_law_taken (T : Txt K mg a) : FnOk P w K mg base CX0 2 a.f_law_taken a.d_law_taken ["_law_number", "_law_great"] (spTaken K) := by
  refine T.F_law_taken.ok sc_law_taken (fun vs H Q E h => ?_) (fun cdv A outer s H vs Q E hr h => ?_)
  · obtain ⟨_, _, rfl, _⟩ := h
    rfl
  obtain ⟨n, gr, rfl, q⟩ := h
  have h0 : PS (cxOf CX0 P w K mg base ["_law_number", "_law_great", "_law_top", "_law_way", "_law_far", "_law_tail"] "_law_taken" (defScope s_law_taken) a.f_law_taken cdv A outer s H E).nox ((defBody s_law_taken).getD 0 (.Pass ⟨0, 0, 0, 0⟩)) _ := (ps_asg (pe_callB (call_divmod) rfl T.m_divmod boot_divmod (pa_c (pv 0) (pa_c pe_int pa_nil)) (he := starEach_plain rfl _ _) (hpl := noStar rfl)) (pg_tup rfl (pgs_cons (pg_name (i := 0) sc_law_taken.nd rfl (Or.inl rfl)) (pgs_cons (pg_name (i := 2) sc_law_taken.nd rfl (Or.inl rfl)) pgs_nil))))
  have h1 : PS (cxOf CX0 P w K mg base ["_law_number", "_law_great", "_law_top", "_law_way", "_law_far", "_law_tail"] "_law_taken" (defScope s_law_taken) a.f_law_taken cdv A outer s H E).nox ((defBody s_law_taken).getD 1 (.Pass ⟨0, 0, 0, 0⟩)) _ := (ps_asg (pe_callB (call_divmod) rfl T.m_divmod boot_divmod (pa_c (pv 0) (pa_c pe_int pa_nil)) (he := starEach_plain rfl _ _) (hpl := noStar rfl)) (pg_tup rfl (pgs_cons (pg_name (i := 0) sc_law_taken.nd rfl (Or.inl rfl)) (pgs_cons (pg_name (i := 3) sc_law_taken.nd rfl (Or.inl rfl)) pgs_nil))))
  have h2 : PS (cxOf CX0 P w K mg base ["_law_number", "_law_great", "_law_top", "_law_way", "_law_far", "_law_tail"] "_law_taken" (defScope s_law_taken) a.f_law_taken cdv A outer s H E).nox ((defBody s_law_taken).getD 2 (.Pass ⟨0, 0, 0, 0⟩)) _ := (ps_if (pt_val (pv 1))
        (pss_cons (ps_asg (pe_callB (call_divmod) rfl T.m_divmod boot_divmod (pa_c (pv 0) (pa_c pe_int pa_nil)) (he := starEach_plain rfl _ _) (hpl := noStar rfl)) (pg_tup rfl (pgs_cons (pg_name (i := 0) sc_law_taken.nd rfl (Or.inl rfl)) (pgs_cons (pg_name (i := 4) sc_law_taken.nd rfl (Or.inl rfl)) pgs_nil))))
      (pss_one (ps_if (pt_cmpR op_eq (pv 4) pe_int (nomark _))
        (pss_cons (ps_asg (pe_callB (call_divmod) rfl T.m_divmod boot_divmod (pa_c (pv 0) (pa_c (pe_op op_pow pe_int pe_int) pa_nil)) (he := starEach_plain rfl _ _) (hpl := noStar rfl)) (pg_tup rfl (pgs_cons (pg_name (i := 0) sc_law_taken.nd rfl (Or.inl rfl)) (pgs_cons (pg_name (i := 5) sc_law_taken.nd rfl (Or.inl rfl)) pgs_nil))))
      (pss_one (ps_ret (pe_tup (pa_c (pv 0) (pa_c (pe_call (ok_law_part T) (hr.mono (by decide)) rfl T.m_law_part T.F_law_part.kp T.b_law_part .nil pass0 (pa_c (pe_op op_add (pe_op op_mulB (pe_op op_sub (pv 2) pe_int) (pe_op op_pow pe_int pe_int)) (pv 5)) (pa_c (pe_ix ix_list (pe_lst (pa_c pe_int (pa_c pe_int (pa_c (pe_op op_pow pe_int pe_int) pa_nil)))) (pe_op op_mod (pv 3) pe_int) (fun _ _ => rfl)) pa_nil)) (he := starEach_plain rfl _ _) (hpl := noStar rfl)) pa_nil))))))
        pss_nil)))
        pss_nil)
  have h3 : PS (cxOf CX0 P w K mg base ["_law_number", "_law_great", "_law_top", "_law_way", "_law_far", "_law_tail"] "_law_taken" (defScope s_law_taken) a.f_law_taken cdv A outer s H E).nox ((defBody s_law_taken).getD 3 (.Pass ⟨0, 0, 0, 0⟩)) _ := (ps_ret (pe_tup (pa_c (pv 0) (pa_c (pe_call (ok_law_part T) (hr.mono (by decide)) rfl T.m_law_part T.F_law_part.kp T.b_law_part .nil pass0 (pa_c (pe_op op_sub (pv 2) pe_int) (pa_c (pe_ix ix_list (pe_lst (pa_c pe_int (pa_c pe_int (pa_c pe_int (pa_c pe_int (pa_c pe_int (pa_c pe_int pa_nil))))))) (pv 3) (fun _ _ => rfl)) pa_nil)) (he := starEach_plain rfl _ _) (hpl := noStar rfl)) pa_nil))))
  have hb : defBody s_law_taken = [((defBody s_law_taken).getD 0 (.Pass ⟨0, 0, 0, 0⟩)), ((defBody s_law_taken).getD 1 (.Pass ⟨0, 0, 0, 0⟩)), ((defBody s_law_taken).getD 2 (.Pass ⟨0, 0, 0, 0⟩)), ((defBody s_law_taken).getD 3 (.Pass ⟨0, 0, 0, 0⟩))] := by rfl
  generalize ((defBody s_law_taken).getD 0 (.Pass ⟨0, 0, 0, 0⟩)) = S0 at *
  generalize ((defBody s_law_taken).getD 1 (.Pass ⟨0, 0, 0, 0⟩)) = S1 at *
  generalize ((defBody s_law_taken).getD 2 (.Pass ⟨0, 0, 0, 0⟩)) = S2 at *
  generalize ((defBody s_law_taken).getD 3 (.Pass ⟨0, 0, 0, 0⟩)) = S3 at *
  rw [hb]
  refine ⟨_, (pss_cons h0 (pss_cons h1 (pss_cons h2 (pss_one h3)))), ?_⟩
  clear hb h0 h1 h2 h3 S0 S1 S2 S3
  refine ⟨_, rfl, _, _, rfl, ⟨by decide, by decide⟩, fun p1 h1 => ⟨p1, _, rfl, SqT.of upd_same, rfl, _, _, rfl, _, _, rfl, rfl, ?_⟩⟩
  have g1 := same_new h1 (.tup [.int (n / 13), .int (n % 13)])
  generalize upd H p1 (.tup [.int (n / 13), .int (n % 13)]) = H1 at *
  refine ⟨_, rfl, _, _, rfl, ⟨by decide, by decide⟩, fun p2 h2 => ⟨p2, _, rfl, SqT.of upd_same, rfl, _, _, rfl, _, _, rfl, rfl, ?_⟩⟩
  have g2 := g1.trans (same_new h2 (.tup [.int (n / 13 / 6), .int (n / 13 % 6)]))
  generalize upd H1 p2 (.tup [.int (n / 13 / 6), .int (n / 13 % 6)]) = H2 at *
  have a0 : 0 ≤ n % 13 := Int.emod_nonneg _ (by decide)
  have a1 : n % 13 < 13 := Int.emod_lt_of_pos _ (by decide)
  have b0 : 0 ≤ n / 13 % 6 := Int.emod_nonneg _ (by decide)
  have b1 : n / 13 % 6 < 6 := Int.emod_lt_of_pos _ (by decide)
  generalize n % 13 = x at *
  generalize n / 13 % 6 = y at *
  generalize n / 13 / 6 = n2 at *
  clear h1 h2 g1
  obtain ⟨m6, hm6, d12, at6⟩ := six_at b0 b1
  refine ⟨_, rfl, _, rfl, ?_⟩
  cases gr with
  | false =>
    refine iteF ?_
    refine ⟨_, rfl, _, rfl, _, _, rfl, rfl, (show 6 ≤ sizeLine by decide), fun l hl => ⟨_, rfl, l, _, _, _, rfl, rfl, SqL.of upd_same, at6, _, _, rfl, by omega, Sm.few hm6, Sm.mono (m := 64) (by unfold Sm; omega) (by decide), fun p5 H5 g5 e5 => ⟨two_le, fun t ht => ?_⟩⟩⟩
    have g6 := same_new ht (.tup [.int n2, .ref p5])
    exact q n2 _ t p5 _ ⟨shr_part hm6 (by omega), fun _ => sml_part (by omega) d12 (by omega)⟩ (g2.trans ((same_new hl _).trans (g5.trans g6))) (SqT.of upd_same) (g6.tup (part_tq hm6 e5))
  | true =>
    refine iteT ?_
    refine ⟨_, rfl, _, _, rfl, ⟨by decide, by decide⟩, fun p3 h3 => ⟨p3, _, rfl, SqT.of upd_same, rfl, _, _, rfl, _, _, rfl, rfl, ?_⟩⟩
    have g3 := g2.trans (same_new h3 (.tup [.int (n2 / 3), .int (n2 % 3)]))
    generalize upd H2 p3 (.tup [.int (n2 / 3), .int (n2 % 3)]) = H3 at *
    refine ⟨_, rfl, rfl, _, rfl, iteD (fun _ => ?_) (fun _ => ?_)⟩
    · refine ⟨_, rfl, _, _, rfl, rfl, ⟨by decide, by decide, by decide⟩, _, _, rfl, ⟨by decide, by decide⟩, fun p4 h4 => ⟨p4, _, rfl, SqT.of upd_same, rfl, _, _, rfl, _, _, rfl, rfl, ?_⟩⟩
      have e9 : (10 : Int) ^ (9 : Int).toNat = 1000000000 := by decide
      have g4 := g3.trans (same_new h4 (.tup [.int (n2 / 3 / 10 ^ (9 : Int).toNat), .int (n2 / 3 % 10 ^ (9 : Int).toNat)]))
      dsimp only
      generalize upd H3 p4 (.tup [.int (n2 / 3 / 10 ^ (9 : Int).toNat), .int (n2 / 3 % 10 ^ (9 : Int).toNat)]) = H4 at *
      have c0 : 0 ≤ n2 / 3 % 10 ^ (9 : Int).toNat := Int.emod_nonneg _ (by decide)
      have c1 : n2 / 3 % 10 ^ (9 : Int).toNat < 1000000000 := Int.emod_lt_of_pos _ (by decide)
      generalize n2 / 3 % 10 ^ (9 : Int).toNat = z at *
      generalize n2 / 3 / 10 ^ (9 : Int).toNat = n4 at *
      obtain ⟨m3, hm3, at3⟩ := three_at (y := y % 3) (Int.emod_nonneg _ (by decide)) (Int.emod_lt_of_pos _ (by decide))
      refine ⟨_, rfl, _, rfl, _, _, rfl, rfl, _, _, rfl, rfl, ⟨by decide, by decide, by decide⟩, _, _, rfl, rfl, IntMulOk.of_left (intBits_le_64 (by omega) (by omega)), _, rfl, _, _, rfl, rfl, _, _, rfl, rfl, ⟨by decide, by decide, by decide⟩, (show 3 ≤ sizeLine by decide), fun l hl => ?_⟩
      have e18 : (10 : Int) ^ (18 : Int).toNat = 1000000000000000000 := by decide
      refine ⟨_, rfl, _, _, rfl, rfl, (by show (0 : Int) < 3; decide), l, _, _, _, rfl, rfl, SqL.of upd_same, at3, _, _, rfl, by omega, Sm.few hm3, Sm.mono (m := 64) (by unfold Sm; rw [e18]; omega) (by decide), fun p5 H5 g5 e5 => ⟨two_le, fun t ht => ?_⟩⟩
      have g6 := same_new ht (.tup [.int n4, .ref p5])
      exact q n4 _ t p5 _ ⟨shr_part hm3 (by rw [e18]; omega), fun z => by cases z⟩ (g4.trans ((same_new hl _).trans (g5.trans g6))) (SqT.of upd_same) (g6.tup (part_tq hm3 e5))
    · refine ⟨_, rfl, _, rfl, _, _, rfl, rfl, (show 6 ≤ sizeLine by decide), fun l hl => ⟨_, rfl, l, _, _, _, rfl, rfl, SqL.of upd_same, at6, _, _, rfl, by omega, Sm.few hm6, Sm.mono (m := 64) (by unfold Sm; omega) (by decide), fun p5 H5 g5 e5 => ⟨two_le, fun t ht => ?_⟩⟩⟩
      have g6 := same_new ht (.tup [.int (n2 / 3), .ref p5])
      exact q (n2 / 3) _ t p5 _ ⟨shr_part hm6 (by omega), fun z => by cases z⟩ (g3.trans ((same_new hl _).trans (g5.trans g6))) (SqT.of upd_same) (g6.tup (part_tq hm6 e5))
def spSmall (K : PySem.W.Frag) : Sp := fun vs H Q _ => ∃ (n : Int) (g : Bool), vs = [.int n, .bl g] ∧ ∀ (q : Rat) (r : Addr) (H' : Hp), ShrG g q → Same H H' → SqT K H' r (TQ q) → Q (.ref r) H'
theorem ok_law_small (T : Txt K mg a) : FnOk P w K mg base CX0 3 a.f_law_small a.d_law_small ["_law_number", "_law_great"] (spSmall K) := by
  refine T.F_law_small.ok sc_law_small (fun vs H Q E h => ?_) (fun cdv A outer s H vs Q E hr h => ?_)
  · obtain ⟨_, _, rfl, _⟩ := h
    rfl
  obtain ⟨n, gr, rfl, q⟩ := h
  refine ⟨_, (pss_one (ps_ret (pe_ix ix_tup (pe_call (ok_law_taken T) (hr.mono (by decide)) rfl T.m_law_taken T.F_law_taken.kp T.b_law_taken .nil pass0 (pa_c (pv 0) (pa_c (pv 1) pa_nil)) (he := starEach_plain rfl _ _) (hpl := noStar rfl)) pe_int (fun _ _ => rfl)))), ?_⟩
  exact ⟨_, rfl, _, rfl, n, gr, rfl, fun n' x t r H' sx g ht hr' => ⟨t, _, _, _, rfl, rfl, ht, rfl, q x r H' sx g hr'⟩⟩

/-! units, nets, sides -/
theorem cutNN {vs : List V} {i j : Nat} (hi : i ≤ vs.length) (hj : j ≤ vs.length) : cutV vs (some (i : Int)) (some (j : Int)) = (vs.drop i).take (j - i) := by
  unfold cutV
  rw [HT.sIx_nat, HT.sIx_nat, Nat.min_eq_left hi, Nat.min_eq_left hj]
theorem outV_get {ls : List Nat} {k : Nat} {m : Nat} (h : ls[k]? = some m) : (outV ls)[k]? = some (.int (m : Int)) := by unfold outV; rw [List.getElem?_map, h]; rfl
theorem outV_len (ls : List Nat) : (outV ls).length = ls.length := by unfold outV; rw [List.length_map]
theorem map_erase {α β : Type} (f : α → β) : ∀ (l : List α) (k : Nat), (l.map f).eraseIdx k = (l.eraseIdx k).map f
  | [], _ => rfl
  | _ :: _, 0 => rfl
  | x :: xs, k + 1 => by
    show f x :: (xs.map f).eraseIdx k = f x :: (xs.eraseIdx k).map f
    rw [map_erase f xs k]
theorem outV_erase (ls : List Nat) (k : Nat) : (outV ls).eraseIdx k = outV (ls.eraseIdx k) := map_erase _ ls k
theorem erase_perm : ∀ {l : List Nat} {k m : Nat}, l[k]? = some m → (m :: l.eraseIdx k).Perm l
  | [], _, _, h => by simp at h
  | x :: xs, 0, m, h => by
    have e : x = m := by simpa using h
    subst e
    exact List.Perm.refl _
  | x :: xs, k + 1, m, h => by
    have z := erase_perm (l := xs) (k := k) (m := m) (by simpa using h)
    show (m :: x :: xs.eraseIdx k).Perm (x :: xs)
    exact (List.Perm.swap x m _).trans (List.Perm.cons x z)
theorem seqIx {k n : Nat} (h : k < n) : seqIndex? (k : Int) n = some k := by
  unfold seqIndex?
  first
    | (simp; omega)
    | (simp [h]; done)
    | (rw [if_neg (by omega)]; simp [h])
theorem TL.upd_lst {K : PySem.W.Frag} {H : Hp} {t : Addr} {vs ys : List V} {ts : List (Nat × Rat)} {o : HO} (h : TL K H vs ts) (e : H t = some (.lst ys)) : TL K (upd H t o) vs ts :=
  Paired.mapP h fun _ _ ⟨t, r, e1, k1, k2⟩ => ⟨t, r, e1, SqT.upd_lst k1 e, SqT.upd_lst k2 e⟩

/-- some unit is told -/
def spUnitL (K : PySem.W.Frag) : Sp := fun vs H Q _ => ∃ (n : Int) (pl : Nat) (b g : Bool), vs = [.int n, .int (pl : Int), .bl b, .bl g] ∧ 1 ≤ pl ∧ pl ≤ 30 ∧ ∀ u, WfU pl u → ShrU u → (g = false → SmlU u) → (isB u = true → b = true) → RetBy H Q fun H' v => UnN H K H' v u
set_option maxHeartbeats 0 in
theorem ok_law_unit (T : Txt K mg a) : FnOk P w K mg base CX0 4 a.f_law_unit a.d_law_unit ["_law_number", "_law_places", "_law_bent", "_law_great"] (spUnitL K) := by
  refine T.F_law_unit.ok sc_law_unit (fun vs H Q E h => ?_) (fun cdv A outer s H vs Q E hr h => ?_)
  · obtain ⟨_, _, _, _, rfl, _⟩ := h
    rfl
  obtain ⟨n, pl, b, gr, rfl, p1, p30, q⟩ := h
  have h0 : PS (cxOf CX0 P w K mg base ["_law_number", "_law_places", "_law_bent", "_law_great", "_law_kind", "_law_way", "_law_more_here", "_law_left", "_law_terms", "_law_k", "_law_coin", "_law_spot", "_law_share"] "_law_unit" (defScope s_law_unit) a.f_law_unit cdv A outer s H E).nox ((defBody s_law_unit).getD 0 (.Pass ⟨0, 0, 0, 0⟩)) _ := (ps_asg (pe_callB (call_divmod) rfl T.m_divmod boot_divmod (pa_c (pv 0) (pa_c pe_int pa_nil)) (he := starEach_plain rfl _ _) (hpl := noStar rfl)) (pg_tup rfl (pgs_cons (pg_name (i := 0) sc_law_unit.nd rfl (Or.inl rfl)) (pgs_cons (pg_name (i := 4) sc_law_unit.nd rfl (Or.inl rfl)) pgs_nil))))
  have h1 : PS (cxOf CX0 P w K mg base ["_law_number", "_law_places", "_law_bent", "_law_great", "_law_kind", "_law_way", "_law_more_here", "_law_left", "_law_terms", "_law_k", "_law_coin", "_law_spot", "_law_share"] "_law_unit" (defScope s_law_unit) a.f_law_unit cdv A outer s H E).nox ((defBody s_law_unit).getD 1 (.Pass ⟨0, 0, 0, 0⟩)) _ := (ps_if (PW.pt (pw_and (pt_cmpR op_lt (pv 4) pe_int (nomark _)) (pw_and1 (pt_val (pv 2)))))
        (pss_cons (ps_asg (pe_callB (call_divmod) rfl T.m_divmod boot_divmod (pa_c (pv 0) (pa_c pe_int pa_nil)) (he := starEach_plain rfl _ _) (hpl := noStar rfl)) (pg_tup rfl (pgs_cons (pg_name (i := 0) sc_law_unit.nd rfl (Or.inl rfl)) (pgs_cons (pg_name (i := 5) sc_law_unit.nd rfl (Or.inl rfl)) pgs_nil))))
      (pss_one (ps_ret (pe_tup (pa_c pe_str (pa_c (pe_ix ix_list (pe_lst (pa_c (pe_op op_mod (pv 0) (pv 1)) (pa_c (pe_op op_sub (pv 1) pe_int) pa_nil))) (pe_callTy (call_int1) rfl T.m_int boot_int (pa_c (pe_cmpR op_gt (pv 5) pe_int (nomark _)) pa_nil) (he := starEach_plain rfl _ _) (hpl := noStar rfl)) (fun _ _ => rfl)) pa_nil))))))
        pss_nil)
  have h2 : PS (cxOf CX0 P w K mg base ["_law_number", "_law_places", "_law_bent", "_law_great", "_law_kind", "_law_way", "_law_more_here", "_law_left", "_law_terms", "_law_k", "_law_coin", "_law_spot", "_law_share"] "_law_unit" (defScope s_law_unit) a.f_law_unit cdv A outer s H E).nox ((defBody s_law_unit).getD 2 (.Pass ⟨0, 0, 0, 0⟩)) _ := (ps_asg (pe_callB (call_divmod) rfl T.m_divmod boot_divmod (pa_c (pv 0) (pa_c pe_int pa_nil)) (he := starEach_plain rfl _ _) (hpl := noStar rfl)) (pg_tup rfl (pgs_cons (pg_name (i := 0) sc_law_unit.nd rfl (Or.inl rfl)) (pgs_cons (pg_name (i := 6) sc_law_unit.nd rfl (Or.inl rfl)) pgs_nil))))
  have h3 : PS (cxOf CX0 P w K mg base ["_law_number", "_law_places", "_law_bent", "_law_great", "_law_kind", "_law_way", "_law_more_here", "_law_left", "_law_terms", "_law_k", "_law_coin", "_law_spot", "_law_share"] "_law_unit" (defScope s_law_unit) a.f_law_unit cdv A outer s H E).nox ((defBody s_law_unit).getD 3 (.Pass ⟨0, 0, 0, 0⟩)) _ := (ps_set (i := 7) sc_law_unit.nd rfl (Or.inl rfl) (pe_callTy (call_list_rng rfl) rfl T.m_list boot_list (pa_c (pe_callTy (call_range1) rfl T.m_range boot_range (pa_c (pv 1) pa_nil) (he := starEach_plain rfl _ _) (hpl := noStar rfl)) pa_nil) (he := starEach_plain rfl _ _) (hpl := noStar rfl)))
  have h4 : PS (cxOf CX0 P w K mg base ["_law_number", "_law_places", "_law_bent", "_law_great", "_law_kind", "_law_way", "_law_more_here", "_law_left", "_law_terms", "_law_k", "_law_coin", "_law_spot", "_law_share"] "_law_unit" (defScope s_law_unit) a.f_law_unit cdv A outer s H E).nox ((defBody s_law_unit).getD 4 (.Pass ⟨0, 0, 0, 0⟩)) _ := (ps_set (i := 8) sc_law_unit.nd rfl (Or.inl rfl) (pe_lst pa_nil))
  have h5 : PS (cxOf CX0 P w K mg base ["_law_number", "_law_places", "_law_bent", "_law_great", "_law_kind", "_law_way", "_law_more_here", "_law_left", "_law_terms", "_law_k", "_law_coin", "_law_spot", "_law_share"] "_law_unit" (defScope s_law_unit) a.f_law_unit cdv A outer s H E).nox ((defBody s_law_unit).getD 5 (.Pass ⟨0, 0, 0, 0⟩)) _ := (ps_for PassesOwn.never rfl (pi_range1 rfl T.m_range (pa_c (pe_callB (call_min2 rfl) rfl T.m_min boot_min (pa_c (pv 1) (pa_c (pe_op op_add pe_int (pv 6)) pa_nil)) (he := starEach_plain rfl _ _) (hpl := noStar rfl)) pa_nil)) (pg_name (i := 9) sc_law_unit.nd rfl (Or.inl rfl))
        (pss_cons (ps_asg (pe_callB (call_divmod) rfl T.m_divmod boot_divmod (pa_c (pv 0) (pa_c pe_int pa_nil)) (he := starEach_plain rfl _ _) (hpl := noStar rfl)) (pg_tup rfl (pgs_cons (pg_name (i := 0) sc_law_unit.nd rfl (Or.inl rfl)) (pgs_cons (pg_name (i := 10) sc_law_unit.nd rfl (Or.inl rfl)) pgs_nil))))
      (pss_cons (ps_asg (pe_callB (call_divmod) rfl T.m_divmod boot_divmod (pa_c (pv 0) (pa_c (pe_callB (call_len_seq) rfl T.m_len boot_len (pa_c (pv 7) pa_nil) (he := starEach_plain rfl _ _) (hpl := noStar rfl)) pa_nil)) (he := starEach_plain rfl _ _) (hpl := noStar rfl)) (pg_tup rfl (pgs_cons (pg_name (i := 0) sc_law_unit.nd rfl (Or.inl rfl)) (pgs_cons (pg_name (i := 11) sc_law_unit.nd rfl (Or.inl rfl)) pgs_nil))))
      (pss_cons (ps_if (PW.pt (pw_and (pt_cmpR op_eq (pv 9) pe_int (nomark _)) (pw_and1 (pt_cmpR op_eq (pv 10) pe_int (nomark _)))))
        (pss_one (ps_set (i := 11) sc_law_unit.nd rfl (Or.inl rfl) (pe_op op_sub (pe_callB (call_len_seq) rfl T.m_len boot_len (pa_c (pv 7) pa_nil) (he := starEach_plain rfl _ _) (hpl := noStar rfl)) pe_int)))
        pss_nil)
      (pss_cons (ps_asg (pe_call (ok_law_taken T) (hr.mono (by decide)) rfl T.m_law_taken T.F_law_taken.kp T.b_law_taken .nil pass0 (pa_c (pv 0) (pa_c (pv 3) pa_nil)) (he := starEach_plain rfl _ _) (hpl := noStar rfl)) (pg_tup rfl (pgs_cons (pg_name (i := 0) sc_law_unit.nd rfl (Or.inl rfl)) (pgs_cons (pg_name (i := 12) sc_law_unit.nd rfl (Or.inl rfl)) pgs_nil))))
      (pss_one (ps_expr (pe_bm PySem.F.plainAttrs_list PySem.F.slot_list_append PySem.F.type_list_append mt_append (pv 8) (pa_c (pe_tup (pa_c (pe_bm PySem.F.plainAttrs_list PySem.F.slot_list_pop PySem.F.type_list_pop mt_popAt (pv 7) (pa_c (pv 11) pa_nil) (hs := starEach_plain rfl _ _) (hplain := noStar rfl)) (pa_c (pv 12) pa_nil))) pa_nil) (hs := starEach_plain rfl _ _) (hplain := noStar rfl)))))))))
  have h6 : PS (cxOf CX0 P w K mg base ["_law_number", "_law_places", "_law_bent", "_law_great", "_law_kind", "_law_way", "_law_more_here", "_law_left", "_law_terms", "_law_k", "_law_coin", "_law_spot", "_law_share"] "_law_unit" (defScope s_law_unit) a.f_law_unit cdv A outer s H E).nox ((defBody s_law_unit).getD 6 (.Pass ⟨0, 0, 0, 0⟩)) _ := (ps_ret (pe_tup (pa_c pe_str (pa_c (pe_call (ok_law_small T) (hr.mono (by decide)) rfl T.m_law_small T.F_law_small.kp T.b_law_small .nil pass0 (pa_c (pv 0) (pa_c (pv 3) pa_nil)) (he := starEach_plain rfl _ _) (hpl := noStar rfl)) (pa_c (pv 8) pa_nil)))))
  have hb : defBody s_law_unit = [((defBody s_law_unit).getD 0 (.Pass ⟨0, 0, 0, 0⟩)), ((defBody s_law_unit).getD 1 (.Pass ⟨0, 0, 0, 0⟩)), ((defBody s_law_unit).getD 2 (.Pass ⟨0, 0, 0, 0⟩)), ((defBody s_law_unit).getD 3 (.Pass ⟨0, 0, 0, 0⟩)), ((defBody s_law_unit).getD 4 (.Pass ⟨0, 0, 0, 0⟩)), ((defBody s_law_unit).getD 5 (.Pass ⟨0, 0, 0, 0⟩)), ((defBody s_law_unit).getD 6 (.Pass ⟨0, 0, 0, 0⟩))] := by rfl
  generalize ((defBody s_law_unit).getD 0 (.Pass ⟨0, 0, 0, 0⟩)) = S0 at *
  generalize ((defBody s_law_unit).getD 1 (.Pass ⟨0, 0, 0, 0⟩)) = S1 at *
  generalize ((defBody s_law_unit).getD 2 (.Pass ⟨0, 0, 0, 0⟩)) = S2 at *
  generalize ((defBody s_law_unit).getD 3 (.Pass ⟨0, 0, 0, 0⟩)) = S3 at *
  generalize ((defBody s_law_unit).getD 4 (.Pass ⟨0, 0, 0, 0⟩)) = S4 at *
  generalize ((defBody s_law_unit).getD 5 (.Pass ⟨0, 0, 0, 0⟩)) = S5 at *
  generalize ((defBody s_law_unit).getD 6 (.Pass ⟨0, 0, 0, 0⟩)) = S6 at *
  rw [hb]
  refine ⟨_, (pss_cons h0 (pss_cons h1 (pss_cons h2 (pss_cons h3 (pss_cons h4 (pss_cons h5 (pss_one h6))))))), ?_⟩
  clear hb h0 h1 h2 h3 h4 h5 h6 S0 S1 S2 S3 S4 S5 S6
  refine ⟨_, rfl, _, _, rfl, ⟨by decide, by decide⟩, fun pa ha => ⟨pa, _, rfl, SqT.of upd_same, rfl, _, _, rfl, _, _, rfl, rfl, ?_⟩⟩
  have g1 := same_new ha (.tup [.int (n / 5), .int (n % 5)])
  generalize upd H pa (.tup [.int (n / 5), .int (n % 5)]) = H1 at *
  generalize n / 5 = n1 at *
  generalize n % 5 = kd at *
  clear ha
  refine (fun h => ⟨_, rfl, _, _, rfl, rfl, _, rfl, iteD (fun c => ⟨_, rfl, _, rfl, ?bd⟩) (fun _ => iteF h)⟩) ?_
  case bd =>
    cases b with
    | false => exact iteF h
    | true =>
      refine iteT ?_
      refine ⟨_, rfl, _, _, rfl, ⟨by decide, by decide⟩, fun pb hb => ⟨pb, _, rfl, SqT.of upd_same, rfl, _, _, rfl, _, _, rfl, rfl, ?_⟩⟩
      have g2 := g1.trans (same_new hb (.tup [.int (n1 / 3), .int (n1 % 3)]))
      generalize upd H1 pb (.tup [.int (n1 / 3), .int (n1 % 3)]) = H2 at *
      generalize n1 / 3 = n2 at *
      generalize n1 % 3 = wy at *
      obtain ⟨m, hm⟩ : ∃ m : Nat, n2 % (pl : Int) = (m : Int) := Int.eq_ofNat_of_zero_le (Int.emod_nonneg _ (by omega))
      have ml : m < pl := by
        have := Int.emod_lt_of_pos n2 (show (0 : Int) < pl by omega)
        omega
      refine ⟨_, rfl, _, rfl, _, _, rfl, rfl, (by show (0 : Int) < pl; omega), _, rfl, _, _, rfl, rfl, two_le, fun l hl => ?_⟩
      refine ⟨_, rfl, _, _, rfl, rfl, .inr ⟨_, rfl, ?_⟩⟩
      by_cases k : 0 < wy
      · refine ⟨l, _, _, .int ((pl : Int) - 1), rfl, rfl, SqL.of upd_same, (by dsimp only; rw [decide_eq_true k]; rfl), two_le, fun t ht => ?_⟩
        refine q (.bend (pl - 1)) (show pl - 1 < pl by omega) trivial (fun _ => trivial) (fun _ => rfl) t _ (g2.trans ((same_new hl _).trans (same_new ht _))) fun lf o e => ⟨t, rfl, ?_⟩
        rw [show ((pl - 1 : Nat) : Int) = (pl : Int) - 1 by omega]
        exact SqT.of upd_same
      · refine ⟨l, _, _, .int (n2 % (pl : Int)), rfl, rfl, SqL.of upd_same, (by dsimp only; rw [decide_eq_false k]; rfl), two_le, fun t ht => ?_⟩
        refine q (.bend m) ml trivial (fun _ => trivial) (fun _ => rfl) t _ (g2.trans ((same_new hl _).trans (same_new ht _))) fun lf o e => ⟨t, rfl, ?_⟩
        rw [← hm]
        exact SqT.of upd_same
  refine ⟨_, rfl, _, _, rfl, ⟨by decide, by decide⟩, fun pb hb => ⟨pb, _, rfl, SqT.of upd_same, rfl, _, _, rfl, _, _, rfl, rfl, ?_⟩⟩
  have g2 := g1.trans (same_new hb (.tup [.int (n1 / 3), .int (n1 % 3)]))
  have m0 : 0 ≤ n1 % 3 := Int.emod_nonneg _ (by decide)
  have m1 : n1 % 3 < 3 := Int.emod_lt_of_pos _ (by decide)
  generalize upd H1 pb (.tup [.int (n1 / 3), .int (n1 % 3)]) = H2 at *
  generalize n1 / 3 = n2 at *
  generalize n1 % 3 = mo at *
  clear g1 hb
  -- left = list(range(places)), terms = []
  refine ⟨_, rfl, pl, rfl, fun pr hpr => ⟨pr, pl, rfl, upd_same, by omega, fun ll hll => ⟨(by decide), fun lt hlt => ?_⟩⟩⟩
  have k1 := same_new hpr (.ext (RngAt pr pl))
  have k2 := same_new hll (.lst ((List.range pl).map fun k : Nat => V.int (k : Int)))
  have k3 := same_new hlt (.lst [])
  have nll : H ll = none := none_back (g2.trans k1) hll
  have nlt : H lt = none := none_back (g2.trans (k1.trans k2)) hlt
  have eL := k3 _ _ (upd_same (H := upd H2 pr (.ext (RngAt pr pl))) (a := ll) (o := .lst ((List.range pl).map fun k : Nat => V.int (k : Int))))
  have eT := upd_same (H := upd (upd H2 pr (.ext (RngAt pr pl))) ll (.lst ((List.range pl).map fun k : Nat => V.int (k : Int)))) (a := lt) (o := .lst [])
  have ltl : ll ≠ lt := ne_of_none upd_same hlt
  have g3 := g2.trans (k1.trans (k2.trans k3))
  generalize upd (upd (upd H2 pr (.ext (RngAt pr pl))) ll (.lst ((List.range pl).map fun k : Nat => V.int (k : Int)))) lt (.lst []) = H3 at *
  clear k1 k2 k3 hpr hll hlt g2
  obtain ⟨cnt, hc, c3, cp⟩ : ∃ cnt : Nat, (if 1 + mo < (pl : Int) then 1 + mo else (pl : Int)) = (cnt : Int) ∧ cnt ≤ 3 ∧ cnt ≤ pl := by
    by_cases k : 1 + mo < (pl : Int)
    · rw [if_pos k]; exact ⟨(1 + mo).toNat, by omega, by omega, by omega⟩
    · rw [if_neg k]; exact ⟨pl, rfl, by omega, by omega⟩
  refine ⟨_, rfl, _, rfl, _, _, rfl, rfl, _, _, rfl, (cnt : Int), congrArg (fun z => [V.int z]) hc, by omega, by omega, for_by (n := cnt) (fun i σ H' => Same H H' ∧ ∃ (num : Int) (ls : List Nat) (ts : List (Nat × Rat)) (vt : List V) (u9 u10 u11 u12 : Option V),
      σ = [some (.int num), some (.int (pl : Int)), some (.bl b), some (.bl gr), some (.int kd), none, some (.int mo), some (.ref ll), some (.ref lt), u9, u10, u11, u12] ∧ H' ll = some (.lst (outV ls)) ∧ H' lt = some (.lst vt) ∧ TL K H' vt ts ∧ ts.length = i ∧ ls.length + i = pl ∧
      (ts.map (·.1) ++ ls).Nodup ∧ (∀ m ∈ ts.map (·.1) ++ ls, m < pl) ∧ ∀ x ∈ ts, ShrG gr x.2)
    ⟨g3, n2, List.range pl, [], [], _, _, _, _, rfl, eL, eT, .nil, rfl, by rw [List.length_range]; rfl, by rw [List.map_nil, List.nil_append]; exact List.nodup_range, fun m hm => by simpa using hm, fun x hx => (by cases hx)⟩ ?_ ?_ ?_⟩
  · rintro σ H' ⟨g, num, ls, ts, vt, u9, u10, u11, u12, rfl, eL, eT, rT, lts, lls, nd, lim, sh⟩
    refine ⟨by show (cnt : Int).toNat ≤ cnt; omega, ?_⟩
    refine ⟨_, rfl, _, rfl, num, gr, rfl, fun qx r H5 sx g5 hr5 => ⟨_, rfl, (show 3 ≤ sizeLine by decide), fun t ht => ?_⟩⟩
    have g6 := same_new ht (.tup [.str "sum", .ref r, .ref lt])
    have g56 := g5.trans g6
    refine q (.sum qx ts) ⟨fun x hx => lim _ (List.mem_append_left _ (List.mem_map.mpr ⟨x, hx, rfl⟩)), (List.nodup_append.mp nd).1, by omega⟩ ⟨sx.1, fun x hx => (sh x hx).1, by omega⟩ (fun z => ⟨sx.2 z, fun x hx => (sh x hx).2 z⟩) (fun z => by cases z) t _ (g.trans g56) fun lf o e => ?_
    exact ⟨t, r, lt, vt, rfl, SqT.of upd_same, g6.tup hr5, g56 _ _ eT, Ne.symm (ne_of_none e nlt), rT.mono g56⟩
  · rintro i σ H' hi _
    show i < (cnt : Int).toNat
    omega
  · rintro i σ H0 x H' hi ⟨g, num, ls, ts, vt, u9, u10, u11, u12, rfl, eL, eT, rT, lts, lls, nd, lim, sh⟩ ⟨rfl, rfl⟩
    refine ⟨_, rfl, _, _, rfl, ⟨by decide, by decide⟩, fun pc hc' => ⟨pc, _, rfl, SqT.of upd_same, rfl, _, _, rfl, _, _, rfl, rfl, ?_⟩⟩
    have j1 := same_new hc' (.tup [.int (num / 2), .int (num % 2)])
    have eL := j1 _ _ eL
    have eT := j1 _ _ eT
    have rT := rT.mono j1
    have g := g.trans j1
    generalize upd H' pc (.tup [.int (num / 2), .int (num % 2)]) = H4 at *
    generalize num / 2 = num2 at *
    generalize num % 2 = coin at *
    clear j1 hc'
    have ol := outV_len ls
    refine ⟨_, rfl, _, rfl, _, _, rfl, .inl (SqL.of eL), _, _, rfl, ⟨by omega, by omega⟩, fun pd hd => ⟨pd, _, rfl, SqT.of upd_same, rfl, _, _, rfl, _, _, rfl, rfl, ?_⟩⟩
    have j1 := same_new hd (.tup [.int (num2 / ((outV ls).length : Int)), .int (num2 % ((outV ls).length : Int))])
    have eL := j1 _ _ eL
    have eT := j1 _ _ eT
    have rT := rT.mono j1
    have g := g.trans j1
    generalize upd H4 pd (.tup [.int (num2 / ((outV ls).length : Int)), .int (num2 % ((outV ls).length : Int))]) = H5 at *
    clear j1 hd
    obtain ⟨kk, ek, kl⟩ : ∃ kk : Nat, num2 % ((outV ls).length : Int) = (kk : Int) ∧ kk < ls.length := by
      have a := Int.emod_nonneg num2 (show ((outV ls).length : Int) ≠ 0 by omega)
      have b := Int.emod_lt_of_pos num2 (show (0 : Int) < ((outV ls).length : Int) by omega)
      exact ⟨(num2 % ((outV ls).length : Int)).toNat, by omega, by omega⟩
    rw [ek]
    generalize num2 / ((outV ls).length : Int) = num3 at *
    have e1 : ((outV ls).length : Int) - 1 = ((ls.length - 1 : Nat) : Int) := by omega
    refine ⟨_, rfl, rfl, _, rfl, iteD (fun _ => ⟨_, rfl, rfl, _, rfl, iteD (fun _ => ⟨_, rfl, _, _, rfl, .inl (SqL.of eL), _, _, rfl, rfl, ?_⟩) (fun _ => ?_)⟩) (fun _ => iteF ?_)⟩
    · dsimp only
      rw [e1]
      have hk0 : ls.length - 1 < ls.length := by omega
      clear e1 ek kl
      generalize ls.length - 1 = k0 at *
      obtain ⟨mm, em⟩ : ∃ mm, ls[k0]? = some mm := ⟨_, List.getElem?_eq_getElem hk0⟩
      refine ⟨_, rfl, _, rfl, num3, gr, rfl, fun n' qx t r H6 sx g6 ht hr6 => ⟨t, _, rfl, ht, rfl, _, _, rfl, _, _, rfl, rfl, ?_⟩⟩
      have eL6 := g6 _ _ eL
      have eT6 := g6 _ _ eT
      refine ⟨_, rfl, .inl ⟨rfl, _, SqL.of eT6⟩, _, rfl, .inl ⟨rfl, _, SqL.of eL6⟩, _, rfl, ll, _, _, k0, _, rfl, rfl, eL6, by omega, by omega, seqIx (by omega), outV_get em, _, rfl, two_le, fun t2 ht2 => ?_⟩
      rw [outV_erase] at ht2 ⊢
      have eT7 : upd H6 ll (.lst (outV (ls.eraseIdx k0))) lt = some (.lst vt) := by rw [upd_ne (Ne.symm ltl)]; exact eT6
      have rT7 : TL K (upd H6 ll (.lst (outV (ls.eraseIdx k0)))) vt ts := TL.upd_lst (rT.mono g6) eL6
      have hr7 := SqT.upd_lst (o := .lst (outV (ls.eraseIdx k0))) hr6 eL6
      have g7 : Same H (upd H6 ll (.lst (outV (ls.eraseIdx k0)))) := (g.trans g6).laid nll _
      have eL7 := upd_same (H := H6) (a := ll) (o := .lst (outV (ls.eraseIdx k0)))
      generalize upd H6 ll (.lst (outV (ls.eraseIdx k0))) = H7 at *
      have j1 := same_new ht2 (.tup [.int (mm : Int), .ref r])
      have eT8 := j1 _ _ eT7
      have lvt := TL.length rT7
      refine ⟨lt, vt, _, rfl, rfl, eT8, small1000 (by omega), ?_⟩
      have perm : ((ts ++ [(mm, qx)]).map (·.1) ++ ls.eraseIdx k0).Perm (ts.map (·.1) ++ ls) := by
        rw [List.map_append, List.append_assoc]
        refine List.Perm.append_left _ ?_
        exact erase_perm em
      refine ⟨(g7.trans j1).laid nlt _, n', ls.eraseIdx k0, ts ++ [(mm, qx)], vt ++ [.ref t2], _, _, _, _, rfl, by rw [upd_ne ltl]; exact j1 _ _ eL7, upd_same, TL.upd_lst (Paired.snoc (TL.mono rT7 j1) ⟨t2, r, rfl, SqT.of upd_same, j1.tup hr7⟩) eT8, by rw [List.length_append, lts]; rfl, ?_, perm.nodup_iff.mpr nd, fun m hm => lim m (perm.mem_iff.mp hm), fun x hx => ?_⟩
      · rw [List.length_eraseIdx_of_lt hk0]; omega
      · rcases List.mem_append.mp hx with z | z
        · exact sh x z
        · rw [List.mem_singleton.mp z]; exact sx

    · have hk0 := kl
      clear e1 ek kl
      generalize kk = k0 at *
      obtain ⟨mm, em⟩ : ∃ mm, ls[k0]? = some mm := ⟨_, List.getElem?_eq_getElem hk0⟩
      refine ⟨_, rfl, _, rfl, num3, gr, rfl, fun n' qx t r H6 sx g6 ht hr6 => ⟨t, _, rfl, ht, rfl, _, _, rfl, _, _, rfl, rfl, ?_⟩⟩
      have eL6 := g6 _ _ eL
      have eT6 := g6 _ _ eT
      refine ⟨_, rfl, .inl ⟨rfl, _, SqL.of eT6⟩, _, rfl, .inl ⟨rfl, _, SqL.of eL6⟩, _, rfl, ll, _, _, k0, _, rfl, rfl, eL6, by omega, by omega, seqIx (by omega), outV_get em, _, rfl, two_le, fun t2 ht2 => ?_⟩
      rw [outV_erase] at ht2 ⊢
      have eT7 : upd H6 ll (.lst (outV (ls.eraseIdx k0))) lt = some (.lst vt) := by rw [upd_ne (Ne.symm ltl)]; exact eT6
      have rT7 : TL K (upd H6 ll (.lst (outV (ls.eraseIdx k0)))) vt ts := TL.upd_lst (rT.mono g6) eL6
      have hr7 := SqT.upd_lst (o := .lst (outV (ls.eraseIdx k0))) hr6 eL6
      have g7 : Same H (upd H6 ll (.lst (outV (ls.eraseIdx k0)))) := (g.trans g6).laid nll _
      have eL7 := upd_same (H := H6) (a := ll) (o := .lst (outV (ls.eraseIdx k0)))
      generalize upd H6 ll (.lst (outV (ls.eraseIdx k0))) = H7 at *
      have j1 := same_new ht2 (.tup [.int (mm : Int), .ref r])
      have eT8 := j1 _ _ eT7
      have lvt := TL.length rT7
      refine ⟨lt, vt, _, rfl, rfl, eT8, small1000 (by omega), ?_⟩
      have perm : ((ts ++ [(mm, qx)]).map (·.1) ++ ls.eraseIdx k0).Perm (ts.map (·.1) ++ ls) := by
        rw [List.map_append, List.append_assoc]
        refine List.Perm.append_left _ ?_
        exact erase_perm em
      refine ⟨(g7.trans j1).laid nlt _, n', ls.eraseIdx k0, ts ++ [(mm, qx)], vt ++ [.ref t2], _, _, _, _, rfl, by rw [upd_ne ltl]; exact j1 _ _ eL7, upd_same, TL.upd_lst (Paired.snoc (TL.mono rT7 j1) ⟨t2, r, rfl, SqT.of upd_same, j1.tup hr7⟩) eT8, by rw [List.length_append, lts]; rfl, ?_, perm.nodup_iff.mpr nd, fun m hm => lim m (perm.mem_iff.mp hm), fun x hx => ?_⟩
      · rw [List.length_eraseIdx_of_lt hk0]; omega
      · rcases List.mem_append.mp hx with z | z
        · exact sh x z
        · rw [List.mem_singleton.mp z]; exact sx

    · have hk0 := kl
      clear e1 ek kl
      generalize kk = k0 at *
      obtain ⟨mm, em⟩ : ∃ mm, ls[k0]? = some mm := ⟨_, List.getElem?_eq_getElem hk0⟩
      refine ⟨_, rfl, _, rfl, num3, gr, rfl, fun n' qx t r H6 sx g6 ht hr6 => ⟨t, _, rfl, ht, rfl, _, _, rfl, _, _, rfl, rfl, ?_⟩⟩
      have eL6 := g6 _ _ eL
      have eT6 := g6 _ _ eT
      refine ⟨_, rfl, .inl ⟨rfl, _, SqL.of eT6⟩, _, rfl, .inl ⟨rfl, _, SqL.of eL6⟩, _, rfl, ll, _, _, k0, _, rfl, rfl, eL6, by omega, by omega, seqIx (by omega), outV_get em, _, rfl, two_le, fun t2 ht2 => ?_⟩
      rw [outV_erase] at ht2 ⊢
      have eT7 : upd H6 ll (.lst (outV (ls.eraseIdx k0))) lt = some (.lst vt) := by rw [upd_ne (Ne.symm ltl)]; exact eT6
      have rT7 : TL K (upd H6 ll (.lst (outV (ls.eraseIdx k0)))) vt ts := TL.upd_lst (rT.mono g6) eL6
      have hr7 := SqT.upd_lst (o := .lst (outV (ls.eraseIdx k0))) hr6 eL6
      have g7 : Same H (upd H6 ll (.lst (outV (ls.eraseIdx k0)))) := (g.trans g6).laid nll _
      have eL7 := upd_same (H := H6) (a := ll) (o := .lst (outV (ls.eraseIdx k0)))
      generalize upd H6 ll (.lst (outV (ls.eraseIdx k0))) = H7 at *
      have j1 := same_new ht2 (.tup [.int (mm : Int), .ref r])
      have eT8 := j1 _ _ eT7
      have lvt := TL.length rT7
      refine ⟨lt, vt, _, rfl, rfl, eT8, small1000 (by omega), ?_⟩
      have perm : ((ts ++ [(mm, qx)]).map (·.1) ++ ls.eraseIdx k0).Perm (ts.map (·.1) ++ ls) := by
        rw [List.map_append, List.append_assoc]
        refine List.Perm.append_left _ ?_
        exact erase_perm em
      refine ⟨(g7.trans j1).laid nlt _, n', ls.eraseIdx k0, ts ++ [(mm, qx)], vt ++ [.ref t2], _, _, _, _, rfl, by rw [upd_ne ltl]; exact j1 _ _ eL7, upd_same, TL.upd_lst (Paired.snoc (TL.mono rT7 j1) ⟨t2, r, rfl, SqT.of upd_same, j1.tup hr7⟩) eT8, by rw [List.length_append, lts]; rfl, ?_, perm.nodup_iff.mpr nd, fun m hm => lim m (perm.mem_iff.mp hm), fun x hx => ?_⟩
      · rw [List.length_eraseIdx_of_lt hk0]; omega
      · rcases List.mem_append.mp hx with z | z
        · exact sh x z
        · rw [List.mem_singleton.mp z]; exact sx


/-! whole nets, sides -/
theorem WfN.snoc {many : Nat} {us : List Un} {u : Un} (h : WfN many us) (k : WfU (many + us.length) u) : WfN many (us ++ [u]) := fun j v e => by
  by_cases hj : j < us.length
  · rw [List.getElem?_append_left hj] at e
    exact h j v e
  · have hl := (List.getElem?_eq_some_iff.mp e).1
    rw [List.length_append, List.length_singleton] at hl
    have ej : j = us.length := by omega
    subst ej
    rw [List.getElem?_append_right (Nat.le_refl _), Nat.sub_self] at e
    have e : u = v := by simpa using e
    rw [← e]
    exact k

def spNetL (K : PySem.W.Frag) : Sp := fun vs H Q _ => ∃ (sa : Addr) (ns : List Int) (st mb : Nat), vs = [.ref sa, .int (st : Int), .int (mb : Int)] ∧ SqL K H sa (ns.map V.int) ∧
  ∀ (many : Nat) (us : List Un) (outs : List Nat) (t lu lo : Addr) (vu : List V) (H' : Hp), NetOk many us outs → outs.length ≤ 3 → many ≤ 3 → us.length ≤ 12 → (∀ u ∈ us, ShrU u) → ((us.filter isB).length ≤ 2 ∨ (∀ u ∈ us, SmlU u) ∧ (us.filter isB).length ≤ mb) → Same H H' → SqT K H' t [.int (many : Int), .ref lu, .ref lo] → H lu = none → H' lu = some (.lst vu) → UL false K H' vu us →
    H lo = none → H' lo = some (.lst (outV outs)) → Q (.ref t) H'
set_option maxHeartbeats 0 in
theorem ok_law_net (T : Txt K mg a) : FnOk P w K mg base CX0 5 a.f_law_net a.d_law_net ["_law_script", "_law_start", "_law_most_bends"] (spNetL K) := by
  refine T.F_law_net.ok sc_law_net (fun vs H Q E h => ?_) (fun cdv A outer s H vs Q E hr h => ?_)
  · obtain ⟨_, _, _, _, rfl, _⟩ := h
    rfl
  obtain ⟨sa, ns, st, mb, rfl, hS, q⟩ := h
  have cd : ∀ {x m : Int}, m ≠ 0 → m.natAbs.log2 < 9000 → CDivB x m := fun h1 h2 => ⟨h1, h2⟩
  have h0 : PS (cxOf CX0 P w K mg base ["_law_script", "_law_start", "_law_most_bends", "_law_seeds_here", "_law_lead", "_law_more_here", "_law_many", "_law_great", "_law_size", "_law_units", "_law_bends", "_law_number", "_law_unit_here", "_law_outs", "_law_k"] "_law_net" (defScope s_law_net) a.f_law_net cdv A outer s H E).nox ((defBody s_law_net).getD 0 (.Pass ⟨0, 0, 0, 0⟩)) _ := (ps_set (i := 3) sc_law_net.nd rfl (Or.inl rfl) (pe_call (ok_law_seeds T) (hr.mono (by decide)) rfl T.m_law_seeds T.F_law_seeds.kp T.b_law_seeds .nil pass0 (pa_c (pv 0) (pa_c (pv 1) (pa_c pe_int pa_nil))) (he := starEach_plain rfl _ _) (hpl := noStar rfl)))
  have h1 : PS (cxOf CX0 P w K mg base ["_law_script", "_law_start", "_law_most_bends", "_law_seeds_here", "_law_lead", "_law_more_here", "_law_many", "_law_great", "_law_size", "_law_units", "_law_bends", "_law_number", "_law_unit_here", "_law_outs", "_law_k"] "_law_net" (defScope s_law_net) a.f_law_net cdv A outer s H E).nox ((defBody s_law_net).getD 1 (.Pass ⟨0, 0, 0, 0⟩)) _ := (ps_asg (pe_callB (call_divmod) rfl T.m_divmod boot_divmod (pa_c (pe_ix ix_list (pv 3) pe_int (fun _ _ => rfl)) (pa_c pe_int pa_nil)) (he := starEach_plain rfl _ _) (hpl := noStar rfl)) (pg_tup rfl (pgs_cons (pg_name (i := 4) sc_law_net.nd rfl (Or.inl rfl)) (pgs_cons (pg_name (i := 5) sc_law_net.nd rfl (Or.inl rfl)) pgs_nil))))
  have h2 : PS (cxOf CX0 P w K mg base ["_law_script", "_law_start", "_law_most_bends", "_law_seeds_here", "_law_lead", "_law_more_here", "_law_many", "_law_great", "_law_size", "_law_units", "_law_bends", "_law_number", "_law_unit_here", "_law_outs", "_law_k"] "_law_net" (defScope s_law_net) a.f_law_net cdv A outer s H E).nox ((defBody s_law_net).getD 2 (.Pass ⟨0, 0, 0, 0⟩)) _ := (ps_set (i := 6) sc_law_net.nd rfl (Or.inl rfl) (pe_op op_add pe_int (pv 5)))
  have h3 : PS (cxOf CX0 P w K mg base ["_law_script", "_law_start", "_law_most_bends", "_law_seeds_here", "_law_lead", "_law_more_here", "_law_many", "_law_great", "_law_size", "_law_units", "_law_bends", "_law_number", "_law_unit_here", "_law_outs", "_law_k"] "_law_net" (defScope s_law_net) a.f_law_net cdv A outer s H E).nox ((defBody s_law_net).getD 3 (.Pass ⟨0, 0, 0, 0⟩)) _ := (ps_set (i := 7) sc_law_net.nd rfl (Or.inl rfl) (pe_cmpR op_eq (pe_op op_mod (pv 4) pe_int) pe_int (nomark _)))
  have h4 : PS (cxOf CX0 P w K mg base ["_law_script", "_law_start", "_law_most_bends", "_law_seeds_here", "_law_lead", "_law_more_here", "_law_many", "_law_great", "_law_size", "_law_units", "_law_bends", "_law_number", "_law_unit_here", "_law_outs", "_law_k"] "_law_net" (defScope s_law_net) a.f_law_net cdv A outer s H E).nox ((defBody s_law_net).getD 4 (.Pass ⟨0, 0, 0, 0⟩)) _ := (ps_set (i := 8) sc_law_net.nd rfl (Or.inl rfl) (pe_op op_add pe_int (pe_op op_mod (pe_op op_fdivB (pv 4) pe_int) pe_int)))
  have h5 : PS (cxOf CX0 P w K mg base ["_law_script", "_law_start", "_law_most_bends", "_law_seeds_here", "_law_lead", "_law_more_here", "_law_many", "_law_great", "_law_size", "_law_units", "_law_bends", "_law_number", "_law_unit_here", "_law_outs", "_law_k"] "_law_net" (defScope s_law_net) a.f_law_net cdv A outer s H E).nox ((defBody s_law_net).getD 5 (.Pass ⟨0, 0, 0, 0⟩)) _ := (ps_set (i := 4) sc_law_net.nd rfl (Or.inl rfl) (pe_op op_fdivB (pv 4) pe_int))
  have h6 : PS (cxOf CX0 P w K mg base ["_law_script", "_law_start", "_law_most_bends", "_law_seeds_here", "_law_lead", "_law_more_here", "_law_many", "_law_great", "_law_size", "_law_units", "_law_bends", "_law_number", "_law_unit_here", "_law_outs", "_law_k"] "_law_net" (defScope s_law_net) a.f_law_net cdv A outer s H E).nox ((defBody s_law_net).getD 6 (.Pass ⟨0, 0, 0, 0⟩)) _ := (ps_set (i := 9) sc_law_net.nd rfl (Or.inl rfl) (pe_lst pa_nil))
  have h7 : PS (cxOf CX0 P w K mg base ["_law_script", "_law_start", "_law_most_bends", "_law_seeds_here", "_law_lead", "_law_more_here", "_law_many", "_law_great", "_law_size", "_law_units", "_law_bends", "_law_number", "_law_unit_here", "_law_outs", "_law_k"] "_law_net" (defScope s_law_net) a.f_law_net cdv A outer s H E).nox ((defBody s_law_net).getD 7 (.Pass ⟨0, 0, 0, 0⟩)) _ := (ps_set (i := 10) sc_law_net.nd rfl (Or.inl rfl) pe_int)
  have h8 : PS (cxOf CX0 P w K mg base ["_law_script", "_law_start", "_law_most_bends", "_law_seeds_here", "_law_lead", "_law_more_here", "_law_many", "_law_great", "_law_size", "_law_units", "_law_bends", "_law_number", "_law_unit_here", "_law_outs", "_law_k"] "_law_net" (defScope s_law_net) a.f_law_net cdv A outer s H E).nox ((defBody s_law_net).getD 8 (.Pass ⟨0, 0, 0, 0⟩)) _ := (ps_if (pt_val (pv 7))
        (pss_one (ps_set (i := 2) sc_law_net.nd rfl (Or.inl rfl) (pe_callB (call_min2 rfl) rfl T.m_min boot_min (pa_c (pv 2) (pa_c pe_int pa_nil)) (he := starEach_plain rfl _ _) (hpl := noStar rfl))))
        pss_nil)
  have h9 : PS (cxOf CX0 P w K mg base ["_law_script", "_law_start", "_law_most_bends", "_law_seeds_here", "_law_lead", "_law_more_here", "_law_many", "_law_great", "_law_size", "_law_units", "_law_bends", "_law_number", "_law_unit_here", "_law_outs", "_law_k"] "_law_net" (defScope s_law_net) a.f_law_net cdv A outer s H E).nox ((defBody s_law_net).getD 9 (.Pass ⟨0, 0, 0, 0⟩)) _ := (ps_for PassesOwn.never rfl (pi_list (pe_slice sl_list (pv 3) (po_some pe_int) (po_some (pe_op op_add pe_int (pv 8))))) (pg_name (i := 11) sc_law_net.nd rfl (Or.inl rfl))
        (pss_cons (ps_set (i := 12) sc_law_net.nd rfl (Or.inl rfl) (pe_call (ok_law_unit T) (hr.mono (by decide)) rfl T.m_law_unit T.F_law_unit.kp T.b_law_unit .nil pass0 (pa_c (pv 11) (pa_c (pe_op op_add (pv 6) (pe_callB (call_len_seq) rfl T.m_len boot_len (pa_c (pv 9) pa_nil) (he := starEach_plain rfl _ _) (hpl := noStar rfl))) (pa_c (pe_cmpR op_lt (pv 10) (pv 2) (nomark _)) (pa_c (pv 7) pa_nil)))) (he := starEach_plain rfl _ _) (hpl := noStar rfl)))
      (pss_cons (ps_set (i := 10) sc_law_net.nd rfl (Or.inl rfl) (pe_op op_add (pv 10) (pe_callTy (call_int1) rfl T.m_int boot_int (pa_c (pe_cmpR op_eq (pe_ix ix_tup (pv 12) pe_int (fun _ _ => rfl)) pe_str (nomark _)) pa_nil) (he := starEach_plain rfl _ _) (hpl := noStar rfl))))
      (pss_one (ps_expr (pe_bm PySem.F.plainAttrs_list PySem.F.slot_list_append PySem.F.type_list_append mt_append (pv 9) (pa_c (pv 12) pa_nil) (hs := starEach_plain rfl _ _) (hplain := noStar rfl)))))))
  have h10 : PS (cxOf CX0 P w K mg base ["_law_script", "_law_start", "_law_most_bends", "_law_seeds_here", "_law_lead", "_law_more_here", "_law_many", "_law_great", "_law_size", "_law_units", "_law_bends", "_law_number", "_law_unit_here", "_law_outs", "_law_k"] "_law_net" (defScope s_law_net) a.f_law_net cdv A outer s H E).nox ((defBody s_law_net).getD 10 (.Pass ⟨0, 0, 0, 0⟩)) _ := (ps_set (i := 13) sc_law_net.nd rfl (Or.inl rfl) (pe_lst (pa_c (pe_op op_sub (pe_op op_add (pv 6) (pv 8)) pe_int) pa_nil)))
  have h11 : PS (cxOf CX0 P w K mg base ["_law_script", "_law_start", "_law_most_bends", "_law_seeds_here", "_law_lead", "_law_more_here", "_law_many", "_law_great", "_law_size", "_law_units", "_law_bends", "_law_number", "_law_unit_here", "_law_outs", "_law_k"] "_law_net" (defScope s_law_net) a.f_law_net cdv A outer s H E).nox ((defBody s_law_net).getD 11 (.Pass ⟨0, 0, 0, 0⟩)) _ := (ps_for PassesOwn.never rfl (pi_range1 rfl T.m_range (pa_c (pe_op op_mod (pv 4) pe_int) pa_nil)) (pg_name (i := 14) sc_law_net.nd rfl (Or.inl rfl))
        (pss_cons (ps_set (i := 4) sc_law_net.nd rfl (Or.inl rfl) (pe_op op_fdivB (pv 4) (pe_op op_add (pv 6) (pv 8))))
      (pss_one (ps_expr (pe_bm PySem.F.plainAttrs_list PySem.F.slot_list_append PySem.F.type_list_append mt_append (pv 13) (pa_c (pe_op op_mod (pv 4) (pe_op op_add (pv 6) (pv 8))) pa_nil) (hs := starEach_plain rfl _ _) (hplain := noStar rfl))))))
  have h12 : PS (cxOf CX0 P w K mg base ["_law_script", "_law_start", "_law_most_bends", "_law_seeds_here", "_law_lead", "_law_more_here", "_law_many", "_law_great", "_law_size", "_law_units", "_law_bends", "_law_number", "_law_unit_here", "_law_outs", "_law_k"] "_law_net" (defScope s_law_net) a.f_law_net cdv A outer s H E).nox ((defBody s_law_net).getD 12 (.Pass ⟨0, 0, 0, 0⟩)) _ := (ps_ret (pe_tup (pa_c (pv 6) (pa_c (pv 9) (pa_c (pv 13) pa_nil)))))
  have hb : defBody s_law_net = [((defBody s_law_net).getD 0 (.Pass ⟨0, 0, 0, 0⟩)), ((defBody s_law_net).getD 1 (.Pass ⟨0, 0, 0, 0⟩)), ((defBody s_law_net).getD 2 (.Pass ⟨0, 0, 0, 0⟩)), ((defBody s_law_net).getD 3 (.Pass ⟨0, 0, 0, 0⟩)), ((defBody s_law_net).getD 4 (.Pass ⟨0, 0, 0, 0⟩)), ((defBody s_law_net).getD 5 (.Pass ⟨0, 0, 0, 0⟩)), ((defBody s_law_net).getD 6 (.Pass ⟨0, 0, 0, 0⟩)), ((defBody s_law_net).getD 7 (.Pass ⟨0, 0, 0, 0⟩)), ((defBody s_law_net).getD 8 (.Pass ⟨0, 0, 0, 0⟩)), ((defBody s_law_net).getD 9 (.Pass ⟨0, 0, 0, 0⟩)), ((defBody s_law_net).getD 10 (.Pass ⟨0, 0, 0, 0⟩)), ((defBody s_law_net).getD 11 (.Pass ⟨0, 0, 0, 0⟩)), ((defBody s_law_net).getD 12 (.Pass ⟨0, 0, 0, 0⟩))] := by rfl
  generalize ((defBody s_law_net).getD 0 (.Pass ⟨0, 0, 0, 0⟩)) = S0 at *
  generalize ((defBody s_law_net).getD 1 (.Pass ⟨0, 0, 0, 0⟩)) = S1 at *
  generalize ((defBody s_law_net).getD 2 (.Pass ⟨0, 0, 0, 0⟩)) = S2 at *
  generalize ((defBody s_law_net).getD 3 (.Pass ⟨0, 0, 0, 0⟩)) = S3 at *
  generalize ((defBody s_law_net).getD 4 (.Pass ⟨0, 0, 0, 0⟩)) = S4 at *
  generalize ((defBody s_law_net).getD 5 (.Pass ⟨0, 0, 0, 0⟩)) = S5 at *
  generalize ((defBody s_law_net).getD 6 (.Pass ⟨0, 0, 0, 0⟩)) = S6 at *
  generalize ((defBody s_law_net).getD 7 (.Pass ⟨0, 0, 0, 0⟩)) = S7 at *
  generalize ((defBody s_law_net).getD 8 (.Pass ⟨0, 0, 0, 0⟩)) = S8 at *
  generalize ((defBody s_law_net).getD 9 (.Pass ⟨0, 0, 0, 0⟩)) = S9 at *
  generalize ((defBody s_law_net).getD 10 (.Pass ⟨0, 0, 0, 0⟩)) = S10 at *
  generalize ((defBody s_law_net).getD 11 (.Pass ⟨0, 0, 0, 0⟩)) = S11 at *
  generalize ((defBody s_law_net).getD 12 (.Pass ⟨0, 0, 0, 0⟩)) = S12 at *
  rw [hb]
  refine ⟨_, (pss_cons h0 (pss_cons h1 (pss_cons h2 (pss_cons h3 (pss_cons h4 (pss_cons h5 (pss_cons h6 (pss_cons h7 (pss_cons h8 (pss_cons h9 (pss_cons h10 (pss_cons h11 (pss_one h12))))))))))))), ?_⟩
  clear hb h0 h1 h2 h3 h4 h5 h6 h7 h8 h9 h10 h11 h12 S0 S1 S2 S3 S4 S5 S6 S7 S8 S9 S10 S11 S12
  refine ⟨_, rfl, _, rfl, sa, ns, st, 13, rfl, hS, by decide, fun zs lz ls H1 _ g1 e1 => ?_⟩
  obtain ⟨z0, ez0⟩ : ∃ z, zs[0]? = some z := ⟨_, List.getElem?_eq_getElem (by omega)⟩
  have ezv : (zs.map V.int)[0]? = some (.int z0) := by rw [List.getElem?_map, ez0]; rfl
  refine ⟨_, rfl, _, _, _, _, rfl, rfl, SqL.of e1, atN (n := 0) ezv, _, _, rfl, ⟨by decide, by decide⟩, fun pa ha => ⟨pa, _, rfl, SqT.of upd_same, rfl, _, _, rfl, _, _, rfl, rfl, ?_⟩⟩
  have j1 := same_new ha (.tup [.int (z0 / 3), .int (z0 % 3)])
  have e1 := j1 _ _ e1
  have g1 := g1.trans j1
  generalize upd H1 pa (.tup [.int (z0 / 3), .int (z0 % 3)]) = H2 at *
  have m0 : 0 ≤ z0 % 3 := Int.emod_nonneg _ (by decide)
  have m1 : z0 % 3 < 3 := Int.emod_lt_of_pos _ (by decide)
  generalize z0 / 3 = ld at *
  generalize z0 % 3 = mo at *
  clear j1 ha
  refine ⟨_, rfl, _, _, rfl, rfl, ?_⟩
  dsimp only
  obtain ⟨many, hmany, n1, n3⟩ : ∃ many : Nat, 1 + mo = (many : Int) ∧ 1 ≤ many ∧ many ≤ 3 := ⟨(1 + mo).toNat, by omega, by omega, by omega⟩
  rw [hmany]
  refine ⟨_, rfl, _, _, rfl, rfl, (by show (0 : Int) < 8; decide), rfl, ?_⟩
  dsimp only
  generalize decide (V.int (ld % 8) = V.int 0) = gr
  refine ⟨_, rfl, _, _, rfl, rfl, cd (by decide) (by decide +kernel), _, _, rfl, rfl, (by show (0 : Int) < 12; decide), _, _, rfl, rfl, ?_⟩
  dsimp only
  obtain ⟨sz, hsz, s1, s12⟩ : ∃ sz : Nat, 1 + ld.fdiv 8 % 12 = (sz : Int) ∧ 1 ≤ sz ∧ sz ≤ 12 := by
    have a := Int.emod_nonneg (ld.fdiv 8) (show (12 : Int) ≠ 0 by decide)
    have b := Int.emod_lt_of_pos (ld.fdiv 8) (show (0 : Int) < 12 by decide)
    exact ⟨(1 + ld.fdiv 8 % 12).toNat, by omega, by omega, by omega⟩
  rw [hsz]
  refine ⟨_, rfl, _, _, rfl, rfl, cd (by decide) (by decide +kernel), ?_⟩
  dsimp only
  generalize ld.fdiv 96 = ld2
  refine ⟨(by decide), fun lu hlu => ?_⟩
  have nlu : H lu = none := none_back g1 hlu
  have j1 := same_new hlu (.lst [])
  have e1 := j1 _ _ e1
  have g1 := g1.trans j1
  have eu := upd_same (H := H2) (a := lu) (o := .lst [])
  generalize upd H2 lu (.lst []) = H3 at *
  clear j1 hlu
  refine ⟨_, rfl, _, rfl, ?_⟩
  cases gr with
  | true =>
    refine iteT ⟨_, rfl, _, _, rfl, ?_⟩
    dsimp only
    obtain ⟨M, hM, hM2⟩ : ∃ M : Int, (if (2 : Int) < (mb : Int) then (2 : Int) else (mb : Int)) = M ∧ M ≤ 2 := ⟨_, rfl, by split <;> omega⟩
    rw [hM]
    refine ⟨_, rfl, _, rfl, _, rfl, _, _, rfl, rfl, _, rfl, _, _, rfl, SqL.of e1, fun c2 hc2 => ?_⟩
    have lzv : (zs.map V.int).length = 13 := by rw [List.length_map, lz]
    rw [show (1 : Int) + (sz : Int) = ((1 + sz : Nat) : Int) by omega, show cutV (zs.map V.int) (some 1) (some ((1 + sz : Nat) : Int)) = _ from cutNN (i := 1) (by omega) (by omega), ← List.map_drop, ← List.map_take]
    have lk : ((zs.drop 1).take (1 + sz - 1)).length = sz := by rw [List.length_take, List.length_drop]; omega
    generalize (zs.drop 1).take (1 + sz - 1) = ks at *
    have j1 := same_new hc2 (.lst (ks.map V.int))
    have e2 := upd_same (H := H3) (a := c2) (o := .lst (ks.map V.int))
    have nc2 : c2 ≠ lu := Ne.symm (ne_of_none eu hc2)
    have eu := j1 _ _ eu
    have g1 := g1.trans j1
    generalize upd H3 c2 (.lst (ks.map V.int)) = H4 at *
    clear j1 hc2 e1
    refine ⟨c2, rfl, ⟨_, SqL.of e2⟩, for_by (n := sz) (fun i σ H' => Same H H' ∧ H' c2 = some (.lst (ks.map V.int)) ∧ ∃ (vu : List V) (us : List Un) (bs : Int) (u11 u12 : Option V),
        σ = [some (.ref sa), some (.int (st : Int)), some (.int M), some (.ref ls), some (.int ld2), some (.int mo), some (.int (many : Int)), some (.bl true), some (.int (sz : Int)), some (.ref lu), some (.int bs), u11, u12, none, none] ∧
        H' lu = some (.lst vu) ∧ UF lu K H' vu us ∧ us.length = i ∧ WfN many us ∧ (∀ u ∈ us, ShrU u) ∧ (true = false → ∀ u ∈ us, SmlU u) ∧ bs = ((us.filter isB).length : Int) ∧ (us.filter isB = [] ∨ bs ≤ M))
      ⟨g1, e2, [], [], _, _, _, rfl, eu, .nil, rfl, fun k u e => nil_get e, fun u hu => (by cases hu), fun _ u hu => (by cases hu), rfl, .inl rfl⟩ ?_ ?_ ?_⟩
    case refine_2 =>
      rintro i σ H' hi ⟨g, k2, _⟩
      exact ⟨_, _, SqL.of k2, List.getElem?_eq_getElem (by rw [List.length_map]; omega)⟩
    case refine_3 =>
      rintro i σ H0 x H' hi ⟨g, k2, vu, us, bs, u11, u12, rfl, eu, rU, lus, wf, sh, sm, hbs, hle⟩ ⟨rfl, y1⟩
      obtain ⟨z, ez, rfl⟩ := int_at (y1 _ (SqL.of k2))
      have lvu := UF.length rU
      refine ⟨_, rfl, _, rfl, _, rfl, _, _, rfl, .inl (SqL.of eu), _, _, rfl, rfl, _, rfl, _, rfl, _, _, rfl, rfl, _, rfl, ?_⟩
      dsimp only
      rw [show (many : Int) + (vu.length : Int) = ((many + i : Nat) : Int) by omega]
      refine ⟨z, many + i, _, _, rfl, by omega, by omega, fun u wu su su2 ub p H5 g5 hU => ?_⟩
      have hU : UnF lu K H5 (.ref p) u := hU lu _ eu
      obtain ⟨t, ys, et, ht⟩ := kind_at hU.un
      cases et
      refine ⟨_, rfl, _, rfl, _, _, _, _, rfl, rfl, ht, at0, rfl, .inr ⟨_, rfl, _, _, rfl, rfl, ?_⟩⟩
      have eu5 := g5 _ _ eu
      refine ⟨_, rfl, .inl ⟨rfl, _, SqL.of eu5⟩, _, rfl, lu, vu, _, rfl, rfl, eu5, small1000 (by omega), ?_⟩
      refine ⟨(g.trans g5).laid nlu _, by rw [upd_ne nc2]; exact g5 _ _ k2, vu ++ [.ref p], us ++ [u], _, _, _, rfl, upd_same, UF.upd ((rU.mono g5).snoc hU) eu5, by rw [List.length_append, lus]; rfl, wf.snoc (by rw [lus]; exact wu), fun v hv => ?_, fun z v hv => ?_, ?_, ?_⟩
      · rcases List.mem_append.mp hv with k | k
        · exact sh v k
        · rw [List.mem_singleton.mp k]; exact su
      · rcases List.mem_append.mp hv with k | k
        · exact sm z v k
        · rw [List.mem_singleton.mp k]; exact su2 z
      · rw [filter_snoc]
        cases isB u with
        | true => rw [hbs, List.length_append]; show ((us.filter isB).length : Int) + 1 = _; rfl
        | false => rw [hbs, List.length_append]; show ((us.filter isB).length : Int) + 0 = _; rw [Int.add_zero]; rfl
      · rw [filter_snoc]
        cases hu2 : isB u with
        | true =>
          have := of_decide_eq_true (ub hu2)
          exact .inr (by show bs + 1 ≤ M; omega)
        | false =>
          rcases hle with k | k
          · exact .inl (by rw [k]; rfl)
          · exact .inr (by show bs + 0 ≤ M; omega)
    rintro σ H5 ⟨g5, k2, vu, us, bs, u11, u12, rfl, eu, rU, lus, wf, sh, sm, hbs, hle⟩
    refine ⟨⟨_, SqL.of k2, by rw [List.length_map]; omega⟩, ?_⟩
    have rU := rU.un
    -- outs
    refine ⟨_, rfl, _, rfl, _, _, rfl, rfl, _, _, rfl, rfl, (show 1 ≤ sizeLine by decide), fun lo hlo => ?_⟩
    try dsimp only
    have nlo : H lo = none := none_back g5 hlo
    have j1 := same_new hlo (.lst [.int ((many : Int) + (sz : Int) - 1)])
    have e0 : [V.int ((many : Int) + (sz : Int) - 1)] = outV [many + sz - 1] := congrArg (fun z => [V.int z]) (show (many : Int) + (sz : Int) - 1 = ((many + sz - 1 : Nat) : Int) by omega)
    have eo : upd H5 lo (.lst [.int ((many : Int) + (sz : Int) - 1)]) lo = some (.lst (outV [many + sz - 1])) := by rw [upd_same, e0]
    obtain ⟨cnt, hc, c2'⟩ : ∃ cnt : Nat, ld2 % 3 = (cnt : Int) ∧ cnt ≤ 2 := by
      have a := Int.emod_nonneg ld2 (show (3 : Int) ≠ 0 by decide)
      have b := Int.emod_lt_of_pos ld2 (show (0 : Int) < 3 by decide)
      exact ⟨(ld2 % 3).toNat, by omega, by omega⟩
    refine ⟨_, rfl, _, _, rfl, rfl, (by show (0 : Int) < 3; decide), (cnt : Int), congrArg (fun z => [V.int z]) hc, by omega, by omega, for_by (n := cnt) (fun i σ H' => Same H5 H' ∧ ∃ (outs : List Nat) (l3 : Int) (u14 : Option V),
        σ = [some (.ref sa), some (.int (st : Int)), some (.int M), some (.ref ls), some (.int l3), some (.int mo), some (.int (many : Int)), some (.bl true), some (.int (sz : Int)), some (.ref lu), some (.int bs), u11, u12, some (.ref lo), u14] ∧
        H' lo = some (.lst (outV outs)) ∧ outs.length = 1 + i ∧ ∀ o ∈ outs, o < many + sz)
      ⟨j1, [many + sz - 1], _, _, rfl, eo, rfl, fun o ho => by rw [List.mem_singleton.mp ho]; omega⟩ ?_ ?_ ?_⟩
    case refine_1 =>
      rintro σ H6 ⟨g6, outs, l3, u14, rfl, eo, lo1, ol⟩
      refine ⟨by show (cnt : Int).toNat ≤ cnt; omega, ?_⟩
      refine ⟨_, rfl, _, rfl, _, rfl, (show 3 ≤ sizeLine by decide), fun t ht => ?_⟩
      have g7 := same_new ht (.tup [.int (many : Int), .ref lu, .ref lo])
      have g67 := g6.trans g7
      have fl : (us.filter isB).length ≤ us.length := List.length_filter_le _ _
      exact q many us outs t lu lo vu _ ⟨wf, by omega, by omega, n1, by omega, by omega, by omega, fun o ho => by rw [lus]; exact ol o ho⟩ (by omega) n3 (by omega) sh (by
        have hc : (us.filter isB).length = 0 ∨ ((us.filter isB).length : Int) ≤ M := by
          rcases hle with k | k
          · exact .inl (by rw [k]; rfl)
          · exact .inr (by rw [← hbs]; exact k)
        first
          | exact .inl (by omega)
          | exact .inr ⟨sm rfl, by omega⟩) (g5.trans g67) (SqT.of upd_same) nlu (g67 _ _ eu) (rU.mono g67) nlo (g7 _ _ eo)
    case refine_2 =>
      rintro i σ H' hi _
      show i < (cnt : Int).toNat
      omega
    rintro i σ H0 x H' hi ⟨g6, outs, l3, u14, rfl, eo, lo1, ol⟩ ⟨rfl, rfl⟩
    refine ⟨_, rfl, _, rfl, _, rfl, _, _, rfl, rfl, _, _, rfl, rfl, cdivB (n := 64) (by omega) (by unfold Sm; omega), ?_⟩
    dsimp only
    generalize l3.fdiv ((many : Int) + (sz : Int)) = l4
    refine ⟨_, rfl, .inl ⟨rfl, _, SqL.of eo⟩, _, rfl, _, rfl, _, rfl, _, _, rfl, rfl, _, _, rfl, rfl, (by show (0 : Int) < (many : Int) + (sz : Int); omega), lo, _, _, rfl, rfl, eo, by rw [outV_len]; exact small1000 (by omega), ?_⟩
    obtain ⟨m, hm, ml⟩ : ∃ m : Nat, l4 % ((many : Int) + (sz : Int)) = (m : Int) ∧ m < many + sz := by
      have a := Int.emod_nonneg l4 (show (many : Int) + (sz : Int) ≠ 0 by omega)
      have b := Int.emod_lt_of_pos l4 (show (0 : Int) < (many : Int) + (sz : Int) by omega)
      exact ⟨(l4 % ((many : Int) + (sz : Int))).toNat, by omega, by omega⟩
    dsimp only
    rw [hm]
    have ea : outV outs ++ [V.int (m : Int)] = outV (outs ++ [m]) := by unfold outV; rw [List.map_append]; rfl
    refine ⟨g6.laid hlo _, outs ++ [m], l4, _, rfl, ?_, by rw [List.length_append, lo1]; rfl, fun o ho => ?_⟩
    · rw [upd_same, ea]
    · rcases List.mem_append.mp ho with k | k
      · exact ol o k
      · rw [List.mem_singleton.mp k]; exact ml

  | false =>
    refine iteF ?_
    obtain ⟨M, hM, hM2⟩ : ∃ M : Int, (mb : Int) = M ∧ M ≤ (mb : Int) := ⟨_, rfl, Int.le_refl _⟩
    rw [hM]
    refine ⟨_, rfl, _, rfl, _, rfl, _, _, rfl, rfl, _, rfl, _, _, rfl, SqL.of e1, fun c2 hc2 => ?_⟩
    have lzv : (zs.map V.int).length = 13 := by rw [List.length_map, lz]
    rw [show (1 : Int) + (sz : Int) = ((1 + sz : Nat) : Int) by omega, show cutV (zs.map V.int) (some 1) (some ((1 + sz : Nat) : Int)) = _ from cutNN (i := 1) (by omega) (by omega), ← List.map_drop, ← List.map_take]
    have lk : ((zs.drop 1).take (1 + sz - 1)).length = sz := by rw [List.length_take, List.length_drop]; omega
    generalize (zs.drop 1).take (1 + sz - 1) = ks at *
    have j1 := same_new hc2 (.lst (ks.map V.int))
    have e2 := upd_same (H := H3) (a := c2) (o := .lst (ks.map V.int))
    have nc2 : c2 ≠ lu := Ne.symm (ne_of_none eu hc2)
    have eu := j1 _ _ eu
    have g1 := g1.trans j1
    generalize upd H3 c2 (.lst (ks.map V.int)) = H4 at *
    clear j1 hc2 e1
    refine ⟨c2, rfl, ⟨_, SqL.of e2⟩, for_by (n := sz) (fun i σ H' => Same H H' ∧ H' c2 = some (.lst (ks.map V.int)) ∧ ∃ (vu : List V) (us : List Un) (bs : Int) (u11 u12 : Option V),
        σ = [some (.ref sa), some (.int (st : Int)), some (.int M), some (.ref ls), some (.int ld2), some (.int mo), some (.int (many : Int)), some (.bl false), some (.int (sz : Int)), some (.ref lu), some (.int bs), u11, u12, none, none] ∧
        H' lu = some (.lst vu) ∧ UF lu K H' vu us ∧ us.length = i ∧ WfN many us ∧ (∀ u ∈ us, ShrU u) ∧ (false = false → ∀ u ∈ us, SmlU u) ∧ bs = ((us.filter isB).length : Int) ∧ (us.filter isB = [] ∨ bs ≤ M))
      ⟨g1, e2, [], [], _, _, _, rfl, eu, .nil, rfl, fun k u e => nil_get e, fun u hu => (by cases hu), fun _ u hu => (by cases hu), rfl, .inl rfl⟩ ?_ ?_ ?_⟩
    case refine_2 =>
      rintro i σ H' hi ⟨g, k2, _⟩
      exact ⟨_, _, SqL.of k2, List.getElem?_eq_getElem (by rw [List.length_map]; omega)⟩
    case refine_3 =>
      rintro i σ H0 x H' hi ⟨g, k2, vu, us, bs, u11, u12, rfl, eu, rU, lus, wf, sh, sm, hbs, hle⟩ ⟨rfl, y1⟩
      obtain ⟨z, ez, rfl⟩ := int_at (y1 _ (SqL.of k2))
      have lvu := UF.length rU
      refine ⟨_, rfl, _, rfl, _, rfl, _, _, rfl, .inl (SqL.of eu), _, _, rfl, rfl, _, rfl, _, rfl, _, _, rfl, rfl, _, rfl, ?_⟩
      dsimp only
      rw [show (many : Int) + (vu.length : Int) = ((many + i : Nat) : Int) by omega]
      refine ⟨z, many + i, _, _, rfl, by omega, by omega, fun u wu su su2 ub p H5 g5 hU => ?_⟩
      have hU : UnF lu K H5 (.ref p) u := hU lu _ eu
      obtain ⟨t, ys, et, ht⟩ := kind_at hU.un
      cases et
      refine ⟨_, rfl, _, rfl, _, _, _, _, rfl, rfl, ht, at0, rfl, .inr ⟨_, rfl, _, _, rfl, rfl, ?_⟩⟩
      have eu5 := g5 _ _ eu
      refine ⟨_, rfl, .inl ⟨rfl, _, SqL.of eu5⟩, _, rfl, lu, vu, _, rfl, rfl, eu5, small1000 (by omega), ?_⟩
      refine ⟨(g.trans g5).laid nlu _, by rw [upd_ne nc2]; exact g5 _ _ k2, vu ++ [.ref p], us ++ [u], _, _, _, rfl, upd_same, UF.upd ((rU.mono g5).snoc hU) eu5, by rw [List.length_append, lus]; rfl, wf.snoc (by rw [lus]; exact wu), fun v hv => ?_, fun z v hv => ?_, ?_, ?_⟩
      · rcases List.mem_append.mp hv with k | k
        · exact sh v k
        · rw [List.mem_singleton.mp k]; exact su
      · rcases List.mem_append.mp hv with k | k
        · exact sm z v k
        · rw [List.mem_singleton.mp k]; exact su2 z
      · rw [filter_snoc]
        cases isB u with
        | true => rw [hbs, List.length_append]; show ((us.filter isB).length : Int) + 1 = _; rfl
        | false => rw [hbs, List.length_append]; show ((us.filter isB).length : Int) + 0 = _; rw [Int.add_zero]; rfl
      · rw [filter_snoc]
        cases hu2 : isB u with
        | true =>
          have := of_decide_eq_true (ub hu2)
          exact .inr (by show bs + 1 ≤ M; omega)
        | false =>
          rcases hle with k | k
          · exact .inl (by rw [k]; rfl)
          · exact .inr (by show bs + 0 ≤ M; omega)
    rintro σ H5 ⟨g5, k2, vu, us, bs, u11, u12, rfl, eu, rU, lus, wf, sh, sm, hbs, hle⟩
    refine ⟨⟨_, SqL.of k2, by rw [List.length_map]; omega⟩, ?_⟩
    have rU := rU.un
    -- outs
    refine ⟨_, rfl, _, rfl, _, _, rfl, rfl, _, _, rfl, rfl, (show 1 ≤ sizeLine by decide), fun lo hlo => ?_⟩
    try dsimp only
    have nlo : H lo = none := none_back g5 hlo
    have j1 := same_new hlo (.lst [.int ((many : Int) + (sz : Int) - 1)])
    have e0 : [V.int ((many : Int) + (sz : Int) - 1)] = outV [many + sz - 1] := congrArg (fun z => [V.int z]) (show (many : Int) + (sz : Int) - 1 = ((many + sz - 1 : Nat) : Int) by omega)
    have eo : upd H5 lo (.lst [.int ((many : Int) + (sz : Int) - 1)]) lo = some (.lst (outV [many + sz - 1])) := by rw [upd_same, e0]
    obtain ⟨cnt, hc, c2'⟩ : ∃ cnt : Nat, ld2 % 3 = (cnt : Int) ∧ cnt ≤ 2 := by
      have a := Int.emod_nonneg ld2 (show (3 : Int) ≠ 0 by decide)
      have b := Int.emod_lt_of_pos ld2 (show (0 : Int) < 3 by decide)
      exact ⟨(ld2 % 3).toNat, by omega, by omega⟩
    refine ⟨_, rfl, _, _, rfl, rfl, (by show (0 : Int) < 3; decide), (cnt : Int), congrArg (fun z => [V.int z]) hc, by omega, by omega, for_by (n := cnt) (fun i σ H' => Same H5 H' ∧ ∃ (outs : List Nat) (l3 : Int) (u14 : Option V),
        σ = [some (.ref sa), some (.int (st : Int)), some (.int M), some (.ref ls), some (.int l3), some (.int mo), some (.int (many : Int)), some (.bl false), some (.int (sz : Int)), some (.ref lu), some (.int bs), u11, u12, some (.ref lo), u14] ∧
        H' lo = some (.lst (outV outs)) ∧ outs.length = 1 + i ∧ ∀ o ∈ outs, o < many + sz)
      ⟨j1, [many + sz - 1], _, _, rfl, eo, rfl, fun o ho => by rw [List.mem_singleton.mp ho]; omega⟩ ?_ ?_ ?_⟩
    case refine_1 =>
      rintro σ H6 ⟨g6, outs, l3, u14, rfl, eo, lo1, ol⟩
      refine ⟨by show (cnt : Int).toNat ≤ cnt; omega, ?_⟩
      refine ⟨_, rfl, _, rfl, _, rfl, (show 3 ≤ sizeLine by decide), fun t ht => ?_⟩
      have g7 := same_new ht (.tup [.int (many : Int), .ref lu, .ref lo])
      have g67 := g6.trans g7
      have fl : (us.filter isB).length ≤ us.length := List.length_filter_le _ _
      exact q many us outs t lu lo vu _ ⟨wf, by omega, by omega, n1, by omega, by omega, by omega, fun o ho => by rw [lus]; exact ol o ho⟩ (by omega) n3 (by omega) sh (by
        have hc : (us.filter isB).length = 0 ∨ ((us.filter isB).length : Int) ≤ M := by
          rcases hle with k | k
          · exact .inl (by rw [k]; rfl)
          · exact .inr (by rw [← hbs]; exact k)
        first
          | exact .inl (by omega)
          | exact .inr ⟨sm rfl, by omega⟩) (g5.trans g67) (SqT.of upd_same) nlu (g67 _ _ eu) (rU.mono g67) nlo (g7 _ _ eo)
    case refine_2 =>
      rintro i σ H' hi _
      show i < (cnt : Int).toNat
      omega
    rintro i σ H0 x H' hi ⟨g6, outs, l3, u14, rfl, eo, lo1, ol⟩ ⟨rfl, rfl⟩
    refine ⟨_, rfl, _, rfl, _, rfl, _, _, rfl, rfl, _, _, rfl, rfl, cdivB (n := 64) (by omega) (by unfold Sm; omega), ?_⟩
    dsimp only
    generalize l3.fdiv ((many : Int) + (sz : Int)) = l4
    refine ⟨_, rfl, .inl ⟨rfl, _, SqL.of eo⟩, _, rfl, _, rfl, _, rfl, _, _, rfl, rfl, _, _, rfl, rfl, (by show (0 : Int) < (many : Int) + (sz : Int); omega), lo, _, _, rfl, rfl, eo, by rw [outV_len]; exact small1000 (by omega), ?_⟩
    obtain ⟨m, hm, ml⟩ : ∃ m : Nat, l4 % ((many : Int) + (sz : Int)) = (m : Int) ∧ m < many + sz := by
      have a := Int.emod_nonneg l4 (show (many : Int) + (sz : Int) ≠ 0 by omega)
      have b := Int.emod_lt_of_pos l4 (show (0 : Int) < (many : Int) + (sz : Int) by omega)
      exact ⟨(l4 % ((many : Int) + (sz : Int))).toNat, by omega, by omega⟩
    dsimp only
    rw [hm]
    have ea : outV outs ++ [V.int (m : Int)] = outV (outs ++ [m]) := by unfold outV; rw [List.map_append]; rfl
    refine ⟨g6.laid hlo _, outs ++ [m], l4, _, rfl, ?_, by rw [List.length_append, lo1]; rfl, fun o ho => ?_⟩
    · rw [upd_same, ea]
    · rcases List.mem_append.mp ho with k | k
      · exact ol o k
      · rw [List.mem_singleton.mp k]; exact ml


/-- a side of small ratios -/
def SdZ (s : Rat × Rat) : Prop := Bs 1 64 s ∧ Bd 12 4 s.1 ∧ Bd 12 4 s.2
theorem Bd.absq {D b : Nat} {q : Rat} (h : Bd D b q) : Bd D b (absQ q) := by
  unfold absQ
  split
  · exact ⟨h.1, by show (-q.num).natAbs ≤ _; rw [Int.natAbs_neg]; exact h.2⟩
  · exact h
theorem Bq.absq {d b : Nat} {q : Rat} (h : Bq d b q) : Bq d b (absQ q) := by
  unfold absQ
  split
  · exact h.neg
  · exact h
def spSidesL (K : PySem.W.Frag) : Sp := fun vs H Q _ => ∃ (sa : Addr) (ns : List Int) (st many : Nat), vs = [.ref sa, .int (st : Int), .int (many : Int)] ∧ SqL K H sa (ns.map V.int) ∧ many ≤ 6 ∧
  ∀ (ss : List (Rat × Rat)) (vS : List V) (p : Addr) (H' : Hp), ss.length = many → (∀ s ∈ ss, s.1 ≤ s.2 ∧ SdZ s) → H p = none → Same H H' → H' p = some (.lst vS) → SL K H' vS ss → Q (.ref p) H'
set_option maxHeartbeats 0 in
theorem ok_law_sides (T : Txt K mg a) : FnOk P w K mg base CX0 4 a.f_law_sides a.d_law_sides ["_law_script", "_law_start", "_law_many"] (spSidesL K) := by
  refine T.F_law_sides.ok sc_law_sides (fun vs H Q E h => ?_) (fun cdv A outer s H vs Q E hr h => ?_)
  · obtain ⟨_, _, _, _, rfl, _⟩ := h
    rfl
  obtain ⟨sa, ns, st, many, rfl, hS, m6, q⟩ := h
  have h0 : PS (cxOf CX0 P w K mg base ["_law_script", "_law_start", "_law_many", "_law_sides_here", "_law_number", "_law_low", "_law_wide_here"] "_law_sides" (defScope s_law_sides) a.f_law_sides cdv A outer s H E).nox ((defBody s_law_sides).getD 0 (.Pass ⟨0, 0, 0, 0⟩)) _ := (ps_set (i := 3) sc_law_sides.nd rfl (Or.inl rfl) (pe_lst pa_nil))
  have h1 : PS (cxOf CX0 P w K mg base ["_law_script", "_law_start", "_law_many", "_law_sides_here", "_law_number", "_law_low", "_law_wide_here"] "_law_sides" (defScope s_law_sides) a.f_law_sides cdv A outer s H E).nox ((defBody s_law_sides).getD 1 (.Pass ⟨0, 0, 0, 0⟩)) _ := (ps_for PassesOwn.never rfl (pi_list (pe_slice sl_list (pe_call (ok_law_seeds T) (hr.mono (by decide)) rfl T.m_law_seeds T.F_law_seeds.kp T.b_law_seeds .nil pass0 (pa_c (pv 0) (pa_c (pv 1) (pa_c pe_int pa_nil))) (he := starEach_plain rfl _ _) (hpl := noStar rfl)) (po_some pe_int) (po_some (pe_op op_add pe_int (pv 2))))) (pg_name (i := 4) sc_law_sides.nd rfl (Or.inl rfl))
        (pss_cons (ps_asg (pe_call (ok_law_taken T) (hr.mono (by decide)) rfl T.m_law_taken T.F_law_taken.kp T.b_law_taken .nil pass0 (pa_c (pv 4) (pa_c pe_bl pa_nil)) (he := starEach_plain rfl _ _) (hpl := noStar rfl)) (pg_tup rfl (pgs_cons (pg_name (i := 4) sc_law_sides.nd rfl (Or.inl rfl)) (pgs_cons (pg_name (i := 5) sc_law_sides.nd rfl (Or.inl rfl)) pgs_nil))))
      (pss_cons (ps_set (i := 6) sc_law_sides.nd rfl (Or.inl rfl) (pe_call (ok_law_small T) (hr.mono (by decide)) rfl T.m_law_small T.F_law_small.kp T.b_law_small .nil pass0 (pa_c (pv 4) (pa_c pe_bl pa_nil)) (he := starEach_plain rfl _ _) (hpl := noStar rfl)))
      (pss_one (ps_expr (pe_bm PySem.F.plainAttrs_list PySem.F.slot_list_append PySem.F.type_list_append mt_append (pv 3) (pa_c (pe_tup (pa_c (pv 5) (pa_c (pe_call (ok_law_sum T) (hr.mono (by decide)) rfl T.m_law_sum T.F_law_sum.kp T.b_law_sum .nil pass0 (pa_c (pv 5) (pa_c (pe_tup (pa_c (pe_callB (call_abs) rfl T.m_abs boot_abs (pa_c (pe_ix ix_tup (pv 6) pe_int (fun _ _ => rfl)) pa_nil) (he := starEach_plain rfl _ _) (hpl := noStar rfl)) (pa_c (pe_ix ix_tup (pv 6) pe_int (fun _ _ => rfl)) pa_nil))) pa_nil)) (he := starEach_plain rfl _ _) (hpl := noStar rfl)) pa_nil))) pa_nil) (hs := starEach_plain rfl _ _) (hplain := noStar rfl)))))))
  have h2 : PS (cxOf CX0 P w K mg base ["_law_script", "_law_start", "_law_many", "_law_sides_here", "_law_number", "_law_low", "_law_wide_here"] "_law_sides" (defScope s_law_sides) a.f_law_sides cdv A outer s H E).nox ((defBody s_law_sides).getD 2 (.Pass ⟨0, 0, 0, 0⟩)) _ := (ps_ret (pv 3))
  have hb : defBody s_law_sides = [((defBody s_law_sides).getD 0 (.Pass ⟨0, 0, 0, 0⟩)), ((defBody s_law_sides).getD 1 (.Pass ⟨0, 0, 0, 0⟩)), ((defBody s_law_sides).getD 2 (.Pass ⟨0, 0, 0, 0⟩))] := by rfl
  generalize ((defBody s_law_sides).getD 0 (.Pass ⟨0, 0, 0, 0⟩)) = S0 at *
  generalize ((defBody s_law_sides).getD 1 (.Pass ⟨0, 0, 0, 0⟩)) = S1 at *
  generalize ((defBody s_law_sides).getD 2 (.Pass ⟨0, 0, 0, 0⟩)) = S2 at *
  rw [hb]
  refine ⟨_, (pss_cons h0 (pss_cons h1 (pss_one h2))), ?_⟩
  clear hb h0 h1 h2 S0 S1 S2
  refine ⟨(by decide), fun lS hlS => ?_⟩
  have g0 := same_new hlS (.lst [])
  have eS := upd_same (H := H) (a := lS) (o := .lst [])
  have hS := g0.seq hS
  generalize upd H lS (.lst []) = H0 at *
  refine ⟨_, rfl, _, rfl, sa, ns, st, 19, rfl, hS, by decide, fun zs lz ls H1 _ g1 e1 => ⟨_, rfl, _, rfl, _, _, rfl, rfl, _, rfl, _, _, rfl, SqL.of e1, fun c2 hc2 => ?_⟩⟩
  have lzv : (zs.map V.int).length = 19 := by rw [List.length_map, lz]
  rw [show (13 : Int) + (many : Int) = ((13 + many : Nat) : Int) by omega, show cutV (zs.map V.int) (some 13) (some ((13 + many : Nat) : Int)) = _ from cutNN (i := 13) (by omega) (by omega), ← List.map_drop, ← List.map_take]
  have lk : ((zs.drop 13).take (13 + many - 13)).length = many := by rw [List.length_take, List.length_drop]; omega
  generalize (zs.drop 13).take (13 + many - 13) = ks at *
  have j1 := same_new hc2 (.lst (ks.map V.int))
  have e2 := upd_same (H := H1) (a := c2) (o := .lst (ks.map V.int))
  have g2 := g1.trans j1
  have nc2 : c2 ≠ lS := Ne.symm (ne_of_none (g1 _ _ eS) hc2)
  have eS := g2 _ _ eS
  have g2 := g0.trans g2
  generalize upd H1 c2 (.lst (ks.map V.int)) = H2 at *
  clear j1 hc2 e1 g1 g0
  refine ⟨c2, rfl, ⟨_, SqL.of e2⟩, for_by (n := many) (fun i σ H' => Same H H' ∧ H' c2 = some (.lst (ks.map V.int)) ∧ ∃ (vS : List V) (ss : List (Rat × Rat)) (u4 u5 u6 : Option V), σ = [some (.ref sa), some (.int (st : Int)), some (.int (many : Int)), some (.ref lS), u4, u5, u6] ∧ H' lS = some (.lst vS) ∧ SL K H' vS ss ∧ ss.length = i ∧ ∀ s ∈ ss, s.1 ≤ s.2 ∧ SdZ s)
    ⟨g2, e2, [], [], _, _, _, rfl, eS, .nil, rfl, fun s hs => (by cases hs)⟩ ?_ ?_ ?_⟩
  · rintro σ H' ⟨g, k2, vS, ss, u4, u5, u6, rfl, eS, rS, ls, szs⟩
    exact ⟨⟨_, SqL.of k2, by rw [List.length_map]; omega⟩, _, rfl, q ss vS lS H' ls szs hlS g eS rS⟩
  · rintro i σ H' hi ⟨g, k2, _⟩
    exact ⟨_, _, SqL.of k2, List.getElem?_eq_getElem (by rw [List.length_map]; omega)⟩
  · rintro i σ H0' x H' hi ⟨g, k2, vS, ss, u4, u5, u6, rfl, eS, rS, lss, szs⟩ ⟨rfl, y1⟩
    obtain ⟨z, ez, rfl⟩ := int_at (y1 _ (SqL.of k2))
    refine ⟨_, rfl, z, false, rfl, fun n' qx t r H3 sx g3 ht hr3 => ⟨t, _, rfl, ht, rfl, _, _, rfl, _, _, rfl, rfl, ?_⟩⟩
    refine ⟨_, rfl, n', false, rfl, fun qw rw' H4 sw g4 hw => ?_⟩
    have g34 := g3.trans g4
    have eS4 := g34 _ _ eS
    have hr4 := g4.tup hr3
    refine ⟨_, rfl, .inl ⟨rfl, _, SqL.of eS4⟩, _, rfl, _, rfl, _, rfl, _, _, _, _, rfl, rfl, hw, rfl, _, rfl, _, rfl, _, _, _, _, rfl, rfl, hw, rfl, two_le, fun t5 h5 => ?_⟩
    have g5 := same_new h5 (.tup [.int (if qw.num < 0 then -qw.num else qw.num), .int (qw.den : Int)])
    have ha : SqT K (upd H4 t5 (.tup [.int (if qw.num < 0 then -qw.num else qw.num), .int (qw.den : Int)])) t5 (TQ (absQ qw)) := by
      unfold TQ
      rw [(absQ_num qw).1, (absQ_num qw).2]
      exact SqT.of upd_same
    refine ⟨r, t5, qx, absQ qw, rfl, g5.tup hr4, ha, sx.1.s4 (by decide) (by decide), (Bq.absq sw.1).s4 (by decide) (by decide), fun p6 H6 g6 e6 => ⟨two_le, fun t7 h7 => ?_⟩⟩
    have g7 := same_new h7 (.tup [.ref r, .ref p6])
    have g57 := g5.trans (g6.trans g7)
    have gA := g34.trans g57
    have eS7 := gA _ _ eS
    have lvS := rS.length
    refine ⟨lS, vS, _, rfl, rfl, eS7, small1000 (by omega), (g.trans gA).laid hlS _, by rw [upd_ne nc2]; exact gA _ _ k2, vS ++ [.ref t7], ss ++ [(qx, qx + absQ qw)], _, _, _, rfl, upd_same, SL.upd_lst ((rS.mono gA).snoc ⟨t7, r, p6, rfl, SqT.of upd_same, g57.tup hr4, SqT.of (g7 _ _ e6)⟩) eS7, by rw [List.length_append, lss]; rfl, fun s hs => ?_⟩
    rcases List.mem_append.mp hs with k | k
    · exact szs s k
    · rw [List.mem_singleton.mp k]
      exact ⟨by have := absQ_nn qw; show qx ≤ qx + absQ qw; grind, ⟨Bq.mono sx.1 (by decide) (by decide), Bq.add sx.1 (Bq.absq sw.1)⟩, (sx.2 rfl).mono (Nat.dvd_refl _) (by decide), Bd.add (by decide) (sx.2 rfl) (Bd.absq (sw.2 rfl))⟩

theorem term_alike {K : PySem.W.Frag} {H : Hp} {n : Nat} {v w : V} {x : Nat × Rat} (h : TermAt K H v x) (k : TermAt K H w x) : DEq K H (n + 2) v w := by
  obtain ⟨t, r, rfl, h1, h2⟩ := h
  obtain ⟨t', r', rfl, k1, k2⟩ := k
  refine .tup h1 k1 rfl fun j a b e1 e2 => ?_
  match j, e1, e2 with
  | 0, e1, e2 => have e1 : V.int (x.1 : Int) = a := Option.some.inj e1; have e2 : V.int (x.1 : Int) = b := Option.some.inj e2; subst e1 e2; exact .flat rfl
  | 1, e1, e2 => have e1 : V.ref r = a := Option.some.inj e1; have e2 : V.ref r' = b := Option.some.inj e2; subst e1 e2; exact two_alike ⟨r, rfl, h2⟩ ⟨r', rfl, k2⟩
  | j + 2, e1, e2 => exact absurd e1 (by simp)
theorem unit_alike {K : PySem.W.Frag} {H : Hp} {n : Nat} {v w : V} {u : Un} (h : UnAt false K H v u) (k : UnAt false K H w u) : DEq K H (n + 4) v w := by
  cases u with
  | sum c ts =>
    obtain ⟨t, pc, pt, vs, rfl, h1, h2, h3, h4⟩ := h
    obtain ⟨t', pc', pt', vs', rfl, k1, k2, k3, k4⟩ := k
    refine .tup h1 k1 rfl fun j a b e1 e2 => ?_
    match j, e1, e2 with
    | 0, e1, e2 => have e1 : V.str "sum" = a := Option.some.inj e1; have e2 : V.str "sum" = b := Option.some.inj e2; subst e1 e2; exact .flat rfl
    | 1, e1, e2 => have e1 : V.ref pc = a := Option.some.inj e1; have e2 : V.ref pc' = b := Option.some.inj e2; subst e1 e2; exact two_alike ⟨pc, rfl, h2⟩ ⟨pc', rfl, k2⟩
    | 2, e1, e2 =>
      have e1 : V.ref pt = a := Option.some.inj e1
      have e2 : V.ref pt' = b := Option.some.inj e2
      subst e1 e2
      refine .lst h3 k3 (h4.length.trans k4.length.symm) fun j x y f1 f2 => ?_
      obtain ⟨x1, i1, j1⟩ := h4.get f1
      obtain ⟨x2, i2, j2⟩ := k4.get f2
      rw [i1] at i2
      have e := Option.some.inj i2
      subst e
      exact term_alike j1 j2
    | j + 3, e1, e2 => exact absurd e1 (by simp)
  | bend p =>
    obtain ⟨t, rfl, h1⟩ := h
    obtain ⟨t', rfl, k1⟩ := k
    refine .tup h1 k1 rfl fun j a b e1 e2 => ?_
    match j, e1, e2 with
    | 0, e1, e2 => have e1 : V.str "bend" = a := Option.some.inj e1; have e2 : V.str "bend" = b := Option.some.inj e2; subst e1 e2; exact .flat rfl
    | 1, e1, e2 => have e1 : V.int (p : Int) = a := Option.some.inj e1; have e2 : V.int (p : Int) = b := Option.some.inj e2; subst e1 e2; exact .flat rfl
    | j + 2, e1, e2 => exact absurd e1 (by simp)
theorem UL.deep {K : PySem.W.Frag} {H : Hp} {n : Nat} {l m : Addr} {vs ws : List V} {us : List Un} (hl : SqL K H l vs) (hm : SqL K H m ws) (h : UL false K H vs us) (k : UL false K H ws us) : DEq K H (n + 5) (.ref l) (.ref m) := by
  refine .lst hl hm (h.length.trans k.length.symm) fun j x y e1 e2 => ?_
  obtain ⟨q1, f1, g1⟩ := h.get e1
  obtain ⟨q2, f2, g2⟩ := k.get e2
  rw [f1] at f2
  have e := Option.some.inj f2
  subst e
  exact unit_alike g1 g2
theorem outs_deep {K : PySem.W.Frag} {H : Hp} {n : Nat} {l m : Addr} {outs : List Nat} (hl : SqL K H l (outV outs)) (hm : SqL K H m (outV outs)) : DEq K H (n + 1) (.ref l) (.ref m) := by
  refine .lst hl hm rfl fun j x y e1 e2 => ?_
  rw [e1] at e2
  have e := Option.some.inj e2
  subst e
  obtain ⟨o, _, rfl⟩ := out_at e1
  exact .flat rfl
/-- what told tells, alike -/
theorem told_alike {K : PySem.W.Frag} {H : Hp} {many : Nat} {l2 o2 lu lo : Addr} {vs ws : List V} {us : List Un} {outs : List Nat} (hl : SqL K H l2 vs) (hm : SqL K H lu ws) (h : UL false K H vs us) (k : UL false K H ws us) (ho : SqL K H o2 (outV outs)) (hp : SqL K H lo (outV outs)) :
    Alike K H [.int (many : Int), .ref l2, .ref o2] [.int (many : Int), .ref lu, .ref lo] := by
  refine ⟨rfl, fun j a b e1 e2 => ?_⟩
  match j, e1, e2 with
  | 0, e1, e2 => have e1 : V.int (many : Int) = a := Option.some.inj e1; have e2 : V.int (many : Int) = b := Option.some.inj e2; subst e1 e2; exact .flat rfl
  | 1, e1, e2 => have e1 : V.ref l2 = a := Option.some.inj e1; have e2 : V.ref lu = b := Option.some.inj e2; subst e1 e2; exact UL.deep (n := 15) hl hm h k
  | 2, e1, e2 => have e1 : V.ref o2 = a := Option.some.inj e1; have e2 : V.ref lo = b := Option.some.inj e2; subst e1 e2; exact outs_deep (n := 19) ho hp
  | j + 3, e1, e2 => exact absurd e1 (by simp)

/-! nets held against one another, refused -/
/-- sums without terms -/
def isE : Un → Bool
  | .sum _ ts => ts.isEmpty
  | .bend _ => false
theorem wf_empty {M : Nat} {as : List Un} (h : ∀ u ∈ as, isE u = true) : WfN M as ∧ (as.filter isB).length = 0 := by
  refine ⟨fun k u e => ?_, ?_⟩
  · have z := h u (List.mem_of_getElem? e)
    cases u with
    | sum c ts =>
      cases ts with
      | nil => exact ⟨fun x hx => (by cases hx), List.nodup_nil, by decide⟩
      | cons t ts => cases z
    | bend p => cases z
  · refine List.length_eq_zero_iff.mpr (List.filter_eq_nil_iff.mpr fun u hu z => ?_)
    have y := h u hu
    cases u with
    | sum c ts => cases z
    | bend p => cases y
/-- what a net tells, as the law holds it -/
def ToldAt (K : PySem.W.Frag) (H : Hp) (t : Addr) (many : Nat) (us : List Un) (outs : List Nat) : Prop := ∃ lu lo vu, SqT K H t [.int (many : Int), .ref lu, .ref lo] ∧ H lu = some (.lst vu) ∧ UL false K H vu us ∧ H lo = some (.lst (outV outs))
theorem ToldAt.mono {K : PySem.W.Frag} {H H' : Hp} {t : Addr} {many : Nat} {us : List Un} {outs : List Nat} (h : ToldAt K H t many us outs) (g : Same H H') : ToldAt K H' t many us outs := by
  obtain ⟨lu, lo, vu, h1, h2, h3, h4⟩ := h
  exact ⟨lu, lo, vu, g.tup h1, g _ _ h2, h3.mono g, g _ _ h4⟩
/-- how they are refused: Unlike, or NoNet -/
def spAlike (K : PySem.W.Frag) (a : Adr) : Sp := fun vs H Q E => ∃ (p r b : Addr) (many many2 : Nat) (us ws : List Un) (outs wuts : List Nat), vs = [.ref p, .ref r, .ref b] ∧ NetHere K a H p many us outs ∧ NetHere K a H r many2 ws wuts ∧ NetOk many us outs ∧ NetOk many2 ws wuts ∧
  (many = many2 ∧ outs.length = wuts.length → ¬ Fits (joinU many us ws) (joinO many us outs wuts)) ∧
  (¬ (many = many2 ∧ outs.length = wuts.length) → ∀ H', Same H H' → E (.ref a.c_Unlike) none H') ∧ (many = many2 ∧ outs.length = wuts.length → ∀ H', Same H H' → E (.ref a.c_NoNet) none H')
set_option maxHeartbeats 0 in
theorem ok_alike (T : Txt K mg a) : FnOk P w K mg base (CXE P w) 10 a.f_alike a.d_alike ["net", "other", "box"] (spAlike K a) := by
  refine T.F_alike.okE sc_alike (fun vs H Q E h => ?_) (fun cdv A outer s H vs Q E hr h => ?_)
  · obtain ⟨_, _, _, _, _, _, _, _, _, rfl, _⟩ := h
    rfl
  obtain ⟨p, r, b, many, many2, us, ws, outs, wuts, rfl, hp, hr', ok, ok', nf, qu, qn⟩ := h
  have h0 : PS (cxOf (CXE P w) P w K mg base ["net", "other", "box", "one", "two", "both", "outs", "half", "trees", "k", "places", "under", "above"] "alike" (defScope s_alike) a.f_alike cdv A outer s H E) ((defBody s_alike).getD 0 (.Pass ⟨0, 0, 0, 0⟩)) _ := (ps_set (i := 3) sc_alike.nd rfl (Or.inl rfl) (pe_meth0 (pv 0) T.C_Net T.t_Net_told (ok_Net_told T) (hr.mono (by decide)) T.b_Net_told .nil pass0))
  have h1 : PS (cxOf (CXE P w) P w K mg base ["net", "other", "box", "one", "two", "both", "outs", "half", "trees", "k", "places", "under", "above"] "alike" (defScope s_alike) a.f_alike cdv A outer s H E) ((defBody s_alike).getD 1 (.Pass ⟨0, 0, 0, 0⟩)) _ := (ps_set (i := 4) sc_alike.nd rfl (Or.inl rfl) (pe_meth0 (pv 1) T.C_Net T.t_Net_told (ok_Net_told T) (hr.mono (by decide)) T.b_Net_told .nil pass0))
  have h2 : PS (cxOf (CXE P w) P w K mg base ["net", "other", "box", "one", "two", "both", "outs", "half", "trees", "k", "places", "under", "above"] "alike" (defScope s_alike) a.f_alike cdv A outer s H E) ((defBody s_alike).getD 2 (.Pass ⟨0, 0, 0, 0⟩)) _ := (ps_if (PW.pt (pw_or (pt_cmpR op_ne (pe_ix ix_tup (pv 3) pe_int (fun _ _ => rfl)) (pe_ix ix_tup (pv 4) pe_int (fun _ _ => rfl)) (nomark _)) (pw_or1 (pt_cmpR op_ne (pe_callB (call_len_seq) rfl T.m_len boot_len (pa_c (pe_ix ix_tup (pv 3) pe_int (fun _ _ => rfl)) pa_nil) (he := starEach_plain rfl _ _) (hpl := noStar rfl)) (pe_callB (call_len_seq) rfl T.m_len boot_len (pa_c (pe_ix ix_tup (pv 4) pe_int (fun _ _ => rfl)) pa_nil) (he := starEach_plain rfl _ _) (hpl := noStar rfl)) (nomark _)))))
        (pss_one (ps_raise rfl rfl rfl rfl rfl T.x_Unlike rfl T.m_Unlike (pa_c pe_str pa_nil)))
        pss_nil)
  have h3 : PS (cxOf (CXE P w) P w K mg base ["net", "other", "box", "one", "two", "both", "outs", "half", "trees", "k", "places", "under", "above"] "alike" (defScope s_alike) a.f_alike cdv A outer s H E) ((defBody s_alike).getD 3 (.Pass ⟨0, 0, 0, 0⟩)) _ := (ps_set (i := 5) sc_alike.nd rfl (Or.inl rfl) (pe_call (ok_joined T) (hr.mono (by decide)) rfl T.m_joined T.F_joined.kp T.b_joined .nil passE (pa_c (pv 0) (pa_c (pv 1) pa_nil)) (he := starEach_plain rfl _ _) (hpl := noStar rfl)))
  have h4 : PS (cxOf (CXE P w) P w K mg base ["net", "other", "box", "one", "two", "both", "outs", "half", "trees", "k", "places", "under", "above"] "alike" (defScope s_alike) a.f_alike cdv A outer s H E) ((defBody s_alike).getD 4 (.Pass ⟨0, 0, 0, 0⟩)) _ := ps_never
  have h5 : PS (cxOf (CXE P w) P w K mg base ["net", "other", "box", "one", "two", "both", "outs", "half", "trees", "k", "places", "under", "above"] "alike" (defScope s_alike) a.f_alike cdv A outer s H E) ((defBody s_alike).getD 5 (.Pass ⟨0, 0, 0, 0⟩)) _ := ps_never
  have h6 : PS (cxOf (CXE P w) P w K mg base ["net", "other", "box", "one", "two", "both", "outs", "half", "trees", "k", "places", "under", "above"] "alike" (defScope s_alike) a.f_alike cdv A outer s H E) ((defBody s_alike).getD 6 (.Pass ⟨0, 0, 0, 0⟩)) _ := ps_never
  have h7 : PS (cxOf (CXE P w) P w K mg base ["net", "other", "box", "one", "two", "both", "outs", "half", "trees", "k", "places", "under", "above"] "alike" (defScope s_alike) a.f_alike cdv A outer s H E) ((defBody s_alike).getD 7 (.Pass ⟨0, 0, 0, 0⟩)) _ := ps_never
  have h8 : PS (cxOf (CXE P w) P w K mg base ["net", "other", "box", "one", "two", "both", "outs", "half", "trees", "k", "places", "under", "above"] "alike" (defScope s_alike) a.f_alike cdv A outer s H E) ((defBody s_alike).getD 8 (.Pass ⟨0, 0, 0, 0⟩)) _ := ps_never
  have hb : defBody s_alike = [((defBody s_alike).getD 0 (.Pass ⟨0, 0, 0, 0⟩)), ((defBody s_alike).getD 1 (.Pass ⟨0, 0, 0, 0⟩)), ((defBody s_alike).getD 2 (.Pass ⟨0, 0, 0, 0⟩)), ((defBody s_alike).getD 3 (.Pass ⟨0, 0, 0, 0⟩)), ((defBody s_alike).getD 4 (.Pass ⟨0, 0, 0, 0⟩)), ((defBody s_alike).getD 5 (.Pass ⟨0, 0, 0, 0⟩)), ((defBody s_alike).getD 6 (.Pass ⟨0, 0, 0, 0⟩)), ((defBody s_alike).getD 7 (.Pass ⟨0, 0, 0, 0⟩)), ((defBody s_alike).getD 8 (.Pass ⟨0, 0, 0, 0⟩))] := by rfl
  generalize ((defBody s_alike).getD 0 (.Pass ⟨0, 0, 0, 0⟩)) = S0 at *
  generalize ((defBody s_alike).getD 1 (.Pass ⟨0, 0, 0, 0⟩)) = S1 at *
  generalize ((defBody s_alike).getD 2 (.Pass ⟨0, 0, 0, 0⟩)) = S2 at *
  generalize ((defBody s_alike).getD 3 (.Pass ⟨0, 0, 0, 0⟩)) = S3 at *
  generalize ((defBody s_alike).getD 4 (.Pass ⟨0, 0, 0, 0⟩)) = S4 at *
  generalize ((defBody s_alike).getD 5 (.Pass ⟨0, 0, 0, 0⟩)) = S5 at *
  generalize ((defBody s_alike).getD 6 (.Pass ⟨0, 0, 0, 0⟩)) = S6 at *
  generalize ((defBody s_alike).getD 7 (.Pass ⟨0, 0, 0, 0⟩)) = S7 at *
  generalize ((defBody s_alike).getD 8 (.Pass ⟨0, 0, 0, 0⟩)) = S8 at *
  rw [hb]
  refine ⟨_, (pss_cons h0 (pss_cons h1 (pss_cons h2 (pss_cons h3 (pss_cons h4 (pss_cons h5 (pss_cons h6 (pss_cons h7 (pss_one h8))))))))), ?_⟩
  clear hb h0 h1 h2 h3 h4 h5 h6 h7 h8 S0 S1 S2 S3 S4 S5 S6 S7 S8
  obtain ⟨lu, lo, vk, n1, n2, n3, n4⟩ := id hp
  obtain ⟨d1, n1'⟩ := id n1
  refine ⟨_, rfl, p, d1, _, rfl, n1', rfl, p, lu, lo, many, vk, us, outs, rfl, n1, n2, n3, ok.2.1, n4, fun t1 l1 q1 v1 H1 g1 ht1 _ e1 r1 _ f1 => ?_⟩
  obtain ⟨mu, mo, wk, k1, k2, k3, k4⟩ := hr'.mono g1
  obtain ⟨d2, k1'⟩ := id k1
  refine ⟨_, rfl, r, d2, _, rfl, k1', rfl, r, mu, mo, many2, wk, ws, wuts, rfl, k1, k2, k3, ok'.2.1, k4, fun t2 l2 q2 v2 H2 g2 ht2 _ e2 r2 _ f2 => ?_⟩
  have ht1 := g2.tup ht1
  have f1 := g2 _ _ f1
  have g := g1.trans g2
  have lo1 := outV_length outs
  have lo2 := outV_length wuts
  have one : (1 : Nat) ≤ sizeLine := by decide
  refine ⟨_, rfl, _, _, _, _, rfl, rfl, ht1, rfl, _, rfl, _, _, _, _, rfl, rfl, ht2, rfl, rfl, _, rfl, ?_⟩
  by_cases c1 : many = many2
  · subst c1
    refine iteNS rfl ?_
    refine ⟨_, rfl, _, _, _, _, rfl, rfl, ht1, rfl, _, _, rfl, .inl (SqL.of f1), _, rfl, _, _, _, _, rfl, rfl, ht2, rfl, _, _, rfl, .inl (SqL.of f2), rfl, _, rfl, ?_⟩
    by_cases c2 : outs.length = wuts.length
    · refine iteNS (congrArg V.int (by omega)) ?_
      exact ⟨_, rfl, _, rfl, p, r, many, us, ws, outs, wuts, rfl, hp.mono g, hr'.mono g, ok, ok', fun f => absurd f (nf ⟨rfl, c2⟩), fun _ H' g' => qn ⟨rfl, c2⟩ H' (g.trans g')⟩
    · refine iteNP (fun z => c2 (by have := V.int.inj z; omega)) ?_
      exact ⟨one, qu (fun z => c2 z.2) _ g⟩
  · refine iteNP (fun z => c1 (by have := V.int.inj z; omega)) ?_
    exact ⟨one, qu (fun z => c1 z.1) _ g⟩
def spKinds (K : PySem.W.Frag) (a : Adr) : Sp := fun vs H Q _ => ∃ (p r b : Addr) (many many2 : Nat) (us ws : List Un) (outs wuts : List Nat), vs = [.ref p, .ref r, .ref b] ∧ NetHere K a H p many us outs ∧ NetHere K a H r many2 ws wuts ∧ NetOk many us outs ∧ NetOk many2 ws wuts ∧
  (many = many2 ∧ outs.length = wuts.length → ¬ Fits (joinU many us ws) (joinO many us outs wuts)) ∧
  (¬ (many = many2 ∧ outs.length = wuts.length) → ∀ l H', Same H H' → H' l = some (.lst [.bl true, .bl false, .bl true, .bl false]) → Q (.ref l) H') ∧
  (many = many2 ∧ outs.length = wuts.length → ∀ l H', Same H H' → H' l = some (.lst [.bl false, .bl true, .bl true, .bl false]) → Q (.ref l) H')
set_option maxHeartbeats 0 in
theorem ok_law_kinds (T : Txt K mg a) : FnOk P w K mg base CX0 11 a.f_law_kinds a.d_law_kinds ["_law_net_here", "_law_beside", "_law_box"] (spKinds K a) := by
  refine T.F_law_kinds.ok sc_law_kinds (fun vs H Q E h => ?_) (fun cdv A outer s H vs Q E hr h => ?_)
  · obtain ⟨_, _, _, _, _, _, _, _, _, rfl, _⟩ := h
    rfl
  obtain ⟨p, r, b, many, many2, us, ws, outs, wuts, rfl, hp, hr', ok, ok', nf, qu, qn⟩ := h
  have h0 : PS (cxOf CX0 P w K mg base ["_law_net_here", "_law_beside", "_law_box", "_law_seen", "e"] "_law_kinds" (defScope s_law_kinds) a.f_law_kinds cdv A outer s H E).nox ((defBody s_law_kinds).getD 0 (.Pass ⟨0, 0, 0, 0⟩)) _ := (ps_set (i := 3) sc_law_kinds.nd rfl (Or.inl rfl) (pe_lst pa_nil))
  have h1 : PS (cxOf CX0 P w K mg base ["_law_net_here", "_law_beside", "_law_box", "_law_seen", "e"] "_law_kinds" (defScope s_law_kinds) a.f_law_kinds cdv A outer s H E).nox ((defBody s_law_kinds).getD 1 (.Pass ⟨0, 0, 0, 0⟩)) _ := (ps_try (i := 4) rfl rfl rfl sc_law_kinds.nd rfl rfl (ok_alike T) (hr.mono (by decide)) rfl T.m_alike T.F_alike.kp T.b_alike rfl T.m_BendError (pa_c (pv 0) (pa_c (pv 1) (pa_c (pv 2) pa_nil))) (fun ea => (pss_cons (ps_set (i := 3) sc_law_kinds.nd rfl (Or.inl rfl) (pe_lst (pa_c (pe_callB (call_isiE) rfl T.m_isinstance boot_isinstance (pa_c (pv 4) (pa_c (pe_glob (v := .ref a.c_Unlike) rfl T.m_Unlike rfl) pa_nil)) (he := starEach_plain rfl _ _) (hpl := noStar rfl)) (pa_c (pe_callB (call_isiE) rfl T.m_isinstance boot_isinstance (pa_c (pv 4) (pa_c (pe_glob (v := .ref a.c_NoNet) rfl T.m_NoNet rfl) pa_nil)) (he := starEach_plain rfl _ _) (hpl := noStar rfl)) (pa_c (pe_callB (call_isiE) rfl T.m_isinstance boot_isinstance (pa_c (pv 4) (pa_c (pe_bltn (v := .ty "ValueError") rfl T.m_ValueError boot_ValueError rfl) pa_nil)) (he := starEach_plain rfl _ _) (hpl := noStar rfl)) pa_nil)))))
      (pss_one (ps_expr (pe_bm PySem.F.plainAttrs_list PySem.F.slot_list_append PySem.F.type_list_append mt_append (pv 3) (pa_c (pe_callB (call_isiN) rfl T.m_isinstance boot_isinstance (pa_c (pv 4) (pa_c (pe_tup (pa_c (pe_glob (v := .ref a.c_NoBox) rfl T.m_NoBox rfl) (pa_c (pe_glob (v := .ref a.c_NoLine) rfl T.m_NoLine rfl) (pa_c (pe_glob (v := .ref a.c_NoRatio) rfl T.m_NoRatio rfl) (pa_c (pe_glob (v := .ref a.c_NoText) rfl T.m_NoText rfl) pa_nil))))) pa_nil)) (he := starEach_plain rfl _ _) (hpl := noStar rfl)) pa_nil) (hs := starEach_plain rfl _ _) (hplain := noStar rfl)))))))
  have h2 : PS (cxOf CX0 P w K mg base ["_law_net_here", "_law_beside", "_law_box", "_law_seen", "e"] "_law_kinds" (defScope s_law_kinds) a.f_law_kinds cdv A outer s H E).nox ((defBody s_law_kinds).getD 2 (.Pass ⟨0, 0, 0, 0⟩)) _ := (ps_ret (pv 3))
  have hb : defBody s_law_kinds = [((defBody s_law_kinds).getD 0 (.Pass ⟨0, 0, 0, 0⟩)), ((defBody s_law_kinds).getD 1 (.Pass ⟨0, 0, 0, 0⟩)), ((defBody s_law_kinds).getD 2 (.Pass ⟨0, 0, 0, 0⟩))] := by rfl
  generalize ((defBody s_law_kinds).getD 0 (.Pass ⟨0, 0, 0, 0⟩)) = S0 at *
  generalize ((defBody s_law_kinds).getD 1 (.Pass ⟨0, 0, 0, 0⟩)) = S1 at *
  generalize ((defBody s_law_kinds).getD 2 (.Pass ⟨0, 0, 0, 0⟩)) = S2 at *
  rw [hb]
  refine ⟨_, (pss_cons h0 (pss_cons h1 (pss_one h2))), ?_⟩
  clear hb h0 h1 h2 S0 S1 S2
  refine ⟨(by decide), fun p0 h0 => ?_⟩
  have g0 := same_new h0 (.lst [])
  refine ⟨_, rfl, _, rfl, _, rfl, p, r, b, many, many2, us, ws, outs, wuts, rfl, hp.mono g0, hr'.mono g0, ok, ok', nf, fun c H1 g1 => ⟨_, rfl, ⟨T.x_BendError, T.u_Unlike⟩, fun ea hea => ?_⟩, fun c H1 g1 => ⟨_, rfl, ⟨T.x_BendError, T.u_NoNet⟩, fun ea hea => ?_⟩⟩
  · have hx : upd H1 ea (.ext (ExcAt ea a.c_Unlike)) ea = some (.ext (ExcAt ea a.c_Unlike)) := upd_same
    have g2 := same_new hea (.ext (ExcAt ea a.c_Unlike))
    refine ⟨_, rfl, ea, _, _, _, _, rfl, rfl, hx, T.e_Unlike, T.k_Unlike, _, rfl, ea, _, _, _, _, rfl, rfl, hx, T.e_Unlike, T.k_NoNet, _, rfl, ea, _, _, _, _, rfl, rfl, hx, T.e_Unlike, T.k_ValueError, (by decide), fun p7 h7 => ?_⟩
    have g4 := same_new h7 (.lst [.bl true, .bl false, .bl true])
    have e7 := upd_same (H := upd H1 ea (.ext (ExcAt ea a.c_Unlike))) (a := p7) (o := .lst [.bl true, .bl false, .bl true])
    refine ⟨_, rfl, .inl ⟨rfl, _, SqL.of e7⟩, _, rfl, (show 4 ≤ sizeLine by decide), fun tc htc => ?_⟩
    have g3 := same_new htc (.tup ([a.c_NoBox, a.c_NoLine, a.c_NoRatio, a.c_NoText].map V.ref))
    refine ⟨ea, _, tc, [a.c_NoBox, a.c_NoLine, a.c_NoRatio, a.c_NoText], rfl, g3 _ _ (g4 _ _ hx), T.e_Unlike, SqT.of upd_same, fun D hD => ?_, ?_⟩
    · simp only [List.mem_cons, List.not_mem_nil, or_false] at hD
      rcases hD with rfl | rfl | rfl | rfl
      · exact T.k_NoBox
      · exact T.k_NoLine
      · exact T.k_NoRatio
      · exact T.k_NoText
    refine ⟨p7, _, _, rfl, rfl, g3 _ _ e7, (show 3 < sizeLine by decide), _, rfl, ?_⟩
    exact qu c p7 _ ((g0.trans (g1.trans (g2.trans (g4.trans g3)))).laid (none_back (g0.trans (g1.trans g2)) h7) _) upd_same
  · have hx : upd H1 ea (.ext (ExcAt ea a.c_NoNet)) ea = some (.ext (ExcAt ea a.c_NoNet)) := upd_same
    have g2 := same_new hea (.ext (ExcAt ea a.c_NoNet))
    refine ⟨_, rfl, ea, _, _, _, _, rfl, rfl, hx, T.e_NoNet, T.k_NoNet_Unlike, _, rfl, ea, _, _, _, _, rfl, rfl, hx, T.e_NoNet, T.k_NoNet_NoNet, _, rfl, ea, _, _, _, _, rfl, rfl, hx, T.e_NoNet, T.k_NoNet_ValueError, (by decide), fun p7 h7 => ?_⟩
    have g4 := same_new h7 (.lst [.bl false, .bl true, .bl true])
    have e7 := upd_same (H := upd H1 ea (.ext (ExcAt ea a.c_NoNet))) (a := p7) (o := .lst [.bl false, .bl true, .bl true])
    refine ⟨_, rfl, .inl ⟨rfl, _, SqL.of e7⟩, _, rfl, (show 4 ≤ sizeLine by decide), fun tc htc => ?_⟩
    have g3 := same_new htc (.tup ([a.c_NoBox, a.c_NoLine, a.c_NoRatio, a.c_NoText].map V.ref))
    refine ⟨ea, _, tc, [a.c_NoBox, a.c_NoLine, a.c_NoRatio, a.c_NoText], rfl, g3 _ _ (g4 _ _ hx), T.e_NoNet, SqT.of upd_same, fun D hD => ?_, ?_⟩
    · simp only [List.mem_cons, List.not_mem_nil, or_false] at hD
      rcases hD with rfl | rfl | rfl | rfl
      · exact T.k_NoNet_NoBox
      · exact T.k_NoNet_NoLine
      · exact T.k_NoNet_NoRatio
      · exact T.k_NoNet_NoText
    refine ⟨p7, _, _, rfl, rfl, g3 _ _ e7, (show 3 < sizeLine by decide), _, rfl, ?_⟩
    exact qn c p7 _ ((g0.trans (g1.trans (g2.trans (g4.trans g3)))).laid (none_back (g0.trans (g1.trans g2)) h7) _) upd_same
def spMore (K : PySem.W.Frag) : Sp := fun vs H Q _ => ∃ (t : Addr) (many sz : Nat) (us : List Un) (outs : List Nat), vs = [.ref t, .int (sz : Int)] ∧ ToldAt K H t many us outs ∧ us.length ≤ 100 ∧ sz ≤ 100 ∧
  ∀ r zs H', Same H H' → zs.length = sz → (∀ u ∈ zs, isE u = true) → ToldAt K H' r many (us ++ zs) outs → Q (.ref r) H'
theorem ok_law_more (T : Txt K mg a) : FnOk P w K mg base CX0 1 a.f_law_more a.d_law_more ["_law_told", "_law_size"] (spMore K) := by
  refine T.F_law_more.ok sc_law_more (fun vs H Q E h => ?_) (fun cdv A outer s H vs Q E hr h => ?_)
  · obtain ⟨_, _, _, _, _, rfl, _⟩ := h
    rfl
  obtain ⟨t, many, sz, us, outs, rfl, ⟨l1, l2, v1, ht, e1, r1, e2⟩, l100, s100, q⟩ := h
  refine ⟨_, (pss_cons (ps_asg (pv 0) (pg_tup rfl (pgs_cons (pg_name (i := 2) sc_law_more.nd rfl (Or.inl rfl)) (pgs_cons (pg_name (i := 3) sc_law_more.nd rfl (Or.inl rfl)) (pgs_cons (pg_name (i := 4) sc_law_more.nd rfl (Or.inl rfl)) pgs_nil)))))
      (pss_one (ps_ret (pe_tup (pa_c (pv 2) (pa_c (pe_op op_cat (pv 3) (pe_comp (N := ["_law_k"]) (ix := [none]) ⟨rfl, rfl, rfl, rfl, trivial, rfl, trivial⟩ rfl (pi_range1 rfl T.m_range (pa_c (pv 1) pa_nil)) (fun _ => (pg_name (i := 0) (show (["_law_k"] : List Str).Nodup by decide +kernel) rfl (Or.inl rfl))) (fun _ σ => go_name rfl σ) (fun _ => pif_none) (fun _ => (pe_tup (pa_c pe_str (pa_c (pe_tup (pa_c (pv 0) (pa_c pe_int pa_nil))) (pa_c (pe_lst pa_nil) pa_nil))))))) (pa_c (pv 4) pa_nil))))))), ?_⟩
  have lv := UL.length r1
  refine ⟨_, rfl, t, _, rfl, ht, rfl, _, _, rfl, _, _, rfl, _, _, rfl, rfl, ?_⟩
  refine ⟨_, rfl, _, rfl, _, rfl, _, rfl, by omega, by omega, comp_by (n := sz) (fun i ys H' => Same H H' ∧ ∃ zs : List Un, UL false K H' ys zs ∧ zs.length = i ∧ ∀ u ∈ zs, isE u = true) ⟨Same.refl _, [], .nil, rfl, fun u hu => (by cases hu)⟩ (small1000 (by omega)) ?_ ?_ ?_⟩
  case refine_2 =>
    rintro i ys H' hi _
    show i < _
    omega
  case refine_3 =>
    rintro i m' ys H' cc x H2 hi ⟨g, zs, rz, lz, ez⟩ ⟨rfl, rfl⟩ nx _
    refine Or.inl ⟨rfl, _, rfl, two_le, fun tq htq => ⟨(by decide), fun le hle => ⟨(show 3 ≤ sizeLine by decide), fun t3 ht3 => nx _ _ ?_⟩⟩⟩
    have g1 := same_new htq (.tup [.int (0 + (i : Int)), .int 1])
    have g2 := same_new hle (.lst [])
    have g3 := same_new ht3 (.tup [.str "sum", .ref tq, .ref le])
    have g23 := g2.trans g3
    have hu : UnAt false K (upd (upd (upd H2 tq (.tup [.int (0 + (i : Int)), .int 1])) le (.lst [])) t3 (.tup [.str "sum", .ref tq, .ref le])) (.ref t3) (.sum ((0 + (i : Int) : Int) : Rat) []) := ⟨t3, tq, le, [], rfl, SqT.of upd_same, SqT.of (g23 _ _ upd_same), SqL.of (g3 _ _ upd_same), .nil⟩
    refine ⟨g.trans (g1.trans g23), zs ++ [.sum ((0 + (i : Int) : Int) : Rat) []], UL.snoc (rz.mono (g1.trans g23)) hu, by rw [List.length_append, lz]; rfl, fun u hu => ?_⟩
    rcases List.mem_append.mp hu with z | z
    · exact ez u z
    · rw [List.mem_singleton.mp z]; rfl
  rintro ys H1 ⟨g1, zs, rz, lz, ez⟩
  have ly := UL.length rz
  refine ⟨by show _ ≤ sz; omega, fun D hD => ?_⟩
  have k1 := same_new hD (.lst ys)
  have g := g1.trans k1
  refine ⟨l1, D, v1, ys, rfl, rfl, g _ _ e1, upd_same, le1000 (by omega), fun lc hlc => ⟨_, rfl, (show 3 ≤ sizeLine by decide), fun t3 ht3 => ?_⟩⟩
  have k2 := same_new hlc (.lst (v1 ++ ys))
  have k3 := same_new ht3 (.tup [.int (many : Int), .ref lc, .ref l2])
  have k := k2.trans k3
  exact q t3 zs _ (g.trans k) lz ez ⟨lc, l2, _, SqT.of upd_same, k3 _ _ upd_same, UL.append (r1.mono (g.trans k)) (rz.mono (k1.trans k)), (g.trans k) _ _ e2⟩
/-! the law itself -/
theorem half (n : Nat) : (n : Int).fdiv 2 = ((n / 2 : Nat) : Int) := by
  have e := Int.fdiv_eq_ediv_of_nonneg (n : Int) (show (0 : Int) ≤ 2 by decide)
  omega
theorem more_ok {many : Nat} {us zs : List Un} {outs : List Nat} (h : NetOk many us outs) (hz : ∀ u ∈ zs, isE u = true) (l : us.length + zs.length ≤ 80) : NetOk many (us ++ zs) outs := by
  obtain ⟨wf, l80, b20, m1, m6, o1, o12, ol⟩ := h
  refine ⟨fun j u e => ?_, by rw [List.length_append]; exact l, by rw [List.filter_append, List.length_append, (wf_empty (M := many) hz).2]; exact b20, m1, m6, o1, o12, fun o ho => ?_⟩
  · by_cases hj : j < us.length
    · rw [List.getElem?_append_left hj] at e
      exact wf j u e
    · rw [List.getElem?_append_right (by omega)] at e
      have z := hz u (List.mem_of_getElem? e)
      cases u with
      | sum c ts =>
        cases ts with
        | nil => exact ⟨fun x hx => (by cases hx), List.nodup_nil, by decide⟩
        | cons t ts => cases z
      | bend p => cases z
  · have := ol o ho
    rw [List.length_append]
    omega
def spLaw (K : PySem.W.Frag) : Sp := fun vs H Q _ => ∃ (a : Addr) (ns : List Int), vs = [.ref a] ∧ SqL K H a (ns.map V.int) ∧ ns.length ≤ 63 ∧ ∀ H', Q (.bl true) H'
set_option maxHeartbeats 0 in
theorem ok_law (T : Txt K mg a) : FnOk P w K mg base CX0 12 a.f_law a.d_law ["_law_script"] (spLaw K) := by
  refine T.F_law.ok sc_law (fun vs H Q E h => ?_) (fun cdv A outer s H vs Q E hr h => ?_)
  · obtain ⟨_, _, rfl, _⟩ := h
    rfl
  obtain ⟨sa, ns, rfl, hS, l63, q⟩ := h
  have cd : ∀ {x m : Int}, m ≠ 0 → m.natAbs.log2 < 9000 → CDivB x m := fun h1 h2 => ⟨h1, h2⟩
  have md : ∀ {m : Int}, (0 : Int) < m → ∀ x : Int, 0 ≤ x % m ∧ x % m < m := fun {m} h x => ⟨Int.emod_nonneg x (by omega), Int.emod_lt_of_pos x h⟩
  have h0 : PS (cxOf CX0 P w K mg base ["_law_script", "_law_one", "_law_other", "_law_number", "_law_size", "_law_box", "_law_net_here", "_law_beside"] "law" (defScope s_law) a.f_law cdv A outer s H E).nox ((defBody s_law).getD 0 (.Pass ⟨0, 0, 0, 0⟩)) _ := (ps_set (i := 1) sc_law.nd rfl (Or.inl rfl) (pe_call (ok_law_net T) (hr.mono (by decide)) rfl T.m_law_net T.F_law_net.kp T.b_law_net .nil pass0 (pa_c (pe_step (pv 0) po_none po_none (po_some pe_int)) (pa_c pe_int (pa_c pe_int pa_nil))) (he := starEach_plain rfl _ _) (hpl := noStar rfl)))
  have h1 : PS (cxOf CX0 P w K mg base ["_law_script", "_law_one", "_law_other", "_law_number", "_law_size", "_law_box", "_law_net_here", "_law_beside"] "law" (defScope s_law) a.f_law cdv A outer s H E).nox ((defBody s_law).getD 1 (.Pass ⟨0, 0, 0, 0⟩)) _ := (ps_set (i := 2) sc_law.nd rfl (Or.inl rfl) (pe_call (ok_law_net T) (hr.mono (by decide)) rfl T.m_law_net T.F_law_net.kp T.b_law_net .nil pass0 (pa_c (pe_step (pv 0) (po_some pe_int) po_none (po_some pe_int)) (pa_c pe_int (pa_c pe_int pa_nil))) (he := starEach_plain rfl _ _) (hpl := noStar rfl)))
  have h2 : PS (cxOf CX0 P w K mg base ["_law_script", "_law_one", "_law_other", "_law_number", "_law_size", "_law_box", "_law_net_here", "_law_beside"] "law" (defScope s_law) a.f_law cdv A outer s H E).nox ((defBody s_law).getD 2 (.Pass ⟨0, 0, 0, 0⟩)) _ := (ps_set (i := 3) sc_law.nd rfl (Or.inl rfl) (pe_call (ok_law_mixed T) (hr.mono (by decide)) rfl T.m_law_mixed T.F_law_mixed.kp T.b_law_mixed .nil pass0 (pa_c (pe_op op_add (pe_callB (call_len_seq) rfl T.m_len boot_len (pa_c (pv 0) pa_nil) (he := starEach_plain rfl _ _) (hpl := noStar rfl)) (pe_callB (call_sum rfl) rfl T.m_sum boot_sum (pa_c (pe_comp (N := ["_law_cell"]) (ix := [none]) ⟨rfl, rfl, rfl, rfl, trivial, rfl, trivial⟩ rfl (pi_list (pv 0)) (fun _ => (pg_name (i := 0) (show (["_law_cell"] : List Str).Nodup by decide +kernel) rfl (Or.inl rfl))) (fun _ σ => go_name rfl σ) (fun _ => pif_none) (fun _ => (pe_op op_mod (pv 0) pe_int))) pa_nil) (he := starEach_plain rfl _ _) (hpl := noStar rfl))) (pa_c pe_int pa_nil)) (he := starEach_plain rfl _ _) (hpl := noStar rfl)))
  have h3 : PS (cxOf CX0 P w K mg base ["_law_script", "_law_one", "_law_other", "_law_number", "_law_size", "_law_box", "_law_net_here", "_law_beside"] "law" (defScope s_law) a.f_law cdv A outer s H E).nox ((defBody s_law).getD 3 (.Pass ⟨0, 0, 0, 0⟩)) _ := (ps_set (i := 4) sc_law.nd rfl (Or.inl rfl) (pe_op op_sub (pe_op op_sub (pe_op op_add pe_int (pe_op op_mod (pe_op op_fdivB (pv 3) pe_int) pe_int)) (pe_callB (call_len_seq) rfl T.m_len boot_len (pa_c (pe_ix ix_tup (pv 1) pe_int (fun _ _ => rfl)) pa_nil) (he := starEach_plain rfl _ _) (hpl := noStar rfl))) (pe_callB (call_len_seq) rfl T.m_len boot_len (pa_c (pe_ix ix_tup (pv 2) pe_int (fun _ _ => rfl)) pa_nil) (he := starEach_plain rfl _ _) (hpl := noStar rfl))))
  have h4 : PS (cxOf CX0 P w K mg base ["_law_script", "_law_one", "_law_other", "_law_number", "_law_size", "_law_box", "_law_net_here", "_law_beside"] "law" (defScope s_law) a.f_law cdv A outer s H E).nox ((defBody s_law).getD 4 (.Pass ⟨0, 0, 0, 0⟩)) _ := (ps_if (pt_cmpR op_eq (pe_op op_mod (pv 3) pe_int) pe_int (nomark _))
        (pss_cons (ps_set (i := 1) sc_law.nd rfl (Or.inl rfl) (pe_call (ok_law_more T) (hr.mono (by decide)) rfl T.m_law_more T.F_law_more.kp T.b_law_more .nil pass0 (pa_c (pv 1) (pa_c (pe_op op_fdivB (pv 4) pe_int) pa_nil)) (he := starEach_plain rfl _ _) (hpl := noStar rfl)))
      (pss_one (ps_set (i := 2) sc_law.nd rfl (Or.inl rfl) (pe_call (ok_law_more T) (hr.mono (by decide)) rfl T.m_law_more T.F_law_more.kp T.b_law_more .nil pass0 (pa_c (pv 2) (pa_c (pe_op op_sub (pv 4) (pe_op op_fdivB (pv 4) pe_int)) pa_nil)) (he := starEach_plain rfl _ _) (hpl := noStar rfl)))))
        pss_nil)
  have h5 : PS (cxOf CX0 P w K mg base ["_law_script", "_law_one", "_law_other", "_law_number", "_law_size", "_law_box", "_law_net_here", "_law_beside"] "law" (defScope s_law) a.f_law cdv A outer s H E).nox ((defBody s_law).getD 5 (.Pass ⟨0, 0, 0, 0⟩)) _ := (ps_set (i := 5) sc_law.nd rfl (Or.inl rfl) (pe_make T.M_Box (ok_Box_init T) (hr.mono (by decide)) rfl T.m_Box T.b_Box_init .nil pass0 (pa_c (pe_call (ok_law_sides T) (hr.mono (by decide)) rfl T.m_law_sides T.F_law_sides.kp T.b_law_sides .nil pass0 (pa_c (pv 0) (pa_c pe_int (pa_c (pe_ix ix_tup (pv 1) pe_int (fun _ _ => rfl)) pa_nil))) (he := starEach_plain rfl _ _) (hpl := noStar rfl)) pa_nil) (he := starEach_plain rfl _ _) (hpl := noStar rfl)))
  have h6 : PS (cxOf CX0 P w K mg base ["_law_script", "_law_one", "_law_other", "_law_number", "_law_size", "_law_box", "_law_net_here", "_law_beside"] "law" (defScope s_law) a.f_law cdv A outer s H E).nox ((defBody s_law).getD 6 (.Pass ⟨0, 0, 0, 0⟩)) _ := (ps_set (i := 6) sc_law.nd rfl (Or.inl rfl) (pe_make T.M_Net (ok_Net_init T) (hr.mono (by decide)) rfl T.m_Net T.b_Net_init .nil passN (pa_c (pe_ix ix_tup (pv 1) pe_int (fun _ _ => rfl)) (pa_c (pe_callTy (call_list_of) rfl T.m_list boot_list (pa_c (pe_ix ix_tup (pv 1) pe_int (fun _ _ => rfl)) pa_nil) (he := starEach_plain rfl _ _) (hpl := noStar rfl)) (pa_c (pe_callTy (call_list_of) rfl T.m_list boot_list (pa_c (pe_ix ix_tup (pv 1) pe_int (fun _ _ => rfl)) pa_nil) (he := starEach_plain rfl _ _) (hpl := noStar rfl)) pa_nil))) (he := starEach_plain rfl _ _) (hpl := noStar rfl)))
  have h7 : PS (cxOf CX0 P w K mg base ["_law_script", "_law_one", "_law_other", "_law_number", "_law_size", "_law_box", "_law_net_here", "_law_beside"] "law" (defScope s_law) a.f_law cdv A outer s H E).nox ((defBody s_law).getD 7 (.Pass ⟨0, 0, 0, 0⟩)) _ := (ps_set (i := 7) sc_law.nd rfl (Or.inl rfl) (pe_make T.M_Net (ok_Net_init T) (hr.mono (by decide)) rfl T.m_Net T.b_Net_init .nil passN (pa_c (pe_ix ix_tup (pv 2) pe_int (fun _ _ => rfl)) (pa_c (pe_callTy (call_list_of) rfl T.m_list boot_list (pa_c (pe_ix ix_tup (pv 2) pe_int (fun _ _ => rfl)) pa_nil) (he := starEach_plain rfl _ _) (hpl := noStar rfl)) (pa_c (pe_callTy (call_list_of) rfl T.m_list boot_list (pa_c (pe_ix ix_tup (pv 2) pe_int (fun _ _ => rfl)) pa_nil) (he := starEach_plain rfl _ _) (hpl := noStar rfl)) pa_nil))) (he := starEach_plain rfl _ _) (hpl := noStar rfl)))
  have h8 : PS (cxOf CX0 P w K mg base ["_law_script", "_law_one", "_law_other", "_law_number", "_law_size", "_law_box", "_law_net_here", "_law_beside"] "law" (defScope s_law) a.f_law cdv A outer s H E).nox ((defBody s_law).getD 8 (.Pass ⟨0, 0, 0, 0⟩)) _ := (ps_if (PW.pt (pw_or (pt_cmpR op_ne (pe_ix ix_tup (pv 1) pe_int (fun _ _ => rfl)) (pe_ix ix_tup (pv 2) pe_int (fun _ _ => rfl)) (nomark _)) (pw_or1 (pt_cmpR op_ne (pe_callB (call_len_seq) rfl T.m_len boot_len (pa_c (pe_ix ix_tup (pv 1) pe_int (fun _ _ => rfl)) pa_nil) (he := starEach_plain rfl _ _) (hpl := noStar rfl)) (pe_callB (call_len_seq) rfl T.m_len boot_len (pa_c (pe_ix ix_tup (pv 2) pe_int (fun _ _ => rfl)) pa_nil) (he := starEach_plain rfl _ _) (hpl := noStar rfl)) (nomark _)))))
        (pss_one (ps_ret (pe_cmpR (op_eqL (hu_of hr)) (pe_call (ok_law_kinds T) (hr.mono (by decide)) rfl T.m_law_kinds T.F_law_kinds.kp T.b_law_kinds .nil pass0 (pa_c (pv 6) (pa_c (pv 7) (pa_c (pv 5) pa_nil))) (he := starEach_plain rfl _ _) (hpl := noStar rfl)) (pe_lst (pa_c pe_bl (pa_c pe_bl (pa_c pe_bl (pa_c pe_bl pa_nil))))) (nomark _))))
        pss_nil)
  have h9 : PS (cxOf CX0 P w K mg base ["_law_script", "_law_one", "_law_other", "_law_number", "_law_size", "_law_box", "_law_net_here", "_law_beside"] "law" (defScope s_law) a.f_law cdv A outer s H E).nox ((defBody s_law).getD 9 (.Pass ⟨0, 0, 0, 0⟩)) _ := (ps_if (PW.pt (pw_and (pt_cmpR op_gt (pe_op op_add (pe_callB (call_len_seq) rfl T.m_len boot_len (pa_c (pe_ix ix_tup (pv 1) pe_int (fun _ _ => rfl)) pa_nil) (he := starEach_plain rfl _ _) (hpl := noStar rfl)) (pe_callB (call_len_seq) rfl T.m_len boot_len (pa_c (pe_ix ix_tup (pv 2) pe_int (fun _ _ => rfl)) pa_nil) (he := starEach_plain rfl _ _) (hpl := noStar rfl))) pe_int (nomark _)) (pw_and1 (pt_cmpR (op_neL (hu_of hr)) (pe_call (ok_law_kinds T) (hr.mono (by decide)) rfl T.m_law_kinds T.F_law_kinds.kp T.b_law_kinds .nil pass0 (pa_c (pv 6) (pa_c (pv 7) (pa_c (pv 5) pa_nil))) (he := starEach_plain rfl _ _) (hpl := noStar rfl)) (pe_lst (pa_c pe_bl (pa_c pe_bl (pa_c pe_bl (pa_c pe_bl pa_nil))))) (nomark _)))))
        (pss_one (ps_ret pe_bl))
        pss_nil)
  have h10 : PS (cxOf CX0 P w K mg base ["_law_script", "_law_one", "_law_other", "_law_number", "_law_size", "_law_box", "_law_net_here", "_law_beside"] "law" (defScope s_law) a.f_law cdv A outer s H E).nox ((defBody s_law).getD 10 (.Pass ⟨0, 0, 0, 0⟩)) _ := (ps_ret (pe_and (pe_cmpR (op_eqD hr.units) (pe_meth0 (pv 6) T.C_Net T.t_Net_told (ok_Net_told T) (hr.mono (by decide)) T.b_Net_told .nil pass0) (pv 1) (nomark _)) (pe_one (pe_cmpR (op_eqD hr.units) (pe_meth0 (pv 7) T.C_Net T.t_Net_told (ok_Net_told T) (hr.mono (by decide)) T.b_Net_told .nil pass0) (pv 2) (nomark _)))))
  have hb : defBody s_law = [((defBody s_law).getD 0 (.Pass ⟨0, 0, 0, 0⟩)), ((defBody s_law).getD 1 (.Pass ⟨0, 0, 0, 0⟩)), ((defBody s_law).getD 2 (.Pass ⟨0, 0, 0, 0⟩)), ((defBody s_law).getD 3 (.Pass ⟨0, 0, 0, 0⟩)), ((defBody s_law).getD 4 (.Pass ⟨0, 0, 0, 0⟩)), ((defBody s_law).getD 5 (.Pass ⟨0, 0, 0, 0⟩)), ((defBody s_law).getD 6 (.Pass ⟨0, 0, 0, 0⟩)), ((defBody s_law).getD 7 (.Pass ⟨0, 0, 0, 0⟩)), ((defBody s_law).getD 8 (.Pass ⟨0, 0, 0, 0⟩)), ((defBody s_law).getD 9 (.Pass ⟨0, 0, 0, 0⟩)), ((defBody s_law).getD 10 (.Pass ⟨0, 0, 0, 0⟩))] := by rfl
  generalize ((defBody s_law).getD 0 (.Pass ⟨0, 0, 0, 0⟩)) = S0 at *
  generalize ((defBody s_law).getD 1 (.Pass ⟨0, 0, 0, 0⟩)) = S1 at *
  generalize ((defBody s_law).getD 2 (.Pass ⟨0, 0, 0, 0⟩)) = S2 at *
  generalize ((defBody s_law).getD 3 (.Pass ⟨0, 0, 0, 0⟩)) = S3 at *
  generalize ((defBody s_law).getD 4 (.Pass ⟨0, 0, 0, 0⟩)) = S4 at *
  generalize ((defBody s_law).getD 5 (.Pass ⟨0, 0, 0, 0⟩)) = S5 at *
  generalize ((defBody s_law).getD 6 (.Pass ⟨0, 0, 0, 0⟩)) = S6 at *
  generalize ((defBody s_law).getD 7 (.Pass ⟨0, 0, 0, 0⟩)) = S7 at *
  generalize ((defBody s_law).getD 8 (.Pass ⟨0, 0, 0, 0⟩)) = S8 at *
  generalize ((defBody s_law).getD 9 (.Pass ⟨0, 0, 0, 0⟩)) = S9 at *
  generalize ((defBody s_law).getD 10 (.Pass ⟨0, 0, 0, 0⟩)) = S10 at *
  rw [hb]
  refine ⟨_, (pss_cons h0 (pss_cons h1 (pss_cons h2 (pss_cons h3 (pss_cons h4 (pss_cons h5 (pss_cons h6 (pss_cons h7 (pss_cons h8 (pss_cons h9 (pss_one h10))))))))))), ?_⟩
  clear hb h0 h1 h2 h3 h4 h5 h6 h7 h8 h9 h10 S0 S1 S2 S3 S4 S5 S6 S7 S8 S9 S10
  -- the first net
  refine ⟨_, rfl, _, rfl, (by decide), sa, _, rfl, hS, fun nz le ca hca => ?_⟩
  obtain ⟨ks, ek⟩ := pick_ints ns nz
  rw [ek]
  have ka := same_new hca (.lst (ks.map V.int))
  refine ⟨ca, ks, 0, 1, rfl, SqL.of upd_same, fun many us outs t lu lo vu H1 ok1 o3 m3 l12 _ bd g1 ht _ eu rU _ eo => ?_⟩
  have g1 := ka.trans g1
  have o1 : ToldAt K H1 t many us outs := ⟨lu, lo, vu, ht, eu, rU, eo⟩
  -- the other
  refine ⟨_, rfl, _, rfl, _, rfl, (by decide), sa, _, rfl, g1.seq hS, fun nz le ca hca => ?_⟩
  obtain ⟨ks, ek⟩ := pick_ints ns nz
  rw [ek]
  have ka := same_new hca (.lst (ks.map V.int))
  refine ⟨ca, ks, 0, 1, rfl, SqL.of upd_same, fun many2 ws wuts r lu2 lo2 vu2 H2 ok2 p3 n3 k12 _ bd2 g2 ht2 _ eu2 rU2 _ eo2 => ?_⟩
  have g2 := ka.trans g2
  have o2 : ToldAt K H2 r many2 ws wuts := ⟨lu2, lo2, vu2, ht2, eu2, rU2, eo2⟩
  have o1 := o1.mono g2
  have hS := (g1.trans g2).seq hS
  have lv2 := UL.length rU2
  have lv1 := UL.length rU
  -- a number
  have lns : (ns.map V.int).length = ns.length := List.length_map ..
  refine ⟨_, rfl, _, _, rfl, .inl hS, _, rfl, sa, rfl, ⟨_, hS⟩, comp_by (n := ns.length) (fun i ys H' => H' = H2 ∧ ∃ zs : List Int, ys = zs.map V.int) ⟨rfl, [], rfl⟩ (small1000 (by omega)) ?_ ?_ ?_⟩
  case refine_2 =>
    rintro i ys H' hi ⟨rfl, _⟩
    exact ⟨_, _, hS, List.getElem?_eq_getElem (by omega)⟩
  case refine_3 =>
    rintro i m' ys H' cc x H3 hi ⟨rfl, zs, rfl⟩ ⟨rfl, y1⟩ nx _
    obtain ⟨z, ez, rfl⟩ := int_at (y1 _ hS)
    exact Or.inl ⟨rfl, _, rfl, _, _, rfl, rfl, (by show (0 : Int) < 1009; decide), nx _ _ ⟨rfl, zs ++ [z % 1009], by rw [List.map_append]; rfl⟩⟩
  rintro ys H3 ⟨rfl, zs, rfl⟩
  refine ⟨⟨_, hS, by omega⟩, fun D hD => ⟨D, zs, rfl, SqL.of upd_same, _, _, rfl, rfl, _, _, rfl, fun nr n0 _ => ?_⟩⟩
  have k := same_new hD (.lst (zs.map V.int))
  have o1 := o1.mono k
  have o2 := o2.mono k
  have hS := k.seq hS
  generalize upd H3 D (.lst (zs.map V.int)) = H4 at *
  -- a size
  obtain ⟨x1, x2, x3, hu1, e1, r1, _⟩ := id o1
  obtain ⟨y1, y2, y3, hu2, e2, r2, _⟩ := id o2
  have lx := UL.length r1
  have ly := UL.length r2
  refine ⟨_, rfl, _, _, rfl, rfl, cd (by decide) (by decide +kernel), _, _, rfl, rfl, (by show (0 : Int) < 21; decide), _, _, rfl, rfl, _, rfl, _, _, _, _, rfl, rfl, hu1, rfl, _, _, rfl, .inl (SqL.of e1), _, _, rfl, rfl, _, rfl, _, _, _, _, rfl, rfl, hu2, rfl, _, _, rfl, .inl (SqL.of e2), _, _, rfl, rfl, ?_⟩
  dsimp only
  have b := md (show (0 : Int) < 21 by decide) (nr.fdiv 2)
  obtain ⟨sz, hsz, z1, z2⟩ : ∃ sz : Nat, 70 + nr.fdiv 2 % 21 - (x3.length : Int) - (y3.length : Int) = (sz : Int) ∧ 46 ≤ sz ∧ sz + us.length + ws.length ≤ 90 := ⟨(70 + nr.fdiv 2 % 21 - (x3.length : Int) - (y3.length : Int)).toNat, by omega, by omega, by omega⟩
  rw [hsz]
  refine ⟨_, rfl, _, _, rfl, rfl, (by show (0 : Int) < 2; decide), rfl, _, rfl, iteD (fun _ => ?_) (fun _ => ?_)⟩
  · refine ⟨_, rfl, _, rfl, _, _, rfl, rfl, cd (by decide) (by decide +kernel), t, many, sz / 2, us, outs, congrArg (fun z => [V.ref t, V.int z]) (half sz), o1, by omega, by omega, fun t' za H5 g5 la ea o1 => ?_⟩
    refine ⟨_, rfl, _, rfl, _, rfl, _, _, rfl, rfl, cd (by decide) (by decide +kernel), _, _, rfl, rfl, r, many2, sz - sz / 2, ws, wuts, congrArg (fun z => [V.ref r, V.int z]) (show (sz : Int) - (sz : Int).fdiv 2 = ((sz - sz / 2 : Nat) : Int) by rw [half]; omega), o2.mono g5, by omega, by omega, fun r' zb H6' g6 lb eb o2 => ?_⟩
    have ok1 := more_ok ok1 ea (by omega)
    have ok2 := more_ok ok2 eb (by omega)
    have o1 := o1.mono g6
    have hS := (g5.trans g6).seq hS
    generalize us ++ za = us' at *
    generalize ws ++ zb = ws' at *
    -- the box
    obtain ⟨x1, x2, x3, ht, eu, rU, eo⟩ := id o1
    refine ⟨_, rfl, _, rfl, _, _, _, _, rfl, rfl, ht, rfl, sa, ns, 0, many, rfl, hS, by omega, fun ss vS pS H6 lss szs _ g6 eS rS => ?_⟩
    have many1 : 1 ≤ many := ok1.2.2.2.1
    have sz : ∀ s ∈ ss, Bs 1 64 s := fun s hs => (szs s hs).2.1
    intro xc dxc hxc hdxc nec
    have gm : Same H6 (upd (upd H6 dxc (.own xc)) xc (.ins a.c_Box dxc [])) := (same_new hdxc _).trans (same_new (by rw [upd_ne (Ne.symm nec)]; exact hxc) _)
    refine ⟨xc, dxc, pS, vS, ss, rfl, upd_same, SqL.of (gm _ _ eS), rS.mono gm, by omega, by omega, fun s hs => ⟨(szs s hs).1, (sz s hs).1.s9 (by decide) (by decide), (sz s hs).2.s9 (by decide) (by decide)⟩, fun mB vB H7 but _ hB eB rB => ⟨rfl, ?_⟩⟩
    have k7 : Same H6 H7 := fun b u e => but b u (ne_of_none e hxc) (gm _ _ e)
    have k := g6.trans k7
    have o1 := o1.mono k
    have o2 := o2.mono k
    clear k k7 gm but hxc hdxc ht eu rU eo eS rS eB rB hB
    -- nets
    obtain ⟨lu, lo, vu, ht, eu, rU, eo⟩ := id o1
    refine ⟨_, rfl, _, _, _, _, rfl, rfl, ht, rfl, _, rfl, _, _, _, _, rfl, rfl, ht, rfl, lu, _, rfl, .inl (SqL.of eu), fun l3 h3 => ?_⟩
    have k3 := same_new h3 (.lst vu)
    refine ⟨_, rfl, _, _, _, _, rfl, rfl, k3.tup ht, rfl, lo, _, rfl, .inl (SqL.of (k3 _ _ eo)), fun l4 h4 => ?_⟩
    have k4 := same_new h4 (.lst (outV outs))
    have e3 := k4 _ _ (upd_same (H := H7) (a := l3) (o := .lst vu))
    have e4 := upd_same (H := upd H7 l3 (.lst vu)) (a := l4) (o := .lst (outV outs))
    have k := k3.trans k4
    have rU := rU.mono k
    generalize upd (upd H7 l3 (.lst vu)) l4 (.lst (outV outs)) = H8 at *
    intro xn dxn hxn hdxn nen
    have gm : Same H8 (upd (upd H8 dxn (.own xn)) xn (.ins a.c_Net dxn [])) := (same_new hdxn _).trans (same_new (by rw [upd_ne (Ne.symm nen)]; exact hxn) _)
    refine ⟨xn, dxn, l3, l4, many, vu, us', outs, rfl, upd_same, SqL.of (gm _ _ e3), rU.mono gm, SqL.of (gm _ _ e4), ok1.wf.1, fun _ lu2 lo2 vk H9 but _ _ hN ek eo2 rk => ⟨rfl, ?_⟩, fun nf => absurd ok1.wf.2 nf⟩
    have k9 : Same H8 H9 := fun b u e => but b u (ne_of_none e hxn) (gm _ _ e)
    have k := k.trans k9
    have o1 := o1.mono k
    have o2 := o2.mono k
    have N1 : NetHere K a H9 xn many us' outs := ⟨lu2, lo2, vk, hN, SqL.of ek, rk, SqL.of eo2⟩
    clear k k9 gm but hxn hdxn e3 e4 k3 k4 rU eu eo ht hN ek rk eo2
    obtain ⟨lu, lo, vu, ht, eu, rU, eo⟩ := id o2
    refine ⟨_, rfl, _, _, _, _, rfl, rfl, ht, rfl, _, rfl, _, _, _, _, rfl, rfl, ht, rfl, lu, _, rfl, .inl (SqL.of eu), fun l5 h5 => ?_⟩
    have k3 := same_new h5 (.lst vu)
    refine ⟨_, rfl, _, _, _, _, rfl, rfl, k3.tup ht, rfl, lo, _, rfl, .inl (SqL.of (k3 _ _ eo)), fun l6 h6 => ?_⟩
    have k4 := same_new h6 (.lst (outV wuts))
    have e3 := k4 _ _ (upd_same (H := H9) (a := l5) (o := .lst vu))
    have e4 := upd_same (H := upd H9 l5 (.lst vu)) (a := l6) (o := .lst (outV wuts))
    have k := k3.trans k4
    have rU := rU.mono k
    generalize upd (upd H9 l5 (.lst vu)) l6 (.lst (outV wuts)) = H10 at *
    intro xb dxb hxb hdxb neb
    have gm : Same H10 (upd (upd H10 dxb (.own xb)) xb (.ins a.c_Net dxb [])) := (same_new hdxb _).trans (same_new (by rw [upd_ne (Ne.symm neb)]; exact hxb) _)
    refine ⟨xb, dxb, l5, l6, many2, vu, ws', wuts, rfl, upd_same, SqL.of (gm _ _ e3), rU.mono gm, SqL.of (gm _ _ e4), ok2.wf.1, fun _ lu2 lo2 vk H11 but _ _ hN ek eo2 rk => ⟨rfl, ?_⟩, fun nf => absurd ok2.wf.2 nf⟩
    have k9 : Same H10 H11 := fun b u e => but b u (ne_of_none e hxb) (gm _ _ e)
    have k := k.trans k9
    have o1 := o1.mono k
    have o2 := o2.mono k
    have N1 := N1.mono k
    have N2 : NetHere K a H11 xb many2 ws' wuts := ⟨lu2, lo2, vk, hN, SqL.of ek, rk, SqL.of eo2⟩
    clear k k9 gm but hxb hdxb e3 e4 k3 k4 rU eu eo ht hN ek rk eo2
    -- unlike?
    obtain ⟨lu1, lo1, vu1, ht1, eu1, rU1, eo1⟩ := id o1
    obtain ⟨lu2, lo2, vu2, ht2, eu2, rU2, eo2⟩ := id o2
    have lv1 := UL.length rU1
    have lv2 := UL.length rU2
    have ln1 := outV_length outs
    have ln2 := outV_length wuts
    have jf : many = many2 ∧ outs.length = wuts.length → 80 < us'.length + ws'.length → ¬ Fits (joinU many us' ws') (joinO many us' outs wuts) := fun _ h z => by
      have := z.1.1
      unfold joinU at this
      rw [List.length_append, List.length_map] at this
      omega
    refine ⟨_, rfl, _, _, _, _, rfl, rfl, ht1, rfl, _, rfl, _, _, _, _, rfl, rfl, ht2, rfl, rfl, _, rfl, ?_⟩
    by_cases c1 : many = many2
    · subst c1
      refine iteNS rfl ?_
      refine ⟨_, rfl, _, _, _, _, rfl, rfl, ht1, rfl, _, _, rfl, .inl (SqL.of eo1), _, rfl, _, _, _, _, rfl, rfl, ht2, rfl, _, _, rfl, .inl (SqL.of eo2), rfl, _, rfl, ?_⟩
      by_cases c2 : outs.length = wuts.length
      · refine iteNS (congrArg V.int (by omega)) ?_
        refine ⟨_, rfl, _, _, _, _, rfl, rfl, ht1, rfl, _, _, rfl, .inl (SqL.of eu1), _, rfl, _, _, _, _, rfl, rfl, ht2, rfl, _, _, rfl, .inl (SqL.of eu2), _, _, rfl, rfl, _, _, rfl, rfl, _, rfl, iteD (fun c3 => ?_) (fun c3 => ?_)⟩
        · refine ⟨_, rfl, _, rfl, _, rfl, xn, xb, xc, many, many, us', ws', outs, wuts, rfl, N1, N2, ok1, ok2, fun z => jf z (by omega), fun z => absurd ⟨rfl, c2⟩ z, fun _ l H12 g12 e12 => ?_⟩
          refine ⟨(show 4 ≤ sizeLine by decide), fun p8 h8 => ?_⟩
          have g8 := same_new h8 (.lst [.bl false, .bl true, .bl true, .bl false])
          refine ⟨l, p8, _, _, rfl, rfl, SqL.of (g8 _ _ e12), SqL.of upd_same, rfl, rfl, _, rfl, iteF ?_⟩
          have k := g12.trans g8
          obtain ⟨lu3, lo3, vk3, nA, nB, nC, nD⟩ := N1.mono k
          obtain ⟨dA, nA'⟩ := id nA
          refine ⟨_, rfl, xn, dA, _, rfl, nA', rfl, xn, lu3, lo3, many, vk3, us', outs, rfl, nA, nB, nC, ok1.2.1, nD, fun t5 l5 q5 v5 Hy gy hty _ ey ry _ fy => ?_⟩
          have ky := k.trans gy
          obtain ⟨la, lb, va, hta, ea, ra, fa⟩ := o1.mono ky
          refine ⟨_, rfl, t5, t', _, _, rfl, rfl, .inr ⟨hty, hta⟩, told_alike (SqL.of ey) (SqL.of ea) (ry xn _ nA').un ra (SqL.of fy) (SqL.of fa), _, rfl, iteT ?_⟩
          obtain ⟨lu4, lo4, vk4, mA, mB, mC, mD⟩ := N2.mono ky
          obtain ⟨dB, mA'⟩ := id mA
          refine ⟨_, rfl, xb, dB, _, rfl, mA', rfl, xb, lu4, lo4, _, vk4, ws', wuts, rfl, mA, mB, mC, ok2.2.1, mD, fun t6 l6 q6 v6 Hz gz htz _ ez rz _ fz => ?_⟩
          obtain ⟨lc, ld, vc, htc, ec, rc, fc⟩ := o2.mono (ky.trans gz)
          exact ⟨_, rfl, t6, r', _, _, rfl, rfl, .inr ⟨htz, htc⟩, told_alike (SqL.of ez) (SqL.of ec) (rz xb _ mA').un rc (SqL.of fz) (SqL.of fc), q _⟩

        · refine iteF ?_
          have k := Same.refl H11
          obtain ⟨lu3, lo3, vk3, nA, nB, nC, nD⟩ := N1.mono k
          obtain ⟨dA, nA'⟩ := id nA
          refine ⟨_, rfl, xn, dA, _, rfl, nA', rfl, xn, lu3, lo3, many, vk3, us', outs, rfl, nA, nB, nC, ok1.2.1, nD, fun t5 l5 q5 v5 Hy gy hty _ ey ry _ fy => ?_⟩
          have ky := k.trans gy
          obtain ⟨la, lb, va, hta, ea, ra, fa⟩ := o1.mono ky
          refine ⟨_, rfl, t5, t', _, _, rfl, rfl, .inr ⟨hty, hta⟩, told_alike (SqL.of ey) (SqL.of ea) (ry xn _ nA').un ra (SqL.of fy) (SqL.of fa), _, rfl, iteT ?_⟩
          obtain ⟨lu4, lo4, vk4, mA, mB, mC, mD⟩ := N2.mono ky
          obtain ⟨dB, mA'⟩ := id mA
          refine ⟨_, rfl, xb, dB, _, rfl, mA', rfl, xb, lu4, lo4, _, vk4, ws', wuts, rfl, mA, mB, mC, ok2.2.1, mD, fun t6 l6 q6 v6 Hz gz htz _ ez rz _ fz => ?_⟩
          obtain ⟨lc, ld, vc, htc, ec, rc, fc⟩ := o2.mono (ky.trans gz)
          exact ⟨_, rfl, t6, r', _, _, rfl, rfl, .inr ⟨htz, htc⟩, told_alike (SqL.of ez) (SqL.of ec) (rz xb _ mA').un rc (SqL.of fz) (SqL.of fc), q _⟩

      · refine iteNP (fun z => c2 (by have := V.int.inj z; omega)) ?_
        refine ⟨_, rfl, _, rfl, _, rfl, xn, xb, xc, many, many, us', ws', outs, wuts, rfl, N1, N2, ok1, ok2, fun z => absurd z.2 c2, fun _ l H12 g12 e12 => ?_, fun z => absurd z.2 c2⟩
        refine ⟨(show 4 ≤ sizeLine by decide), fun p8 h8 => ?_⟩
        have g8 := same_new h8 (.lst [.bl true, .bl false, .bl true, .bl false])
        exact ⟨l, p8, _, _, rfl, rfl, SqL.of (g8 _ _ e12), SqL.of upd_same, rfl, rfl, q _⟩
    · refine iteNP (fun z => c1 (by have := V.int.inj z; omega)) ?_
      refine ⟨_, rfl, _, rfl, _, rfl, xn, xb, xc, many, many2, us', ws', outs, wuts, rfl, N1, N2, ok1, ok2, fun z => absurd z.1 c1, fun _ l H12 g12 e12 => ?_, fun z => absurd z.1 c1⟩
      refine ⟨(show 4 ≤ sizeLine by decide), fun p8 h8 => ?_⟩
      have g8 := same_new h8 (.lst [.bl true, .bl false, .bl true, .bl false])
      exact ⟨l, p8, _, _, rfl, rfl, SqL.of (g8 _ _ e12), SqL.of upd_same, rfl, rfl, q _⟩

  · generalize us = us' at *
    generalize ws = ws' at *
    generalize t = t' at *
    generalize r = r' at *
    -- the box
    obtain ⟨x1, x2, x3, ht, eu, rU, eo⟩ := id o1
    refine ⟨_, rfl, _, rfl, _, _, _, _, rfl, rfl, ht, rfl, sa, ns, 0, many, rfl, hS, by omega, fun ss vS pS H6 lss szs _ g6 eS rS => ?_⟩
    have many1 : 1 ≤ many := ok1.2.2.2.1
    have sz : ∀ s ∈ ss, Bs 1 64 s := fun s hs => (szs s hs).2.1
    intro xc dxc hxc hdxc nec
    have gm : Same H6 (upd (upd H6 dxc (.own xc)) xc (.ins a.c_Box dxc [])) := (same_new hdxc _).trans (same_new (by rw [upd_ne (Ne.symm nec)]; exact hxc) _)
    refine ⟨xc, dxc, pS, vS, ss, rfl, upd_same, SqL.of (gm _ _ eS), rS.mono gm, by omega, by omega, fun s hs => ⟨(szs s hs).1, (sz s hs).1.s9 (by decide) (by decide), (sz s hs).2.s9 (by decide) (by decide)⟩, fun mB vB H7 but _ hB eB rB => ⟨rfl, ?_⟩⟩
    have k7 : Same H6 H7 := fun b u e => but b u (ne_of_none e hxc) (gm _ _ e)
    have k := g6.trans k7
    have o1 := o1.mono k
    have o2 := o2.mono k
    clear k k7 gm but hxc hdxc ht eu rU eo eS rS eB rB hB
    -- nets
    obtain ⟨lu, lo, vu, ht, eu, rU, eo⟩ := id o1
    refine ⟨_, rfl, _, _, _, _, rfl, rfl, ht, rfl, _, rfl, _, _, _, _, rfl, rfl, ht, rfl, lu, _, rfl, .inl (SqL.of eu), fun l3 h3 => ?_⟩
    have k3 := same_new h3 (.lst vu)
    refine ⟨_, rfl, _, _, _, _, rfl, rfl, k3.tup ht, rfl, lo, _, rfl, .inl (SqL.of (k3 _ _ eo)), fun l4 h4 => ?_⟩
    have k4 := same_new h4 (.lst (outV outs))
    have e3 := k4 _ _ (upd_same (H := H7) (a := l3) (o := .lst vu))
    have e4 := upd_same (H := upd H7 l3 (.lst vu)) (a := l4) (o := .lst (outV outs))
    have k := k3.trans k4
    have rU := rU.mono k
    generalize upd (upd H7 l3 (.lst vu)) l4 (.lst (outV outs)) = H8 at *
    intro xn dxn hxn hdxn nen
    have gm : Same H8 (upd (upd H8 dxn (.own xn)) xn (.ins a.c_Net dxn [])) := (same_new hdxn _).trans (same_new (by rw [upd_ne (Ne.symm nen)]; exact hxn) _)
    refine ⟨xn, dxn, l3, l4, many, vu, us', outs, rfl, upd_same, SqL.of (gm _ _ e3), rU.mono gm, SqL.of (gm _ _ e4), ok1.wf.1, fun _ lu2 lo2 vk H9 but _ _ hN ek eo2 rk => ⟨rfl, ?_⟩, fun nf => absurd ok1.wf.2 nf⟩
    have k9 : Same H8 H9 := fun b u e => but b u (ne_of_none e hxn) (gm _ _ e)
    have k := k.trans k9
    have o1 := o1.mono k
    have o2 := o2.mono k
    have N1 : NetHere K a H9 xn many us' outs := ⟨lu2, lo2, vk, hN, SqL.of ek, rk, SqL.of eo2⟩
    clear k k9 gm but hxn hdxn e3 e4 k3 k4 rU eu eo ht hN ek rk eo2
    obtain ⟨lu, lo, vu, ht, eu, rU, eo⟩ := id o2
    refine ⟨_, rfl, _, _, _, _, rfl, rfl, ht, rfl, _, rfl, _, _, _, _, rfl, rfl, ht, rfl, lu, _, rfl, .inl (SqL.of eu), fun l5 h5 => ?_⟩
    have k3 := same_new h5 (.lst vu)
    refine ⟨_, rfl, _, _, _, _, rfl, rfl, k3.tup ht, rfl, lo, _, rfl, .inl (SqL.of (k3 _ _ eo)), fun l6 h6 => ?_⟩
    have k4 := same_new h6 (.lst (outV wuts))
    have e3 := k4 _ _ (upd_same (H := H9) (a := l5) (o := .lst vu))
    have e4 := upd_same (H := upd H9 l5 (.lst vu)) (a := l6) (o := .lst (outV wuts))
    have k := k3.trans k4
    have rU := rU.mono k
    generalize upd (upd H9 l5 (.lst vu)) l6 (.lst (outV wuts)) = H10 at *
    intro xb dxb hxb hdxb neb
    have gm : Same H10 (upd (upd H10 dxb (.own xb)) xb (.ins a.c_Net dxb [])) := (same_new hdxb _).trans (same_new (by rw [upd_ne (Ne.symm neb)]; exact hxb) _)
    refine ⟨xb, dxb, l5, l6, many2, vu, ws', wuts, rfl, upd_same, SqL.of (gm _ _ e3), rU.mono gm, SqL.of (gm _ _ e4), ok2.wf.1, fun _ lu2 lo2 vk H11 but _ _ hN ek eo2 rk => ⟨rfl, ?_⟩, fun nf => absurd ok2.wf.2 nf⟩
    have k9 : Same H10 H11 := fun b u e => but b u (ne_of_none e hxb) (gm _ _ e)
    have k := k.trans k9
    have o1 := o1.mono k
    have o2 := o2.mono k
    have N1 := N1.mono k
    have N2 : NetHere K a H11 xb many2 ws' wuts := ⟨lu2, lo2, vk, hN, SqL.of ek, rk, SqL.of eo2⟩
    clear k k9 gm but hxb hdxb e3 e4 k3 k4 rU eu eo ht hN ek rk eo2
    -- unlike?
    obtain ⟨lu1, lo1, vu1, ht1, eu1, rU1, eo1⟩ := id o1
    obtain ⟨lu2, lo2, vu2, ht2, eu2, rU2, eo2⟩ := id o2
    have lv1 := UL.length rU1
    have lv2 := UL.length rU2
    have ln1 := outV_length outs
    have ln2 := outV_length wuts
    have jf : many = many2 ∧ outs.length = wuts.length → 80 < us'.length + ws'.length → ¬ Fits (joinU many us' ws') (joinO many us' outs wuts) := fun _ h z => by
      have := z.1.1
      unfold joinU at this
      rw [List.length_append, List.length_map] at this
      omega
    refine ⟨_, rfl, _, _, _, _, rfl, rfl, ht1, rfl, _, rfl, _, _, _, _, rfl, rfl, ht2, rfl, rfl, _, rfl, ?_⟩
    by_cases c1 : many = many2
    · subst c1
      refine iteNS rfl ?_
      refine ⟨_, rfl, _, _, _, _, rfl, rfl, ht1, rfl, _, _, rfl, .inl (SqL.of eo1), _, rfl, _, _, _, _, rfl, rfl, ht2, rfl, _, _, rfl, .inl (SqL.of eo2), rfl, _, rfl, ?_⟩
      by_cases c2 : outs.length = wuts.length
      · refine iteNS (congrArg V.int (by omega)) ?_
        refine ⟨_, rfl, _, _, _, _, rfl, rfl, ht1, rfl, _, _, rfl, .inl (SqL.of eu1), _, rfl, _, _, _, _, rfl, rfl, ht2, rfl, _, _, rfl, .inl (SqL.of eu2), _, _, rfl, rfl, _, _, rfl, rfl, _, rfl, iteD (fun c3 => ?_) (fun c3 => ?_)⟩
        · refine ⟨_, rfl, _, rfl, _, rfl, xn, xb, xc, many, many, us', ws', outs, wuts, rfl, N1, N2, ok1, ok2, fun z => jf z (by omega), fun z => absurd ⟨rfl, c2⟩ z, fun _ l H12 g12 e12 => ?_⟩
          refine ⟨(show 4 ≤ sizeLine by decide), fun p8 h8 => ?_⟩
          have g8 := same_new h8 (.lst [.bl false, .bl true, .bl true, .bl false])
          refine ⟨l, p8, _, _, rfl, rfl, SqL.of (g8 _ _ e12), SqL.of upd_same, rfl, rfl, _, rfl, iteF ?_⟩
          have k := g12.trans g8
          obtain ⟨lu3, lo3, vk3, nA, nB, nC, nD⟩ := N1.mono k
          obtain ⟨dA, nA'⟩ := id nA
          refine ⟨_, rfl, xn, dA, _, rfl, nA', rfl, xn, lu3, lo3, many, vk3, us', outs, rfl, nA, nB, nC, ok1.2.1, nD, fun t5 l5 q5 v5 Hy gy hty _ ey ry _ fy => ?_⟩
          have ky := k.trans gy
          obtain ⟨la, lb, va, hta, ea, ra, fa⟩ := o1.mono ky
          refine ⟨_, rfl, t5, t', _, _, rfl, rfl, .inr ⟨hty, hta⟩, told_alike (SqL.of ey) (SqL.of ea) (ry xn _ nA').un ra (SqL.of fy) (SqL.of fa), _, rfl, iteT ?_⟩
          obtain ⟨lu4, lo4, vk4, mA, mB, mC, mD⟩ := N2.mono ky
          obtain ⟨dB, mA'⟩ := id mA
          refine ⟨_, rfl, xb, dB, _, rfl, mA', rfl, xb, lu4, lo4, _, vk4, ws', wuts, rfl, mA, mB, mC, ok2.2.1, mD, fun t6 l6 q6 v6 Hz gz htz _ ez rz _ fz => ?_⟩
          obtain ⟨lc, ld, vc, htc, ec, rc, fc⟩ := o2.mono (ky.trans gz)
          exact ⟨_, rfl, t6, r', _, _, rfl, rfl, .inr ⟨htz, htc⟩, told_alike (SqL.of ez) (SqL.of ec) (rz xb _ mA').un rc (SqL.of fz) (SqL.of fc), q _⟩

        · refine iteF ?_
          have k := Same.refl H11
          obtain ⟨lu3, lo3, vk3, nA, nB, nC, nD⟩ := N1.mono k
          obtain ⟨dA, nA'⟩ := id nA
          refine ⟨_, rfl, xn, dA, _, rfl, nA', rfl, xn, lu3, lo3, many, vk3, us', outs, rfl, nA, nB, nC, ok1.2.1, nD, fun t5 l5 q5 v5 Hy gy hty _ ey ry _ fy => ?_⟩
          have ky := k.trans gy
          obtain ⟨la, lb, va, hta, ea, ra, fa⟩ := o1.mono ky
          refine ⟨_, rfl, t5, t', _, _, rfl, rfl, .inr ⟨hty, hta⟩, told_alike (SqL.of ey) (SqL.of ea) (ry xn _ nA').un ra (SqL.of fy) (SqL.of fa), _, rfl, iteT ?_⟩
          obtain ⟨lu4, lo4, vk4, mA, mB, mC, mD⟩ := N2.mono ky
          obtain ⟨dB, mA'⟩ := id mA
          refine ⟨_, rfl, xb, dB, _, rfl, mA', rfl, xb, lu4, lo4, _, vk4, ws', wuts, rfl, mA, mB, mC, ok2.2.1, mD, fun t6 l6 q6 v6 Hz gz htz _ ez rz _ fz => ?_⟩
          obtain ⟨lc, ld, vc, htc, ec, rc, fc⟩ := o2.mono (ky.trans gz)
          exact ⟨_, rfl, t6, r', _, _, rfl, rfl, .inr ⟨htz, htc⟩, told_alike (SqL.of ez) (SqL.of ec) (rz xb _ mA').un rc (SqL.of fz) (SqL.of fc), q _⟩

      · refine iteNP (fun z => c2 (by have := V.int.inj z; omega)) ?_
        refine ⟨_, rfl, _, rfl, _, rfl, xn, xb, xc, many, many, us', ws', outs, wuts, rfl, N1, N2, ok1, ok2, fun z => absurd z.2 c2, fun _ l H12 g12 e12 => ?_, fun z => absurd z.2 c2⟩
        refine ⟨(show 4 ≤ sizeLine by decide), fun p8 h8 => ?_⟩
        have g8 := same_new h8 (.lst [.bl true, .bl false, .bl true, .bl false])
        exact ⟨l, p8, _, _, rfl, rfl, SqL.of (g8 _ _ e12), SqL.of upd_same, rfl, rfl, q _⟩
    · refine iteNP (fun z => c1 (by have := V.int.inj z; omega)) ?_
      refine ⟨_, rfl, _, rfl, _, rfl, xn, xb, xc, many, many2, us', ws', outs, wuts, rfl, N1, N2, ok1, ok2, fun z => absurd z.1 c1, fun _ l H12 g12 e12 => ?_, fun z => absurd z.1 c1⟩
      refine ⟨(show 4 ≤ sizeLine by decide), fun p8 h8 => ?_⟩
      have g8 := same_new h8 (.lst [.bl true, .bl false, .bl true, .bl false])
      exact ⟨l, p8, _, _, rfl, rfl, SqL.of (g8 _ _ e12), SqL.of upd_same, rfl, rfl, q _⟩


end
theorem all_mk {l : PySem.W.OpenLaw} {w : World} {K : PySem.W.Frag} {h : Heap} {mg : Str → Option Value} {fa : Addr} (X : K.In h) (G : h.Ns mainGlobals mg) (hfa : mg "law" = some (.ref fa)) (pins : Pins K) :
    ∃ fd : FuncData, (∀ (s : Shared) (v : Value), BindsTo s fd ⟨[v], []⟩ [("_law_script", v)]) ∧ ∀ base : Heap, K.In base → base.Ns mainGlobals mg → FnOk l.prog w K mg base CX0 12 fa fd ["_law_script"] (spLaw K) := by
  refine pins _ ?_
  intro CC_Box CC_Net f0 od0 an0 sl0 oc0 kV0 dc0 pm0 cd0 ct0 f1 od1 an1 sl1 oc1 kV1 dc1 pm1 cd1 ct1 f2 od2 an2 sl2 oc2 kV2 dc2 pm2 cd2 ct2 f3 od3 an3 sl3 oc3 kV3 dc3 pm3 cd3 ct3 f4 od4 an4 sl4 oc4 kV4 dc4 pm4 cd4 ct4 f5 od5 an5 sl5 oc5 kV5 dc5 pm5 cd5 ct5 f6 od6 an6 sl6 oc6 kV6 dc6 pm6 cd6 ct6 f7 od7 an7 sl7 oc7 kV7 dc7 pm7 cd7 ct7 f8 od8 an8 sl8 oc8 kV8 dc8 pm8 cd8 ct8 f9 od9 an9 sl9 oc9 kV9 dc9 pm9 cd9 ct9 f10 od10 an10 sl10 oc10 kV10 dc10 pm10 cd10 ct10 f11 od11 an11 sl11 oc11 kV11 dc11 pm11 cd11 ct11 f12 od12 an12 sl12 oc12 kV12 dc12 pm12 cd12 ct12 f13 od13 an13 sl13 oc13 kV13 dc13 pm13 cd13 ct13 f14 od14 an14 sl14 oc14 kV14 dc14 pm14 cd14 ct14 f15 od15 an15 sl15 oc15 kV15 dc15 pm15 cd15 ct15 f16 od16 an16 sl16 oc16 kV16 dc16 pm16 cd16 ct16 f17 od17 an17 sl17 oc17 kV17 dc17 pm17 cd17 ct17 f18 od18 an18 sl18 oc18 kV18 dc18 pm18 cd18 ct18 f19 od19 an19 sl19 oc19 kV19 dc19 pm19 cd19 ct19 f20 od20 an20 sl20 oc20 kV20 dc20 pm20 cd20 ct20 f21 od21 an21 sl21 oc21 kV21 dc21 pm21 cd21 ct21 f22 od22 an22 sl22 oc22 kV22 dc22 pm22 cd22 ct22 f23 od23 an23 sl23 oc23 kV23 dc23 pm23 cd23 ct23 f24 od24 an24 sl24 oc24 kV24 dc24 pm24 cd24 ct24 f25 od25 an25 sl25 oc25 kV25 dc25 pm25 cd25 ct25 f26 od26 an26 sl26 oc26 kV26 dc26 pm26 cd26 ct26 f27 od27 an27 sl27 oc27 kV27 dc27 pm27 cd27 ct27 f28 od28 an28 sl28 oc28 kV28 dc28 pm28 cd28 ct28 f29 od29 an29 sl29 oc29 kV29 dc29 pm29 cd29 ct29 f30 od30 an30 sl30 oc30 kV30 dc30 pm30 cd30 ct30 f31 od31 an31 sl31 oc31 kV31 dc31 pm31 cd31 ct31 f32 od32 an32 sl32 oc32 kV32 dc32 pm32 cd32 ct32 f33 od33 an33 sl33 oc33 kV33 dc33 pm33 cd33 ct33 C0 C1 C2 C3 C4 C5 C6 tk_MOST_SIDES tk_MOST_BENDS tk_MOST_UNITS tk_MOST_OUTS tk_MOST_INS a0 l0 c0 k0 a1 l1 c1 k1 a2 l2 c2 k2 a3 l3 c3 k3 a4 l4 c4 k4 a5 l5 c5 k5 a6 l6 c6 k6 a7 l7 c7 k7 a8 l8 c8 k8 a9 l9 c9 k9 a10 l10 c10 k10 a11 l11 c11 k11 a12 l12 c12 k12 a13 l13 c13 k13 a14 l14 c14 k14 a15 i15 l15 c15 k15 a16 l16 c16 k16 a17 l17 c17 k17 a18 l18 c18 k18 a19 l19 c19 k19 a20 l20 c20 k20 a21 l21 c21 k21 a22 i22 l22 c22 k22 a23 l23 c23 k23 a24 l24 c24 k24 a25 l25 c25 k25 a26 l26 c26 k26 a27 i27 l27 c27 k27 a28 l28 c28 k28 a29 l29 c29 k29 a30 l30 c30 k30 a31 l31 c31 k31 a32 l32 c32 k32 a33 l33 c33 k33 z0 z1 z2 z3 z4 z5 z6 z7 z8 z9 z10 z11 z12 z13 z14 mC0 mC1 mC2 mC3 mC4 mC5 mC6 x0 x1 x2 y1 y2 y3 y4 y5 y6 y7 w0 wC1 wC2 wC3 wC4 wC5 wC6 x1r1 x2r1 y1r1 y2r1 y3r1 y4r1 y5r1 y6r1 y7r1 w0r1 wC1r1 wC2r1 wC3r1 wC4r1 wC5r1 wC6r1 gBox pgBox hdBox poBox saBox mkBox kcBox naBox_sides gNet pgNet hdNet poNet saNet mkNet kcNet naNet_many naNet_units naNet_outs qMOST_SIDES qMOST_BENDS qMOST_UNITS qMOST_OUTS qMOST_INS
  have e := hfa.symm.trans (PySem.W.mg_of X G a33)
  cases e
  have F0 := fun_mk (st := s_law_cell_at) l0 c0 k0
  have b0 := F0.binds (ps := ["_law_script", "_law_k"]) fun _ _ _ _ _ _ us hl => match us, hl with | [_, _], _ => rfl
  have F1 := fun_mk (st := s_law_mixed) l1 c1 k1
  have b1 := F1.binds (ps := ["_law_cell", "_law_k"]) fun _ _ _ _ _ _ us hl => match us, hl with | [_, _], _ => rfl
  have F2 := fun_mk (st := s_law_wide) l2 c2 k2
  have b2 := F2.binds (ps := ["_law_number", "_law_k"]) fun _ _ _ _ _ _ us hl => match us, hl with | [_, _], _ => rfl
  have F3 := fun_mk (st := s_law_seeds) l3 c3 k3
  have b3 := F3.binds (ps := ["_law_script", "_law_start", "_law_many"]) fun _ _ _ _ _ _ us hl => match us, hl with | [_, _, _], _ => rfl
  have F4 := fun_mk (st := s_law_part) l4 c4 k4
  have b4 := F4.binds (ps := ["_law_top", "_law_bottom"]) fun _ _ _ _ _ _ us hl => match us, hl with | [_, _], _ => rfl
  have F5 := fun_mk (st := s_law_taken) l5 c5 k5
  have b5 := F5.binds (ps := ["_law_number", "_law_great"]) fun _ _ _ _ _ _ us hl => match us, hl with | [_, _], _ => rfl
  have F6 := fun_mk (st := s_law_small) l6 c6 k6
  have b6 := F6.binds (ps := ["_law_number", "_law_great"]) fun _ _ _ _ _ _ us hl => match us, hl with | [_, _], _ => rfl
  have F7 := fun_mk (st := s_law_unit) l7 c7 k7
  have b7 := F7.binds (ps := ["_law_number", "_law_places", "_law_bent", "_law_great"]) fun _ _ _ _ _ _ us hl => match us, hl with | [_, _, _, _], _ => rfl
  have F8 := fun_mk (st := s_law_net) l8 c8 k8
  have b8 := F8.binds (ps := ["_law_script", "_law_start", "_law_most_bends"]) fun _ _ _ _ _ _ us hl => match us, hl with | [_, _, _], _ => rfl
  have F9 := fun_mk (st := s_less) l9 c9 k9
  have b9 := F9.binds (ps := ["one", "other"]) fun _ _ _ _ _ _ us hl => match us, hl with | [_, _], _ => rfl
  have F10 := fun_mk (st := s_plain) l10 c10 k10
  have b10 := F10.binds (ps := ["one"]) fun _ _ _ _ _ _ us hl => match us, hl with | [_], _ => rfl
  have F11 := fun_mk (st := s_common) l11 c11 k11
  have b11 := F11.binds (ps := ["one", "other"]) fun _ _ _ _ _ _ us hl => match us, hl with | [_, _], _ => rfl
  have F12 := fun_mk (st := s_is_whole) l12 c12 k12
  have b12 := F12.binds (ps := ["thing"]) fun _ _ _ _ _ _ us hl => match us, hl with | [_], _ => rfl
  have F13 := fun_mk (st := s_is_ratio) l13 c13 k13
  have b13 := F13.binds (ps := ["thing"]) fun _ _ _ _ _ _ us hl => match us, hl with | [_], _ => rfl
  have F14 := fun_mk (st := s_checked_side) l14 c14 k14
  have b14 := F14.binds (ps := ["side"]) fun _ _ _ _ _ _ us hl => match us, hl with | [_], _ => rfl
  have F15 := fun_mk (st := s_Box_init) l15 c15 k15
  have b15 := F15.binds (ps := ["self", "sides"]) fun _ _ _ _ _ _ us hl => match us, hl with | [_, _], _ => rfl
  have F16 := fun_mk (st := s_checked_place) l16 c16 k16
  have b16 := F16.binds (ps := ["place", "end"]) fun _ _ _ _ _ _ us hl => match us, hl with | [_, _], _ => rfl
  have F17 := fun_mk (st := s_checked_term) l17 c17 k17
  have b17 := F17.binds (ps := ["term", "end"]) fun _ _ _ _ _ _ us hl => match us, hl with | [_, _], _ => rfl
  have F18 := fun_mk (st := s_checked_sum) l18 c18 k18
  have b18 := F18.binds (ps := ["constant", "terms", "end"]) fun _ _ _ _ _ _ us hl => match us, hl with | [_, _, _], _ => rfl
  have F19 := fun_mk (st := s_checked_unit) l19 c19 k19
  have b19 := F19.binds (ps := ["unit", "end"]) fun _ _ _ _ _ _ us hl => match us, hl with | [_, _], _ => rfl
  have F20 := fun_mk (st := s_checked_units) l20 c20 k20
  have b20 := F20.binds (ps := ["units", "many"]) fun _ _ _ _ _ _ us hl => match us, hl with | [_, _], _ => rfl
  have F21 := fun_mk (st := s_checked_outs) l21 c21 k21
  have b21 := F21.binds (ps := ["outs", "end"]) fun _ _ _ _ _ _ us hl => match us, hl with | [_, _], _ => rfl
  have F22 := fun_mk (st := s_Net_init) l22 c22 k22
  have b22 := F22.binds (ps := ["self", "many", "units", "outs"]) fun _ _ _ _ _ _ us hl => match us, hl with | [_, _, _, _], _ => rfl
  have F23 := fun_mk (st := s_law_more) l23 c23 k23
  have b23 := F23.binds (ps := ["_law_told", "_law_size"]) fun _ _ _ _ _ _ us hl => match us, hl with | [_, _], _ => rfl
  have F24 := fun_mk (st := s_law_sum) l24 c24 k24
  have b24 := F24.binds (ps := ["_law_one", "_law_other"]) fun _ _ _ _ _ _ us hl => match us, hl with | [_, _], _ => rfl
  have F25 := fun_mk (st := s_law_sides) l25 c25 k25
  have b25 := F25.binds (ps := ["_law_script", "_law_start", "_law_many"]) fun _ _ _ _ _ _ us hl => match us, hl with | [_, _, _], _ => rfl
  have F26 := fun_mk (st := s_told_unit) l26 c26 k26
  have b26 := F26.binds (ps := ["unit"]) fun _ _ _ _ _ _ us hl => match us, hl with | [_], _ => rfl
  have F27 := fun_mk (st := s_Net_told) l27 c27 k27
  have b27 := F27.binds (ps := ["self"]) fun _ _ _ _ _ _ us hl => match us, hl with | [_], _ => rfl
  have F28 := fun_mk (st := s_moved_place) l28 c28 k28
  have b28 := F28.binds (ps := ["place", "many", "by"]) fun _ _ _ _ _ _ us hl => match us, hl with | [_, _, _], _ => rfl
  have F29 := fun_mk (st := s_moved_unit) l29 c29 k29
  have b29 := F29.binds (ps := ["unit", "many", "by"]) fun _ _ _ _ _ _ us hl => match us, hl with | [_, _, _], _ => rfl
  have F30 := fun_mk (st := s_joined) l30 c30 k30
  have b30 := F30.binds (ps := ["net", "other"]) fun _ _ _ _ _ _ us hl => match us, hl with | [_, _], _ => rfl
  have F31 := fun_mk (st := s_alike) l31 c31 k31
  have b31 := F31.binds (ps := ["net", "other", "box"]) fun _ _ _ _ _ _ us hl => match us, hl with | [_, _, _], _ => rfl
  have F32 := fun_mk (st := s_law_kinds) l32 c32 k32
  have b32 := F32.binds (ps := ["_law_net_here", "_law_beside", "_law_box"]) fun _ _ _ _ _ _ us hl => match us, hl with | [_, _, _], _ => rfl
  have F33 := fun_mk (st := s_law) l33 c33 k33
  have b33 := F33.binds (ps := ["_law_script"]) fun _ _ _ _ _ _ us hl => match us, hl with | [_], _ => rfl
  have T : Txt K mg ⟨_, _, _, _, _, _, _, _, _, _, _, _, _, _, _, _, _, _, _, _, _, _, _, _, _, _, _, _, _, _, _, _, _, _, _, _, _, _, _, _, _, _, _, _, _, _, _, _, _, _, _, _, _, _, _, _, _, _, _, _, _, _, _, _, _, _, _, _, C0, C1, C2, C3, C4, C5, C6, CC_Box, CC_Net, tk_MOST_SIDES, tk_MOST_BENDS, tk_MOST_UNITS, tk_MOST_OUTS, tk_MOST_INS⟩ := ⟨F0, PySem.W.mg_of X G a0, b0, F1, PySem.W.mg_of X G a1, b1, F2, PySem.W.mg_of X G a2, b2, F3, PySem.W.mg_of X G a3, b3, F4, PySem.W.mg_of X G a4, b4, F5, PySem.W.mg_of X G a5, b5, F6, PySem.W.mg_of X G a6, b6, F7, PySem.W.mg_of X G a7, b7, F8, PySem.W.mg_of X G a8, b8, F9, PySem.W.mg_of X G a9, b9, F10, PySem.W.mg_of X G a10, b10, F11, PySem.W.mg_of X G a11, b11, F12, PySem.W.mg_of X G a12, b12, F13, PySem.W.mg_of X G a13, b13, F14, PySem.W.mg_of X G a14, b14, F15, ⟨mkBox, a15, i15, kcBox⟩, b15, F16, PySem.W.mg_of X G a16, b16, F17, PySem.W.mg_of X G a17, b17, F18, PySem.W.mg_of X G a18, b18, F19, PySem.W.mg_of X G a19, b19, F20, PySem.W.mg_of X G a20, b20, F21, PySem.W.mg_of X G a21, b21, F22, ⟨mkNet, a22, i22, kcNet⟩, b22, F23, PySem.W.mg_of X G a23, b23, F24, PySem.W.mg_of X G a24, b24, F25, PySem.W.mg_of X G a25, b25, F26, PySem.W.mg_of X G a26, b26, F27, ⟨a27, i27, k27⟩, b27, F28, PySem.W.mg_of X G a28, b28, F29, PySem.W.mg_of X G a29, b29, F30, PySem.W.mg_of X G a30, b30, F31, PySem.W.mg_of X G a31, b31, F32, PySem.W.mg_of X G a32, b32, F33, PySem.W.mg_of X G a33, b33, PySem.W.mg_none_of X G z0, PySem.W.mg_none_of X G z1, PySem.W.mg_none_of X G z2, PySem.W.mg_none_of X G z3, PySem.W.mg_none_of X G z4, PySem.W.mg_none_of X G z5, PySem.W.mg_none_of X G z6, PySem.W.mg_none_of X G z7, PySem.W.mg_none_of X G z8, PySem.W.mg_none_of X G z9, PySem.W.mg_none_of X G z10, PySem.W.mg_none_of X G z11, PySem.W.mg_none_of X G z12, PySem.W.mg_none_of X G z13, PySem.W.mg_none_of X G z14, PySem.W.mg_of X G mC0, PySem.W.mg_of X G mC1, PySem.W.mg_of X G mC2, PySem.W.mg_of X G mC3, PySem.W.mg_of X G mC4, PySem.W.mg_of X G mC5, PySem.W.mg_of X G mC6, x0, x1, x2, ⟨cls_of_exc x1, y1, y2, y3, y4, y5, y6, y7⟩, w0, wC1, wC2, wC3, wC4, wC5, wC6, x1r1, x2r1, ⟨cls_of_exc x1r1, y1r1, y2r1, y3r1, y4r1, y5r1, y6r1, y7r1⟩, w0r1, wC1r1, wC2r1, wC3r1, wC4r1, wC5r1, wC6r1, ⟨pgBox, hdBox, poBox, saBox⟩, PySem.W.mg_of X G gBox, naBox_sides, ⟨pgNet, hdNet, poNet, saNet⟩, PySem.W.mg_of X G gNet, naNet_many, naNet_units, naNet_outs, PySem.W.mg_of X G qMOST_SIDES, PySem.W.mg_of X G qMOST_BENDS, PySem.W.mg_of X G qMOST_UNITS, PySem.W.mg_of X G qMOST_OUTS, PySem.W.mg_of X G qMOST_INS⟩
  exact ⟨PySem.W.fnOf "law" "law" (defArgs s_law) (defBody s_law) (defScope s_law) .none kV33 dc33 pm33 an33 cd33 ct33, fun s v => .of_eq rfl, fun base _ _ => ok_law T⟩
theorem walk {l : PySem.W.OpenLaw} {q : Program} {loose : List Str} {XP : (Str → Option Value) → Heap → Prop} {YP : World → Heap → Prop} {d : DefRec} {K : Params → PySem.W.Frag} (hn : l.most = some 63) (hdf : d.params.defaults = [])
    (hY : ∀ (w : World) (h : Heap), YP w h → (K w.params).In h)
    (F : ∀ (w : World) (mg : Str → Option Value) (fa : Addr) (h : Heap), (K w.params).In h → h.Ns mainGlobals mg → mg d.name = some (.ref fa) →
      ∃ fd : FuncData, (∀ (s : Shared) (u : Value), BindsTo s fd ⟨[u], []⟩ [("_law_script", u)]) ∧ ∀ base : Heap, (K w.params).In base → base.Ns mainGlobals mg → FnOk l.prog w (K w.params) mg base CX0 12 fa fd ["_law_script"] (spLaw (K w.params))) :
    PySem.W.WalkO q loose XP YP l.row.toRowW d [] (fun f vs => PySem.call f vs) :=
  L2.walk_of (n := 63) (k := 12) (x := "_law_script") (CX := fun _ => CX0) (sp := fun w => spLaw (K w.params)) hn (by decide) hdf ⟨rfl, by decide, by decide⟩ hY F (fun _ _ a ns hl _ hS => ⟨a, ns, rfl, hS, hl, fun _ => rfl⟩) fun _ _ _ _ _ z => z
end BP
open PySem PySem.W PyProof.Rows
set_option maxRecDepth 100000 in
set_option maxHeartbeats 0 in
theorem PySem.Challenge.cw_bendproof_k67_alike_refused_holds : PySem.Challenge.rw_bendproof_k67_alike_refused.Holds := by
  refine BP.early fun hd hn hY hP => BP.walk (l := PySem.Challenge.rw_bendproof_k67_alike_refused) rfl hd hY fun w mg fa h KX G hmg => ?_
  rw [hn] at hmg
  exact BP.all_mk KX G hmg (hP w)

