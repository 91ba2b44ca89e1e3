import PyProof.Rows.All
import Wide.All
import OpenK.AllK
import Wide.FinOn
import Lean
import PyProof.EqAt
import PyProof.EqKinds
import PyProof.TupleCall
import PySem.Challenge.RW_bendproof_k44_right_leaves
set_option Elab.async false
set_option linter.all false
set_option maxRecDepth 100000
set_option maxHeartbeats 4000000
local macro_rules | `(tactic| omega) => `(tactic| first | lia | omega (splitDisjunctions := true))
namespace L2
open PySem
def inClass (s : Stmt) (j : Nat) : Stmt := match s with
 | .ClassDef _ _ _ body _ _ _ _ _ _ _ => body.getD j (.Pass ⟨0, 0, 0, 0⟩)
 | _ => .Pass ⟨0, 0, 0, 0⟩
def zv (s : Stmt) : Arguments := match s with
 | .FunctionDef _ a _ _ _ _ _ _ _ _ => a
 | _ => { posonlyargs := [], args := [], vararg := none, kwonlyargs := [], kw_defaults := [], kwarg := none, defaults := [] }
def qJ (s : Stmt) : List Stmt := match s with
 | .FunctionDef _ _ b _ _ _ _ _ _ _ => b
 | _ => []
def qQ (s : Stmt) : Scope := match s with
 | .FunctionDef _ _ _ _ _ _ sc _ _ _ => sc
 | _ => { kind := .function, names := [], isGenerator := false, isCoroutine := false }
end L2
namespace BP
open PySem L2
def top (i : Nat) : Stmt := PySem.Challenge.pw_bendproof_k44_right_leaves.main.body.getD i (.Pass ⟨0, 0, 0, 0⟩)
abbrev x9 : Stmt := top 76
abbrev QJ : Stmt := top 77
abbrev Zq : Stmt := top 78
abbrev jz : Stmt := top 79
abbrev Zz : Stmt := top 80
abbrev v9 : Stmt := top 83
abbrev QQ : Stmt := top 84
abbrev jX : Stmt := top 85
abbrev yV : Stmt := top 86
abbrev Jy : Stmt := top 11
abbrev Zx : Stmt := top 10
abbrev Zk : Stmt := top 13
abbrev wQ : Stmt := top 52
abbrev s_plain : Stmt := top 14
abbrev kq : Stmt := top 53
abbrev j8 : Stmt := top 54
abbrev j3 : Stmt := top 55
abbrev yJ : Stmt := top 56
abbrev kz : Stmt := top 57
abbrev wk : Stmt := inClass (top 59) 0
abbrev s_less : Stmt := top 19
abbrev j6 : Stmt := top 72
abbrev ZQ : Stmt := inClass (top 74) 0
abbrev QX : Stmt := top 88
abbrev Qx : Stmt := top 58
abbrev Zw : Stmt := inClass (top 59) 1
abbrev xq : Stmt := top 33
abbrev QW : Stmt := inClass (top 59) 4
abbrev YJ : Stmt := top 15
abbrev s_minus : Stmt := top 16
abbrev Qw : Stmt := top 40
abbrev Y0 : Stmt := top 17
abbrev Jw : Stmt := top 25
abbrev Qv : Stmt := top 41
abbrev Qk : Stmt := top 44
abbrev xz : Stmt := top 26
abbrev wz : Stmt := top 42
abbrev vj : Stmt := top 43
abbrev wW : Stmt := top 45
abbrev wq : Stmt := top 35
abbrev yY : Stmt := top 34
abbrev Qy : Stmt := top 24
abbrev QK : Stmt := top 23
abbrev j9 : Stmt := top 36
abbrev vV : Stmt := top 37
abbrev jK : Stmt := top 38
abbrev Zy : Stmt := inClass (top 74) 1
abbrev Jv : Stmt := top 28
abbrev wj : Stmt := top 29
abbrev s_bent : Stmt := top 20
abbrev QV : Stmt := top 30
abbrev Y1 : Stmt := top 31
abbrev Yz : Stmt := top 46
abbrev Yj : Stmt := top 81
abbrev vK : Stmt := top 87
abbrev Zj : Stmt := top 82
abbrev x8 : Stmt := top 90
abbrev qX : Stmt := top 93
abbrev yx : Stmt := top 21
abbrev s_ratio : Stmt := top 12
abbrev s_over : Stmt := top 18
abbrev xW : Stmt := top 61
abbrev vZ : Stmt := top 65
abbrev yQ : Stmt := top 66
abbrev wx : Stmt := top 68
abbrev Zv : Stmt := top 63
abbrev xV : Stmt := top 69
abbrev QZ : Stmt := top 92
abbrev Yx : Stmt := top 39
abbrev jx : Stmt := top 89
abbrev jv : Stmt := top 91
abbrev s_law : Stmt := top 94
def view : Program := { PySem.Challenge.pw_bendproof_k44_right_leaves with main := { PySem.Challenge.pw_bendproof_k44_right_leaves.main with body := [top 94] } }
def others : List Str := [Str.ofString "_wall", Str.ofString "BendError", Str.ofString "NoRatio", Str.ofString "NoBox", Str.ofString "NoNet", Str.ofString "NOUGHT", Str.ofString "ONE", Str.ofString "MINUS_ONE", Str.ofString "is_whole", Str.ofString "common", Str.ofString "ratio", Str.ofString "is_ratio", Str.ofString "plain", Str.ofString "plus", Str.ofString "minus", Str.ofString "times", Str.ofString "over", Str.ofString "less", Str.ofString "bent", Str.ofString "over_one_bottom", Str.ofString "even_form", Str.ofString "lone_form", Str.ofString "scaled", Str.ofString "added_times", Str.ofString "turned", Str.ofString "sum_span", Str.ofString "bend_span", Str.ofString "spans", Str.ofString "bent_places", Str.ofString "variables_in", Str.ofString "variable_count", Str.ofString "terms_form", Str.ofString "bend_form", Str.ofString "forms_in", Str.ofString "form_of", Str.ofString "not_above", Str.ofString "not_below", Str.ofString "cap_row", Str.ofString "bend_rows", Str.ofString "side_rows", Str.ofString "rows_by", Str.ofString "rows_in", Str.ofString "MOST_INS", Str.ofString "MOST_UNITS", Str.ofString "MOST_BENDS", Str.ofString "MOST_OUTS", Str.ofString "checked_place", Str.ofString "checked_term", Str.ofString "checked_sum", Str.ofString "checked_unit", Str.ofString "checked_units", Str.ofString "checked_outs", Str.ofString "told_unit", Str.ofString "Net", Str.ofString "mixed", Str.ofString "all_open", Str.ofString "with_bend", Str.ofString "are_prices", Str.ofString "right_leaf", Str.ofString "right_split", Str.ofString "right_in", Str.ofString "right_tree", Str.ofString "MOST_SIDES", Str.ofString "checked_side", Str.ofString "form_ends", Str.ofString "Box", Str.ofString "_law_cell_at", Str.ofString "_law_mixed", Str.ofString "_law_wide", Str.ofString "_law_seeds", Str.ofString "_law_part", Str.ofString "_law_sum", Str.ofString "_law_many", Str.ofString "_law_taken", Str.ofString "_law_small", Str.ofString "_law_unit", Str.ofString "_law_net", Str.ofString "_law_sides", Str.ofString "_law_bends", Str.ofString "_law_no_ratio", Str.ofString "_law_mix", Str.ofString "_law_leaf", Str.ofString "_law_price", Str.ofString "_law_spoiled"]
theorem map_pair {α β γ : Type} {o : Option α} {f : α → β} {g : α → γ} {x : β} {y : γ} (h1 : o.map f = some x) (h2 : o.map g = some y) : o.map (fun s => (f s, g s)) = some (x, y) := by
 cases o with
 | none => cases h1
 | some s =>
  have a := Option.some.inj h1
  have b := Option.some.inj h2
  rw [← a, ← b]
  rfl
open PySem.W in
def Seen (r : OpenRow) (q : Program) (ls : List Str) (N : Nat) : Prop := ∀ w, (openEnds treeTable r.prog w N).map (fun s => openSeen q ls (importedModules r.prog.main.body) (fun s => xlAt q [] s && recOk r.toRowW.records s) true s) = some (openGood q ls)
open PySem.W in
theorem left_two {r : OpenRow} {q : Program} {ls : List Str} {N : Nat} {α : Type} {Yf : Shared → α} {Ya : World → α} (A : Seen r q ls N) (B : ∀ w, (openEnds treeTable r.prog w N).map Yf = some (Ya w)) :
  LeftO r.prog q ls (fun s => xlAt q [] s && recOk r.toRowW.records s) Yf Ya N := fun w => map_pair (A w) (B w)
open PySem.W in
theorem head {r : OpenRow} {q : Program} {ls : List Str} {d : DefRec} {kwd : List (Str × Expr)} (H : Hook) (N : Nat)
  (A : Seen r q ls N) (B : ∀ w, (openEnds treeTable r.prog w N).map H.obs = some (H.val w))
  (df : defOf q r.name = some (d, kwd)) (pd : r.prog.theDef r.name = some (d.params, d.body, d.scope))
  (kw : kwWritten? d.params.kwonlyargs d.params.kw_defaults = some kwd) (wr : (!r.writes || r.records.isEmpty) = true) (sd : r.wellSaid = true)
  (ok : (chainsOk q && opensWell r.prog && (frees r.toRowW && r.within.isEmpty)) = true) (br : r.prog.bare) (pr : r.toRowW.promised)
  (cl : WalkO q ls (XL q []) H.says r.toRowW d kwd fun f vs => PySem.call f vs) : r.Holds :=
 have both : ∀ s : Shared, (xlAt q [] s && recOk r.toRowW.records s) = true → xlAt q [] s = true ∧ recOk r.toRowW.records s = true := fun s e => by simpa using e
 holds_open (left_two A B) H.of H.keeps (fun s e => xl_of s (both s e).1) XL.keeps df pd kw (fun s e => recFacts_of (both s e).2) wr sd ok br pr cl
open PySem.W in
noncomputable def topG (st : SharedT → Thread → Option (SharedT × Thread)) (ok : Thread → Bool) (N : Nat) : SharedT → Thread → Option SharedT :=
 Nat.rec (fun _ _ => none) (fun _ go s t => cond (through t) (some s) (cond (ok t) ((st s t).bind fun x => go x.1 x.2) none)) N
open PySem.W in
theorem topG_of {tb : String → Option Builtin} {p : Program} {w : World} {m : Nat} {ann : Option Value} (n : Nat) : ∀ (s z : SharedT) (t : Thread), topG (stepT (denote tb) p w) (stepOk m ann) n s t = some z → topRun tb p w m ann n s.abs t = some z.abs := by
 induction n with
 | zero => intro s z t h; cases h
 | succ n ih =>
  intro s z t h
  replace h : cond (through t) (some s) (cond (stepOk m ann t) ((stepT (denote tb) p w s t).bind fun x => topG (stepT (denote tb) p w) (stepOk m ann) n x.1 x.2) none) = some z := h
  unfold topRun
  revert h
  cases through t
  ·cases stepOk m ann t
   ·exact fun h => nomatch h
   ·cases e : stepT (denote tb) p w s t
    ·exact fun h => nomatch h
    ·intro h
     rw [stepT_spec e]
     exact ih _ _ _ h
  ·intro h
   rw [Option.some.inj h]
open PySem.W in
noncomputable def startT (P : Params) (os : OsState) : SharedT :=
 ⟨List.rec (motive := fun _ => BT → Nat → BT) (fun T _ => T) (fun o _ go T n => go (T.ins n o) (n + 1)) (boot_heap P).objs.toList .nil 0, 11, (boot_heap P).life, #[], boot_drawn, boot_toks, os⟩
open PySem.W in
theorem start_abs (P : Params) (os : OsState) : (startT P os).abs = ⟨boot_heap P, #[], boot_drawn, boot_toks, os⟩ := by kernel_rfl
open PySem.W in
noncomputable abbrev runT (p : Program) (N : Nat) (w : World) (os : OsState) : Option SharedT :=
 topG (stepT (denote treeTable) p w) (stepOk 11 ((boot_heap w.params).nsMap mainGlobals "__annotations__")) N (startT w.params os) (topStub p)
open PySem.W in
noncomputable def Calm (p : Program) (w : World) (s : Shared) : Bool := staticsOk (importedModules p.main.body) (boot_heap w.params) s.heap && namesBound p s.heap && gensDone s && laidKept (boot_heap w.params) s.heap
open PySem.W in
def Ends (p : Program) (N : Nat) : Prop := ∀ w : World, ∃ os s, runT p N w os = some s ∧ openEnds treeTable p w N = some s.abs
open PySem.W in
theorem ends_of {p : Program} {N : Nat} (e : opening p = plainProg p.main.scope.names) (hN : Nat.ble 600 N = true) (f : ∀ s, fenceModules? p s = some s)
  (A : ∀ w os, (runT p N w os).map (fun s => Calm p w s.abs) = some true) : Ends p N := by
 intro w
 obtain ⟨⟨h, gs, d, k, os⟩, e1, e2⟩ := Option.map_eq_some_iff.mp (boot_open e hN f w)
 obtain ⟨s, e3, e4⟩ := Option.map_eq_some_iff.mp (A w os)
 refine ⟨os, s, e3, ?_⟩
 obtain ⟨rfl, rfl, rfl, rfl⟩ : h = boot_heap w.params ∧ gs = Array.mk [] ∧ d = boot_drawn ∧ k = boot_toks := by simpa using e2
 have r := topG_of N _ _ _ e3
 rw [start_abs] at r
 unfold openEnds
 rw [e1]
 show topFrom treeTable p w N _ = _
 unfold topFrom
 rw [show ((boot_heap w.params).isNs mainGlobals && (Array.mk [] : Array GenState).size == 0) = true by kernel_rfl, show (boot_heap w.params).objs.size = 11 by rfl]
 dsimp only
 rw [r]
 show (match Calm p w s.abs with | true => some s.abs | false => none) = _
 rw [e4]
open PySem.W in
theorem look_of {p : Program} {N : Nat} {α : Type} {f : Shared → α} {v : World → α} (E : Ends p N) (A : ∀ w os, (runT p N w os).map (fun s => f s.abs) = some (v w)) (w : World) : (openEnds treeTable p w N).map f = some (v w) := by
 obtain ⟨os, s, e1, e2⟩ := E w
 rw [e2, ← A w os, e1]
 rfl
open PySem.W in
def getT (s : SharedT) (a : Addr) : Option Obj := cond (Nat.blt a s.n) (alive ((s.tree.get a).getD default)) none
open PySem.W in
theorem getT_eq (s : SharedT) : s.abs.heap.get? = getT s := by
 funext a
 unfold getT Heap.get?
 rw [show s.abs.heap.objs[a]? = _ from absHeap_at s.tree s.n s.life a]
 by_cases h : a < s.n
 ·rw [if_pos h, show Nat.blt a s.n = true from Nat.ble_eq_true_of_le h]
  show (match some ((s.tree.get a).getD default) with | some ⟨_, _, .freed, _⟩ => none | o => o) = alive ((s.tree.get a).getD default)
  generalize (s.tree.get a).getD default = o
  obtain ⟨c, d, dt, sl⟩ := o
  cases dt <;> rfl
 ·rw [if_neg h]
  cases q : Nat.blt a s.n
  ·rfl
  ·exact absurd (Nat.le_of_ble_eq_true q) h
open PySem.W in
theorem look_k {p : Program} {N : Nat} {K : Params → Frag} {as : List Addr} {e : ∀ P, as = (K P).map (·.1)} (E : Ends p N) (A : ∀ w os, (runT p N w os).map (fun s => as.map (getT s)) = some ((K w.params).map fun p => some p.2)) (w : World) : (openEnds treeTable p w N).map (kHook K as e).obs = some ((kHook K as e).val w) := by
 refine look_of E (fun w os => ?_) w
 refine Eq.trans ?_ (A w os)
 exact congrArg (fun f => Option.map f (runT p N w os)) (funext fun s => by show as.map s.abs.heap.get? = _; rw [getT_eq])
set_option maxHeartbeats 0 in
theorem plainly : Ends (PySem.Challenge.rw_bendproof_k44_right_leaves).row.prog 6000 := by
 refine ends_of (by kernel_rfl) rfl (fun s => by kernel_rfl) ?_
 intro w os
 delta runT Calm
 rw [PySem.W.Fast.te14364793385576792824, PySem.W.Fast.te10156331382660048174, PySem.W.Fast.te11892475500146522536, PySem.W.Fast.te6613529449190102663, PySem.W.Fast.te8920871248978507458, PySem.W.Fast.te5923862056798008813]
 kernel_rfl
set_option maxHeartbeats 0 in
theorem seen : Seen (PySem.Challenge.rw_bendproof_k44_right_leaves).row view others 6000 := by
 refine look_of plainly ?_
 intro w os
 delta runT
 rw [PySem.W.Fast.te14364793385576792824, PySem.W.Fast.te10156331382660048174, PySem.W.Fast.te11892475500146522536, PySem.W.Fast.te6613529449190102663, PySem.W.Fast.te8920871248978507458, PySem.W.Fast.te5923862056798008813, PySem.W.Fast.te4187177175401517315]
 delta PySem.W.Fast.tw4187177175401517315 PySem.W.openGood
 dsimp only
 kernel_rfl
def Pins (K : PySem.W.Frag) : Prop := ∀ C : Prop, (∀ {CC_Box : Addr} {CC_Net : Addr} {f0 : Addr} {od0 an0 : Option Addr} {sl0 : Array (Option Value)} {oc0 kV0 dc0 pm0 cd0 ct0 : Value} {f1 : Addr} {od1 an1 : Option Addr} {sl1 : Array (Option Value)} {oc1 kV1 dc1 pm1 cd1 ct1 : Value} {f2 : Addr} {od2 an2 : Option Addr} {sl2 : Array (Option Value)} {oc2 kV2 dc2 pm2 cd2 ct2 : Value} {f3 : Addr} {od3 an3 : Option Addr} {sl3 : Array (Option Value)} {oc3 kV3 dc3 pm3 cd3 ct3 : Value} {f4 : Addr} {od4 an4 : Option Addr} {sl4 : Array (Option Value)} {oc4 kV4 dc4 pm4 cd4 ct4 : Value} {f5 : Addr} {od5 an5 : Option Addr} {sl5 : Array (Option Value)} {oc5 kV5 dc5 pm5 cd5 ct5 : Value} {f6 : Addr} {od6 an6 : Option Addr} {sl6 : Array (Option Value)} {oc6 kV6 dc6 pm6 cd6 ct6 : Value} {f7 : Addr} {od7 an7 : Option Addr} {sl7 : Array (Option Value)} {oc7 kV7 dc7 pm7 cd7 ct7 : Value} {f8 : Addr} {od8 an8 : Option Addr} {sl8 : Array (Option Value)} {oc8 kV8 dc8 pm8 cd8 ct8 : Value} {f9 : Addr} {od9 an9 : Option Addr} {sl9 : Array (Option Value)} {oc9 kV9 dc9 pm9 cd9 ct9 : Value} {f10 : Addr} {od10 an10 : Option Addr} {sl10 : Array (Option Value)} {oc10 kV10 dc10 pm10 cd10 ct10 : Value} {f11 : Addr} {od11 an11 : Option Addr} {sl11 : Array (Option Value)} {oc11 kV11 dc11 pm11 cd11 ct11 : Value} {f12 : Addr} {od12 an12 : Option Addr} {sl12 : Array (Option Value)} {oc12 kV12 dc12 pm12 cd12 ct12 : Value} {f13 : Addr} {od13 an13 : Option Addr} {sl13 : Array (Option Value)} {oc13 kV13 dc13 pm13 cd13 ct13 : Value} {f14 : Addr} {od14 an14 : Option Addr} {sl14 : Array (Option Value)} {oc14 kV14 dc14 pm14 cd14 ct14 : Value} {f15 : Addr} {od15 an15 : Option Addr} {sl15 : Array (Option Value)} {oc15 kV15 dc15 pm15 cd15 ct15 : Value} {f16 : Addr} {od16 an16 : Option Addr} {sl16 : Array (Option Value)} {oc16 kV16 dc16 pm16 cd16 ct16 : Value} {f17 : Addr} {od17 an17 : Option Addr} {sl17 : Array (Option Value)} {oc17 kV17 dc17 pm17 cd17 ct17 : Value} {f18 : Addr} {od18 an18 : Option Addr} {sl18 : Array (Option Value)} {oc18 kV18 dc18 pm18 cd18 ct18 : Value} {f19 : Addr} {od19 an19 : Option Addr} {sl19 : Array (Option Value)} {oc19 kV19 dc19 pm19 cd19 ct19 : Value} {f20 : Addr} {od20 an20 : Option Addr} {sl20 : Array (Option Value)} {oc20 kV20 dc20 pm20 cd20 ct20 : Value} {f21 : Addr} {od21 an21 : Option Addr} {sl21 : Array (Option Value)} {oc21 kV21 dc21 pm21 cd21 ct21 : Value} {f22 : Addr} {od22 an22 : Option Addr} {sl22 : Array (Option Value)} {oc22 kV22 dc22 pm22 cd22 ct22 : Value} {f23 : Addr} {od23 an23 : Option Addr} {sl23 : Array (Option Value)} {oc23 kV23 dc23 pm23 cd23 ct23 : Value} {f24 : Addr} {od24 an24 : Option Addr} {sl24 : Array (Option Value)} {oc24 kV24 dc24 pm24 cd24 ct24 : Value} {f25 : Addr} {od25 an25 : Option Addr} {sl25 : Array (Option Value)} {oc25 kV25 dc25 pm25 cd25 ct25 : Value} {f26 : Addr} {od26 an26 : Option Addr} {sl26 : Array (Option Value)} {oc26 kV26 dc26 pm26 cd26 ct26 : Value} {f27 : Addr} {od27 an27 : Option Addr} {sl27 : Array (Option Value)} {oc27 kV27 dc27 pm27 cd27 ct27 : Value} {f28 : Addr} {od28 an28 : Option Addr} {sl28 : Array (Option Value)} {oc28 kV28 dc28 pm28 cd28 ct28 : Value} {f29 : Addr} {od29 an29 : Option Addr} {sl29 : Array (Option Value)} {oc29 kV29 dc29 pm29 cd29 ct29 : Value} {f30 : Addr} {od30 an30 : Option Addr} {sl30 : Array (Option Value)} {oc30 kV30 dc30 pm30 cd30 ct30 : Value} {f31 : Addr} {od31 an31 : Option Addr} {sl31 : Array (Option Value)} {oc31 kV31 dc31 pm31 cd31 ct31 : Value} {f32 : Addr} {od32 an32 : Option Addr} {sl32 : Array (Option Value)} {oc32 kV32 dc32 pm32 cd32 ct32 : Value} {f33 : Addr} {od33 an33 : Option Addr} {sl33 : Array (Option Value)} {oc33 kV33 dc33 pm33 cd33 ct33 : Value} {f34 : Addr} {od34 an34 : Option Addr} {sl34 : Array (Option Value)} {oc34 kV34 dc34 pm34 cd34 ct34 : Value} {f35 : Addr} {od35 an35 : Option Addr} {sl35 : Array (Option Value)} {oc35 kV35 dc35 pm35 cd35 ct35 : Value} {f36 : Addr} {od36 an36 : Option Addr} {sl36 : Array (Option Value)} {oc36 kV36 dc36 pm36 cd36 ct36 : Value} {f37 : Addr} {od37 an37 : Option Addr} {sl37 : Array (Option Value)} {oc37 kV37 dc37 pm37 cd37 ct37 : Value} {f38 : Addr} {od38 an38 : Option Addr} {sl38 : Array (Option Value)} {oc38 kV38 dc38 pm38 cd38 ct38 : Value} {f39 : Addr} {od39 an39 : Option Addr} {sl39 : Array (Option Value)} {oc39 kV39 dc39 pm39 cd39 ct39 : Value} {f40 : Addr} {od40 an40 : Option Addr} {sl40 : Array (Option Value)} {oc40 kV40 dc40 pm40 cd40 ct40 : Value} {f41 : Addr} {od41 an41 : Option Addr} {sl41 : Array (Option Value)} {oc41 kV41 dc41 pm41 cd41 ct41 : Value} {f42 : Addr} {od42 an42 : Option Addr} {sl42 : Array (Option Value)} {oc42 kV42 dc42 pm42 cd42 ct42 : Value} {f43 : Addr} {od43 an43 : Option Addr} {sl43 : Array (Option Value)} {oc43 kV43 dc43 pm43 cd43 ct43 : Value} {f44 : Addr} {od44 an44 : Option Addr} {sl44 : Array (Option Value)} {oc44 kV44 dc44 pm44 cd44 ct44 : Value} {f45 : Addr} {od45 an45 : Option Addr} {sl45 : Array (Option Value)} {oc45 kV45 dc45 pm45 cd45 ct45 : Value} {f46 : Addr} {od46 an46 : Option Addr} {sl46 : Array (Option Value)} {oc46 kV46 dc46 pm46 cd46 ct46 : Value} {f47 : Addr} {od47 an47 : Option Addr} {sl47 : Array (Option Value)} {oc47 kV47 dc47 pm47 cd47 ct47 : Value} {f48 : Addr} {od48 an48 : Option Addr} {sl48 : Array (Option Value)} {oc48 kV48 dc48 pm48 cd48 ct48 : Value} {f49 : Addr} {od49 an49 : Option Addr} {sl49 : Array (Option Value)} {oc49 kV49 dc49 pm49 cd49 ct49 : Value} {f50 : Addr} {od50 an50 : Option Addr} {sl50 : Array (Option Value)} {oc50 kV50 dc50 pm50 cd50 ct50 : Value} {f51 : Addr} {od51 an51 : Option Addr} {sl51 : Array (Option Value)} {oc51 kV51 dc51 pm51 cd51 ct51 : Value} {f52 : Addr} {od52 an52 : Option Addr} {sl52 : Array (Option Value)} {oc52 kV52 dc52 pm52 cd52 ct52 : Value} {f53 : Addr} {od53 an53 : Option Addr} {sl53 : Array (Option Value)} {oc53 kV53 dc53 pm53 cd53 ct53 : Value} {f54 : Addr} {od54 an54 : Option Addr} {sl54 : Array (Option Value)} {oc54 kV54 dc54 pm54 cd54 ct54 : Value} {f55 : Addr} {od55 an55 : Option Addr} {sl55 : Array (Option Value)} {oc55 kV55 dc55 pm55 cd55 ct55 : Value} {f56 : Addr} {od56 an56 : Option Addr} {sl56 : Array (Option Value)} {oc56 kV56 dc56 pm56 cd56 ct56 : Value} {f57 : Addr} {od57 an57 : Option Addr} {sl57 : Array (Option Value)} {oc57 kV57 dc57 pm57 cd57 ct57 : Value} {f58 : Addr} {od58 an58 : Option Addr} {sl58 : Array (Option Value)} {oc58 kV58 dc58 pm58 cd58 ct58 : Value} {f59 : Addr} {od59 an59 : Option Addr} {sl59 : Array (Option Value)} {oc59 kV59 dc59 pm59 cd59 ct59 : Value} {f60 : Addr} {od60 an60 : Option Addr} {sl60 : Array (Option Value)} {oc60 kV60 dc60 pm60 cd60 ct60 : Value} {f61 : Addr} {od61 an61 : Option Addr} {sl61 : Array (Option Value)} {oc61 kV61 dc61 pm61 cd61 ct61 : Value} {f62 : Addr} {od62 an62 : Option Addr} {sl62 : Array (Option Value)} {oc62 kV62 dc62 pm62 cd62 ct62 : Value} {f63 : Addr} {od63 an63 : Option Addr} {sl63 : Array (Option Value)} {oc63 kV63 dc63 pm63 cd63 ct63 : Value} {f64 : Addr} {od64 an64 : Option Addr} {sl64 : Array (Option Value)} {oc64 kV64 dc64 pm64 cd64 ct64 : Value} {f65 : Addr} {od65 an65 : Option Addr} {sl65 : Array (Option Value)} {oc65 kV65 dc65 pm65 cd65 ct65 : Value} {f66 : Addr} {od66 an66 : Option Addr} {sl66 : Array (Option Value)} {oc66 kV66 dc66 pm66 cd66 ct66 : Value} {f67 : Addr} {od67 an67 : Option Addr} {sl67 : Array (Option Value)} {oc67 kV67 dc67 pm67 cd67 ct67 : Value} {f68 : Addr} {od68 an68 : Option Addr} {sl68 : Array (Option Value)} {oc68 kV68 dc68 pm68 cd68 ct68 : Value} {f69 : Addr} {od69 an69 : Option Addr} {sl69 : Array (Option Value)} {oc69 kV69 dc69 pm69 cd69 ct69 : Value} {f70 : Addr} {od70 an70 : Option Addr} {sl70 : Array (Option Value)} {oc70 kV70 dc70 pm70 cd70 ct70 : Value} {f71 : Addr} {od71 an71 : Option Addr} {sl71 : Array (Option Value)} {oc71 kV71 dc71 pm71 cd71 ct71 : Value} {tk_MOST_BENDS : Tok} {tk_MOST_UNITS : Tok} {tk_MOST_OUTS : Tok} {tk_MOST_INS : Tok} {tk_MOST_SIDES : Tok} {gg_MINUS_ONE : Addr} {go_MINUS_ONE : Option Addr} {gn_MINUS_ONE : Nat} {gs_MINUS_ONE : Array (Option Value)} {gt0_MINUS_ONE gt1_MINUS_ONE : Tok} {gg_NOUGHT : Addr} {go_NOUGHT : Option Addr} {gn_NOUGHT : Nat} {gs_NOUGHT : Array (Option Value)} {gt0_NOUGHT gt1_NOUGHT : Tok} {gg_ONE : Addr} {go_ONE : Option Addr} {gn_ONE : Nat} {gs_ONE : Array (Option Value)} {gt0_ONE gt1_ONE : Tok}
  (a0 : PySem.W.nsIn K mainGlobals "_law_cell_at" = some (some (.ref f0))) (l0 : K.lookup f0 = some ⟨oc0, od0, .func (PySem.W.fnOf "_law_cell_at" "_law_cell_at" (zv x9) (qJ x9) (qQ x9) .none kV0 dc0 pm0 an0 cd0 ct0), sl0⟩) (c0 : PySem.W.codeIn K cd0 "_law_cell_at" = true) (k0 : PySem.W.keepIn K (.ref f0) = true)
  (a1 : PySem.W.nsIn K mainGlobals "_law_mixed" = some (some (.ref f1))) (l1 : K.lookup f1 = some ⟨oc1, od1, .func (PySem.W.fnOf "_law_mixed" "_law_mixed" (zv QJ) (qJ QJ) (qQ QJ) .none kV1 dc1 pm1 an1 cd1 ct1), sl1⟩) (c1 : PySem.W.codeIn K cd1 "_law_mixed" = true) (k1 : PySem.W.keepIn K (.ref f1) = true)
  (a2 : PySem.W.nsIn K mainGlobals "_law_wide" = some (some (.ref f2))) (l2 : K.lookup f2 = some ⟨oc2, od2, .func (PySem.W.fnOf "_law_wide" "_law_wide" (zv Zq) (qJ Zq) (qQ Zq) .none kV2 dc2 pm2 an2 cd2 ct2), sl2⟩) (c2 : PySem.W.codeIn K cd2 "_law_wide" = true) (k2 : PySem.W.keepIn K (.ref f2) = true)
  (a3 : PySem.W.nsIn K mainGlobals "_law_seeds" = some (some (.ref f3))) (l3 : K.lookup f3 = some ⟨oc3, od3, .func (PySem.W.fnOf "_law_seeds" "_law_seeds" (zv jz) (qJ jz) (qQ jz) .none kV3 dc3 pm3 an3 cd3 ct3), sl3⟩) (c3 : PySem.W.codeIn K cd3 "_law_seeds" = true) (k3 : PySem.W.keepIn K (.ref f3) = true)
  (a4 : PySem.W.nsIn K mainGlobals "_law_part" = some (some (.ref f4))) (l4 : K.lookup f4 = some ⟨oc4, od4, .func (PySem.W.fnOf "_law_part" "_law_part" (zv Zz) (qJ Zz) (qQ Zz) .none kV4 dc4 pm4 an4 cd4 ct4), sl4⟩) (c4 : PySem.W.codeIn K cd4 "_law_part" = true) (k4 : PySem.W.keepIn K (.ref f4) = true)
  (a5 : PySem.W.nsIn K mainGlobals "_law_taken" = some (some (.ref f5))) (l5 : K.lookup f5 = some ⟨oc5, od5, .func (PySem.W.fnOf "_law_taken" "_law_taken" (zv v9) (qJ v9) (qQ v9) .none kV5 dc5 pm5 an5 cd5 ct5), sl5⟩) (c5 : PySem.W.codeIn K cd5 "_law_taken" = true) (k5 : PySem.W.keepIn K (.ref f5) = true)
  (a6 : PySem.W.nsIn K mainGlobals "_law_small" = some (some (.ref f6))) (l6 : K.lookup f6 = some ⟨oc6, od6, .func (PySem.W.fnOf "_law_small" "_law_small" (zv QQ) (qJ QQ) (qQ QQ) .none kV6 dc6 pm6 an6 cd6 ct6), sl6⟩) (c6 : PySem.W.codeIn K cd6 "_law_small" = true) (k6 : PySem.W.keepIn K (.ref f6) = true)
  (a7 : PySem.W.nsIn K mainGlobals "_law_unit" = some (some (.ref f7))) (l7 : K.lookup f7 = some ⟨oc7, od7, .func (PySem.W.fnOf "_law_unit" "_law_unit" (zv jX) (qJ jX) (qQ jX) .none kV7 dc7 pm7 an7 cd7 ct7), sl7⟩) (c7 : PySem.W.codeIn K cd7 "_law_unit" = true) (k7 : PySem.W.keepIn K (.ref f7) = true)
  (a8 : PySem.W.nsIn K mainGlobals "_law_net" = some (some (.ref f8))) (l8 : K.lookup f8 = some ⟨oc8, od8, .func (PySem.W.fnOf "_law_net" "_law_net" (zv yV) (qJ yV) (qQ yV) .none kV8 dc8 pm8 an8 cd8 ct8), sl8⟩) (c8 : PySem.W.codeIn K cd8 "_law_net" = true) (k8 : PySem.W.keepIn K (.ref f8) = true)
  (a9 : PySem.W.nsIn K mainGlobals "common" = some (some (.ref f9))) (l9 : K.lookup f9 = some ⟨oc9, od9, .func (PySem.W.fnOf "common" "common" (zv Jy) (qJ Jy) (qQ Jy) .none kV9 dc9 pm9 an9 cd9 ct9), sl9⟩) (c9 : PySem.W.codeIn K cd9 "common" = true) (k9 : PySem.W.keepIn K (.ref f9) = true)
  (a10 : PySem.W.nsIn K mainGlobals "is_whole" = some (some (.ref f10))) (l10 : K.lookup f10 = some ⟨oc10, od10, .func (PySem.W.fnOf "is_whole" "is_whole" (zv Zx) (qJ Zx) (qQ Zx) .none kV10 dc10 pm10 an10 cd10 ct10), sl10⟩) (c10 : PySem.W.codeIn K cd10 "is_whole" = true) (k10 : PySem.W.keepIn K (.ref f10) = true)
  (a11 : PySem.W.nsIn K mainGlobals "is_ratio" = some (some (.ref f11))) (l11 : K.lookup f11 = some ⟨oc11, od11, .func (PySem.W.fnOf "is_ratio" "is_ratio" (zv Zk) (qJ Zk) (qQ Zk) .none kV11 dc11 pm11 an11 cd11 ct11), sl11⟩) (c11 : PySem.W.codeIn K cd11 "is_ratio" = true) (k11 : PySem.W.keepIn K (.ref f11) = true)
  (a12 : PySem.W.nsIn K mainGlobals "checked_place" = some (some (.ref f12))) (l12 : K.lookup f12 = some ⟨oc12, od12, .func (PySem.W.fnOf "checked_place" "checked_place" (zv wQ) (qJ wQ) (qQ wQ) .none kV12 dc12 pm12 an12 cd12 ct12), sl12⟩) (c12 : PySem.W.codeIn K cd12 "checked_place" = true) (k12 : PySem.W.keepIn K (.ref f12) = true)
  (a13 : PySem.W.nsIn K mainGlobals "plain" = some (some (.ref f13))) (l13 : K.lookup f13 = some ⟨oc13, od13, .func (PySem.W.fnOf "plain" "plain" (zv s_plain) (qJ s_plain) (qQ s_plain) .none kV13 dc13 pm13 an13 cd13 ct13), sl13⟩) (c13 : PySem.W.codeIn K cd13 "plain" = true) (k13 : PySem.W.keepIn K (.ref f13) = true)
  (a14 : PySem.W.nsIn K mainGlobals "checked_term" = some (some (.ref f14))) (l14 : K.lookup f14 = some ⟨oc14, od14, .func (PySem.W.fnOf "checked_term" "checked_term" (zv kq) (qJ kq) (qQ kq) .none kV14 dc14 pm14 an14 cd14 ct14), sl14⟩) (c14 : PySem.W.codeIn K cd14 "checked_term" = true) (k14 : PySem.W.keepIn K (.ref f14) = true)
  (a15 : PySem.W.nsIn K mainGlobals "checked_sum" = some (some (.ref f15))) (l15 : K.lookup f15 = some ⟨oc15, od15, .func (PySem.W.fnOf "checked_sum" "checked_sum" (zv j8) (qJ j8) (qQ j8) .none kV15 dc15 pm15 an15 cd15 ct15), sl15⟩) (c15 : PySem.W.codeIn K cd15 "checked_sum" = true) (k15 : PySem.W.keepIn K (.ref f15) = true)
  (a16 : PySem.W.nsIn K mainGlobals "checked_unit" = some (some (.ref f16))) (l16 : K.lookup f16 = some ⟨oc16, od16, .func (PySem.W.fnOf "checked_unit" "checked_unit" (zv j3) (qJ j3) (qQ j3) .none kV16 dc16 pm16 an16 cd16 ct16), sl16⟩) (c16 : PySem.W.codeIn K cd16 "checked_unit" = true) (k16 : PySem.W.keepIn K (.ref f16) = true)
  (a17 : PySem.W.nsIn K mainGlobals "checked_units" = some (some (.ref f17))) (l17 : K.lookup f17 = some ⟨oc17, od17, .func (PySem.W.fnOf "checked_units" "checked_units" (zv yJ) (qJ yJ) (qQ yJ) .none kV17 dc17 pm17 an17 cd17 ct17), sl17⟩) (c17 : PySem.W.codeIn K cd17 "checked_units" = true) (k17 : PySem.W.keepIn K (.ref f17) = true)
  (a18 : PySem.W.nsIn K mainGlobals "checked_outs" = some (some (.ref f18))) (l18 : K.lookup f18 = some ⟨oc18, od18, .func (PySem.W.fnOf "checked_outs" "checked_outs" (zv kz) (qJ kz) (qQ kz) .none kV18 dc18 pm18 an18 cd18 ct18), sl18⟩) (c18 : PySem.W.codeIn K cd18 "checked_outs" = true) (k18 : PySem.W.keepIn K (.ref f18) = true)
  (a19 : PySem.W.findIn K (.ref CC_Net) "__init__" = some (some (.ref f19))) (i19 : PySem.W.isFn K (.ref f19) = true) (l19 : K.lookup f19 = some ⟨oc19, od19, .func (PySem.W.fnOf "__init__" "Net.__init__" (zv wk) (qJ wk) (qQ wk) .none kV19 dc19 pm19 an19 cd19 ct19), sl19⟩) (c19 : PySem.W.codeIn K cd19 "Net.__init__" = true) (k19 : PySem.W.keepIn K (.ref f19) = true)
  (a20 : PySem.W.nsIn K mainGlobals "less" = some (some (.ref f20))) (l20 : K.lookup f20 = some ⟨oc20, od20, .func (PySem.W.fnOf "less" "less" (zv s_less) (qJ s_less) (qQ s_less) .none kV20 dc20 pm20 an20 cd20 ct20), sl20⟩) (c20 : PySem.W.codeIn K cd20 "less" = true) (k20 : PySem.W.keepIn K (.ref f20) = true)
  (a21 : PySem.W.nsIn K mainGlobals "checked_side" = some (some (.ref f21))) (l21 : K.lookup f21 = some ⟨oc21, od21, .func (PySem.W.fnOf "checked_side" "checked_side" (zv j6) (qJ j6) (qQ j6) .none kV21 dc21 pm21 an21 cd21 ct21), sl21⟩) (c21 : PySem.W.codeIn K cd21 "checked_side" = true) (k21 : PySem.W.keepIn K (.ref f21) = true)
  (a22 : PySem.W.findIn K (.ref CC_Box) "__init__" = some (some (.ref f22))) (i22 : PySem.W.isFn K (.ref f22) = true) (l22 : K.lookup f22 = some ⟨oc22, od22, .func (PySem.W.fnOf "__init__" "Box.__init__" (zv ZQ) (qJ ZQ) (qQ ZQ) .none kV22 dc22 pm22 an22 cd22 ct22), sl22⟩) (c22 : PySem.W.codeIn K cd22 "Box.__init__" = true) (k22 : PySem.W.keepIn K (.ref f22) = true)
  (a23 : PySem.W.nsIn K mainGlobals "_law_bends" = some (some (.ref f23))) (l23 : K.lookup f23 = some ⟨oc23, od23, .func (PySem.W.fnOf "_law_bends" "_law_bends" (zv QX) (qJ QX) (qQ QX) .none kV23 dc23 pm23 an23 cd23 ct23), sl23⟩) (c23 : PySem.W.codeIn K cd23 "_law_bends" = true) (k23 : PySem.W.keepIn K (.ref f23) = true)
  (a24 : PySem.W.nsIn K mainGlobals "told_unit" = some (some (.ref f24))) (l24 : K.lookup f24 = some ⟨oc24, od24, .func (PySem.W.fnOf "told_unit" "told_unit" (zv Qx) (qJ Qx) (qQ Qx) .none kV24 dc24 pm24 an24 cd24 ct24), sl24⟩) (c24 : PySem.W.codeIn K cd24 "told_unit" = true) (k24 : PySem.W.keepIn K (.ref f24) = true)
  (a25 : PySem.W.findIn K (.ref CC_Net) "told" = some (some (.ref f25))) (i25 : PySem.W.isFn K (.ref f25) = true) (l25 : K.lookup f25 = some ⟨oc25, od25, .func (PySem.W.fnOf "told" "Net.told" (zv Zw) (qJ Zw) (qQ Zw) .none kV25 dc25 pm25 an25 cd25 ct25), sl25⟩) (c25 : PySem.W.codeIn K cd25 "Net.told" = true) (k25 : PySem.W.keepIn K (.ref f25) = true)
  (a26 : PySem.W.nsIn K mainGlobals "bent_places" = some (some (.ref f26))) (l26 : K.lookup f26 = some ⟨oc26, od26, .func (PySem.W.fnOf "bent_places" "bent_places" (zv xq) (qJ xq) (qQ xq) .none kV26 dc26 pm26 an26 cd26 ct26), sl26⟩) (c26 : PySem.W.codeIn K cd26 "bent_places" = true) (k26 : PySem.W.keepIn K (.ref f26) = true)
  (a27 : PySem.W.findIn K (.ref CC_Net) "bends" = some (some (.ref f27))) (i27 : PySem.W.isFn K (.ref f27) = true) (l27 : K.lookup f27 = some ⟨oc27, od27, .func (PySem.W.fnOf "bends" "Net.bends" (zv QW) (qJ QW) (qQ QW) .none kV27 dc27 pm27 an27 cd27 ct27), sl27⟩) (c27 : PySem.W.codeIn K cd27 "Net.bends" = true) (k27 : PySem.W.keepIn K (.ref f27) = true)
  (a28 : PySem.W.nsIn K mainGlobals "plus" = some (some (.ref f28))) (l28 : K.lookup f28 = some ⟨oc28, od28, .func (PySem.W.fnOf "plus" "plus" (zv YJ) (qJ YJ) (qQ YJ) .none kV28 dc28 pm28 an28 cd28 ct28), sl28⟩) (c28 : PySem.W.codeIn K cd28 "plus" = true) (k28 : PySem.W.keepIn K (.ref f28) = true)
  (a29 : PySem.W.nsIn K mainGlobals "minus" = some (some (.ref f29))) (l29 : K.lookup f29 = some ⟨oc29, od29, .func (PySem.W.fnOf "minus" "minus" (zv s_minus) (qJ s_minus) (qQ s_minus) .none kV29 dc29 pm29 an29 cd29 ct29), sl29⟩) (c29 : PySem.W.codeIn K cd29 "minus" = true) (k29 : PySem.W.keepIn K (.ref f29) = true)
  (a30 : PySem.W.nsIn K mainGlobals "not_above" = some (some (.ref f30))) (l30 : K.lookup f30 = some ⟨oc30, od30, .func (PySem.W.fnOf "not_above" "not_above" (zv Qw) (qJ Qw) (qQ Qw) .none kV30 dc30 pm30 an30 cd30 ct30), sl30⟩) (c30 : PySem.W.codeIn K cd30 "not_above" = true) (k30 : PySem.W.keepIn K (.ref f30) = true)
  (a31 : PySem.W.nsIn K mainGlobals "times" = some (some (.ref f31))) (l31 : K.lookup f31 = some ⟨oc31, od31, .func (PySem.W.fnOf "times" "times" (zv Y0) (qJ Y0) (qQ Y0) .none kV31 dc31 pm31 an31 cd31 ct31), sl31⟩) (c31 : PySem.W.codeIn K cd31 "times" = true) (k31 : PySem.W.keepIn K (.ref f31) = true)
  (a32 : PySem.W.nsIn K mainGlobals "scaled" = some (some (.ref f32))) (l32 : K.lookup f32 = some ⟨oc32, od32, .func (PySem.W.fnOf "scaled" "scaled" (zv Jw) (qJ Jw) (qQ Jw) .none kV32 dc32 pm32 an32 cd32 ct32), sl32⟩) (c32 : PySem.W.codeIn K cd32 "scaled" = true) (k32 : PySem.W.keepIn K (.ref f32) = true)
  (a33 : PySem.W.nsIn K mainGlobals "not_below" = some (some (.ref f33))) (l33 : K.lookup f33 = some ⟨oc33, od33, .func (PySem.W.fnOf "not_below" "not_below" (zv Qv) (qJ Qv) (qQ Qv) .none kV33 dc33 pm33 an33 cd33 ct33), sl33⟩) (c33 : PySem.W.codeIn K cd33 "not_below" = true) (k33 : PySem.W.keepIn K (.ref f33) = true)
  (a34 : PySem.W.nsIn K mainGlobals "side_rows" = some (some (.ref f34))) (l34 : K.lookup f34 = some ⟨oc34, od34, .func (PySem.W.fnOf "side_rows" "side_rows" (zv Qk) (qJ Qk) (qQ Qk) .none kV34 dc34 pm34 an34 cd34 ct34), sl34⟩) (c34 : PySem.W.codeIn K cd34 "side_rows" = true) (k34 : PySem.W.keepIn K (.ref f34) = true)
  (a35 : PySem.W.nsIn K mainGlobals "added_times" = some (some (.ref f35))) (l35 : K.lookup f35 = some ⟨oc35, od35, .func (PySem.W.fnOf "added_times" "added_times" (zv xz) (qJ xz) (qQ xz) .none kV35 dc35 pm35 an35 cd35 ct35), sl35⟩) (c35 : PySem.W.codeIn K cd35 "added_times" = true) (k35 : PySem.W.keepIn K (.ref f35) = true)
  (a36 : PySem.W.nsIn K mainGlobals "cap_row" = some (some (.ref f36))) (l36 : K.lookup f36 = some ⟨oc36, od36, .func (PySem.W.fnOf "cap_row" "cap_row" (zv wz) (qJ wz) (qQ wz) .none kV36 dc36 pm36 an36 cd36 ct36), sl36⟩) (c36 : PySem.W.codeIn K cd36 "cap_row" = true) (k36 : PySem.W.keepIn K (.ref f36) = true)
  (a37 : PySem.W.nsIn K mainGlobals "bend_rows" = some (some (.ref f37))) (l37 : K.lookup f37 = some ⟨oc37, od37, .func (PySem.W.fnOf "bend_rows" "bend_rows" (zv vj) (qJ vj) (qQ vj) .none kV37 dc37 pm37 an37 cd37 ct37), sl37⟩) (c37 : PySem.W.codeIn K cd37 "bend_rows" = true) (k37 : PySem.W.keepIn K (.ref f37) = true)
  (a38 : PySem.W.nsIn K mainGlobals "rows_by" = some (some (.ref f38))) (l38 : K.lookup f38 = some ⟨oc38, od38, .func (PySem.W.fnOf "rows_by" "rows_by" (zv wW) (qJ wW) (qQ wW) .none kV38 dc38 pm38 an38 cd38 ct38), sl38⟩) (c38 : PySem.W.codeIn K cd38 "rows_by" = true) (k38 : PySem.W.keepIn K (.ref f38) = true)
  (a39 : PySem.W.nsIn K mainGlobals "variable_count" = some (some (.ref f39))) (l39 : K.lookup f39 = some ⟨oc39, od39, .func (PySem.W.fnOf "variable_count" "variable_count" (zv wq) (qJ wq) (qQ wq) .none kV39 dc39 pm39 an39 cd39 ct39), sl39⟩) (c39 : PySem.W.codeIn K cd39 "variable_count" = true) (k39 : PySem.W.keepIn K (.ref f39) = true)
  (a40 : PySem.W.nsIn K mainGlobals "variables_in" = some (some (.ref f40))) (l40 : K.lookup f40 = some ⟨oc40, od40, .func (PySem.W.fnOf "variables_in" "variables_in" (zv yY) (qJ yY) (qQ yY) .none kV40 dc40 pm40 an40 cd40 ct40), sl40⟩) (c40 : PySem.W.codeIn K cd40 "variables_in" = true) (k40 : PySem.W.keepIn K (.ref f40) = true)
  (a41 : PySem.W.nsIn K mainGlobals "lone_form" = some (some (.ref f41))) (l41 : K.lookup f41 = some ⟨oc41, od41, .func (PySem.W.fnOf "lone_form" "lone_form" (zv Qy) (qJ Qy) (qQ Qy) .none kV41 dc41 pm41 an41 cd41 ct41), sl41⟩) (c41 : PySem.W.codeIn K cd41 "lone_form" = true) (k41 : PySem.W.keepIn K (.ref f41) = true)
  (a42 : PySem.W.nsIn K mainGlobals "even_form" = some (some (.ref f42))) (l42 : K.lookup f42 = some ⟨oc42, od42, .func (PySem.W.fnOf "even_form" "even_form" (zv QK) (qJ QK) (qQ QK) .none kV42 dc42 pm42 an42 cd42 ct42), sl42⟩) (c42 : PySem.W.codeIn K cd42 "even_form" = true) (k42 : PySem.W.keepIn K (.ref f42) = true)
  (a43 : PySem.W.nsIn K mainGlobals "terms_form" = some (some (.ref f43))) (l43 : K.lookup f43 = some ⟨oc43, od43, .func (PySem.W.fnOf "terms_form" "terms_form" (zv j9) (qJ j9) (qQ j9) .none kV43 dc43 pm43 an43 cd43 ct43), sl43⟩) (c43 : PySem.W.codeIn K cd43 "terms_form" = true) (k43 : PySem.W.keepIn K (.ref f43) = true)
  (a44 : PySem.W.nsIn K mainGlobals "bend_form" = some (some (.ref f44))) (l44 : K.lookup f44 = some ⟨oc44, od44, .func (PySem.W.fnOf "bend_form" "bend_form" (zv vV) (qJ vV) (qQ vV) .none kV44 dc44 pm44 an44 cd44 ct44), sl44⟩) (c44 : PySem.W.codeIn K cd44 "bend_form" = true) (k44 : PySem.W.keepIn K (.ref f44) = true)
  (a45 : PySem.W.nsIn K mainGlobals "forms_in" = some (some (.ref f45))) (l45 : K.lookup f45 = some ⟨oc45, od45, .func (PySem.W.fnOf "forms_in" "forms_in" (zv jK) (qJ jK) (qQ jK) .none kV45 dc45 pm45 an45 cd45 ct45), sl45⟩) (c45 : PySem.W.codeIn K cd45 "forms_in" = true) (k45 : PySem.W.keepIn K (.ref f45) = true)
  (a46 : PySem.W.findIn K (.ref CC_Box) "told" = some (some (.ref f46))) (i46 : PySem.W.isFn K (.ref f46) = true) (l46 : K.lookup f46 = some ⟨oc46, od46, .func (PySem.W.fnOf "told" "Box.told" (zv Zy) (qJ Zy) (qQ Zy) .none kV46 dc46 pm46 an46 cd46 ct46), sl46⟩) (c46 : PySem.W.codeIn K cd46 "Box.told" = true) (k46 : PySem.W.keepIn K (.ref f46) = true)
  (a47 : PySem.W.nsIn K mainGlobals "turned" = some (some (.ref f47))) (l47 : K.lookup f47 = some ⟨oc47, od47, .func (PySem.W.fnOf "turned" "turned" (zv Jv) (qJ Jv) (qQ Jv) .none kV47 dc47 pm47 an47 cd47 ct47), sl47⟩) (c47 : PySem.W.codeIn K cd47 "turned" = true) (k47 : PySem.W.keepIn K (.ref f47) = true)
  (a48 : PySem.W.nsIn K mainGlobals "sum_span" = some (some (.ref f48))) (l48 : K.lookup f48 = some ⟨oc48, od48, .func (PySem.W.fnOf "sum_span" "sum_span" (zv wj) (qJ wj) (qQ wj) .none kV48 dc48 pm48 an48 cd48 ct48), sl48⟩) (c48 : PySem.W.codeIn K cd48 "sum_span" = true) (k48 : PySem.W.keepIn K (.ref f48) = true)
  (a49 : PySem.W.nsIn K mainGlobals "bent" = some (some (.ref f49))) (l49 : K.lookup f49 = some ⟨oc49, od49, .func (PySem.W.fnOf "bent" "bent" (zv s_bent) (qJ s_bent) (qQ s_bent) .none kV49 dc49 pm49 an49 cd49 ct49), sl49⟩) (c49 : PySem.W.codeIn K cd49 "bent" = true) (k49 : PySem.W.keepIn K (.ref f49) = true)
  (a50 : PySem.W.nsIn K mainGlobals "bend_span" = some (some (.ref f50))) (l50 : K.lookup f50 = some ⟨oc50, od50, .func (PySem.W.fnOf "bend_span" "bend_span" (zv QV) (qJ QV) (qQ QV) .none kV50 dc50 pm50 an50 cd50 ct50), sl50⟩) (c50 : PySem.W.codeIn K cd50 "bend_span" = true) (k50 : PySem.W.keepIn K (.ref f50) = true)
  (a51 : PySem.W.nsIn K mainGlobals "spans" = some (some (.ref f51))) (l51 : K.lookup f51 = some ⟨oc51, od51, .func (PySem.W.fnOf "spans" "spans" (zv Y1) (qJ Y1) (qQ Y1) .none kV51 dc51 pm51 an51 cd51 ct51), sl51⟩) (c51 : PySem.W.codeIn K cd51 "spans" = true) (k51 : PySem.W.keepIn K (.ref f51) = true)
  (a52 : PySem.W.nsIn K mainGlobals "rows_in" = some (some (.ref f52))) (l52 : K.lookup f52 = some ⟨oc52, od52, .func (PySem.W.fnOf "rows_in" "rows_in" (zv Yz) (qJ Yz) (qQ Yz) .none kV52 dc52 pm52 an52 cd52 ct52), sl52⟩) (c52 : PySem.W.codeIn K cd52 "rows_in" = true) (k52 : PySem.W.keepIn K (.ref f52) = true)
  (a53 : PySem.W.nsIn K mainGlobals "_law_sum" = some (some (.ref f53))) (l53 : K.lookup f53 = some ⟨oc53, od53, .func (PySem.W.fnOf "_law_sum" "_law_sum" (zv Yj) (qJ Yj) (qQ Yj) .none kV53 dc53 pm53 an53 cd53 ct53), sl53⟩) (c53 : PySem.W.codeIn K cd53 "_law_sum" = true) (k53 : PySem.W.keepIn K (.ref f53) = true)
  (a54 : PySem.W.nsIn K mainGlobals "_law_sides" = some (some (.ref f54))) (l54 : K.lookup f54 = some ⟨oc54, od54, .func (PySem.W.fnOf "_law_sides" "_law_sides" (zv vK) (qJ vK) (qQ vK) .none kV54 dc54 pm54 an54 cd54 ct54), sl54⟩) (c54 : PySem.W.codeIn K cd54 "_law_sides" = true) (k54 : PySem.W.keepIn K (.ref f54) = true)
  (a55 : PySem.W.nsIn K mainGlobals "_law_many" = some (some (.ref f55))) (l55 : K.lookup f55 = some ⟨oc55, od55, .func (PySem.W.fnOf "_law_many" "_law_many" (zv Zj) (qJ Zj) (qQ Zj) .none kV55 dc55 pm55 an55 cd55 ct55), sl55⟩) (c55 : PySem.W.codeIn K cd55 "_law_many" = true) (k55 : PySem.W.keepIn K (.ref f55) = true)
  (a56 : PySem.W.nsIn K mainGlobals "_law_mix" = some (some (.ref f56))) (l56 : K.lookup f56 = some ⟨oc56, od56, .func (PySem.W.fnOf "_law_mix" "_law_mix" (zv x8) (qJ x8) (qQ x8) .none kV56 dc56 pm56 an56 cd56 ct56), sl56⟩) (c56 : PySem.W.codeIn K cd56 "_law_mix" = true) (k56 : PySem.W.keepIn K (.ref f56) = true)
  (a57 : PySem.W.nsIn K mainGlobals "_law_spoiled" = some (some (.ref f57))) (l57 : K.lookup f57 = some ⟨oc57, od57, .func (PySem.W.fnOf "_law_spoiled" "_law_spoiled" (zv qX) (qJ qX) (qQ qX) .none kV57 dc57 pm57 an57 cd57 ct57), sl57⟩) (c57 : PySem.W.codeIn K cd57 "_law_spoiled" = true) (k57 : PySem.W.keepIn K (.ref f57) = true)
  (a58 : PySem.W.nsIn K mainGlobals "over_one_bottom" = some (some (.ref f58))) (l58 : K.lookup f58 = some ⟨oc58, od58, .func (PySem.W.fnOf "over_one_bottom" "over_one_bottom" (zv yx) (qJ yx) (qQ yx) .none kV58 dc58 pm58 an58 cd58 ct58), sl58⟩) (c58 : PySem.W.codeIn K cd58 "over_one_bottom" = true) (k58 : PySem.W.keepIn K (.ref f58) = true)
  (a59 : PySem.W.nsIn K mainGlobals "ratio" = some (some (.ref f59))) (l59 : K.lookup f59 = some ⟨oc59, od59, .func (PySem.W.fnOf "ratio" "ratio" (zv s_ratio) (qJ s_ratio) (qQ s_ratio) .none kV59 dc59 pm59 an59 cd59 ct59), sl59⟩) (c59 : PySem.W.codeIn K cd59 "ratio" = true) (k59 : PySem.W.keepIn K (.ref f59) = true)
  (a60 : PySem.W.nsIn K mainGlobals "over" = some (some (.ref f60))) (l60 : K.lookup f60 = some ⟨oc60, od60, .func (PySem.W.fnOf "over" "over" (zv s_over) (qJ s_over) (qQ s_over) .none kV60 dc60 pm60 an60 cd60 ct60), sl60⟩) (c60 : PySem.W.codeIn K cd60 "over" = true) (k60 : PySem.W.keepIn K (.ref f60) = true)
  (a61 : PySem.W.nsIn K mainGlobals "mixed" = some (some (.ref f61))) (l61 : K.lookup f61 = some ⟨oc61, od61, .func (PySem.W.fnOf "mixed" "mixed" (zv xW) (qJ xW) (qQ xW) .none kV61 dc61 pm61 an61 cd61 ct61), sl61⟩) (c61 : PySem.W.codeIn K cd61 "mixed" = true) (k61 : PySem.W.keepIn K (.ref f61) = true)
  (a62 : PySem.W.nsIn K mainGlobals "are_prices" = some (some (.ref f62))) (l62 : K.lookup f62 = some ⟨oc62, od62, .func (PySem.W.fnOf "are_prices" "are_prices" (zv vZ) (qJ vZ) (qQ vZ) .none kV62 dc62 pm62 an62 cd62 ct62), sl62⟩) (c62 : PySem.W.codeIn K cd62 "are_prices" = true) (k62 : PySem.W.keepIn K (.ref f62) = true)
  (a63 : PySem.W.nsIn K mainGlobals "right_leaf" = some (some (.ref f63))) (l63 : K.lookup f63 = some ⟨oc63, od63, .func (PySem.W.fnOf "right_leaf" "right_leaf" (zv yQ) (qJ yQ) (qQ yQ) .none kV63 dc63 pm63 an63 cd63 ct63), sl63⟩) (c63 : PySem.W.codeIn K cd63 "right_leaf" = true) (k63 : PySem.W.keepIn K (.ref f63) = true)
  (a64 : PySem.W.nsIn K mainGlobals "right_in" = some (some (.ref f64))) (l64 : K.lookup f64 = some ⟨oc64, od64, .func (PySem.W.fnOf "right_in" "right_in" (zv wx) (qJ wx) (qQ wx) .none kV64 dc64 pm64 an64 cd64 ct64), sl64⟩) (c64 : PySem.W.codeIn K cd64 "right_in" = true) (k64 : PySem.W.keepIn K (.ref f64) = true)
  (a65 : PySem.W.nsIn K mainGlobals "all_open" = some (some (.ref f65))) (l65 : K.lookup f65 = some ⟨oc65, od65, .func (PySem.W.fnOf "all_open" "all_open" (zv Zv) (qJ Zv) (qQ Zv) .none kV65 dc65 pm65 an65 cd65 ct65), sl65⟩) (c65 : PySem.W.codeIn K cd65 "all_open" = true) (k65 : PySem.W.keepIn K (.ref f65) = true)
  (a66 : PySem.W.nsIn K mainGlobals "right_tree" = some (some (.ref f66))) (l66 : K.lookup f66 = some ⟨oc66, od66, .func (PySem.W.fnOf "right_tree" "right_tree" (zv xV) (qJ xV) (qQ xV) .none kV66 dc66 pm66 an66 cd66 ct66), sl66⟩) (c66 : PySem.W.codeIn K cd66 "right_tree" = true) (k66 : PySem.W.keepIn K (.ref f66) = true)
  (a67 : PySem.W.nsIn K mainGlobals "_law_price" = some (some (.ref f67))) (l67 : K.lookup f67 = some ⟨oc67, od67, .func (PySem.W.fnOf "_law_price" "_law_price" (zv QZ) (qJ QZ) (qQ QZ) .none kV67 dc67 pm67 an67 cd67 ct67), sl67⟩) (c67 : PySem.W.codeIn K cd67 "_law_price" = true) (k67 : PySem.W.keepIn K (.ref f67) = true)
  (a68 : PySem.W.nsIn K mainGlobals "form_of" = some (some (.ref f68))) (l68 : K.lookup f68 = some ⟨oc68, od68, .func (PySem.W.fnOf "form_of" "form_of" (zv Yx) (qJ Yx) (qQ Yx) .none kV68 dc68 pm68 an68 cd68 ct68), sl68⟩) (c68 : PySem.W.codeIn K cd68 "form_of" = true) (k68 : PySem.W.keepIn K (.ref f68) = true)
  (a69 : PySem.W.nsIn K mainGlobals "_law_no_ratio" = some (some (.ref f69))) (l69 : K.lookup f69 = some ⟨oc69, od69, .func (PySem.W.fnOf "_law_no_ratio" "_law_no_ratio" (zv jx) (qJ jx) (qQ jx) .none kV69 dc69 pm69 an69 cd69 ct69), sl69⟩) (c69 : PySem.W.codeIn K cd69 "_law_no_ratio" = true) (k69 : PySem.W.keepIn K (.ref f69) = true)
  (a70 : PySem.W.nsIn K mainGlobals "_law_leaf" = some (some (.ref f70))) (l70 : K.lookup f70 = some ⟨oc70, od70, .func (PySem.W.fnOf "_law_leaf" "_law_leaf" (zv jv) (qJ jv) (qQ jv) .none kV70 dc70 pm70 an70 cd70 ct70), sl70⟩) (c70 : PySem.W.codeIn K cd70 "_law_leaf" = true) (k70 : PySem.W.keepIn K (.ref f70) = true)
  (a71 : PySem.W.nsIn K mainGlobals "law" = some (some (.ref f71))) (l71 : K.lookup f71 = some ⟨oc71, od71, .func (PySem.W.fnOf "law" "law" (zv s_law) (qJ s_law) (qQ s_law) .none kV71 dc71 pm71 an71 cd71 ct71), sl71⟩) (c71 : PySem.W.codeIn K cd71 "law" = true) (k71 : PySem.W.keepIn K (.ref f71) = true)
  (z0 : PySem.W.nsIn K mainGlobals "len" = some none)
  (z1 : PySem.W.nsIn K mainGlobals "range" = some none)
  (z2 : PySem.W.nsIn K mainGlobals "enumerate" = some none)
  (z3 : PySem.W.nsIn K mainGlobals "abs" = some none)
  (z4 : PySem.W.nsIn K mainGlobals "divmod" = some none)
  (z5 : PySem.W.nsIn K mainGlobals "list" = some none)
  (z6 : PySem.W.nsIn K mainGlobals "min" = some none)
  (z7 : PySem.W.nsIn K mainGlobals "int" = some none)
  (z8 : PySem.W.nsIn K mainGlobals "isinstance" = some none)
  (z9 : PySem.W.nsIn K mainGlobals "bool" = some none)
  (z10 : PySem.W.nsIn K mainGlobals "tuple" = some none)
  (z11 : PySem.W.nsIn K mainGlobals "set" = some none)
  (z12 : PySem.W.nsIn K mainGlobals "str" = some none)
  (z13 : PySem.W.nsIn K mainGlobals "zip" = some none)
  (z14 : PySem.W.nsIn K mainGlobals "all" = some none)
  (z15 : PySem.W.nsIn K mainGlobals "any" = some none)
  (gBox : PySem.W.nsIn K mainGlobals "Box" = some (some (.ref CC_Box)))
  (pgBox : PySem.W.plainGet K CC_Box Str.empty = true)
  (hdBox : PySem.W.hasDictIn K CC_Box = true)
  (poBox : PySem.W.plainOver K CC_Box = true)
  (saBox : PySem.W.findIn K (.ref CC_Box) "__setattr__" = some (some (.builtin "object.__setattr__")))
  (mkBox : PySem.W.makesIn K CC_Box = true)
  (kcBox : PySem.W.keepIn K (.ref CC_Box) = true)
  (naBox_sides : PySem.W.findIn K (.ref CC_Box) "sides" = some none)
  (gNet : PySem.W.nsIn K mainGlobals "Net" = some (some (.ref CC_Net)))
  (pgNet : PySem.W.plainGet K CC_Net Str.empty = true)
  (hdNet : PySem.W.hasDictIn K CC_Net = true)
  (poNet : PySem.W.plainOver K CC_Net = true)
  (saNet : PySem.W.findIn K (.ref CC_Net) "__setattr__" = some (some (.builtin "object.__setattr__")))
  (mkNet : PySem.W.makesIn K CC_Net = true)
  (kcNet : PySem.W.keepIn K (.ref CC_Net) = true)
  (naNet_many : PySem.W.findIn K (.ref CC_Net) "many" = some none)
  (naNet_units : PySem.W.findIn K (.ref CC_Net) "units" = some none)
  (naNet_outs : PySem.W.findIn K (.ref CC_Net) "outs" = some none)
  (qMOST_BENDS : PySem.W.nsIn K mainGlobals "MOST_BENDS" = some (some (.int 20 tk_MOST_BENDS)))
  (qMOST_UNITS : PySem.W.nsIn K mainGlobals "MOST_UNITS" = some (some (.int 80 tk_MOST_UNITS)))
  (qMOST_OUTS : PySem.W.nsIn K mainGlobals "MOST_OUTS" = some (some (.int 12 tk_MOST_OUTS)))
  (qMOST_INS : PySem.W.nsIn K mainGlobals "MOST_INS" = some (some (.int 6 tk_MOST_INS)))
  (qMOST_SIDES : PySem.W.nsIn K mainGlobals "MOST_SIDES" = some (some (.int 6 tk_MOST_SIDES)))
  (qMINUS_ONE : PySem.W.nsIn K mainGlobals "MINUS_ONE" = some (some (.ref gg_MINUS_ONE)))
  (qlMINUS_ONE : K.lookup gg_MINUS_ONE = some ⟨.type "tuple", go_MINUS_ONE, .seq #[.int (-1) gt0_MINUS_ONE, .int 1 gt1_MINUS_ONE] gn_MINUS_ONE, gs_MINUS_ONE⟩)
  (qNOUGHT : PySem.W.nsIn K mainGlobals "NOUGHT" = some (some (.ref gg_NOUGHT)))
  (qlNOUGHT : K.lookup gg_NOUGHT = some ⟨.type "tuple", go_NOUGHT, .seq #[.int 0 gt0_NOUGHT, .int 1 gt1_NOUGHT] gn_NOUGHT, gs_NOUGHT⟩)
  (qONE : PySem.W.nsIn K mainGlobals "ONE" = some (some (.ref gg_ONE)))
  (qlONE : K.lookup gg_ONE = some ⟨.type "tuple", go_ONE, .seq #[.int 1 gt0_ONE, .int 1 gt1_ONE] gn_ONE, gs_ONE⟩), C) → C
end BP
section
open PySem PySem.W PyProof.Rows
local macro_rules | `(tactic| o_head $H) => `(tactic| refine BP.head (q := BP.view) $H 6000 BP.seen ?_ rfl rfl rfl rfl (by assumption) (by decide +kernel) ⟨rfl, rfl, rfl, rfl, rfl, by decide +kernel⟩ ?_ ?_)
set_option maxRecDepth 100000 in
set_option maxHeartbeats 0 in
theorem BP.early (fin : ∀ {q : Program} {loose : List Str} {XP : (Str → Option Value) → Heap → Prop} {YP : World → Heap → Prop} {d : DefRec} {K : Params → PySem.W.Frag}, d.params.defaults = [] → d.name = "law" → (∀ (w : World) (h : Heap), YP w h → (K w.params).In h) → (∀ w : World, BP.Pins (K w.params)) → PySem.W.WalkO q loose XP YP (PySem.Challenge.rw_bendproof_k44_right_leaves).row.toRowW d [] (fun f vs => PySem.call f vs)) : PySem.Challenge.rw_bendproof_k44_right_leaves.Holds := by
 w_on; o_law; k_head
 ·refine BP.look_k BP.plainly ?_
  intro w os
  delta BP.runT
  rw [PySem.W.Fast.te14364793385576792824, PySem.W.Fast.te10156331382660048174, PySem.W.Fast.te11892475500146522536, PySem.W.Fast.te6613529449190102663, PySem.W.Fast.te8920871248978507458]
  kernel_rfl
 ·w_witness2
 k_fill
 refine fin rfl rfl (fun w h Y => PySem.W.kIn_of Y) ?F
 case F =>
  intro w C k
  refine' k ?a0 ?l0 ?c0 ?k0 ?a1 ?l1 ?c1 ?k1 ?a2 ?l2 ?c2 ?k2 ?a3 ?l3 ?c3 ?k3 ?a4 ?l4 ?c4 ?k4 ?a5 ?l5 ?c5 ?k5 ?a6 ?l6 ?c6 ?k6 ?a7 ?l7 ?c7 ?k7 ?a8 ?l8 ?c8 ?k8 ?a9 ?l9 ?c9 ?k9 ?a10 ?l10 ?c10 ?k10 ?a11 ?l11 ?c11 ?k11 ?a12 ?l12 ?c12 ?k12 ?a13 ?l13 ?c13 ?k13 ?a14 ?l14 ?c14 ?k14 ?a15 ?l15 ?c15 ?k15 ?a16 ?l16 ?c16 ?k16 ?a17 ?l17 ?c17 ?k17 ?a18 ?l18 ?c18 ?k18 ?a19 ?i19 ?l19 ?c19 ?k19 ?a20 ?l20 ?c20 ?k20 ?a21 ?l21 ?c21 ?k21 ?a22 ?i22 ?l22 ?c22 ?k22 ?a23 ?l23 ?c23 ?k23 ?a24 ?l24 ?c24 ?k24 ?a25 ?i25 ?l25 ?c25 ?k25 ?a26 ?l26 ?c26 ?k26 ?a27 ?i27 ?l27 ?c27 ?k27 ?a28 ?l28 ?c28 ?k28 ?a29 ?l29 ?c29 ?k29 ?a30 ?l30 ?c30 ?k30 ?a31 ?l31 ?c31 ?k31 ?a32 ?l32 ?c32 ?k32 ?a33 ?l33 ?c33 ?k33 ?a34 ?l34 ?c34 ?k34 ?a35 ?l35 ?c35 ?k35 ?a36 ?l36 ?c36 ?k36 ?a37 ?l37 ?c37 ?k37 ?a38 ?l38 ?c38 ?k38 ?a39 ?l39 ?c39 ?k39 ?a40 ?l40 ?c40 ?k40 ?a41 ?l41 ?c41 ?k41 ?a42 ?l42 ?c42 ?k42 ?a43 ?l43 ?c43 ?k43 ?a44 ?l44 ?c44 ?k44 ?a45 ?l45 ?c45 ?k45 ?a46 ?i46 ?l46 ?c46 ?k46 ?a47 ?l47 ?c47 ?k47 ?a48 ?l48 ?c48 ?k48 ?a49 ?l49 ?c49 ?k49 ?a50 ?l50 ?c50 ?k50 ?a51 ?l51 ?c51 ?k51 ?a52 ?l52 ?c52 ?k52 ?a53 ?l53 ?c53 ?k53 ?a54 ?l54 ?c54 ?k54 ?a55 ?l55 ?c55 ?k55 ?a56 ?l56 ?c56 ?k56 ?a57 ?l57 ?c57 ?k57 ?a58 ?l58 ?c58 ?k58 ?a59 ?l59 ?c59 ?k59 ?a60 ?l60 ?c60 ?k60 ?a61 ?l61 ?c61 ?k61 ?a62 ?l62 ?c62 ?k62 ?a63 ?l63 ?c63 ?k63 ?a64 ?l64 ?c64 ?k64 ?a65 ?l65 ?c65 ?k65 ?a66 ?l66 ?c66 ?k66 ?a67 ?l67 ?c67 ?k67 ?a68 ?l68 ?c68 ?k68 ?a69 ?l69 ?c69 ?k69 ?a70 ?l70 ?c70 ?k70 ?a71 ?l71 ?c71 ?k71 ?z0 ?z1 ?z2 ?z3 ?z4 ?z5 ?z6 ?z7 ?z8 ?z9 ?z10 ?z11 ?z12 ?z13 ?z14 ?z15 ?gBox ?pgBox ?hdBox ?poBox ?saBox ?mkBox ?kcBox ?naBox_sides ?gNet ?pgNet ?hdNet ?poNet ?saNet ?mkNet ?kcNet ?naNet_many ?naNet_units ?naNet_outs ?qMOST_BENDS ?qMOST_UNITS ?qMOST_OUTS ?qMOST_INS ?qMOST_SIDES ?qMINUS_ONE ?qlMINUS_ONE ?qNOUGHT ?qlNOUGHT ?qONE ?qlONE
  (case gBox => k_is)
  (case gNet => k_is)
  (case a0 => k_is)
  (case l0 => k_is)
  (case c0 => k_is)
  (case k0 => k_is)
  (case a1 => k_is)
  (case l1 => k_is)
  (case c1 => k_is)
  (case k1 => k_is)
  (case a2 => k_is)
  (case l2 => k_is)
  (case c2 => k_is)
  (case k2 => k_is)
  (case a3 => k_is)
  (case l3 => k_is)
  (case c3 => k_is)
  (case k3 => k_is)
  (case a4 => k_is)
  (case l4 => k_is)
  (case c4 => k_is)
  (case k4 => k_is)
  (case a5 => k_is)
  (case l5 => k_is)
  (case c5 => k_is)
  (case k5 => k_is)
  (case a6 => k_is)
  (case l6 => k_is)
  (case c6 => k_is)
  (case k6 => k_is)
  (case a7 => k_is)
  (case l7 => k_is)
  (case c7 => k_is)
  (case k7 => k_is)
  (case a8 => k_is)
  (case l8 => k_is)
  (case c8 => k_is)
  (case k8 => k_is)
  (case a9 => k_is)
  (case l9 => k_is)
  (case c9 => k_is)
  (case k9 => k_is)
  (case a10 => k_is)
  (case l10 => k_is)
  (case c10 => k_is)
  (case k10 => k_is)
  (case a11 => k_is)
  (case l11 => k_is)
  (case c11 => k_is)
  (case k11 => k_is)
  (case a12 => k_is)
  (case l12 => k_is)
  (case c12 => k_is)
  (case k12 => k_is)
  (case a13 => k_is)
  (case l13 => k_is)
  (case c13 => k_is)
  (case k13 => k_is)
  (case a14 => k_is)
  (case l14 => k_is)
  (case c14 => k_is)
  (case k14 => k_is)
  (case a15 => k_is)
  (case l15 => k_is)
  (case c15 => k_is)
  (case k15 => k_is)
  (case a16 => k_is)
  (case l16 => k_is)
  (case c16 => k_is)
  (case k16 => k_is)
  (case a17 => k_is)
  (case l17 => k_is)
  (case c17 => k_is)
  (case k17 => k_is)
  (case a18 => k_is)
  (case l18 => k_is)
  (case c18 => k_is)
  (case k18 => k_is)
  (case a19 => k_is)
  (case i19 => k_is)
  (case l19 => k_is)
  (case c19 => k_is)
  (case k19 => k_is)
  (case a20 => k_is)
  (case l20 => k_is)
  (case c20 => k_is)
  (case k20 => k_is)
  (case a21 => k_is)
  (case l21 => k_is)
  (case c21 => k_is)
  (case k21 => k_is)
  (case a22 => k_is)
  (case i22 => k_is)
  (case l22 => k_is)
  (case c22 => k_is)
  (case k22 => k_is)
  (case a23 => k_is)
  (case l23 => k_is)
  (case c23 => k_is)
  (case k23 => k_is)
  (case a24 => k_is)
  (case l24 => k_is)
  (case c24 => k_is)
  (case k24 => k_is)
  (case a25 => k_is)
  (case i25 => k_is)
  (case l25 => k_is)
  (case c25 => k_is)
  (case k25 => k_is)
  (case a26 => k_is)
  (case l26 => k_is)
  (case c26 => k_is)
  (case k26 => k_is)
  (case a27 => k_is)
  (case i27 => k_is)
  (case l27 => k_is)
  (case c27 => k_is)
  (case k27 => k_is)
  (case a28 => k_is)
  (case l28 => k_is)
  (case c28 => k_is)
  (case k28 => k_is)
  (case a29 => k_is)
  (case l29 => k_is)
  (case c29 => k_is)
  (case k29 => k_is)
  (case a30 => k_is)
  (case l30 => k_is)
  (case c30 => k_is)
  (case k30 => k_is)
  (case a31 => k_is)
  (case l31 => k_is)
  (case c31 => k_is)
  (case k31 => k_is)
  (case a32 => k_is)
  (case l32 => k_is)
  (case c32 => k_is)
  (case k32 => k_is)
  (case a33 => k_is)
  (case l33 => k_is)
  (case c33 => k_is)
  (case k33 => k_is)
  (case a34 => k_is)
  (case l34 => k_is)
  (case c34 => k_is)
  (case k34 => k_is)
  (case a35 => k_is)
  (case l35 => k_is)
  (case c35 => k_is)
  (case k35 => k_is)
  (case a36 => k_is)
  (case l36 => k_is)
  (case c36 => k_is)
  (case k36 => k_is)
  (case a37 => k_is)
  (case l37 => k_is)
  (case c37 => k_is)
  (case k37 => k_is)
  (case a38 => k_is)
  (case l38 => k_is)
  (case c38 => k_is)
  (case k38 => k_is)
  (case a39 => k_is)
  (case l39 => k_is)
  (case c39 => k_is)
  (case k39 => k_is)
  (case a40 => k_is)
  (case l40 => k_is)
  (case c40 => k_is)
  (case k40 => k_is)
  (case a41 => k_is)
  (case l41 => k_is)
  (case c41 => k_is)
  (case k41 => k_is)
  (case a42 => k_is)
  (case l42 => k_is)
  (case c42 => k_is)
  (case k42 => k_is)
  (case a43 => k_is)
  (case l43 => k_is)
  (case c43 => k_is)
  (case k43 => k_is)
  (case a44 => k_is)
  (case l44 => k_is)
  (case c44 => k_is)
  (case k44 => k_is)
  (case a45 => k_is)
  (case l45 => k_is)
  (case c45 => k_is)
  (case k45 => k_is)
  (case a46 => k_is)
  (case i46 => k_is)
  (case l46 => k_is)
  (case c46 => k_is)
  (case k46 => k_is)
  (case a47 => k_is)
  (case l47 => k_is)
  (case c47 => k_is)
  (case k47 => k_is)
  (case a48 => k_is)
  (case l48 => k_is)
  (case c48 => k_is)
  (case k48 => k_is)
  (case a49 => k_is)
  (case l49 => k_is)
  (case c49 => k_is)
  (case k49 => k_is)
  (case a50 => k_is)
  (case l50 => k_is)
  (case c50 => k_is)
  (case k50 => k_is)
  (case a51 => k_is)
  (case l51 => k_is)
  (case c51 => k_is)
  (case k51 => k_is)
  (case a52 => k_is)
  (case l52 => k_is)
  (case c52 => k_is)
  (case k52 => k_is)
  (case a53 => k_is)
  (case l53 => k_is)
  (case c53 => k_is)
  (case k53 => k_is)
  (case a54 => k_is)
  (case l54 => k_is)
  (case c54 => k_is)
  (case k54 => k_is)
  (case a55 => k_is)
  (case l55 => k_is)
  (case c55 => k_is)
  (case k55 => k_is)
  (case a56 => k_is)
  (case l56 => k_is)
  (case c56 => k_is)
  (case k56 => k_is)
  (case a57 => k_is)
  (case l57 => k_is)
  (case c57 => k_is)
  (case k57 => k_is)
  (case a58 => k_is)
  (case l58 => k_is)
  (case c58 => k_is)
  (case k58 => k_is)
  (case a59 => k_is)
  (case l59 => k_is)
  (case c59 => k_is)
  (case k59 => k_is)
  (case a60 => k_is)
  (case l60 => k_is)
  (case c60 => k_is)
  (case k60 => k_is)
  (case a61 => k_is)
  (case l61 => k_is)
  (case c61 => k_is)
  (case k61 => k_is)
  (case a62 => k_is)
  (case l62 => k_is)
  (case c62 => k_is)
  (case k62 => k_is)
  (case a63 => k_is)
  (case l63 => k_is)
  (case c63 => k_is)
  (case k63 => k_is)
  (case a64 => k_is)
  (case l64 => k_is)
  (case c64 => k_is)
  (case k64 => k_is)
  (case a65 => k_is)
  (case l65 => k_is)
  (case c65 => k_is)
  (case k65 => k_is)
  (case a66 => k_is)
  (case l66 => k_is)
  (case c66 => k_is)
  (case k66 => k_is)
  (case a67 => k_is)
  (case l67 => k_is)
  (case c67 => k_is)
  (case k67 => k_is)
  (case a68 => k_is)
  (case l68 => k_is)
  (case c68 => k_is)
  (case k68 => k_is)
  (case a69 => k_is)
  (case l69 => k_is)
  (case c69 => k_is)
  (case k69 => k_is)
  (case a70 => k_is)
  (case l70 => k_is)
  (case c70 => k_is)
  (case k70 => k_is)
  (case a71 => k_is)
  (case l71 => k_is)
  (case c71 => k_is)
  (case k71 => k_is)
  (case z0 => k_is)
  (case z1 => k_is)
  (case z2 => k_is)
  (case z3 => k_is)
  (case z4 => k_is)
  (case z5 => k_is)
  (case z6 => k_is)
  (case z7 => k_is)
  (case z8 => k_is)
  (case z9 => k_is)
  (case z10 => k_is)
  (case z11 => k_is)
  (case z12 => k_is)
  (case z13 => k_is)
  (case z14 => k_is)
  (case z15 => k_is)
  (case pgBox => k_is)
  (case hdBox => k_is)
  (case poBox => k_is)
  (case saBox => k_is)
  (case mkBox => k_is)
  (case kcBox => k_is)
  (case naBox_sides => k_is)
  (case pgNet => k_is)
  (case hdNet => k_is)
  (case poNet => k_is)
  (case saNet => k_is)
  (case mkNet => k_is)
  (case kcNet => k_is)
  (case naNet_many => k_is)
  (case naNet_units => k_is)
  (case naNet_outs => k_is)
  (case qMOST_BENDS => k_is)
  (case qMOST_UNITS => k_is)
  (case qMOST_OUTS => k_is)
  (case qMOST_INS => k_is)
  (case qMOST_SIDES => k_is)
  (case qMINUS_ONE => k_is)
  (case qlMINUS_ONE => k_is)
  (case qNOUGHT => k_is)
  (case qlNOUGHT => k_is)
  (case qONE => k_is)
  (case qlONE => k_is)
end
abbrev Fg9 := PySem.W.Frag
theorem gE9 {α : Type _} {l : List α} {i : Nat} (h : i < l.length) : l[i]? = some l[i] := List.getElem?_eq_getElem h
namespace L2
open PySem PySem.Spec PyProof.Rows
abbrev Key := Sum Int Str
def keyIs : Key → Value → Bool
 | .inl k, v => Value.isInt k v
 | .inr x, v => Value.isStrOf x v
def keyH (w : World) : Key → Int
 | .inl k => hashInt k
 | .inr x => hashStr w x
theorem wJ : ∀ {k : Key} {v : Value}, keyIs k v = true → (∃ i t, k = Sum.inl i ∧ v = Value.int i t) ∨ (∃ x t, k = Sum.inr x ∧ v = Value.str x t)
 | .inl i, v, h => by
  obtain ⟨t, e⟩ := Value.isInt_shape (k := i) (v := v) h
  exact .inl ⟨i, t, rfl, e⟩
 | .inr x, v, h => by
  obtain ⟨t, e⟩ := Value.isStrOf_shape (x := x) (v := v) h
  exact .inr ⟨x, t, rfl, e⟩
theorem key_ll (a b : Int) : decide ((Sum.inl a : Key) = Sum.inl b) = (a == b) := by
 by_cases e : a = b
 ·subst e; simp
 ·have h : ¬ (Sum.inl a : Key) = Sum.inl b := fun q => e (Sum.inl.inj q)
  rw [decide_eq_false h]
  exact (beq_eq_false_iff_ne.mpr e).symm
theorem key_rr (a b : Str) : decide ((Sum.inr a : Key) = Sum.inr b) = decide (a = b) := by
 by_cases e : a = b
 ·subst e; simp
 ·have h : ¬ (Sum.inr a : Key) = Sum.inr b := fun q => e (Sum.inr.inj q)
  rw [decide_eq_false h, decide_eq_false e]
theorem key_lr (a : Int) (b : Str) : decide ((Sum.inl a : Key) = Sum.inr b) = false := decide_eq_false (fun q => nomatch q)
theorem key_rl (a : Str) (b : Int) : decide ((Sum.inr a : Key) = Sum.inl b) = false := decide_eq_false (fun q => nomatch q)
def mixKind (prog : Program) (w : World) : PySem.KeyKind prog w Key where
 is := keyIs
 hash := keyH w
 inj := fun v a b ha hb => by
  rcases wJ ha with ⟨i, t, rfl, rfl⟩ | ⟨x, t, rfl, rfl⟩
  ·rcases wJ hb with ⟨j, u, rfl, e⟩ | ⟨y, u, rfl, e⟩
   ·injection e with e1 _; rw [e1]
   ·exact nomatch e
  ·rcases wJ hb with ⟨j, u, rfl, e⟩ | ⟨y, u, rfl, e⟩
   ·exact nomatch e
   ·injection e with e1 _; rw [e1]
 byValue := fun k v h => by
  rcases wJ h with ⟨i, t, rfl, rfl⟩ | ⟨x, t, rfl, rfl⟩ <;> rfl
 pyHash := fun hv h => by
  rcases wJ hv with ⟨i, t, rfl, rfl⟩ | ⟨x, t, rfl, rfl⟩
  ·exact wpAny_pyHash_int h
  ·exact wpAny_pyHash_str h
 eqBool := fun hu hv h => by
  rcases wJ hu with ⟨i, t, rfl, rfl⟩ | ⟨x, t, rfl, rfl⟩
  ·rcases wJ hv with ⟨j, u, rfl, rfl⟩ | ⟨y, u, rfl, rfl⟩
   ·rw [key_ll] at h; exact wpAny_eqBool_int h
   ·rw [key_lr] at h; exact SeqAt.EqAt.int_str i t y u _ _ _ _ h
  ·rcases wJ hv with ⟨j, u, rfl, rfl⟩ | ⟨y, u, rfl, rfl⟩
   ·rw [key_rl] at h; exact SeqAt.EqAt.str_int x t j u _ _ _ _ h
   ·rw [key_rr] at h; exact wpAny_eqBool_str h
 «strs» := fun k x t v h => by
  rcases wJ h with ⟨i, u, rfl, e⟩ | ⟨y, u, rfl, e⟩
  ·exact nomatch e
  ·injection e with e1 _
   subst e1
   cases v <;> rfl
end L2
namespace L2
open PySem PySem.Spec PyProof.Rows
inductive V where
 | non | bl (b : Bool) | int (i : Int) | str (x : Str) | byt (b : Array UInt8) | flt (b : UInt64) | ref (a : Addr) | ty (n : String)
 deriving DecidableEq
def RelV : V → Value → Prop
 | .non, u => u = Value.none
 | .bl b, u => u = Value.bool b
 | .int i, u => ∃ t, u = Value.int i t
 | .str x, u => ∃ t, u = Value.str x t
 | .byt b, u => ∃ t, u = Value.bytes b t
 | .flt b, u => ∃ t, u = Value.float b t
 | .ref a, u => u = Value.ref a
 | .ty n, u => u = Value.type n
abbrev Vals : List V → List Value → Prop := Paired RelV
theorem Vals.length {xs : List V} {us : List Value} (r : Vals xs us) : xs.length = us.length := Paired.length r
theorem Vals.get : ∀ {xs : List V} {us : List Value} {i : Nat} {x : V}, Vals xs us → xs[i]? = some x → ∃ u, us[i]? = some u ∧ RelV x u
 | _, _, _, _, .nil, e => by simp at e
 | _, _, 0, _, .cons r _, e => by simp at e; subst e; exact ⟨_, rfl, r⟩
 | _, _, i + 1, x, .cons _ t, e => by
  obtain ⟨u, h1, h2⟩ := Vals.get (i := i) (x := x) t (by simpa using e)
  exact ⟨u, by simpa using h1, h2⟩
theorem Vals.append : ∀ {xs ys : List V} {us ws : List Value}, Vals xs us → Vals ys ws → Vals (xs ++ ys) (us ++ ws)
 | _, _, _, _, .nil, s => s
 | _, _, _, _, .cons r t, s => .cons r (Vals.append t s)
theorem Vals.take : ∀ {xs : List V} {us : List Value} (n : Nat), Vals xs us → Vals (xs.take n) (us.take n)
 | _, _, 0, _ => .nil
 | _, _, _ + 1, .nil => .nil
 | _, _, n + 1, .cons r t => .cons r (Vals.take n t)
theorem Vals.drop : ∀ {xs : List V} {us : List Value} (n : Nat), Vals xs us → Vals (xs.drop n) (us.drop n)
 | _, _, 0, r => r
 | _, _, _ + 1, .nil => .nil
 | _, _, n + 1, .cons _ t => Vals.drop n t
def RelO : Option V → Option Value → Prop
 | some v, some u => RelV v u
 | none, none => True
 | _, _ => False
def KV {κ : Type} : List (κ × V) → List (κ × Value) → Prop := Paired fun (p : κ × V) (q : κ × Value) => p.1 = q.1 ∧ RelV p.2 q.2
def kV : Key → V
 | .inl i => .int i
 | .inr x => .str x
inductive HO where
 | lst (xs : List V)
 | tup (xs : List V)
 | dK (kvs : List (Key × V)) | dT (kvs : List (List Key × V))
 | set (S : Int → Bool) (n : Nat)
 | ins (C dx : Addr) (fs : List (Str × V))
 | own (x : Addr)
 | xd (fs : List (Str × V))
 | met (f x : Addr)
 | rng (lo hi : Int)
 | frz (o : Obj) (u : HO)
 | tbl (ps : Array Value)
 | ext (φ : Heap → Prop)
abbrev Hp := Addr → Option HO
def upd (H : Hp) (a : Addr) (o : HO) : Hp := fun b => if b = a then some o else H b
theorem qv {H : Hp} {a : Addr} {o : HO} : upd H a o a = some o := by unfold upd; rw [if_pos rfl]
theorem y7 {H : Hp} {a b : Addr} {o : HO} (h : b ≠ a) : upd H a o b = H b := by unfold upd; rw [if_neg h]
theorem ne_of {H : Hp} {a b : Addr} {o u : HO} (h : H a = some o) (h' : H b = some u) (d : o ≠ u) : a ≠ b := by
 intro e; subst e; rw [h] at h'; exact d (Option.some.inj h')
theorem zK {H : Hp} {a b : Addr} {o : HO} (h : H a = some o) (h' : H b = none) : a ≠ b := by
 intro e; subst e; rw [h] at h'; cases h'
section
variable (P : Program) (w : World)
def ObjOk (H : Hp) (h : Heap) (a : Addr) : HO → Prop
 | .lst xs => xs.length ≤ sizeLine ∧ ∃ (its : List Value) (n : Nat), Vals xs its ∧ h.get? a = some { cls := .type "list", data := .seq its.toArray n }
 | .tup xs => xs.length ≤ sizeLine ∧ ∃ its : List Value, Vals xs its ∧ IsTup h a its.toArray
 | .dK kvs => kvs.length ≤ sizeLine ∧ (a == sysModules) = false ∧ ∃ vs, KV kvs vs ∧ h.DictOf (mixKind P w) a vs
 | .dT kvs => kvs.length ≤ sizeLine ∧ (a == sysModules) = false ∧ ∃ xs : List (List Key × Addr × Value), Paired (fun (p : List Key × V) (q : List Key × Addr × Value) => p.1 = q.1 ∧ H q.2.1 = some (.tup (p.1.map kV)) ∧ RelV p.2 q.2.2) kvs xs ∧ ∃ o es ep, h.get? a = some o ∧ o.ExactDict ∧ o.data = .dict es ep ∧ es.toList = xs.map (entryOfKey (tupleKind (mixKind P w))) ∧ (xs.map (·.1)).Nodup
 | .set S n => h.SetOf (intKind P w) a S n
 | .ins C dx fs => H dx = some (.own a) ∧ fs.length ≤ 1000 ∧ dx ≠ a ∧ h.get? a = some (PySem.W.instObj C dx) ∧ ∃ mA, h.Ns1 dx mA ∧ (∀ f, RelO (fs.lookup f) (mA f)) ∧ PySem.Within mA (fs.map (·.1))
 | .own _ => ∃ o, h.get? a = some o
 | .xd fs => ∃ mA, h.Ns1 a mA ∧ ∀ f, RelO (fs.lookup f) (mA f)
 | .rng lo hi => ∃ t u v, h.get? a = some { cls := .type "range", data := .fields #[.int lo t, .int hi u, .int 1 v] }
 | .frz o u => h.get? a = some o ∧ ObjOk H h a u
 | .tbl ps => h.get? a = some { cls := .none, data := .fields ps }
 | .met f x => h.get? a = some (PySem.W.methodObj (.ref f) (.ref x))
 | .ext φ => φ h ∧ (∃ o, h.get? a = some o) ∧ ∀ h1 h2 : Heap, φ h1 → (∀ o, h1.get? a = some o → h2.get? a = some o) → φ h2
def HOk (H : Hp) (h : Heap) : Prop := ∀ a o, H a = some o → ObjOk P w H h a o
end
section
variable {P : Program} {w : World} {H H' : Hp} {h h' : Heap} {a : Addr} {o : HO}
theorem ObjOk.lt (x : ObjOk P w H h a o) : a < h.objs.size := by
 cases o with
 | lst xs => obtain ⟨_, _, _, _, e⟩ := x; exact Heap.lt_size e
 | tup xs => obtain ⟨_, _, _, p⟩ := x; exact p.lt
 | dK kvs => obtain ⟨_, _, _, _, o, _, _, e, _⟩ := x; exact Heap.lt_size e
 | dT kvs => obtain ⟨_, _, _, _, o, _, _, e, _⟩ := x; exact Heap.lt_size e
 | set S n => obtain ⟨o, _, _, _, e, _⟩ := x; exact Heap.lt_size e
 | ins C dx fs => obtain ⟨_, _, _, e, _⟩ := x; exact Heap.lt_size e
 | own y => obtain ⟨_, e⟩ := x; exact Heap.lt_size e
 | xd fs => obtain ⟨_, ⟨_, _, _, e, _⟩, _⟩ := x; exact Heap.lt_size e
 | rng lo hi => obtain ⟨_, _, _, e⟩ := x; exact Heap.lt_size e
 | frz ob u => obtain ⟨e, _⟩ := x; exact Heap.lt_size e
 | tbl ps => exact Heap.lt_size (show h.get? a = some _ from x)
 | met f y => exact Heap.lt_size (show h.get? a = some _ from x)
 | ext φ => obtain ⟨_, ⟨_, e⟩, _⟩ := x; exact Heap.lt_size e
theorem Paired.mapP {α β : Type} {F G : α → β → Prop} : ∀ {l₁ : List α} {l₂ : List β}, Paired F l₁ l₂ → (∀ a b, F a b → G a b) → Paired G l₁ l₂
 | _, _, .nil, _ => .nil
 | _, _, .cons r t, f => .cons (f _ _ r) (Paired.mapP t f)
theorem ObjOk.stay (x : ObjOk P w H h a o) (k : ∀ b u, (b = a ∨ H b = some (.own a)) → h.get? b = some u → h'.get? b = some u)
  (ho : ∀ b, H b = some (.own a) → H' b = some (.own a)) (ht : ∀ b xs, H b = some (.tup xs) → H' b = some (.tup xs)) : ObjOk P w H' h' a o := by
 induction o with
 | lst xs => obtain ⟨z, its, n, r, e⟩ := x; exact ⟨z, its, n, r, k _ _ (.inl rfl) e⟩
 | tup xs => obtain ⟨z, its, r, ob, e, c⟩ := x; exact ⟨z, its, r, ob, k _ _ (.inl rfl) e, c⟩
 | dK kvs => obtain ⟨z, y, vs, r, ob, es, ep, e, c⟩ := x; exact ⟨z, y, vs, r, ob, es, ep, k _ _ (.inl rfl) e, c⟩
 | dT kvs =>
  obtain ⟨z, y, xs, r, ob, es, ep, e, c⟩ := x
  exact ⟨z, y, xs, Paired.mapP r fun p q z => ⟨z.1, ht _ _ z.2.1, z.2.2⟩, ob, es, ep, k _ _ (.inl rfl) e, c⟩
 | set S n => obtain ⟨ob, es, ep, t, e, c⟩ := x; exact ⟨ob, es, ep, t, k _ _ (.inl rfl) e, c⟩
 | ins C dx fs =>
  obtain ⟨d, z, ne, e, mA, ⟨od, es, ep, e2, c⟩, r⟩ := x
  exact ⟨ho _ d, z, ne, k _ _ (.inl rfl) e, mA, ⟨od, es, ep, k _ _ (.inr d) e2, c⟩, r⟩
 | own y => obtain ⟨ob, e⟩ := x; exact ⟨ob, k _ _ (.inl rfl) e⟩
 | xd fs => obtain ⟨mA, ⟨od, es, ep, e, c⟩, r⟩ := x; exact ⟨mA, ⟨od, es, ep, k _ _ (.inl rfl) e, c⟩, r⟩
 | rng lo hi => obtain ⟨t, u, v, e⟩ := x; exact ⟨t, u, v, k _ _ (.inl rfl) e⟩
 | frz ob u ih => obtain ⟨e, q⟩ := x; exact ⟨k _ _ (.inl rfl) e, ih q⟩
 | tbl ps =>
  have e : h.get? a = some { cls := .none, data := .fields ps } := x
  show h'.get? a = some { cls := .none, data := .fields ps }
  exact k a _ (.inl rfl) e
 | met f y =>
  have e : h.get? a = some (PySem.W.methodObj (.ref f) (.ref y)) := x
  show h'.get? a = some (PySem.W.methodObj (.ref f) (.ref y))
  exact k a _ (.inl rfl) e
 | ext φ => obtain ⟨p, ⟨o, e⟩, st⟩ := x; exact ⟨st _ _ p fun o q => k _ _ (.inl rfl) q, ⟨o, k _ _ (.inl rfl) e⟩, st⟩
theorem HOk.lt (x : HOk P w H h) (e : H a = some o) : a < h.objs.size := (x a o e).lt
theorem HOk.fresh (x : HOk P w H h) (e : h.objs.size ≤ a) : H a = none := by
 cases q : H a with
 | none => rfl
 | some u => exact absurd (Nat.lt_of_lt_of_le (x.lt q) e) (Nat.lt_irrefl _)
theorem HOk.kept (x : HOk P w H h) (k : ∀ b u, h.get? b = some u → h'.get? b = some u) : HOk P w H h' := fun a o e =>
 (x a o e).stay (fun b u _ q => k b u q) (fun _ q => q) fun _ _ q => q
theorem HOk.laid (x : HOk P w H h) (k : ∀ b u, h.get? b = some u → h'.get? b = some u) (hp : h.objs.size ≤ a) (new : ObjOk P w (upd H a o) h' a o) : HOk P w (upd H a o) h' := fun b u e => by
 have hn := x.fresh hp
 by_cases hb : b = a
 ·subst hb; rw [qv] at e; cases e; exact new
 ·rw [y7 hb] at e
  exact (x b u e).stay (fun c v _ q => k c v q) (fun c q => by rw [y7 (zK q hn)]; exact q) fun c xs q => by rw [y7 (zK q hn)]; exact q
end
def Rd (H : Hp) (a : Addr) (u : HO) : Prop := H a = some u ∨ ∃ o, H a = some (.frz o u)
theorem Rd.ok {P : Program} {w : World} {H : Hp} {h : Heap} {a : Addr} {u : HO} (r : Rd H a u) (x : HOk P w H h) : ObjOk P w H h a u := by
 rcases r with r | ⟨o, r⟩
 ·exact x a u r
 ·obtain ⟨_, q⟩ := x a _ r
  exact q
def Mut : Option HO → Prop
 | some (.lst _) => True
 | some (.dK _) => True
 | some (.dT _) => True
 | some (.set _ _) => True
 | some (.ins _ _ _) => True
 | some (.ext _) => True
 | _ => False
section
variable {P : Program} {w : World} {H : Hp} {h h' : Heap} {x e : Addr} {o' : HO}
theorem HOk.write (ok : HOk P w H h) (mu : Mut (H x)) (he : e = x ∨ H e = some (.own x)) (k : ∀ b u, b ≠ e → h.get? b = some u → h'.get? b = some u) (heo : ∃ u, h'.get? e = some u)
  (new : ObjOk P w (upd H x o') h' x o') : HOk P w (upd H x o') h' := fun b u q => by
 have nown : ∀ c y, H c = some (.own y) → c ≠ x := fun c y r z => by subst z; rw [r] at mu; exact mu
 have ntup : ∀ c xs, H c = some (.tup xs) → c ≠ x := fun c xs r z => by subst z; rw [r] at mu; exact mu
 by_cases hb : b = x
 ·subst hb; rw [qv] at q; cases q; exact new
 ·rw [y7 hb] at q
  by_cases hbe : b = e
  ·have q' : H b = some (.own x) := by
    rcases he with z | z
    ·exact absurd (hbe.trans z) hb
    ·rw [hbe]; exact z
   rw [q] at q'; cases q'
   obtain ⟨v, hv⟩ := heo
   exact ⟨v, by rw [hbe]; exact hv⟩
  ·refine (ok b u q).stay (fun c v hc r => k c v ?_ r) (fun c r => by rw [y7 (nown c b r)]; exact r) fun c xs r => by rw [y7 (ntup c xs r)]; exact r
   rcases hc with rfl | hc
   ·exact hbe
   ·rintro rfl
    rcases he with z | z
    ·exact nown c b hc z
    ·rw [hc] at z; cases z; exact hb rfl
end
structure Un (fs ex : List Addr) (H H' : Hp) (h h' : Heap) : Prop where
 keep : ∀ b o, h.get? b = some o → H b = none → b ∉ fs → b ∉ ex → h'.get? b = some o
 slot : ∀ b o, h.get? b = some o → H b = none → b ∈ fs → b ∉ ex → ∃ sl, h'.get? b = some { o with slots := sl }
 free : ∀ b o, h.get? b = some o → H b = none → b ∉ ex → H' b = none
 there : ∀ b o, h.get? b = some o → b ∉ ex → ∃ o', h'.get? b = some o'
 tups : ∀ b xs, H b = some (.tup xs) → H' b = some (.tup xs)
 frzs : ∀ b o u, H b = some (.frz o u) → H' b = some (.frz o u)
 tbls : ∀ b ps, H b = some (.tbl ps) → ∃ more, H' b = some (.tbl (ps ++ more))
section
variable {fs fs' ex ex' : List Addr} {H H1 H2 : Hp} {h h1 h2 h' : Heap} {a x e : Addr} {o : HO}
theorem Un.any (u : Un fs ex H H1 h h1) {b : Addr} {ob : Obj} (q : h.get? b = some ob) (n : H b = none) (hx : b ∉ ex) : ∃ sl, h1.get? b = some { ob with slots := sl } := by
 by_cases hb : b ∈ fs
 ·exact u.slot b ob q n hb hx
 ·exact ⟨ob.slots, u.keep b ob q n hb hx⟩
theorem Un.kept (k : ∀ b u, h.get? b = some u → h'.get? b = some u) : Un fs ex H H h h' :=
 ⟨fun b ob q _ _ _ => k b ob q, fun b ob q _ _ _ => ⟨ob.slots, k b ob q⟩, fun _ _ _ n _ => n, fun b ob q _ => ⟨ob, k b ob q⟩, fun _ _ q => q, fun _ _ _ q => q, fun _ ps q => ⟨#[], by rw [q]; simp⟩⟩
theorem Un.refl : Un fs ex H H h h := Un.kept fun _ _ q => q
theorem Un.laid (k : ∀ b u, h.get? b = some u → h'.get? b = some u) (hp : h.objs.size ≤ a) (hn : H a = none) : Un fs ex H (upd H a o) h h' where
 keep := fun b u q _ _ _ => k b u q
 slot := fun b u q _ _ _ => ⟨u.slots, k b u q⟩
 free := fun b u q n _ => by rw [y7 (Nat.ne_of_lt (Nat.lt_of_lt_of_le (Heap.lt_size q) hp))]; exact n
 there := fun b u q _ => ⟨u, k b u q⟩
 tups := fun b xs q => by rw [y7 (zK q hn)]; exact q
 frzs := fun b u xs q => by rw [y7 (zK q hn)]; exact q
 tbls := fun b ps q => ⟨#[], by rw [y7 (zK q hn), q]; simp⟩
theorem Un.write (mu : Mut (H x)) (he : e = x ∨ H e = some (.own x)) (k : ∀ b u, b ≠ e → h.get? b = some u → h'.get? b = some u) (heo : ∃ u, h'.get? e = some u) : Un fs ex H (upd H x o) h h' := by
 have hx : ∀ b, H b = none → b ≠ x := fun b n z => by subst z; rw [n] at mu; exact mu
 have hb : ∀ b, H b = none → b ≠ e := fun b n z => by
  subst z
  rcases he with r | r
  ·exact hx b n r
  ·rw [n] at r; cases r
 have hm : ∀ b u, H b = some u → ¬ Mut (some u) → b ≠ x := fun b u q nm z => by subst z; rw [q] at mu; exact nm mu
 refine ⟨fun b u q n _ _ => k b u (hb b n) q, fun b u q n _ _ => ⟨u.slots, k b u (hb b n) q⟩, fun b u q n _ => by rw [y7 (hx b n)]; exact n, fun b u q _ => ?_, fun b xs q => by rw [y7 (hm b _ q fun z => z)]; exact q, fun b u xs q => by rw [y7 (hm b _ q fun z => z)]; exact q, fun b ps q => ⟨#[], by rw [y7 (hm b _ q fun z => z), q]; simp⟩⟩
 by_cases hbe : b = e
 ·subst hbe; exact heo
 ·exact ⟨u, k b u hbe q⟩
end
def trk (h : Heap) (H : Hp) : List Addr := (List.range h.objs.size).filter fun a => (H a).isSome
def hidT (h : Heap) (H : Hp) : Heap := PySem.W.hideAll h (trk h H)
theorem hidT_size (h : Heap) (H : Hp) : (hidT h H).objs.size = h.objs.size := PySem.W.hideAll_size _ _
theorem hidT_get {h : Heap} {H : Hp} {b : Addr} {o : Obj} (e : h.get? b = some o) (n : H b = none) : (hidT h H).get? b = some o :=
 PySem.W.hideAll_get _ e fun hm => by
  have q : (H b).isSome = true := (List.mem_filter.mp hm).2
  rw [n] at q; simp at q
theorem of_hidT {h : Heap} {H : Hp} {b : Addr} {o : Obj} (e : (hidT h H).get? b = some o) : h.get? b = some o ∧ H b = none := by
 have e' : h.get? b = some o := PySem.W.of_hideAll (trk h H) e
 refine ⟨e', ?_⟩
 cases q : H b with
 | none => rfl
 | some x =>
  have hm : b ∈ trk h H := List.mem_filter.mpr ⟨List.mem_range.mpr (Heap.lt_size e'), by simp [q]⟩
  have z : (hidT h H).get? b = none := PySem.W.hideAll_none (trk h H) hm
  rw [z] at e; cases e
def allNews (g h : Heap) (L : Addr) : List (Addr × Obj) := (List.range h.objs.size).filterMap fun a => if a = L ∨ (g.get? a).isSome = true then none else (h.get? a).map fun o => (a, o)
def rest (g h : Heap) (L d : Addr) : List (Addr × Obj) := (allNews g h L).filter fun p => decide (p.1 ≠ d)
end L2
namespace L2
open PySem PySem.Spec PyProof.Rows
structure Mod (K : Fg9) (mg : Str → Option Value) (base : Heap) : Prop where
 kin : K.In base
 glob : base.Ns mainGlobals mg
 blt : ∃ mb, base.Ns builtinsNs mb ∧ ∀ x : Str, x ≠ "__name__" → mb x = bootBuiltins x
 nolimit : base.NoLimit
structure Cx where
 prog : Program
 w : World
 K : Fg9
 mg : Str → Option Value
 base : Heap
 A : Around
 N : List Str
 s₀ : Shared
 H₀ : Hp
 env : Env
 outer : List Env
 stack : List Env
 ex : List Addr
 fn : Str → Bool
 calm : Bool
 pn : List (Addr × Obj)
 xe : Value → Shared → Prop
def frs (l : List Env) : List Addr := l.filterMap (·.frame)
abbrev Cx.fs (X : Cx) : List Addr := frs X.outer
def Vis (sc : Scope) (x : Str) : Prop := sc.names.lookup x = some .local ∨ sc.names.lookup x = some .cell ∨ sc.names.lookup x = some .free
def Loc (sc : Scope) (x : Str) : Prop := sc.names.lookup x = some .local ∨ sc.names.lookup x = some .cell
def Look (env : Env) (h : Heap) (m : Str → Option Value) (x : Str) (u : Value) : Prop :=
 (env.kindOf x = some .local ∧ m x = some u) ∨ ((env.kindOf x = some .cell ∨ env.kindOf x = some .free) ∧ ∃ c, env.cells.lookup x = some c ∧ h.IsCell c (some u))
structure Cx.Ok (X : Cx) : Prop where
 mod : Mod X.K X.mg X.base
 kind : X.env.scope.kind = .function
 glob : X.env.globals = mainGlobals
 blt : X.env.builtins = builtinsNs
 above : X.s₀.heap.objs.size ≤ X.env.locals
 inj : ∀ x y c, X.env.cells.lookup x = some c → X.env.cells.lookup y = some c → x = y
 has : ∀ x, (X.env.kindOf x = some .cell ∨ X.env.kindOf x = some .free) → ∃ c, X.env.cells.lookup x = some c
 cab : ∀ x c, X.fn x = true → X.env.cells.lookup x = some c → X.s₀.heap.objs.size ≤ c
 hd : X.calm = true → X.A.handled = none
 frames : X.A.frames = some X.stack
 stk : X.stack = X.outer ∨ (X.stack = X.env :: X.outer ∧ X.env.frame = some X.env.locals)
 exf : ∀ b ∈ X.ex, b ≠ X.env.locals ∧ ∀ x c, X.env.cells.lookup x = some c → c ≠ b
 bs : ∀ b o, X.base.get? b = some o → X.s₀.heap.get? b = some o ∧ X.H₀ b = none
 bsz : X.base.objs.size ≤ X.s₀.heap.objs.size
 noex : ∀ b o, X.base.get? b = some o → b ∉ X.ex
 exfs : ∀ b ∈ X.ex, b ∉ X.fs
 funs : X.s₀.heap.FunFrames X.base X.outer
 frf : ∀ b ∈ X.fs, X.H₀ b = none
structure Inv (X : Cx) (pins : List (Addr × Obj)) (σ : List (Option V)) (H : Hp) (s : Shared) : Prop where
 ok : X.Ok
 os : s.os = X.s₀.os
 bare : AllBare s.gens
 base : Un X.fs X.ex X.H₀ H X.s₀.heap s.heap
 loc : ∃ m, s.heap.Ns X.env.locals m ∧ ∀ (i : Nat) (x : Str) (v : V), X.N[i]? = some x → σ[i]? = some (some v) → Vis X.env.scope x → ∃ u, RelV v u ∧ Look X.env s.heap m x u
 cell : ∀ x c, X.env.cells.lookup x = some c → ∃ v, s.heap.IsCell c v
 free : H X.env.locals = none
 freeC : ∀ x c, X.env.cells.lookup x = some c → H c = none
 pin : ∀ p ∈ X.pn ++ pins, s.heap.get? p.1 = some p.2 ∧ H p.1 = none ∧ p.1 ≠ X.env.locals ∧ p.1 ∉ X.fs ∧ ∀ v, p.2.data ≠ .cell v
 hok : HOk X.prog X.w H s.heap
 len : σ.length = X.N.length
section
variable {X : Cx} {pins : List (Addr × Obj)} {σ : List (Option V)} {H H' : Hp} {s : Shared} {h' : Heap}
theorem Cx.Ok.nofr (ok : X.Ok) {b : Addr} {o : Obj} (e : X.base.get? b = some o) : b ∉ X.fs := fun hb => by
 have := (ok.funs.mem hb).1
 rw [e] at this; cases this
theorem Inv.bs (I : Inv X pins σ H s) : ∀ b o, X.base.get? b = some o → s.heap.get? b = some o ∧ H b = none := fun b o e =>
 ⟨I.base.keep b o (I.ok.bs b o e).1 (I.ok.bs b o e).2 (I.ok.nofr e) (I.ok.noex b o e), I.base.free b o (I.ok.bs b o e).1 (I.ok.bs b o e).2 (I.ok.noex b o e)⟩
theorem Inv.bk (I : Inv X pins σ H s) : ∀ b o, X.base.get? b = some o → s.heap.get? b = some o := fun b o e => (I.bs b o e).1
theorem Inv.mod (I : Inv X pins σ H s) : Mod X.K X.mg X.base := I.ok.mod
theorem Inv.kIn (I : Inv X pins σ H s) : X.K.In s.heap := I.ok.mod.kin.keeps I.bk
theorem Inv.lt (I : Inv X pins σ H s) : X.env.locals < s.heap.objs.size := let ⟨_, hn, _⟩ := I.loc; hn.lt
theorem Inv.sz (I : Inv X pins σ H s) : X.s₀.heap.objs.size ≤ s.heap.objs.size := Nat.le_trans I.ok.above (Nat.le_of_lt I.lt)
theorem Inv.nofs (I : Inv X pins σ H s) {a : Addr} (h : s.heap.objs.size ≤ a) : a ∉ X.fs := fun hb => by
 obtain ⟨_, o, ho, _⟩ := I.ok.funs.mem hb
 exact absurd (Nat.lt_of_lt_of_le (Heap.lt_size ho) (Nat.le_trans I.sz h)) (Nat.lt_irrefl _)
theorem Inv.cne (I : Inv X pins σ H s) : ∀ x c, X.env.cells.lookup x = some c → c ≠ X.env.locals := fun x c e z => by
 obtain ⟨v, o, ho, hd⟩ := I.cell x c e
 obtain ⟨m, ⟨o', es, ep, ho', hd', _⟩, _⟩ := I.loc
 rw [z, ho'] at ho; cases ho; rw [hd'] at hd; cases hd
theorem Inv.funs (I : Inv X pins σ H s) : s.heap.FunFrames X.base X.outer := by
 have all : ∀ (l : List Env), (∀ b ∈ frs l, b ∈ X.fs) → X.s₀.heap.FunFrames X.base l → s.heap.FunFrames X.base l := by
  intro l
  induction l with
  | nil => intro _ _; trivial
  | cons env r ih =>
   intro hs hl
   obtain ⟨hk, ⟨L, o, hf, hn, ho, hd⟩, hr⟩ := hl
   have hL : L ∈ X.fs := hs L (by unfold frs; rw [List.filterMap_cons, hf]; exact List.mem_cons_self)
   obtain ⟨sl, e⟩ := I.base.slot L o ho (I.ok.frf L hL) hL fun z => I.ok.exfs L z hL
   exact ⟨hk, ⟨L, _, hf, hn, e, hd⟩, ih (fun b hb => hs b (by unfold frs; rw [List.filterMap_cons, hf]; exact List.mem_cons_of_mem _ hb)) hr⟩
 exact all X.outer (fun _ hb => hb) I.ok.funs
theorem Inv.stack (I : Inv X pins σ H s) : s.heap.FunFrames X.base X.stack := by
 rcases I.ok.stk with e | ⟨e, hf⟩
 ·rw [e]; exact I.funs
 ·rw [e]
  obtain ⟨m, hn, _⟩ := I.loc
  refine .cons (by rw [I.ok.kind]; decide) hf hn ?_ I.funs
  exact Heap.get?_none_of_le (Nat.le_trans I.ok.bsz I.ok.above)
theorem Inv.stkSub (I : Inv X pins σ H s) : ∀ b ∈ frs X.stack, b ∈ X.env.locals :: X.fs := fun b hb => by
 rcases I.ok.stk with e | ⟨e, hf⟩
 ·rw [e] at hb; exact List.mem_cons_of_mem _ hb
 ·rw [e] at hb
  unfold frs at hb
  rw [List.filterMap_cons, hf] at hb
  exact hb
theorem Inv.stkFree (I : Inv X pins σ H s) : ∀ b ∈ frs X.stack, H b = none := fun b hb => by
 rcases List.mem_cons.mp (I.stkSub b hb) with e | hb
 ·rw [e]; exact I.free
 ·obtain ⟨_, o, ho, _⟩ := I.ok.funs.mem hb
  exact I.base.free b o ho (I.ok.frf b hb) fun z => I.ok.exfs b z hb
theorem Inv.step {g' : Array GenState} {t' : Nat} {d' : Drawn} {ch : List Addr} (I : Inv X pins σ H s)
  (hch : ∀ b ∈ ch, (b ∈ X.ex ∨ X.s₀.heap.objs.size ≤ b) ∧ b ≠ X.env.locals ∧ (∀ x c, X.env.cells.lookup x = some c → c ≠ b) ∧ ∀ p ∈ X.pn ++ pins, p.1 ≠ b)
  (keep : ∀ b o, b ≠ X.env.locals → b ∉ X.fs → b ∉ ch → s.heap.get? b = some o → H b = none → h'.get? b = some o)
  (slot : ∀ b o, b ≠ X.env.locals → b ∈ X.fs → b ∉ ch → s.heap.get? b = some o → H b = none → ∃ sl, h'.get? b = some { o with slots := sl }) (free : ∀ b o, b ∉ ch → s.heap.get? b = some o → H b = none → H' b = none)
  (there : ∀ b o, b ∉ ch → s.heap.get? b = some o → ∃ o', h'.get? b = some o')
  (tups : ∀ b xs, H b = some (.tup xs) → H' b = some (.tup xs)) (frzs : ∀ b o u, H b = some (.frz o u) → H' b = some (.frz o u)) (tbls : ∀ b ps, H b = some (.tbl ps) → ∃ more, H' b = some (.tbl (ps ++ more)))
  (ns : ∀ m, s.heap.Ns X.env.locals m → h'.Ns X.env.locals m) (hok : HOk X.prog X.w H' h') (hg : AllBare g') :
  Inv X pins σ H' { s with heap := h', gens := g', drawn := d', toks := t' } := by
 have neL : ∀ b o, X.s₀.heap.get? b = some o → b ≠ X.env.locals := fun b o e => Nat.ne_of_lt (Nat.lt_of_lt_of_le (Heap.lt_size e) I.ok.above)
 have neC : ∀ b o, X.s₀.heap.get? b = some o → b ∉ X.ex → b ∉ ch := fun b o e hx hb => by
  rcases (hch b hb).1 with z | z
  ·exact hx z
  ·exact absurd (Nat.lt_of_lt_of_le (Heap.lt_size e) z) (Nat.lt_irrefl _)
 have cellK : ∀ x c, X.env.cells.lookup x = some c → ∀ v, s.heap.IsCell c v → h'.IsCell c v := fun x c e v ⟨o, ho, hd⟩ => by
  have nch : c ∉ ch := fun z => (hch c z).2.2.1 x c e rfl
  by_cases hc : c ∈ X.fs
  ·obtain ⟨sl, q⟩ := slot c o (I.cne x c e) hc nch ho (I.freeC x c e)
   exact ⟨_, q, hd⟩
  ·exact ⟨o, keep c o (I.cne x c e) hc nch ho (I.freeC x c e), hd⟩
 refine ⟨I.ok, I.os, hg, ⟨fun b o e n hb hx => ?_, fun b o e n hb hx => ?_, fun b o e n hx => ?_, fun b o e hx => ?_, fun b xs e => tups b xs (I.base.tups b xs e), fun b o xs e => frzs b o xs (I.base.frzs b o xs e), fun b ps e => ?_⟩, ?_, fun x c e => ?_, ?_, fun x c e => ?_, fun p hp => ?_, hok, I.len⟩
 ·exact keep b o (neL b o e) hb (neC b o e hx) (I.base.keep b o e n hb hx) (I.base.free b o e n hx)
 ·obtain ⟨sl, e1⟩ := I.base.slot b o e n hb hx
  obtain ⟨sl', e2⟩ := slot b _ (neL b o e) hb (neC b o e hx) e1 (I.base.free b o e n hx)
  exact ⟨sl', e2⟩
 ·obtain ⟨o', e1⟩ := I.base.there b o e hx
  exact free b o' (neC b o e hx) e1 (I.base.free b o e n hx)
 ·obtain ⟨o', e1⟩ := I.base.there b o e hx
  exact there b o' (neC b o e hx) e1
 ·obtain ⟨m1, e1⟩ := I.base.tbls b ps e
  obtain ⟨m2, e2⟩ := tbls b _ e1
  exact ⟨m1 ++ m2, by rw [e2, Array.append_assoc]⟩
 ·obtain ⟨m, hn, hl⟩ := I.loc
  refine ⟨m, ns m hn, fun i x v e1 e2 e3 => ?_⟩
  obtain ⟨u, r, l⟩ := hl i x v e1 e2 e3
  refine ⟨u, r, ?_⟩
  rcases l with l | ⟨k, c, e, z⟩
  ·exact .inl l
  ·exact .inr ⟨k, c, e, cellK x c e _ z⟩
 ·obtain ⟨v, z⟩ := I.cell x c e
  exact ⟨v, cellK x c e v z⟩
 ·obtain ⟨m, ⟨o, _, _, ho, _⟩, _⟩ := I.loc
  exact free _ o (fun z => (hch _ z).2.1 rfl) ho I.free
 ·obtain ⟨v, o, ho, hd⟩ := I.cell x c e
  exact free c o (fun z => (hch c z).2.2.1 x c e rfl) ho (I.freeC x c e)
 ·obtain ⟨e, n, ne, nf, d⟩ := I.pin p hp
  have nch : p.1 ∉ ch := fun z => (hch p.1 z).2.2.2 p hp rfl
  exact ⟨keep p.1 p.2 ne nf nch e n, free p.1 p.2 nch e n, ne, nf, d⟩
theorem Inv.un {t' : Nat} (I : Inv X pins σ H s) (u : Un X.fs [] H H' s.heap h') (hok : HOk X.prog X.w H' h') : Inv X pins σ H' { s with heap := h', toks := t' } := by
 obtain ⟨m, ⟨o, es, ep, ho, r⟩, _⟩ := id I.loc
 obtain ⟨sl, hL⟩ := u.any ho I.free (by simp)
 exact I.step (g' := s.gens) (d' := s.drawn) (ch := []) (fun _ z => nomatch z) (fun b o _ hb _ e n => u.keep b o e n hb (by simp)) (fun b o _ hb _ e n => u.slot b o e n hb (by simp)) (fun b o _ e n => u.free b o e n (by simp)) (fun b o _ e => u.there b o e (by simp)) u.tups u.frzs u.tbls (fun m' hm => by
  obtain ⟨o', es', ep', ho', r'⟩ := hm
  rw [ho] at ho'; cases ho'
  exact ⟨_, es', ep', hL, r'⟩) hok I.bare
theorem Inv.call {g' : Array GenState} {t' : Nat} {d' : Drawn} {ch : List Addr} (I : Inv X pins σ H s) (u : Un (frs X.stack) ch H H' s.heap h') (hok : HOk X.prog X.w H' h') (hg : AllBare g')
  (hch : ∀ b ∈ ch, (b ∈ X.ex ∨ X.s₀.heap.objs.size ≤ b) ∧ b ≠ X.env.locals ∧ (∀ x c, X.env.cells.lookup x = some c → c ≠ b) ∧ ∀ p ∈ X.pn ++ pins, p.1 ≠ b) :
  Inv X pins σ H' { s with heap := h', gens := g', drawn := d', toks := t' } := by
 obtain ⟨m, ⟨o, es, ep, ho, r⟩, _⟩ := id I.loc
 obtain ⟨sl, hL⟩ := u.any ho I.free fun z => (hch _ z).2.1 rfl
 exact I.step (ch := ch) hch (fun b o hL hb hc e n => u.keep b o e n (fun z => (List.mem_cons.mp (I.stkSub b z)).elim hL hb) hc) (fun b o _ _ hc e n => u.any e n hc) (fun b o hc e n => u.free b o e n hc) (fun b o hc e => u.there b o e hc) u.tups u.frzs u.tbls (fun m' hm => by
  obtain ⟨o', es', ep', ho', r'⟩ := hm
  rw [ho] at ho'; cases ho'
  exact ⟨_, es', ep', hL, r'⟩) hok hg
theorem Inv.turned {t' : Nat} {it : Addr} (I : Inv X pins σ H s) (k : ∀ b o, b ≠ it → s.heap.get? b = some o → h'.get? b = some o) (hn : H it = none) (hL : it ≠ X.env.locals)
  (h1 : it ∈ X.ex ∨ X.s₀.heap.objs.size ≤ it) (h2 : ∀ x c, X.env.cells.lookup x = some c → c ≠ it) (h3 : ∀ p ∈ X.pn ++ pins, p.1 ≠ it) : Inv X pins σ H { s with heap := h', toks := t' } := by
 have nit : ∀ b u, H b = some u → b ≠ it := fun b u e z => by rw [z, hn] at e; cases e
 refine I.step (g' := s.gens) (d' := s.drawn) (ch := [it]) (fun b hb => ?_) (fun b o _ _ hc e _ => k b o (fun z => hc (by simp [z])) e) (fun b o _ _ hc e _ => ⟨o.slots, k b o (fun z => hc (by simp [z])) e⟩) (fun _ _ _ _ n => n)
  (fun b o hc e => ⟨o, k b o (fun z => hc (by simp [z])) e⟩) (fun _ _ e => e) (fun _ _ _ e => e) (fun b ps e => ⟨#[], by rw [e]; simp⟩) (fun m hm => ?_) (fun b u e => ?_) I.bare
 ·have e : b = it := by simpa using hb
  subst e
  exact ⟨h1, hL, h2, h3⟩
 ·obtain ⟨o, es, ep, ho, r⟩ := hm
  exact ⟨o, es, ep, k _ o (Ne.symm hL) ho, r⟩
 ·refine (I.hok b u e).stay (fun c v hc q => k c v ?_ q) (fun _ q => q) fun _ _ q => q
  rcases hc with z | z
  ·rw [z]; exact nit b u e
  ·exact nit c _ z
theorem Inv.tok (I : Inv X pins σ H s) (t : Nat) : Inv X pins σ H { s with toks := t } := I.un (h' := s.heap) (t' := t) Un.refl I.hok
theorem Inv.kept {t' : Nat} (I : Inv X pins σ H s) (k : ∀ b u, s.heap.get? b = some u → h'.get? b = some u) : Inv X pins σ H { s with heap := h', toks := t' } := I.un (Un.kept k) (I.hok.kept k)
theorem Inv.laid {a : Addr} {o : HO} {t' : Nat} (I : Inv X pins σ H s) (k : ∀ b u, s.heap.get? b = some u → h'.get? b = some u) (hp : s.heap.objs.size ≤ a) (new : ObjOk X.prog X.w (upd H a o) h' a o) :
  Inv X pins σ (upd H a o) { s with heap := h', toks := t' } := I.un (Un.laid k hp (I.hok.fresh hp)) (I.hok.laid k hp new)
theorem Inv.write {x e : Addr} {o : HO} {t' : Nat} (I : Inv X pins σ H s) (mu : Mut (H x)) (he : e = x ∨ H e = some (.own x)) (k : ∀ b u, b ≠ e → s.heap.get? b = some u → h'.get? b = some u) (heo : ∃ u, h'.get? e = some u)
  (new : ObjOk X.prog X.w (upd H x o) h' x o) : Inv X pins σ (upd H x o) { s with heap := h', toks := t' } := I.un (Un.write mu he k heo) (I.hok.write mu he k heo new)
theorem Inv.weak {σ' : List (Option V)} (I : Inv X pins σ H s) (hl : σ'.length = σ.length) (w : ∀ (i : Nat) v, σ'[i]? = some (some v) → σ[i]? = some (some v)) : Inv X pins σ' H s :=
 ⟨I.ok, I.os, I.bare, I.base, let ⟨m, hn, hl'⟩ := I.loc; ⟨m, hn, fun i x v e1 e2 e3 => hl' i x v e1 (w i v e2) e3⟩, I.cell, I.free, I.freeC, I.pin, I.hok, hl.trans I.len⟩
theorem Inv.pins_of {pins' : List (Addr × Obj)} (I : Inv X pins σ H s) (h : ∀ p ∈ pins', s.heap.get? p.1 = some p.2 ∧ H p.1 = none ∧ p.1 ≠ X.env.locals ∧ p.1 ∉ X.fs ∧ ∀ v, p.2.data ≠ .cell v) : Inv X pins' σ H s :=
 ⟨I.ok, I.os, I.bare, I.base, I.loc, I.cell, I.free, I.freeC, fun p hp => (List.mem_append.mp hp).elim (fun z => I.pin p (List.mem_append_left _ z)) (h p), I.hok, I.len⟩
theorem nodup_ix {N : List Str} (hN : N.Nodup) {i j : Nat} {x : Str} (a : N[i]? = some x) (b : N[j]? = some x) : i = j := by
 obtain ⟨h1, e1⟩ := List.getElem?_eq_some_iff.mp a
 obtain ⟨h2, e2⟩ := List.getElem?_eq_some_iff.mp b
 exact (List.getElem_inj hN).mp (e1.trans e2.symm)
theorem store_ok2 {M : Model} {A : Around} {E : Value → Shared → Prop} {i : Nat} {x : Str} {v : V} {u : Value} {Q : Unit → Shared → Prop} (I : Inv X pins σ H s) (hN : X.N.Nodup) (hi : X.N[i]? = some x) (hx : Loc X.env.scope x) (r : RelV v u)
  (h : ∀ s', Inv X pins (σ.set i (some v)) H s' → (∃ a, Heap.SameBut a s.heap s'.heap ∧ (a = X.env.locals ∨ X.env.cells.lookup x = some a)) → Q () s') (hf : X.fn x = true ∨ X.env.scope.names.lookup x = some .local := by first | exact .inl rfl | exact .inr rfl | assumption) : wpAny M A (storeName X.env x u) Q E s := by
 obtain ⟨m, hn, hl⟩ := id I.loc
 have hcls : (X.env.scope.kind == .class || (X.env.scope.kind == .module && X.env.locals != X.env.globals)) = false := by rw [I.ok.kind]; rfl
 have hiσ : i < σ.length := by rw [I.len]; exact (List.getElem?_eq_some_iff.mp hi).1
 have cne := I.cne
 have tracked : ∀ {a : Addr} {h' : Heap}, (∃ o, s.heap.get? a = some o ∧ H a = none) → Heap.SameBut a s.heap h' → HOk X.prog X.w H h' := fun {a h'} ha hs b ob e => by
  obtain ⟨_, _, hfree⟩ := ha
  refine (I.hok b ob e).stay (fun c w' hc q => (hs.2 c ?_).trans q) (fun _ q => q) fun _ _ q => q
  rintro rfl
  rcases hc with rfl | hc
  ·rw [hfree] at e; cases e
  ·rw [hfree] at hc; cases hc
 rcases hx with hk | hk
 ·refine wpAny_storeName_local hk hn (fun h' hn' hs => ?_) hcls
  obtain ⟨oL, _, _, hoL, _⟩ := id hn
  refine h _ ⟨I.ok, I.os, I.bare, ⟨fun b o e n hb hx => ?_, fun b o e n hb hx => ?_, I.base.free, fun b o e hx => ?_, I.base.tups, I.base.frzs, I.base.tbls⟩, ⟨_, hn', fun j y v' e1 e2 e3 => ?_⟩, fun y c e => ?_, I.free, I.freeC, fun p hp => ?_, tracked ⟨oL, hoL, I.free⟩ hs, by simpa using I.len⟩ ⟨_, hs, .inl rfl⟩
  ·exact (hs.2 b (Nat.ne_of_lt (Nat.lt_of_lt_of_le (Heap.lt_size e) I.ok.above))).trans (I.base.keep b o e n hb hx)
  ·obtain ⟨sl, e1⟩ := I.base.slot b o e n hb hx
   exact ⟨sl, (hs.2 b (Nat.ne_of_lt (Nat.lt_of_lt_of_le (Heap.lt_size e) I.ok.above))).trans e1⟩
  ·obtain ⟨o', e1⟩ := I.base.there b o e hx
   exact ⟨o', (hs.2 b (Nat.ne_of_lt (Nat.lt_of_lt_of_le (Heap.lt_size e) I.ok.above))).trans e1⟩
  ·by_cases hj : j = i
   ·subst hj
    rw [hi] at e1; cases e1
    rw [List.getElem?_set_self hiσ] at e2
    cases e2
    exact ⟨u, r, .inl ⟨hk, by simp⟩⟩
   ·rw [List.getElem?_set_ne (Ne.symm hj)] at e2
    obtain ⟨u', r', q⟩ := hl j y v' e1 e2 e3
    refine ⟨u', r', ?_⟩
    rcases q with ⟨k, e⟩ | ⟨k, c, e, z⟩
    ·refine .inl ⟨k, ?_⟩
     have : y ≠ x := fun e => hj (nodup_ix hN e1 (e ▸ hi))
     simp [this, e]
    ·exact .inr ⟨k, c, e, z.sameBut hs (cne y c e)⟩
  ·obtain ⟨w', z⟩ := I.cell y c e
   exact ⟨w', z.sameBut hs (cne y c e)⟩
  ·obtain ⟨e, n, ne, nf, d⟩ := I.pin p hp
   exact ⟨(hs.2 p.1 ne).trans e, n, ne, nf, d⟩
 ·have hfn : X.fn x = true := by
   rcases hf with z | z
   ·exact z
   ·rw [z] at hk; cases hk
  obtain ⟨c, hc⟩ := I.ok.has x (.inl hk)
  obtain ⟨w', z⟩ := I.cell x c hc
  refine wpAny_storeName_cell I.ok.kind hk hc z (fun h' hc' hs => ?_)
  obtain ⟨oc, hoc, hocd⟩ := id z
  refine h { s with heap := h' } ⟨I.ok, I.os, I.bare, ⟨fun b o e n hb hx => ?_, fun b o e n hb hx => ?_, I.base.free, fun b o e hx => ?_, I.base.tups, I.base.frzs, I.base.tbls⟩, ⟨m, hn.sameBut hs (Ne.symm (cne x c hc)), fun j y v' e1 e2 e3 => ?_⟩, fun y c' e => ?_, I.free, I.freeC, fun p hp => ?_, tracked ⟨oc, hoc, I.freeC x c hc⟩ hs, by simpa using I.len⟩ ⟨c, hs, .inr hc⟩
  ·exact (hs.2 b (Nat.ne_of_lt (Nat.lt_of_lt_of_le (Heap.lt_size e) (I.ok.cab x c hfn hc)))).trans (I.base.keep b o e n hb hx)
  ·obtain ⟨sl, e1⟩ := I.base.slot b o e n hb hx
   exact ⟨sl, (hs.2 b (Nat.ne_of_lt (Nat.lt_of_lt_of_le (Heap.lt_size e) (I.ok.cab x c hfn hc)))).trans e1⟩
  ·obtain ⟨o', e1⟩ := I.base.there b o e hx
   exact ⟨o', (hs.2 b (Nat.ne_of_lt (Nat.lt_of_lt_of_le (Heap.lt_size e) (I.ok.cab x c hfn hc)))).trans e1⟩
  ·by_cases hj : j = i
   ·subst hj
    rw [hi] at e1; cases e1
    rw [List.getElem?_set_self hiσ] at e2
    cases e2
    exact ⟨u, r, .inr ⟨.inl hk, c, hc, hc'⟩⟩
   ·rw [List.getElem?_set_ne (Ne.symm hj)] at e2
    obtain ⟨u', r', q⟩ := hl j y v' e1 e2 e3
    refine ⟨u', r', ?_⟩
    rcases q with q | ⟨k, c', e, z'⟩
    ·exact .inl q
    ·refine .inr ⟨k, c', e, z'.sameBut hs ?_⟩
     rintro rfl
     exact hj (nodup_ix hN e1 (I.ok.inj _ _ _ e hc ▸ hi))
  ·by_cases hcc : c' = c
   ·subst hcc; exact ⟨_, hc'⟩
   ·obtain ⟨w2, z2⟩ := I.cell y c' e
    exact ⟨w2, z2.sameBut hs hcc⟩
  ·obtain ⟨e, n, ne, nf, d⟩ := I.pin p hp
   refine ⟨(hs.2 p.1 ?_).trans e, n, ne, nf, d⟩
   intro q
   rw [q, hoc] at e
   have q' : oc = p.2 := Option.some.inj e
   exact d w' (by rw [← q']; exact hocd)
theorem store_ok {M : Model} {A : Around} {E : Value → Shared → Prop} {i : Nat} {x : Str} {v : V} {u : Value} {Q : Unit → Shared → Prop} (I : Inv X pins σ H s) (hN : X.N.Nodup) (hi : X.N[i]? = some x) (hx : Loc X.env.scope x) (r : RelV v u)
  (h : ∀ s', Inv X pins (σ.set i (some v)) H s' → Q () s') (hf : X.fn x = true ∨ X.env.scope.names.lookup x = some .local := by first | exact .inl rfl | exact .inr rfl | assumption) : wpAny M A (storeName X.env x u) Q E s :=
 store_ok2 I hN hi hx r (fun s' I' _ => h s' I') hf
theorem Inv.call' {s' : Shared} {ch : List Addr} (I : Inv X pins σ H s) (ho : s'.os = s.os) (u : Un (frs X.stack) ch H H' s.heap s'.heap) (hok : HOk X.prog X.w H' s'.heap) (hg : AllBare s'.gens)
  (hch : ∀ b ∈ ch, (b ∈ X.ex ∨ X.s₀.heap.objs.size ≤ b) ∧ b ≠ X.env.locals ∧ (∀ x c, X.env.cells.lookup x = some c → c ≠ b) ∧ ∀ p ∈ X.pn ++ pins, p.1 ≠ b) : Inv X pins σ H' s' := by
 obtain ⟨h', g', d', t', o'⟩ := s'
 have e : o' = s.os := ho
 subst e
 exact I.call (g' := g') (t' := t') (d' := d') u hok hg hch
end
abbrev XK := Value → Option Addr → Hp → Prop
abbrev St := List (Option V)
abbrev VK := V → Hp → Prop
abbrev TE := St → Hp → VK → Prop
abbrev TT := St → Hp → (Bool → Hp → Prop) → Prop
abbrev TA := St → Hp → (List V → Hp → Prop) → Prop
structure Ends where
 nx : St → Hp → Prop
 rt : VK
 bk : St → Hp → Prop := fun _ _ => False
 ct : St → Hp → Prop := fun _ _ => False
abbrev TS := Ends → St → Hp → Prop
def EP (X : Cx) (pins : List (Addr × Obj)) (σ : St) (Q : VK) (u : Value) (s' : Shared) : Prop := ∃ v H', Inv X pins σ H' s' ∧ RelV v u ∧ Q v H'
def TP (X : Cx) (pins : List (Addr × Obj)) (σ : St) (Q : Bool → Hp → Prop) (b : Bool) (s' : Shared) : Prop := ∃ H', Inv X pins σ H' s' ∧ Q b H'
def AP (X : Cx) (pins : List (Addr × Obj)) (σ : St) (Q : List V → Hp → Prop) (us : List Value) (s' : Shared) : Prop := ∃ vs H', Inv X pins σ H' s' ∧ Vals vs us ∧ Q vs H'
def SP (X : Cx) (pins : List (Addr × Obj)) (D : Ends) (f : Flow) (s' : Shared) : Prop :=
 match f with
 | .next => ∃ σ' H', Inv X pins σ' H' s' ∧ D.nx σ' H'
 | .brk => ∃ σ' H', Inv X pins σ' H' s' ∧ D.bk σ' H'
 | .cont => ∃ σ' H', Inv X pins σ' H' s' ∧ D.ct σ' H'
 | .ret u => ∃ v σ' H', Inv X pins σ' H' s' ∧ RelV v u ∧ D.rt v H'
def PE (X : Cx) (e : Expr) (t : TE) : Prop :=
 ∀ (pins : List (Addr × Obj)) (s : Shared) (σ : St) (H : Hp) (Q : VK), Inv X pins σ H s → t σ H Q → wpAny (model X.prog X.w) X.A (eval e X.env) (EP X pins σ Q) X.xe s
def PT (X : Cx) (e : Expr) (t : TT) : Prop :=
 ∀ (pins : List (Addr × Obj)) (s : Shared) (σ : St) (H : Hp) (Q : Bool → Hp → Prop), Inv X pins σ H s → t σ H Q → wpAny (model X.prog X.w) X.A (isTrue e X.env (eval e X.env)) (TP X pins σ Q) X.xe s
def PW (X : Cx) (e : Expr) (t : TT) : Prop :=
 ∀ (whole : Sem Value) (pins : List (Addr × Obj)) (s : Shared) (σ : St) (H : Hp) (Q : Bool → Hp → Prop), Inv X pins σ H s → t σ H Q → wpAny (model X.prog X.w) X.A (isTrue e X.env whole) (TP X pins σ Q) X.xe s
theorem PW.pt {X : Cx} {e : Expr} {t : TT} (h : PW X e t) : PT X e t := h _
def PA (X : Cx) (es : List Expr) (t : TA) : Prop :=
 ∀ (pos : Pos) (pins : List (Addr × Obj)) (s : Shared) (σ : St) (H : Hp) (Q : List V → Hp → Prop), Inv X pins σ H s → t σ H Q → wpAny (model X.prog X.w) X.A (spliced (backTo pos (starEach es X.env))) (AP X pins σ Q) X.xe s
def PS (X : Cx) (st : Stmt) (t : TS) : Prop :=
 ∀ (pins : List (Addr × Obj)) (s : Shared) (σ : St) (H : Hp) (D : Ends), Inv X pins σ H s → t D σ H → wpAny (model X.prog X.w) X.A (exec st X.env) (SP X pins D) X.xe s
def PSs (X : Cx) (st : List Stmt) (t : TS) : Prop :=
 ∀ (pins : List (Addr × Obj)) (s : Shared) (σ : St) (H : Hp) (D : Ends), Inv X pins σ H s → t D σ H → wpAny (model X.prog X.w) X.A (execs st X.env) (SP X pins D) X.xe s
theorem thn {α : Type} {t : Sem α} {Q Q' : α → Shared → Prop} {M : Model} {A : Around} {E : Value → Shared → Prop} {s : Shared} (h : wpAny M A t Q E s) (hQ : ∀ a s, Q a s → Q' a s) : wpAny M A t Q' E s := wpAny_mono h hQ fun _ _ x => x
end L2
namespace L2
open PySem PySem.Spec PyProof.Rows
section
variable {X : Cx}
def tVar (i : Nat) : TE := fun σ H Q => ∃ v, σ[i]? = some (some v) ∧ Q v H
def tC (v : V) : TE := fun _ H Q => Q v H
theorem pe_var {i : Nat} {x : Str} {pos : Pos} (hN : X.N[i]? = some x) (hv : Vis X.env.scope x) (hd : (x == ("__debug__" : Str)) = false := by decide) (hcd : (x == ("__classdict__" : Str)) = false := by decide) : PE X (.Name x pos) (tVar i) := by
 intro pins s σ H Q I h
 obtain ⟨v, e, h⟩ := h
 obtain ⟨m, hn, hl⟩ := I.loc
 obtain ⟨u, r, l⟩ := hl i x v hN e hv
 have fin : EP X pins σ Q u s := ⟨v, H, I, r, h⟩
 rcases l with ⟨hk, hm⟩ | ⟨hk, c, hc, hcell⟩
 ·exact wpAny_Name (wpAny_loadName_local I.ok.kind hk hn hm fin) hd
 ·rcases hk with hk | hk
  ·exact wpAny_Name (wpAny_loadName_cell I.ok.kind hk hc hcell fin) hd
  ·exact wpAny_Name (wpAny_loadName_free I.ok.kind hk hc hcell fin hcd) hd
theorem qk {i j pos} : PE X (.Constant (.int i) j pos) (tC (.int i)) := fun _ _ _ H _ I h => wpAny_Constant_int ⟨.int i, H, I.tok _, ⟨_, rfl⟩, h⟩
theorem pe_bl {b j pos} : PE X (.Constant (.bool b) j pos) (tC (.bl b)) := fun _ _ _ H _ I h => Constant_bool ⟨.bl b, H, I, rfl, h⟩
theorem pe_non {j pos} : PE X (.Constant .none j pos) (tC .non) := fun _ _ _ H _ I h => Constant_none ⟨.non, H, I, rfl, h⟩
theorem v6 {x j pos} : PE X (.Constant (.str x) j pos) (tC (.str x)) := fun _ _ _ H _ I h => Calls.Constant_str ⟨.str x, H, I.tok _, ⟨_, rfl⟩, h⟩
def Gl (X : Cx) (x : Str) : Prop := X.env.kindOf x = some .globalImplicit
theorem ld_glob {E : Value → Shared → Prop} {pins : List (Addr × Obj)} {s : Shared} {σ : St} {H : Hp} {x : Str} {u : Value} {pos : Pos} {Q : Value → Shared → Prop} (I : Inv X pins σ H s) (hg : Gl X x) (hm : X.mg x = some u) (h : Q u s)
  (hd : (x == ("__debug__" : Str)) = false := by decide) : wpAny (model X.prog X.w) X.A (eval (.Name x pos) X.env) Q E s :=
 Calls.Name_function_global I.ok.kind hg (Calls.loadGlobal_global (by rw [I.ok.glob]; exact I.mod.glob.keeps I.bk) hm h) hd
theorem ld_blt {E : Value → Shared → Prop} {pins : List (Addr × Obj)} {s : Shared} {σ : St} {H : Hp} {x : Str} {u : Value} {pos : Pos} {Q : Value → Shared → Prop} (I : Inv X pins σ H s) (hg : Gl X x) (hm : X.mg x = none) (hv : bootBuiltins x = some u) (h : Q u s)
  (hn : x ≠ "__name__" := by decide) (hd : (x == ("__debug__" : Str)) = false := by decide) : wpAny (model X.prog X.w) X.A (eval (.Name x pos) X.env) Q E s := by
 obtain ⟨mb, h1, h2⟩ := I.mod.blt
 exact Calls.Name_function_global I.ok.kind hg (Calls.loadGlobal_builtin (by rw [I.ok.glob]; exact I.mod.glob.keeps I.bk) hm (by rw [I.ok.blt]; exact h1.keeps I.bk) ((h2 x hn).trans hv) h) hd
theorem yZ {x : Str} {v : V} {u : Value} {pos : Pos} (hg : Gl X x) (hm : X.mg x = some u) (r : RelV v u) (hd : (x == ("__debug__" : Str)) = false := by decide) : PE X (.Name x pos) (tC v) :=
 fun _ _ _ H _ I h => ld_glob I hg hm ⟨v, H, I, r, h⟩ hd
theorem vX {x : Str} {v : V} {u : Value} {pos : Pos} (hg : Gl X x) (hm : X.mg x = none) (hv : bootBuiltins x = some u) (r : RelV v u) (hn : x ≠ "__name__" := by decide) (hd : (x == ("__debug__" : Str)) = false := by decide) : PE X (.Name x pos) (tC v) :=
 fun _ _ _ H _ I h => ld_blt I hg hm hv ⟨v, H, I, r, h⟩ hn hd
variable {a b : Expr} {ta tb : TE} {pos : Pos}
def tB (t : TE) : TT := fun σ H Q => t σ H fun x H1 => ∃ c, x = .bl c ∧ Q c H1
theorem yX {e : Expr} {t : TE} (h : PE X e t) (he : ∀ whole, isTrue e X.env whole = (do let v ← whole; standAt e.pos; holding [v] (truthy v)) := by intro _; rfl) : PT X e (tB t) := by
 intro pins s σ H Q I hw
 refine isTrue_plain (thn (h pins s σ H _ I hw) fun v s1 ⟨x, H1, I1, r1, q1⟩ => ?_) (he _)
 obtain ⟨d, rfl, q⟩ := q1
 cases r1
 exact wpAny_truthy_bool ⟨H1, I1, q⟩
variable {tA tB' : TT} {rest : List Expr}
def tAnd (t u : TT) : TT := fun σ H Q => t σ H fun c H1 => if c = true then u σ H1 Q else Q false H1
def tOr (t u : TT) : TT := fun σ H Q => t σ H fun c H1 => if c = true then Q true H1 else u σ H1 Q
def tNot (t : TT) : TT := fun σ H Q => t σ H fun c H1 => Q (!c) H1
theorem J4 (ha : PT X a tA) : PW X (.BoolOp .And [a] pos) tA := by
 intro wh pins s σ H Q I h
 refine isTrue_and (thn (ha pins s σ H Q I h) fun c s1 e => ?_)
 cases c with
 | true => exact isTrue_and_nil e
 | false => exact e
theorem xv (ha : PT X a tA) : PW X (.BoolOp .Or [a] pos) tA := by
 intro wh pins s σ H Q I h
 refine isTrue_or (thn (ha pins s σ H Q I h) fun c s1 e => ?_)
 cases c with
 | false => exact isTrue_or_nil e
 | true => exact e
theorem pw_and (ha : PT X a tA) (hb : PW X (.BoolOp .And (b :: rest) pos) tB') : PW X (.BoolOp .And (a :: b :: rest) pos) (tAnd tA tB') := by
 intro wh pins s σ H Q I h
 refine isTrue_and (thn (ha pins s σ H _ I h) fun c s1 ⟨H1, I1, q1⟩ => ?_)
 cases c with
 | true => exact hb wh pins s1 σ H1 Q I1 q1
 | false => exact ⟨H1, I1, q1⟩
theorem pw_or (ha : PT X a tA) (hb : PW X (.BoolOp .Or (b :: rest) pos) tB') : PW X (.BoolOp .Or (a :: b :: rest) pos) (tOr tA tB') := by
 intro wh pins s σ H Q I h
 refine isTrue_or (thn (ha pins s σ H _ I h) fun c s1 ⟨H1, I1, q1⟩ => ?_)
 cases c with
 | true => exact ⟨H1, I1, q1⟩
 | false => exact hb wh pins s1 σ H1 Q I1 q1
theorem jQ (ha : PT X a tA) : PT X (.UnaryOp .Not a pos) (tNot tA) := by
 intro pins s σ H Q I h
 exact isTrue_not (ha pins s σ H (fun c H1 => Q (!c) H1) I h)
def tAndV (ta tb : TE) : TE := fun σ H Q => ta σ H fun x H1 => ∃ c, x = .bl c ∧ if c = true then tb σ H1 Q else Q (.bl false) H1
def tOrV (ta tb : TE) : TE := fun σ H Q => ta σ H fun x H1 => ∃ c, x = .bl c ∧ if c = true then Q (.bl true) H1 else tb σ H1 Q
def tNotV (ta : TE) : TE := fun σ H Q => ta σ H fun x H1 => ∃ c, x = .bl c ∧ Q (.bl (!c)) H1
theorem pe_one {op} {t : TE} (h : PE X a t) : PE X (.BoolOp op [a] pos) t := fun pins s σ H Q I hw => BoolOp_one (h pins s σ H Q I hw)
theorem pe_and (ha : PE X a ta) (hb : PE X (.BoolOp .And (b :: rest) pos) tb) : PE X (.BoolOp .And (a :: b :: rest) pos) (tAndV ta tb) := by
 intro pins s σ H Q I h
 refine BoolOp_and (thn (ha pins s σ H _ I h) fun v s1 ⟨x, H1, I1, r1, q1⟩ => ?_)
 obtain ⟨c, rfl, q1⟩ := q1
 cases r1
 refine wpAny_truthy_bool ?_
 cases c with
 | true => exact hb pins s1 σ H1 Q I1 q1
 | false => exact ⟨.bl false, H1, I1, rfl, q1⟩
theorem pe_or (ha : PE X a ta) (hb : PE X (.BoolOp .Or (b :: rest) pos) tb) : PE X (.BoolOp .Or (a :: b :: rest) pos) (tOrV ta tb) := by
 intro pins s σ H Q I h
 refine BoolOp_or (thn (ha pins s σ H _ I h) fun v s1 ⟨x, H1, I1, r1, q1⟩ => ?_)
 obtain ⟨c, rfl, q1⟩ := q1
 cases r1
 refine wpAny_truthy_bool ?_
 cases c with
 | false => exact hb pins s1 σ H1 Q I1 q1
 | true => exact ⟨.bl true, H1, I1, rfl, q1⟩
theorem pe_not (ha : PE X a ta) : PE X (.UnaryOp .Not a pos) (tNotV ta) := by
 intro pins s σ H Q I h
 refine UnaryOp_ (thn (ha pins s σ H _ I h) fun v s1 ⟨x, H1, I1, r1, q1⟩ => ?_)
 obtain ⟨c, rfl, q1⟩ := q1
 cases r1
 exact not_of (wpAny_truthy_bool ⟨.bl (!c), H1, I1, rfl, q1⟩)
def tIf (t : TT) (ta tb : TE) : TE := fun σ H Q => t σ H fun c H1 => if c = true then ta σ H1 Q else tb σ H1 Q
theorem pe_ifExp {c : Expr} (hc : PT X c tA) (ha : PE X a ta) (hb : PE X b tb) : PE X (.IfExp c a b pos) (tIf tA ta tb) := by
 intro pins s σ H Q I h
 refine wpAny_IfExp (thn (hc pins s σ H _ I h) fun d s1 ⟨H1, I1, q1⟩ => ?_)
 cases d with
 | true => exact ha pins s1 σ H1 Q I1 q1
 | false => exact hb pins s1 σ H1 Q I1 q1
end
end L2
namespace L2
open PySem PySem.Spec PyProof.Rows
def SqL (K : Fg9) (H : Hp) (a : Addr) (xs : List V) : Prop :=
 Rd H a (.lst xs) ∨
  ∃ (o : Obj) (its : Array Value) (n : Nat), K.lookup a = some o ∧ o.cls = .type "list" ∧ o.dict = none ∧ o.data = .seq its n ∧ its.size ≤ sizeLine ∧ Vals xs its.toList
def SqT (K : Fg9) (H : Hp) (a : Addr) (xs : List V) : Prop :=
 Rd H a (.tup xs) ∨
  ∃ (o : Obj) (its : Array Value) (n : Nat), K.lookup a = some o ∧ o.cls = .type "tuple" ∧ o.data = .seq its n ∧ its.size ≤ sizeLine ∧ Vals xs its.toList
def absV : Value → Option V
 | .none => some .non
 | .bool b => some (.bl b)
 | .int i _ => some (.int i)
 | .str x _ => some (.str x)
 | .bytes b _ => some (.byt b)
 | .float b _ => some (.flt b)
 | .ref a => some (.ref a)
 | .type n => some (.ty n)
 | _ => none
theorem RelV.abs {x : V} {u : Value} (r : RelV x u) : absV u = some x := by
 cases x with
 | non => cases r; rfl
 | bl _ => cases r; rfl
 | int _ => obtain ⟨t, rfl⟩ := r; rfl
 | str _ => obtain ⟨t, rfl⟩ := r; rfl
 | byt _ => obtain ⟨t, rfl⟩ := r; rfl
 | flt _ => obtain ⟨t, rfl⟩ := r; rfl
 | ref _ => cases r; rfl
 | ty _ => cases r; rfl
theorem RelV.inj {x y : V} {u : Value} (r : RelV x u) (q : RelV y u) : x = y := Option.some.inj (r.abs.symm.trans q.abs)
theorem Vals.inj : ∀ {xs ys : List V} {us : List Value}, Vals xs us → Vals ys us → xs = ys
 | _, _, _, .nil, .nil => rfl
 | _, _, _, .cons r t, .cons r' t' => by rw [r.inj r', Vals.inj t t']
section
variable {X : Cx} {pins : List (Addr × Obj)} {σ : St} {H : Hp} {s : Shared} {a : Addr} {xs ys : List V}
theorem SqL.of {K : Fg9} (h : H a = some (.lst xs)) : SqL K H a xs := .inl (.inl h)
theorem SqT.of {K : Fg9} (h : H a = some (.tup xs)) : SqT K H a xs := .inl (.inl h)
theorem Inv.list (I : Inv X pins σ H s) (h : SqL X.K H a xs) : ∃ its : List Value, Vals xs its ∧ PlainL s.heap a its.toArray ∧ xs.length ≤ sizeLine := by
 rcases h with h | ⟨o, its, n, hk, hc, hd, hs, hz, r⟩
 ·obtain ⟨z, its, n, r, e⟩ := h.ok I.hok
  exact ⟨its, r, ⟨_, n, e, rfl, rfl, rfl⟩, z⟩
 ·refine ⟨its.toList, r, ⟨o, n, I.kIn a o hk, hc, hd, by simpa using hs⟩, ?_⟩
  have e := r.length
  simp only [Array.length_toList] at e
  omega
theorem Inv.tuple (I : Inv X pins σ H s) (h : SqT X.K H a xs) : ∃ its : List Value, Vals xs its ∧ IsTup s.heap a its.toArray ∧ xs.length ≤ sizeLine := by
 rcases h with h | ⟨o, its, n, hk, hc, hs, hz, r⟩
 ·obtain ⟨z, its, r, p⟩ := h.ok I.hok
  exact ⟨its, r, p, z⟩
 ·refine ⟨its.toList, r, ⟨o, I.kIn a o hk, hc, n, by simpa using hs⟩, ?_⟩
  have e := r.length
  simp only [Array.length_toList] at e
  omega
theorem Inv.list_inj (I : Inv X pins σ H s) (h : SqL X.K H a xs) (h' : SqL X.K H a ys) : xs = ys := by
 obtain ⟨its, r, ⟨o, n, e, _, _, d⟩, _⟩ := I.list h
 obtain ⟨its', r', ⟨o', n', e', _, _, d'⟩, _⟩ := I.list h'
 rw [e] at e'; cases e'
 rw [d] at d'
 injection d' with d1 _
 have : its = its' := by simpa using congrArg Array.toList d1
 subst this
 exact r.inj r'
theorem Inv.tuple_inj (I : Inv X pins σ H s) (h : SqT X.K H a xs) (h' : SqT X.K H a ys) : xs = ys := by
 obtain ⟨its, r, ⟨o, e, _, n, d⟩, _⟩ := I.tuple h
 obtain ⟨its', r', ⟨o', e', _, n', d'⟩, _⟩ := I.tuple h'
 rw [e] at e'; cases e'
 rw [d] at d'
 injection d' with d1 _
 have : its = its' := by simpa using congrArg Array.toList d1
 subst this
 exact r.inj r'
end
abbrev Cx.wish (X : Cx) (E : Value → Shared → Prop) : Cx := { X with xe := E }
abbrev Cx.nox (X : Cx) : Cx := X.wish fun _ _ => False
theorem Cx.Ok.wish {X : Cx} (ok : X.Ok) (E : Value → Shared → Prop) : (X.wish E).Ok :=
 ⟨ok.mod, ok.kind, ok.glob, ok.blt, ok.above, ok.inj, ok.has, ok.cab, ok.hd, ok.frames, ok.stk, ok.exf, ok.bs, ok.bsz, ok.noex, ok.exfs, ok.funs, ok.frf⟩
theorem Cx.Ok.unwish {X : Cx} {E : Value → Shared → Prop} (ok : (X.wish E).Ok) : X.Ok :=
 ⟨ok.mod, ok.kind, ok.glob, ok.blt, ok.above, ok.inj, ok.has, ok.cab, ok.hd, ok.frames, ok.stk, ok.exf, ok.bs, ok.bsz, ok.noex, ok.exfs, ok.funs, ok.frf⟩
section
variable {X : Cx} {pins : List (Addr × Obj)} {σ : St} {H : Hp} {s : Shared} {E : Value → Shared → Prop}
theorem Inv.wish (I : Inv X pins σ H s) (E : Value → Shared → Prop) : Inv (X.wish E) pins σ H s := ⟨I.ok.wish E, I.os, I.bare, I.base, I.loc, I.cell, I.free, I.freeC, I.pin, I.hok, I.len⟩
theorem Inv.unwish (I : Inv (X.wish E) pins σ H s) : Inv X pins σ H s := ⟨I.ok.unwish, I.os, I.bare, I.base, I.loc, I.cell, I.free, I.freeC, I.pin, I.hok, I.len⟩
theorem SP.unwish {D : Ends} {f : Flow} {s' : Shared} (h : SP (X.wish E) pins D f s') : SP X pins D f s' := by
 cases f with
 | next => obtain ⟨σ', H', I, q⟩ := h; exact ⟨σ', H', I.unwish, q⟩
 | brk => obtain ⟨σ', H', I, q⟩ := h; exact ⟨σ', H', I.unwish, q⟩
 | cont => obtain ⟨σ', H', I, q⟩ := h; exact ⟨σ', H', I.unwish, q⟩
 | ret u => obtain ⟨v, σ', H', I, r, q⟩ := h; exact ⟨v, σ', H', I.unwish, r, q⟩
theorem PSs.nox {st : List Stmt} {t : TS} (h : PSs X.nox st t) : PSs X st t := fun pins s σ H D I hw =>
 wpAny_mono (h pins s σ H D (I.wish _) hw) (fun _ _ q => q.unwish) fun _ _ z => False.elim z
end
section
variable {X : Cx} {st : Stmt} {rest : List Stmt} {t u : TS} {e : Expr} {te : TE} {pos : Pos}
def tNext : TS := fun D σ H => D.nx σ H
def tSeq (t u : TS) : TS := fun D σ H => t { D with nx := u D } σ H
theorem zW : PSs X [] tNext := fun _ _ σ H _ I h => wpAny_execs_nil ⟨σ, H, I, h⟩
theorem qW (h1 : PS X st t) (h2 : PSs X rest u) : PSs X (st :: rest) (tSeq t u) := by
 intro pins s σ H D I h
 refine wpAny_execs_cons (thn (h1 pins s σ H { D with nx := u D } I h) fun f s1 q => ?_)
 cases f with
 | next =>
  obtain ⟨σ', H', I', q⟩ := q
  exact h2 pins s1 σ' H' D I' q
 | ret v => exact q
 | brk => exact q
 | cont => exact q
theorem qV (h1 : PS X st t) : PSs X [st] t := by
 intro pins s σ H D I h
 refine wpAny_execs_cons (thn (h1 pins s σ H D I h) fun f s1 q => ?_)
 cases f with
 | next => exact wpAny_execs_nil q
 | ret v => exact q
 | brk => exact q
 | cont => exact q
theorem Inv.quiet {pins : List (Addr × Obj)} {σ : St} {H : Hp} {s : Shared} (I : Inv X pins σ H s) : interactive X.env = false := by simp [interactive, I.ok.kind]
def tDrop (te : TE) : TS := fun D σ H => te σ H fun _ H1 => D.nx σ H1
theorem xY (he : PE X e te) (hs : swapsWith e none pos.line X.env = pure false := by rfl) : PS X (.Expr e pos) (tDrop te) := by
 intro pins s σ H D I h
 exact wpAny_Expr_any (thn (he pins s σ H _ I h) fun v s1 ⟨x, H1, I1, r1, q1⟩ => ⟨σ, H1, I1, q1⟩) I.quiet hs
def tRet (te : TE) : TS := fun D σ H => te σ H D.rt
theorem zw (he : PE X e te) : PS X (.Return (some e) pos) (tRet te) := by
 intro pins s σ H D I h
 exact wpAny_Return_some (thn (he pins s σ H _ I h) fun v s1 ⟨x, H1, I1, r1, q1⟩ => ⟨x, σ, H1, I1, r1, q1⟩)
def tIfS (c : TT) (t u : TS) : TS := fun D σ H => c σ H fun b H1 => if b = true then t D σ H1 else u D σ H1
theorem ps_if {c : Expr} {a b : List Stmt} {tc : TT} (hc : PT X c tc) (ha : PSs X a t) (hb : PSs X b u) : PS X (.If c a b pos) (tIfS tc t u) := by
 intro pins s σ H D I h
 refine wpAny_If (thn (hc pins s σ H _ I h) fun d s1 ⟨H1, I1, q1⟩ => ?_)
 cases d with
 | true => exact ha pins s1 σ H1 D I1 q1
 | false => exact hb pins s1 σ H1 D I1 q1
def tNever : TS := fun _ _ _ => False
theorem jw : PS X st tNever := fun _ _ _ _ _ _ h => h.elim
end
abbrev TG := V → St → Hp → (St → Hp → Prop) → Prop
abbrev TGs := List V → St → Hp → (St → Hp → Prop) → Prop
def PG (X : Cx) (target : Expr) (t : TG) : Prop :=
 ∀ (pins : List (Addr × Obj)) (s : Shared) (σ : St) (H : Hp) (v : V) (u : Value) (Q : St → Hp → Prop), Inv X pins σ H s → RelV v u → t v σ H Q → wpAny (model X.prog X.w) X.A (assign target X.env u) (fun _ s' => ∃ σ' H', Inv X pins σ' H' s' ∧ Q σ' H') X.xe s
def PGs (X : Cx) (ts : List Expr) (t : TGs) : Prop :=
 ∀ (pins : List (Addr × Obj)) (s : Shared) (σ : St) (H : Hp) (vs : List V) (us : List Value) (Q : St → Hp → Prop), Inv X pins σ H s → Vals vs us → t vs σ H Q → wpAny (model X.prog X.w) X.A (assignInOrder ((assignEach ts X.env).map (·.2)) us) (fun _ s' => ∃ σ' H', Inv X pins σ' H' s' ∧ Q σ' H') X.xe s
section
variable {X : Cx} {pos : Pos}
def gName (i : Nat) : TG := fun v σ H Q => Q (σ.set i (some v)) H
theorem zx {i : Nat} {x : Str} (hN : X.N.Nodup) (hi : X.N[i]? = some x) (hx : Loc X.env.scope x) (hf : X.fn x = true ∨ X.env.scope.names.lookup x = some .local := by first | exact .inl rfl | exact .inr rfl | assumption) : PG X (.Name x pos) (gName i) := by
 intro pins s σ H v u Q I r h
 exact wpAny_assign_Name (store_ok I hN hi hx r (fun s' I' => ⟨_, H, I', h⟩) hf)
def gNil : TGs := fun vs σ H Q => vs = [] ∧ Q σ H
def gCons (t : TG) (u : TGs) : TGs := fun vs σ H Q => ∃ v r, vs = v :: r ∧ t v σ H fun σ' H' => u r σ' H' Q
theorem yK : PGs X [] gNil := by
 intro pins s σ H vs us Q I r h
 obtain ⟨e, h⟩ := h
 subst e
 cases r
 exact assignInOrder_nil ⟨σ, H, I, h⟩
theorem zy {e : Expr} {es : List Expr} {t : TG} {u : TGs} (h1 : PG X e t) (h2 : PGs X es u)
  (hs : (assignEach (e :: es) X.env).map (·.2) = assign e X.env :: (assignEach es X.env).map (·.2) := by rfl) : PGs X (e :: es) (gCons t u) := by
 intro pins s σ H vs us Q I r h
 obtain ⟨v, vr, e1, h⟩ := h
 subst e1
 cases r with
 | cons r rr =>
  rw [hs]
  refine assignInOrder_cons (thn (h1 pins s σ H _ _ _ I r h) fun _ s1 ⟨σ1, H1, I1, q1⟩ => ?_)
  exact h2 pins s1 σ1 H1 _ _ Q I1 rr q1
def gTup (K : Fg9) (n : Nat) (t : TGs) : TG := fun v σ H Q => ∃ a xs, v = .ref a ∧ SqT K H a xs ∧ xs.length = n ∧ t xs σ H Q
theorem jW {es : List Expr} {k : Nat} {t : TGs} {n : Nat} (hc : X.calm = true) (h : PGs X es t)
  (hn : (assignEach es X.env).length = n := by rfl) (hst : (assignEach es X.env).findIdx? (·.1) = none := by rfl) : PG X (.Tuple es k pos) (gTup X.K n t) := by
 intro pins s σ H v u Q I r hw
 obtain ⟨a, xs, e1, hq, hl, hw⟩ := hw
 subst e1
 cases r
 obtain ⟨its, rv, ht, hz⟩ := I.tuple hq
 refine assign_Tuple_tuple (I.ok.hd hc) ht (by simp [hn, ← hl, rv.length]) hst fun h' hx => ?_
 have I1 : Inv X pins σ H { s with heap := h' } := I.kept (t' := s.toks) fun b o e => hx b o (Nat.ne_of_lt (Heap.lt_size e)) e
 exact h pins _ σ H xs _ Q I1 (by simpa using rv) hw
def tAsg (te : TE) (g : TG) : TS := fun D σ H => te σ H fun x H1 => g x σ H1 D.nx
theorem ZJ {tg e : Expr} {te : TE} {g : TG} (he : PE X e te) (hg : PG X tg g) (hs : swapsWithSole [tg] e pos.line X.env = pure false := by rfl) (hw : swappedStores [tg] e X.env = pure none := by rfl)
  (h1 : (assignEach [tg] X.env).map (·.2) = [assign tg X.env] := by rfl) : PS X (.Assign [tg] e pos) (tAsg te g) := by
 intro pins s σ H D I h
 refine wpAny_Assign_stores (thn (he pins s σ H _ I h) fun v s1 ⟨x, H1, I1, r1, q1⟩ => ?_) hs hw
 rw [h1]
 exact thn (hg pins s1 σ H1 x v _ I1 r1 q1) fun _ s2 q => q
theorem zk {i : Nat} {x : Str} {e : Expr} {te : TE} {pos' : Pos} (hN : X.N.Nodup) (hi : X.N[i]? = some x) (hx : Loc X.env.scope x) (he : PE X e te) (hs : swapsWith e (some (.Name x pos')) pos.line X.env = pure false := by rfl) (hf : X.fn x = true ∨ X.env.scope.names.lookup x = some .local := by first | exact .inl rfl | exact .inr rfl | assumption) :
  PS X (.Assign [.Name x pos'] e pos) (tAsg te (gName i)) := by
 intro pins s σ H D I h
 refine wpAny_Assign_Name (thn (he pins s σ H _ I h) fun v s1 ⟨y, H1, I1, r1, q1⟩ => ?_) hs
 exact store_ok I1 hN hi hx r1 (fun s2 I2 => ⟨_, H1, I2, q1⟩) hf
def tPar (i j : Nat) (ta : TA) : TS := fun D σ H => ta σ H fun vs H1 => ∃ v w, vs = [v, w] ∧ D.nx ((σ.set i (some v)).set j (some w)) H1
theorem ps_par {i j : Nat} {x y : Str} {a b : Expr} {ta : TA} {px py pt : Pos} {kt k2 pt2} (hc : X.calm = true) (hN : X.N.Nodup) (hi : X.N[i]? = some x) (hj : X.N[j]? = some y) (hij : i ≠ j)
  (hx : X.env.scope.names.lookup x = some .local) (hy : X.env.scope.names.lookup y = some .local) (ha : PA X [a, b] ta)
  (hw : swappedStores [.Tuple [.Name x px, .Name y py] kt pt] (.Tuple [a, b] k2 pt2) X.env = pure (some [x, y]))
  (hs : swapsWithSole [.Tuple [.Name x px, .Name y py] kt pt] (.Tuple [a, b] k2 pt2) pos.line X.env = pure false := by rfl) :
  PS X (.Assign [.Tuple [.Name x px, .Name y py] kt pt] (.Tuple [a, b] k2 pt2) pos) (tPar i j ta) := by
 intro pins s σ H D I h
 rw [exec_Assign_arm]
 refine wpAny_bind (wpAny_standAt ?_)
 rw [hs]
 refine wpAny_bind (wpAny_pure ?_)
 rw [if_neg (by decide)]
 refine wpAny_bind (Tuple_ (thn (ha _ pins s σ H _ I h) fun us s1 ⟨vs, H1, I1, r1, q1⟩ => ?_))
 obtain ⟨v, w, e1, q1⟩ := q1
 subst e1
 obtain ⟨u1, u2, rfl, rv, rw'⟩ : ∃ u1 u2, us = [u1, u2] ∧ RelV v u1 ∧ RelV w u2 := by
  cases r1 with
  | cons p q =>
   cases q with
   | cons p' q' =>
    cases q'
    exact ⟨_, _, rfl, p, p'⟩
 refine wpAny_newObj_type ?_ (by show 2 ≤ sizeLine; decide)
 have I2 : Inv X pins σ H1 { s1 with heap := s1.heap.push { cls := .type "tuple", data := .seq [u1, u2].toArray } } := I1.kept (t' := s1.toks) fun b o e => Heap.get?_push_of_some _ e
 rw [hw]
 refine wpAny_bind (wpAny_pure ?_)
 show wpAny (model X.prog X.w) X.A (do rule "assign.swapped-stores"; let items ← unpackItems (.ref s1.heap.objs.size) 2 none; assignInOrder [fun v => bindName X.env y v, fun v => bindName X.env x v] items.reverse; pure Flow.next) _ _ _
 refine wpAny_bind (wpAny_rule (wpAny_bind (unpackItems_tuple (items := #[u1, u2]) (I.ok.hd hc) (IsTup.new s1.heap _) fun h' hx' => ?_)))
 have I3 := I2.kept (h' := h') (t' := s1.toks) fun b o e => hx' b o (Nat.ne_of_lt (Heap.lt_size e)) e
 show wpAny _ _ (assignInOrder [fun v => bindName X.env y v, fun v => bindName X.env x v] [u2, u1] >>= fun _ => pure Flow.next) _ _ _
 refine wpAny_bind (assignInOrder_cons (wpAny_bindName (store_ok I3 hN hj (.inl hy) rw' (fun s2 I4 => ?_) (.inr hy))))
 refine assignInOrder_cons (wpAny_bindName (store_ok I4 hN hi (.inl hx) rv (fun s3 I5 => assignInOrder_nil (wpAny_pure ?_)) (.inr hx)))
 rw [List.set_comm _ _ (Ne.symm hij)] at I5
 exact ⟨_, H1, I5, q1⟩
end
section
variable {X : Cx} {pos : Pos}
def tWhile (c : TT) (tb : TS) : TS := fun D σ H => ∃ W : Nat → St → Hp → Prop, (∃ m, W m σ H) ∧ ∀ m σ H, W m σ H → c σ H fun b H1 => if b = true then ∃ N : St → Hp → Prop, (∀ σ' H', N σ' H' → ∃ m', m' < m ∧ W m' σ' H') ∧ tb { D with nx := N, ct := N, bk := D.nx } σ H1 else D.nx σ H1
theorem ps_while {c : Expr} {body : List Stmt} {tc : TT} {tb : TS} (hp : PassesOwn (model X.prog X.w) X.A X.env X.xe) (hc : PT X c tc) (hb : PSs X body tb) : PS X (.While c body [] pos) (tWhile tc tb) := by
 intro pins s σ H D I h
 obtain ⟨W, ⟨m0, w0⟩, turn⟩ := h
 refine wpAny_While (codeAny_whileLoop (fun n s' => ∃ σ' H', Inv X pins σ' H' s' ∧ W n σ' H') ?_ m0 ⟨σ, H, I, w0⟩)
 rintro n s1 ⟨σ1, H1, I1, w1⟩
 refine wpAny_passesOwn hp (thn (hc pins s1 σ1 H1 _ I1 (turn n σ1 H1 w1)) fun b s2 ⟨H2, I2, q2⟩ => ?_)
 cases b with
 | true =>
  obtain ⟨N, hN, q2⟩ := q2
  rw [if_pos rfl]
  refine wpAny_passesOwn hp (thn (hb pins s2 σ1 H2 _ I2 q2) fun f s3 q3 => ?_)
  cases f with
  | next =>
   obtain ⟨σ3, H3, I3, n3⟩ := q3
   obtain ⟨m', hm, w3⟩ := hN σ3 H3 n3
   exact ⟨m', hm, σ3, H3, I3, w3⟩
  | cont =>
   obtain ⟨σ3, H3, I3, n3⟩ := q3
   obtain ⟨m', hm, w3⟩ := hN σ3 H3 n3
   exact ⟨m', hm, σ3, H3, I3, w3⟩
  | brk => exact q3
  | ret v => exact q3
 | false =>
  rw [if_neg Bool.false_ne_true]
  exact wpAny_execs_nil ⟨σ1, H2, I2, q2⟩
end
structure It where
 go : Nat → Hp → Prop
 yld : Nat → Hp → V → Hp → Prop
 stop : Nat → Hp → Prop
def FpOk (X : Cx) (pins : List (Addr × Obj)) (H : Hp) (b : Addr) : Prop :=
 H b = none ∧ b ≠ X.env.locals ∧ b ∉ X.fs ∧ (b ∈ X.ex ∨ X.s₀.heap.objs.size ≤ b) ∧ (∀ x c, X.env.cells.lookup x = some c → c ≠ b) ∧ ∀ p ∈ X.pn ++ pins, p.1 ≠ b
theorem Inv.fpOk {X : Cx} {pins : List (Addr × Obj)} {σ : St} {H H' : Hp} {s : Shared} {b : Addr} (I : Inv X pins σ H s) (hb : s.heap.objs.size ≤ b) (hn : H' b = none) : FpOk X pins H' b := by
 refine ⟨hn, Nat.ne_of_gt (Nat.lt_of_lt_of_le I.lt hb), I.nofs hb, .inr (Nat.le_trans I.sz hb), fun x c e z => ?_, fun p hp z => ?_⟩
 ·obtain ⟨v, q⟩ := I.cell x c e
  exact absurd (Nat.lt_of_lt_of_le q.lt (by rw [z]; exact hb)) (Nat.lt_irrefl _)
 ·exact absurd (Nat.lt_of_lt_of_le (Heap.lt_size (I.pin p hp).1) (by rw [z]; exact hb)) (Nat.lt_irrefl _)
structure Turn (P : Program) (w : World) (K : Fg9) (tg : Expr) (J : It) (fp : List Addr) (it : Addr) (tn : Nat → Heap → Prop) : Prop where
 mem : it ∈ fp
 obj : ∀ i h, tn i h → ∀ b ∈ fp, ∃ o, h.get? b = some o ∧ ∀ v, o.data ≠ .cell v
 keep : ∀ i h h', tn i h → (∀ b ∈ fp, ∀ o, h.get? b = some o → h'.get? b = some o) → tn i h'
 item : ∀ (X : Cx), X.prog = P → X.w = w → X.K = K → X.calm = true → ∀ (i : Nat) (pins : List (Addr × Obj)) (s : Shared) (σ : St) (H : Hp) (E : Value → Shared → Prop), Inv X pins σ H s → (∀ b ∈ fp, FpOk X pins H b) → tn i s.heap → J.go i H → wpAny (model P w) X.A (pyNext (.ref it)) (fun r s1 => ∃ u, r = some u ∧ wpAny (model P w) X.A (letOwnedTupleGo tg (.ref it) u) (fun _ s2 => ∃ x H', Inv X pins σ H' s2 ∧ RelV x u ∧ J.yld i H x H' ∧ tn (i + 1) s2.heap ∧ ∀ b ∈ fp, H' b = none) E s1) E s
 done : ∀ (X : Cx), X.prog = P → X.w = w → X.K = K → X.calm = true → ∀ (i : Nat) (pins : List (Addr × Obj)) (s : Shared) (σ : St) (H : Hp) (E : Value → Shared → Prop), Inv X pins σ H s → (∀ b ∈ fp, FpOk X pins H b) → tn i s.heap → J.stop i H → wpAny (model P w) X.A (pyNext (.ref it)) (fun r s1 => r = none ∧ Inv X pins σ H s1) E s
 self : ∀ (A : Around) (i : Nat) (s : Shared) (Q : Value → Shared → Prop) (E : Value → Shared → Prop), tn i s.heap → Q (.ref it) s → wpAny (model P w) A (pyIter (.ref it)) Q E s
abbrev TI := St → Hp → (It → Hp → Prop) → Prop
def PIE (X : Cx) (pins : List (Addr × Obj)) (σ : St) (tg : Expr) (R : It → Hp → Prop) (itv : Value) (s2 : Shared) : Prop :=
 ∃ (it : Addr) (fp : List Addr) (tn : Nat → Heap → Prop) (J : It) (H' : Hp), itv = .ref it ∧ Inv X pins σ H' s2 ∧ Turn X.prog X.w X.K tg J fp it tn ∧ tn 0 s2.heap ∧ (∀ b ∈ fp, FpOk X pins H' b) ∧ R J H'
def PI (X : Cx) (tg iter : Expr) (wi : TI) : Prop :=
 ∀ (pins : List (Addr × Obj)) (s : Shared) (σ : St) (H : Hp) (R : It → Hp → Prop), Inv X pins σ H s → wi σ H R → wpAny (model X.prog X.w) X.A (eval iter X.env) (fun v s1 => wpAny (model X.prog X.w) X.A (pyIter v) (PIE X pins σ tg R) X.xe s1) X.xe s
theorem go_of {M : Model} {A : Around} {E : Value → Shared → Prop} {s : Shared} {tg : Expr} {it : Addr} {u : Value} {o : Obj} {n : String} {vs : Array Value} {Q : Unit → Shared → Prop} (ho : s.heap.get? it = some o) (hc : o.cls = .type n) (hd : o.data = .fields vs)
    (hn : ["enumerate", "zip", "dict_itemiterator", "dict_reverseitemiterator", "odict_iterator", "itertools.zip_longest", "itertools.pairwise"].contains n = false) (hQ : Q () s) : wpAny M A (letOwnedTupleGo tg (.ref it) u) Q E s := by
  unfold letOwnedTupleGo
  cases tg <;> first
    | exact wpAny_pure hQ
    | (cases u <;> first
        | exact wpAny_pure hQ
        | (refine wpAny_bind (wpAny_load ho ?_)
           rw [hc, hd]
           show wpAny M A (if (["enumerate", "zip", "dict_itemiterator", "dict_reverseitemiterator", "odict_iterator", "itertools.zip_longest", "itertools.pairwise"].contains n && vs[0]? == some (rawInt _)) = true then _ else _) Q E s
           rw [if_neg (by intro h; rw [hn, Bool.false_and] at h; cases h)]
           exact wpAny_pure hQ))
def Itl (K : Fg9) (a : Addr) : It :=
 ⟨fun i H => ∃ xs x, SqL K H a xs ∧ xs[i]? = some x, fun i H x H' => H' = H ∧ ∀ xs, SqL K H a xs → xs[i]? = some x, fun i H => ∃ xs, SqL K H a xs ∧ xs.length ≤ i⟩
def Itt (K : Fg9) (a : Addr) : It :=
 ⟨fun i H => ∃ xs x, SqT K H a xs ∧ xs[i]? = some x, fun i H x H' => H' = H ∧ ∀ xs, SqT K H a xs → xs[i]? = some x, fun i H => ∃ xs, SqT K H a xs ∧ xs.length ≤ i⟩
def Itr (lo : Int) (n : Nat) : It := ⟨fun i _ => i < n, fun i H x H' => H' = H ∧ x = .int (lo + i), fun i _ => n ≤ i⟩
theorem turn_list {P : Program} {w : World} {K : Fg9} {tg : Expr} (a it : Addr) : Turn P w K tg (Itl K a) [it] it (fun i h => h.IsListIter it a i) where
 mem := by simp
 obj := fun i h st b hb => by
  have e : b = it := by simpa using hb
  subst e
  obtain ⟨o, e, c, d⟩ := st
  exact ⟨o, e, fun v z => by rw [d] at z; cases z⟩
 keep := fun i h h' st k => st.at fun o e => k it (by simp) o e
 item := by
  intro X hP hw hK hc i pins s σ H E I hf st hg
  subst hP hw hK
  obtain ⟨xs, x, hq, hx⟩ := hg
  obtain ⟨its, rv, p, hz⟩ := I.list hq
  obtain ⟨u, hu, ru⟩ := rv.get hx
  obtain ⟨f0, f1, f2, f3, f4, f5⟩ := hf it (by simp)
  refine wpAny_pyNext_list_item st p.isList (x := u) (by simpa using hu) fun h' st' sb => ?_
  have I1 : Inv X pins σ H { s with heap := h' } := I.turned (t' := s.toks) (fun b o hb e => (sb.2 b hb).trans e) f0 f1 f3 f4 f5
  obtain ⟨o, e, c, d⟩ := id st'
  exact ⟨u, rfl, go_of (s := { s with heap := h' }) e c d (by decide) ⟨x, H, I1, ru, ⟨rfl, fun ys hy => by rw [I.list_inj hy hq]; exact hx⟩, st', fun b hb => (hf b hb).1⟩⟩
 done := by
  intro X hP hw hK hc i pins s σ H E I hf st hg
  subst hP hw hK
  obtain ⟨xs, hq, hx⟩ := hg
  obtain ⟨its, rv, p, hz⟩ := I.list hq
  obtain ⟨f0, f1, f2, f3, f4, f5⟩ := hf it (by simp)
  have hl := rv.length
  exact wpAny_pyNext_list_end (I.ok.hd hc) st p.isList (by simp; omega) fun h' eb => ⟨rfl, I.turned (t' := s.toks) (fun b o hb e => eb b o hb e) f0 f1 f3 f4 f5⟩
 self := fun _ _ _ _ _ st h => wpAny_pyIter_listiter st h
theorem turn_tuple {P : Program} {w : World} {K : Fg9} {tg : Expr} (a it : Addr) : Turn P w K tg (Itt K a) [it] it (fun i h => h.IsTupleIter it a i) where
 mem := by simp
 obj := fun i h st b hb => by
  have e : b = it := by simpa using hb
  subst e
  obtain ⟨o, e, c, d⟩ := st
  exact ⟨o, e, fun v z => by rw [d] at z; cases z⟩
 keep := fun i h h' st k => st.at fun o e => k it (by simp) o e
 item := by
  intro X hP hw hK hc i pins s σ H E I hf st hg
  subst hP hw hK
  obtain ⟨xs, x, hq, hx⟩ := hg
  obtain ⟨its, rv, p, hz⟩ := I.tuple hq
  obtain ⟨u, hu, ru⟩ := rv.get hx
  obtain ⟨f0, f1, f2, f3, f4, f5⟩ := hf it (by simp)
  refine wpAny_pyNext_tuple_item st (show s.heap.IsTuple a its.toArray from p) (x := u) (by simpa using hu) fun h' st' sb => ?_
  have I1 : Inv X pins σ H { s with heap := h' } := I.turned (t' := s.toks) (fun b o hb e => (sb.2 b hb).trans e) f0 f1 f3 f4 f5
  obtain ⟨o, e, c, d⟩ := id st'
  exact ⟨u, rfl, go_of (s := { s with heap := h' }) e c d (by decide) ⟨x, H, I1, ru, ⟨rfl, fun ys hy => by rw [I.tuple_inj hy hq]; exact hx⟩, st', fun b hb => (hf b hb).1⟩⟩
 done := by
  intro X hP hw hK hc i pins s σ H E I hf st hg
  subst hP hw hK
  obtain ⟨xs, hq, hx⟩ := hg
  obtain ⟨its, rv, p, hz⟩ := I.tuple hq
  obtain ⟨f0, f1, f2, f3, f4, f5⟩ := hf it (by simp)
  have hl := rv.length
  exact wpAny_pyNext_tuple_end (I.ok.hd hc) st (show s.heap.IsTuple a its.toArray from p) (by simp; omega) fun h' eb => ⟨rfl, I.turned (t' := s.toks) (fun b o hb e => eb b o hb e) f0 f1 f3 f4 f5⟩
 self := fun _ _ _ _ _ st h => wpAny_pyIter_tupleiter st h
theorem turn_range {P : Program} {w : World} {K : Fg9} {tg : Expr} (it : Addr) (lo : Int) (n : Nat) : Turn P w K tg (Itr lo n) [it] it (fun i h => IsRangeIter h it (lo + (i : Nat) * 1) ((n : Int) - (i : Nat)) 1) where
 mem := by simp
 obj := fun i h st b hb => by
  have e : b = it := by simpa using hb
  subst e
  exact ⟨_, st, fun v z => by
   have z' : Data.fields _ = Data.cell v := z
   cases z'⟩
 keep := fun i h h' st k => k it (by simp) _ st
 item := by
  intro X hP hw hK hc i pins s σ H E I hf st hg
  subst hP hw hK
  obtain ⟨f0, f1, f2, f3, f4, f5⟩ := hf it (by simp)
  have W := Walks.range (prog := X.prog) (w := X.w) (I.ok.hd hc) it lo 1 n
  refine W.item i s _ _ hg st fun v h' tk hv st' kk => ?_
  obtain ⟨t, rfl⟩ := hv
  have I1 : Inv X pins σ H { s with heap := h', toks := tk } := I.turned (fun b o hb e => kk b o (by simpa using hb) e) f0 f1 f3 f4 f5
  refine ⟨_, rfl, go_of (s := { s with heap := h', toks := tk }) (n := "range_iterator") st' rfl rfl (by decide) ⟨.int (lo + i), H, I1, ⟨t, ?_⟩, ⟨rfl, rfl⟩, st', fun b hb => (hf b hb).1⟩⟩
  rw [Int.mul_one]
 done := by
  intro X hP hw hK hc i pins s σ H E I hf st hg
  subst hP hw hK
  obtain ⟨f0, f1, f2, f3, f4, f5⟩ := hf it (by simp)
  exact wpAny_pyNext_range_end (I.ok.hd hc) st (by have : n ≤ i := hg; omega) fun h' eb => ⟨rfl, I.turned (t' := s.toks) (fun b o hb e => eb b o hb e) f0 f1 f3 f4 f5⟩
 self := fun _ _ _ _ _ st h => wpAny_pyIter_rangeiter st h
end L2
namespace L2
open PySem PySem.Spec PyProof.Rows
section
variable {X : Cx} {tg : Expr}
def iList (K : Fg9) (tl : TE) : TI := fun σ H R => tl σ H fun x H1 => ∃ a, x = .ref a ∧ (∃ xs, SqL K H1 a xs) ∧ R (Itl K a) H1
def iTup (K : Fg9) (tl : TE) : TI := fun σ H R => tl σ H fun x H1 => ∃ a, x = .ref a ∧ (∃ xs, SqT K H1 a xs) ∧ R (Itt K a) H1
theorem jV {l : Expr} {tl : TE} (hl : PE X l tl) : PI X tg l (iList X.K tl) := by
 intro pins s σ H R I h
 refine thn (hl pins s σ H _ I h) fun v s1 ⟨x, H1, I1, r1, q1⟩ => ?_
 obtain ⟨a, e, ⟨xs, hq⟩, q⟩ := q1
 subst e
 cases r1
 obtain ⟨its, rv, p, hz⟩ := I1.list hq
 refine wpAny_pyIter_list p.isList ?_
 refine ⟨s1.heap.objs.size, [s1.heap.objs.size], _, _, H1, rfl, I1.kept (t' := s1.toks) fun b o e => Heap.get?_push_of_some _ e, turn_list a _, ⟨_, Heap.get?_push_size _ rfl, rfl, rfl⟩, fun b hb => ?_, q⟩
 have e : b = s1.heap.objs.size := by simpa using hb
 subst e
 exact I1.fpOk (Nat.le_refl _) (I1.hok.fresh (Nat.le_refl _))
theorem pi_tup {l : Expr} {tl : TE} (hl : PE X l tl) : PI X tg l (iTup X.K tl) := by
 intro pins s σ H R I h
 refine thn (hl pins s σ H _ I h) fun v s1 ⟨x, H1, I1, r1, q1⟩ => ?_
 obtain ⟨a, e, ⟨xs, hq⟩, q⟩ := q1
 subst e
 cases r1
 obtain ⟨its, rv, p, hz⟩ := I1.tuple hq
 refine wpAny_pyIter_tuple (show s1.heap.IsTuple a its.toArray from p) ?_
 refine ⟨s1.heap.objs.size, [s1.heap.objs.size], _, _, H1, rfl, I1.kept (t' := s1.toks) fun b o e => Heap.get?_push_of_some _ e, turn_tuple a _, ⟨_, Heap.get?_push_size _ rfl, rfl, rfl⟩, fun b hb => ?_, q⟩
 have e : b = s1.heap.objs.size := by simpa using hb
 subst e
 exact I1.fpOk (Nat.le_refl _) (I1.hok.fresh (Nat.le_refl _))
theorem range_it {pins : List (Addr × Obj)} {σ : St} {H : Hp} {s : Shared} {R : It → Hp → Prop} {E : Value → Shared → Prop} {lo hi : Int} {t u v : Tok} {tk : Nat} (I : Inv X pins σ H s) (h1 : -(2 ^ 62) ≤ lo) (h2 : lo < 2 ^ 62) (h3 : -(2 ^ 62) ≤ hi) (h4 : hi < 2 ^ 62)
  (q : R (Itr lo (hi - lo).toNat) H) : wpAny (model X.prog X.w) X.A (pyIter (.ref s.heap.objs.size)) (PIE X pins σ tg R) E { s with heap := s.heap.push { cls := .type "range", data := .fields #[.int lo t, .int hi u, .int 1 v] }, toks := tk } := by
 refine wpAny_pyIter_range (IsRange.new ..) (small_one h1 h2 h3 h4) ?_
 have I1 : Inv X pins σ H { s with heap := s.heap.push { cls := .type "range", data := .fields #[.int lo t, .int hi u, .int 1 v] }, toks := tk } := I.kept fun b o e => Heap.get?_push_of_some _ e
 refine ⟨(s.heap.push { cls := .type "range", data := .fields #[.int lo t, .int hi u, .int 1 v] }).objs.size, [(s.heap.push { cls := .type "range", data := .fields #[.int lo t, .int hi u, .int 1 v] }).objs.size], _, _, H, rfl, I1.kept (t' := tk) fun b o e => Heap.get?_push_of_some _ e, turn_range _ lo (hi - lo).toNat, ?_, fun b hb => ?_, q⟩
 ·have e1 : lo + ((0 : Nat) : Int) * 1 = lo := by simp
  have e2 : (((hi - lo).toNat : Nat) : Int) - ((0 : Nat) : Int) = Builtin.Range.rangeSize lo hi 1 := by rw [rangeSize_one]; split <;> omega
  show IsRangeIter _ _ (lo + ((0 : Nat) : Int) * 1) ((((hi - lo).toNat : Nat) : Int) - ((0 : Nat) : Int)) 1
  rw [e1, e2]
  exact Heap.get?_push_size _ rfl
 ·have e : b = (s.heap.push { cls := .type "range", data := .fields #[.int lo t, .int hi u, .int 1 v] }).objs.size := by simpa using hb
  subst e
  exact I1.fpOk (Nat.le_refl _) (I1.hok.fresh (Nat.le_refl _))
def iRng1 (ta : TA) : TI := fun σ H R => ta σ H fun vs H1 => ∃ j : Int, vs = [.int j] ∧ -(2 ^ 62) ≤ j ∧ j < 2 ^ 62 ∧ R (Itr 0 j.toNat) H1
theorem xj {a : Expr} {ta : TA} {p pos : Pos} (hg : Gl X "range") (hm : X.mg "range" = none) (ha : PA X [a] ta) (hs : starEach [a] X.env = [(false, eval a X.env)] := by rfl) : PI X tg (.Call (.Name "range" p) [a] [] pos) (iRng1 ta) := by
 intro pins s σ H R I h
 refine Call_ (ld_blt I hg hm boot_range (PyProof.Rows.callWith_type1 (thn (ha pos pins s σ H _ I h) fun us s1 ⟨vs, H1, I1, r1, q1⟩ => ?_) hs rfl))
 obtain ⟨j, e, q1, q2, q⟩ := q1
 subst e
 cases r1 with
 | cons r rr =>
  cases rr
  obtain ⟨t, rfl⟩ := r
  exact call_range_1 (range_it I1 (by omega) (by omega) q1 q2 (by simpa using q))
def tFor (wi : TI) (g : TG) (tb : TS) : TS := fun D σ H => wi σ H fun J H1 => ∃ W : Nat → Nat → St → Hp → Prop, (∃ m, W 0 m σ H1) ∧ ∀ i m σ H, W i m σ H → (J.stop i H ∧ D.nx σ H) ∨ (J.go i H ∧ ∃ N : St → Hp → Prop, (∀ σ' H', N σ' H' → ∃ m', m' < m ∧ W (i + 1) m' σ' H') ∧ ∀ x H', J.yld i H x H' → g x σ H' fun σ2 H2 => tb { D with nx := N, ct := N, bk := D.nx } σ2 H2)
def pinsAt (fp : List Addr) (h : Heap) : List (Addr × Obj) := fp.filterMap fun b => (h.get? b).map fun o => (b, o)
theorem mem_pinsAt {fp : List Addr} {h : Heap} {b : Addr} {o : Obj} (hb : b ∈ fp) (e : h.get? b = some o) : (b, o) ∈ pinsAt fp h := List.mem_filterMap.mpr ⟨b, hb, by rw [e]; rfl⟩
theorem of_pinsAt {fp : List Addr} {h : Heap} {p : Addr × Obj} (hp : p ∈ pinsAt fp h) : p.1 ∈ fp ∧ h.get? p.1 = some p.2 := by
 obtain ⟨b, hb, e⟩ := List.mem_filterMap.mp hp
 cases q : h.get? b with
 | none => rw [q] at e; cases e
 | some o =>
  rw [q] at e
  have e' : (b, o) = p := Option.some.inj e
  subst e'
  exact ⟨hb, q⟩
theorem Inv.pinned {pins : List (Addr × Obj)} {σ : St} {H : Hp} {s : Shared} {fp : List Addr} (I : Inv X pins σ H s) (hf : ∀ b ∈ fp, FpOk X pins H b) (ho : ∀ b ∈ fp, ∃ o, s.heap.get? b = some o ∧ ∀ v, o.data ≠ .cell v) : Inv X (pins ++ pinsAt fp s.heap) σ H s :=
 I.pins_of fun p hp => (List.mem_append.mp hp).elim (fun z => I.pin p (List.mem_append_right _ z)) fun z => by
  obtain ⟨hb, e⟩ := of_pinsAt z
  obtain ⟨f0, f1, f2, _⟩ := hf p.1 hb
  obtain ⟨o, e', d⟩ := ho p.1 hb
  rw [e] at e'; cases e'
  exact ⟨e, f0, f1, f2, d⟩
theorem Inv.unpinned {pins pl : List (Addr × Obj)} {σ : St} {H : Hp} {s : Shared} (I : Inv X (pins ++ pl) σ H s) : Inv X pins σ H s := I.pins_of fun p hp => I.pin p (List.mem_append_right _ (List.mem_append_left _ hp))
theorem kj {iter : Expr} {body : List Stmt} {wi : TI} {g : TG} {tb : TS} {pos : Pos} (hp : PassesOwn (model X.prog X.w) X.A X.env X.xe) (hc : X.calm = true) (hi : PI X tg iter wi) (hg : PG X tg g) (hb : PSs X body tb)
  (hs : ∀ x, foldedSetIterable iter X.env x = pure x := by intro _; rfl) : PS X (.For tg iter body [] pos) (tFor wi g tb) := by
 intro pins s σ H D I h
 refine wpAny_For (thn (hi pins s σ H _ I h) fun v s1 h1 => thn h1 fun itv s2 h2 => ?_) hs
 obtain ⟨it, fp, tn, J, H2, e, I2, T, st2, f2, W, ⟨m0, w0⟩, turn⟩ := h2
 subst e
 have stat : ∀ {H' : Hp}, (∀ b ∈ fp, H' b = none) → ∀ b ∈ fp, FpOk X pins H' b := fun hn b hb => ⟨hn b hb, (f2 b hb).2⟩
 refine codeAny_forLoop_any (fun n s' => ∃ i σ' H', Inv X pins σ' H' s' ∧ tn i s'.heap ∧ (∀ b ∈ fp, H' b = none) ∧ W i n σ' H') ?_ m0 ⟨0, σ, H2, I2, st2, fun b hb => (f2 b hb).1, w0⟩
 rintro n s3 ⟨i, σ3, H3, I3, st3, fr3, w3⟩
 rcases turn i n σ3 H3 w3 with ⟨stop, qn⟩ | ⟨go, N, hN, step⟩
 ·refine wpAny_passesOwn hp (thn (T.done X rfl rfl rfl hc i pins s3 σ3 H3 X.xe I3 (stat fr3) st3 stop) fun r s4 ⟨hr, I4⟩ => ?_)
  subst hr
  exact wpAny_execs_nil ⟨σ3, H3, I4, qn⟩
 ·refine wpAny_passesOwn hp (thn (T.item X rfl rfl rfl hc i pins s3 σ3 H3 X.xe I3 (stat fr3) st3 go) fun r s4 ⟨u, hr, h4⟩ => ?_)
  subst hr
  refine wpAny_passesOwn hp (thn h4 fun _ s5 ⟨x, H5, I5, r5, y5, st5, fr5⟩ => ?_)
  have I5' := I5.pinned (stat fr5) (T.obj _ _ st5)
  refine wpAny_passesOwn hp (thn (hg _ s5 σ3 H5 x u _ I5' r5 (step x H5 y5)) fun _ s6 ⟨σ6, H6, I6, q6⟩ => ?_)
  refine wpAny_passesOwn hp (thn (hb _ s6 σ6 H6 _ I6 q6) fun f s7 q7 => ?_)
  have again : ∀ {σ7 : St} {H7 : Hp}, Inv X (pins ++ pinsAt fp s5.heap) σ7 H7 s7 → N σ7 H7 → ∃ m, m < n ∧ ∃ i σ' H', Inv X pins σ' H' s7 ∧ tn i s7.heap ∧ (∀ b ∈ fp, H' b = none) ∧ W i m σ' H' := fun {σ7 H7} I7 n7 => by
   obtain ⟨m', hm, w7⟩ := hN σ7 H7 n7
   refine ⟨m', hm, i + 1, σ7, H7, I7.unpinned, T.keep _ _ _ st5 fun b hb o e => (I7.pin (b, o) (List.mem_append_right _ (List.mem_append_right _ (mem_pinsAt hb e)))).1, fun b hb => ?_, w7⟩
   obtain ⟨o, e, d⟩ := T.obj _ _ st5 b hb
   exact (I7.pin (b, o) (List.mem_append_right _ (List.mem_append_right _ (mem_pinsAt hb e)))).2.1
  cases f with
  | next => obtain ⟨σ7, H7, I7, n7⟩ := q7; exact again I7 n7
  | cont => obtain ⟨σ7, H7, I7, n7⟩ := q7; exact again I7 n7
  | brk => obtain ⟨σ7, H7, I7, q7⟩ := q7; exact ⟨σ7, H7, I7.unpinned, q7⟩
  | ret v => obtain ⟨x7, σ7, H7, I7, r7, q7⟩ := q7; exact ⟨x7, σ7, H7, I7.unpinned, r7, q7⟩
end
theorem while_by {c : TT} {tb : TS} {D : Ends} {σ : St} {H : Hp} (Pv : St → Hp → Prop) (μ : St → Hp → Nat) (h0 : Pv σ H)
  (hs : ∀ σ H, Pv σ H → c σ H fun b H1 => if b = true then tb { D with nx := fun σ' H' => Pv σ' H' ∧ μ σ' H' < μ σ H, ct := fun σ' H' => Pv σ' H' ∧ μ σ' H' < μ σ H, bk := D.nx } σ H1 else D.nx σ H1)
  (mono : ∀ σ H Q Q', (∀ b H1, Q b H1 → Q' b H1) → c σ H Q → c σ H Q') : tWhile c tb D σ H := by
 refine ⟨fun m σ H => m = μ σ H ∧ Pv σ H, ⟨_, rfl, h0⟩, ?_⟩
 rintro m σ H ⟨rfl, p⟩
 refine mono σ H _ _ (fun b H1 q => ?_) (hs σ H p)
 cases b with
 | true => exact ⟨_, fun σ' H' ⟨p', l⟩ => ⟨_, l, rfl, p'⟩, q⟩
 | false => exact q
end L2
namespace L2
open PySem PySem.Spec PyProof.Rows
abbrev R2 := V → V → Hp → VK → Prop
def OpR (X : Cx) (f : Value → Value → Sem Value) (r : R2) : Prop :=
 ∀ (pins : List (Addr × Obj)) (s : Shared) (σ : St) (H : Hp) (x y : V) (v u : Value) (Q : VK), Inv X pins σ H s → RelV x v → RelV y u → r x y H Q → wpAny (model X.prog X.w) X.A (f v u) (EP X pins σ Q) X.xe s
def UnR (X : Cx) (f : Value → Sem Value) (r : V → Hp → VK → Prop) : Prop :=
 ∀ (pins : List (Addr × Obj)) (s : Shared) (σ : St) (H : Hp) (x : V) (v : Value) (Q : VK), Inv X pins σ H s → RelV x v → r x H Q → wpAny (model X.prog X.w) X.A (f v) (EP X pins σ Q) X.xe s
def CallR (X : Cx) (f : Value) (r : List V → Hp → VK → Prop) : Prop :=
 ∀ (pins : List (Addr × Obj)) (s : Shared) (σ : St) (H : Hp) (xs : List V) (us : List Value) (Q : VK), Inv X pins σ H s → Vals xs us → r xs H Q → wpAny (model X.prog X.w) X.A (call f us) (EP X pins σ Q) X.xe s
def tOp (r : R2) (ta tb : TE) : TE := fun σ H Q => ta σ H fun x H1 => tb σ H1 fun y H2 => r x y H2 Q
def tUn (r : V → Hp → VK → Prop) (ta : TE) : TE := fun σ H Q => ta σ H fun x H1 => r x H1 Q
def rI (C : Int → Int → Prop) (g : Int → Int → V) : R2 := fun x y H Q => ∃ i j, x = .int i ∧ y = .int j ∧ C i j ∧ Q (g i j) H
def rI0 (g : Int → Int → V) : R2 := fun x y H Q => ∃ i j, x = .int i ∧ y = .int j ∧ Q (g i j) H
def rU (g : Int → V) : V → Hp → VK → Prop := fun x H Q => ∃ i, x = .int i ∧ Q (g i) H
section
variable {X : Cx} {a b c : Expr} {ta tb tc : TE} {pos : Pos}
theorem binT (ha : PE X a ta) (hb : PE X b tb) {pins : List (Addr × Obj)} {s : Shared} {σ : St} {H : Hp} {R : V → V → Hp → Prop} (I : Inv X pins σ H s)
  (h : ta σ H fun x H1 => tb σ H1 fun y H2 => R x y H2) {Q : Value → Shared → Prop} {f : Value → Value → Sem Value}
  (hf : ∀ v u s2 x y H2, Inv X pins σ H2 s2 → RelV x v → RelV y u → R x y H2 → wpAny (model X.prog X.w) X.A (f v u) Q X.xe s2) :
  wpAny (model X.prog X.w) X.A (eval a X.env) (fun v s₁ => wpAny (model X.prog X.w) X.A (eval b X.env) (fun u s₂ => wpAny (model X.prog X.w) X.A (f v u) Q X.xe s₂) X.xe s₁) X.xe s := by
 refine thn (ha pins s σ H _ I h) fun v s1 ⟨x, H1, I1, r1, q1⟩ => ?_
 refine thn (hb pins s1 σ H1 _ I1 q1) fun u s2 ⟨y, H2, I2, r2, q2⟩ => ?_
 exact hf v u s2 x y H2 I2 r1 r2 q2
theorem pe_op {op : Operator} {r : R2} (ho : OpR X (binaryOp op) r) (ha : PE X a ta) (hb : PE X b tb) : PE X (.BinOp a op b pos) (tOp r ta tb) := by
 intro pins s σ H Q I h
 exact wpAny_BinOp (binT ha hb I h fun v u s2 x y H2 I2 rx ry q => ho pins s2 σ H2 x y v u Q I2 rx ry q)
theorem pe_un {op : UnaryOp} {r : V → Hp → VK → Prop} (ho : UnR X (unaryOp op) r) (ha : PE X a ta) : PE X (.UnaryOp op a pos) (tUn r ta) := by
 intro pins s σ H Q I h
 exact UnaryOp_ (thn (ha pins s σ H _ I h) fun v s1 ⟨x, H1, I1, r1, q1⟩ => ho pins s1 σ H1 x v Q I1 r1 q1)
theorem opI {f : Value → Value → Sem Value} {C : Int → Int → Prop} {g : Int → Int → Int}
  (rule : ∀ (i j : Int) (t u : Tok) (s : Shared) (Q : Value → Shared → Prop) (E : Value → Shared → Prop), C i j → Q (.int (g i j) s.toks) { s with toks := s.toks + 1 } → wpAny (model X.prog X.w) X.A (f (.int i t) (.int j u)) Q E s) :
  OpR X f (rI C fun i j => .int (g i j)) := by
 intro pins s σ H x y v u Q I rx ry h
 obtain ⟨i, j, rfl, rfl, hc, q⟩ := h
 obtain ⟨t, rfl⟩ := rx
 obtain ⟨t', rfl⟩ := ry
 exact rule i j t t' s _ _ hc ⟨.int (g i j), H, I.tok _, ⟨_, rfl⟩, q⟩
theorem opI0 {f : Value → Value → Sem Value} {g : Int → Int → Int}
  (rule : ∀ (i j : Int) (t u : Tok) (s : Shared) (Q : Value → Shared → Prop) (E : Value → Shared → Prop), Q (.int (g i j) s.toks) { s with toks := s.toks + 1 } → wpAny (model X.prog X.w) X.A (f (.int i t) (.int j u)) Q E s) :
  OpR X f (rI0 fun i j => .int (g i j)) := by
 intro pins s σ H x y v u Q I rx ry h
 obtain ⟨i, j, rfl, rfl, q⟩ := h
 obtain ⟨t, rfl⟩ := rx
 obtain ⟨t', rfl⟩ := ry
 exact rule i j t t' s _ _ ⟨.int (g i j), H, I.tok _, ⟨_, rfl⟩, q⟩
theorem opB0 {f : Value → Value → Sem Value} {g : Int → Int → Bool}
  (rule : ∀ (i j : Int) (t u : Tok) (s : Shared) (Q : Value → Shared → Prop) (E : Value → Shared → Prop), Q (.bool (g i j)) s → wpAny (model X.prog X.w) X.A (f (.int i t) (.int j u)) Q E s) :
  OpR X f (rI0 fun i j => .bl (g i j)) := by
 intro pins s σ H x y v u Q I rx ry h
 obtain ⟨i, j, rfl, rfl, q⟩ := h
 obtain ⟨t, rfl⟩ := rx
 obtain ⟨t', rfl⟩ := ry
 exact rule i j t t' s _ _ ⟨.bl (g i j), H, I, rfl, q⟩
def CDiv (i j : Int) : Prop := 0 < j ∧ j < 1073741824
def CPow (i j : Int) : Prop := 0 ≤ j ∧ j ≤ 1000000 ∧ i.natAbs < 2 ^ 64
theorem yj : OpR X (binaryOp .Add) (rI0 fun i j => .int (i + j)) := opI0 fun _ _ _ _ _ _ _ q => add_int q
theorem V0 : OpR X (binaryOp .Sub) (rI0 fun i j => .int (i - j)) := opI0 fun _ _ _ _ _ _ _ q => sub_int q
theorem v5 : OpR X (binaryOp .Mod) (rI (fun _ j => 0 < j) fun i j => .int (i % j)) := opI fun i j _ _ _ _ _ hc q => by
 have h1 : (0 : Int) < j := hc
 exact mod_int' (by omega) (by rw [Int.fmod_eq_emod_of_nonneg i (by omega)]; exact q)
theorem op_pow : OpR X (binaryOp .Pow) (rI CPow fun i j => .int (i ^ j.toNat)) := opI fun _ _ _ _ _ _ _ hc q => pow_int_small hc.1 hc.2.1 hc.2.2 q
theorem unI {f : Value → Sem Value} {g : Int → Int}
  (rule : ∀ (i : Int) (t : Tok) (s : Shared) (Q : Value → Shared → Prop) (E : Value → Shared → Prop), Q (.int (g i) s.toks) { s with toks := s.toks + 1 } → wpAny (model X.prog X.w) X.A (f (.int i t)) Q E s) :
  UnR X f (rU fun i => .int (g i)) := by
 intro pins s σ H x v Q I rx h
 obtain ⟨i, rfl, q⟩ := h
 obtain ⟨t, rfl⟩ := rx
 exact rule i t s _ _ ⟨.int (g i), H, I.tok _, ⟨_, rfl⟩, q⟩
theorem Z7 : UnR X (unaryOp .USub) (rU fun i => .int (-i)) := unI fun _ _ _ _ _ q => neg_int q
end
def scal : V → V → Bool
 | .non, .non => true | .non, .int _ => true | .int _, .non => true | .non, .bl _ => true | .bl _, .non => true | .non, .str _ => true | .str _, .non => true
 | .int _, .int _ => true | .bl _, .bl _ => true | .str _, .str _ => true | .byt _, .byt _ => true
 | .int _, .str _ => true | .str _, .int _ => true | .bl _, .str _ => true | .str _, .bl _ => true
 | _, _ => false
def rEq : R2 := fun x y H Q => scal x y = true ∧ Q (.bl (decide (x = y))) H
def rNe : R2 := fun x y H Q => scal x y = true ∧ Q (.bl (!decide (x = y))) H
theorem dec_int {i j : Int} : decide (V.int i = V.int j) = (i == j) := by
 rw [Bool.eq_iff_iff]
 simp
theorem dec_bl {i j : Bool} : decide (V.bl i = V.bl j) = (i == j) := by
 rw [Bool.eq_iff_iff]
 simp
theorem dec_str {i j : Str} : decide (V.str i = V.str j) = (i == j) := by
 rw [Bool.eq_iff_iff]
 simp
theorem dec_byt {i j : Array UInt8} : decide (V.byt i = V.byt j) = (i.toList == j.toList) := by
 rw [Bool.eq_iff_iff]
 cases i
 cases j
 simp
section
variable {X : Cx} {a b c : Expr} {ta tb tc : TE} {pos : Pos}
theorem jZ {pins : List (Addr × Obj)} {σ : St} {H : Hp} {s : Shared} {Q : VK} {k k' : Bool} (I : Inv X pins σ H s) (q : Q (.bl k) H) (e : k = k') : EP X pins σ Q (.bool k') s := by
 subst e
 exact ⟨.bl k, H, I, rfl, q⟩
theorem op_eq : OpR X (compareOp .Eq) rEq := by
 intro pins s σ H x y v u Q I rx ry h
 obtain ⟨hs, q⟩ := h
 cases x with
 | non =>
  cases rx
  cases y with
  | non => cases ry; exact PySem.EqNone.eq_none_none (jZ I q (by simp))
  | bl j => cases ry; exact PySem.EqNone.eq_none_bool (jZ I q (by simp))
  | int j => obtain ⟨t', rfl⟩ := ry; exact PySem.EqNone.eq_none_int (jZ I q (by simp))
  | str j => obtain ⟨t', rfl⟩ := ry; exact PySem.EqNone.eq_none_str (jZ I q (by simp))
  | _ => exact absurd (show false = true from hs) Bool.false_ne_true
 | bl i =>
  cases rx
  cases y with
  | non => cases ry; exact PySem.EqNone.eq_bool_none (jZ I q (by simp))
  | bl j => cases ry; exact eq_bool (jZ I q dec_bl)
  | str j => obtain ⟨t', rfl⟩ := ry; exact PySem.EqMixed.eq_bool_str (jZ I q (by simp))
  | _ => exact absurd (show false = true from hs) Bool.false_ne_true
 | int i =>
  obtain ⟨t, rfl⟩ := rx
  cases y with
  | non => cases ry; exact PySem.EqNone.eq_int_none (jZ I q (by simp))
  | int j => obtain ⟨t', rfl⟩ := ry; exact eq_int (jZ I q dec_int)
  | str j => obtain ⟨t', rfl⟩ := ry; exact PySem.EqMixed.eq_int_str (jZ I q (by simp))
  | _ => exact absurd (show false = true from hs) Bool.false_ne_true
 | str i =>
  obtain ⟨t, rfl⟩ := rx
  cases y with
  | non => cases ry; exact PySem.EqNone.eq_str_none (jZ I q (by simp))
  | bl j => cases ry; exact PySem.EqMixed.eq_str_bool (jZ I q (by simp))
  | int j => obtain ⟨t', rfl⟩ := ry; exact PySem.EqMixed.eq_str_int (jZ I q (by simp))
  | str j => obtain ⟨t', rfl⟩ := ry; exact eq_str (jZ I q dec_str)
  | _ => exact absurd (show false = true from hs) Bool.false_ne_true
 | byt i =>
  obtain ⟨t, rfl⟩ := rx
  cases y with
  | byt j => obtain ⟨t', rfl⟩ := ry; exact PySem.W.eq_bytes (jZ I q dec_byt)
  | _ => exact absurd (show false = true from hs) Bool.false_ne_true
 | _ => cases y <;> exact absurd (show false = true from hs) Bool.false_ne_true
theorem op_ne : OpR X (compareOp .NotEq) rNe := by
 intro pins s σ H x y v u Q I rx ry h
 obtain ⟨hs, q⟩ := h
 cases x with
 | non =>
  cases rx
  cases y with
  | non => cases ry; exact PySem.EqNone.ne_none_none (jZ I q (by simp))
  | bl j => cases ry; exact PySem.EqNone.ne_none_bool (jZ I q (by simp))
  | int j => obtain ⟨t', rfl⟩ := ry; exact PySem.EqNone.ne_none_int (jZ I q (by simp))
  | str j => obtain ⟨t', rfl⟩ := ry; exact PySem.EqNone.ne_none_str (jZ I q (by simp))
  | _ => exact absurd (show false = true from hs) Bool.false_ne_true
 | bl i =>
  cases rx
  cases y with
  | non => cases ry; exact PySem.EqNone.ne_bool_none (jZ I q (by simp))
  | bl j => cases ry; exact ne_bool (jZ I q (congrArg not dec_bl))
  | str j => obtain ⟨t', rfl⟩ := ry; exact PySem.EqMixed.ne_bool_str (jZ I q (by simp))
  | _ => exact absurd (show false = true from hs) Bool.false_ne_true
 | int i =>
  obtain ⟨t, rfl⟩ := rx
  cases y with
  | non => cases ry; exact PySem.EqNone.ne_int_none (jZ I q (by simp))
  | int j => obtain ⟨t', rfl⟩ := ry; exact ne_int (jZ I q (congrArg not dec_int))
  | str j => obtain ⟨t', rfl⟩ := ry; exact PySem.EqMixed.ne_int_str (jZ I q (by simp))
  | _ => exact absurd (show false = true from hs) Bool.false_ne_true
 | str i =>
  obtain ⟨t, rfl⟩ := rx
  cases y with
  | non => cases ry; exact PySem.EqNone.ne_str_none (jZ I q (by simp))
  | bl j => cases ry; exact PySem.EqMixed.ne_str_bool (jZ I q (by simp))
  | int j => obtain ⟨t', rfl⟩ := ry; exact PySem.EqMixed.ne_str_int (jZ I q (by simp))
  | str j => obtain ⟨t', rfl⟩ := ry; exact ne_str (jZ I q (congrArg not dec_str))
  | _ => exact absurd (show false = true from hs) Bool.false_ne_true
 | byt i =>
  obtain ⟨t, rfl⟩ := rx
  cases y with
  | byt j => obtain ⟨t', rfl⟩ := ry; exact PySem.W.ne_bytes (jZ I q (congrArg not dec_byt))
  | _ => exact absurd (show false = true from hs) Bool.false_ne_true
 | _ => cases y <;> exact absurd (show false = true from hs) Bool.false_ne_true
theorem op_lt : OpR X (compareOp .Lt) (rI0 fun i j => .bl (decide (i < j))) := opB0 fun _ _ _ _ _ _ _ q => lt_int q
theorem op_gt : OpR X (compareOp .Gt) (rI0 fun i j => .bl (decide (j < i))) := opB0 fun _ _ _ _ _ _ _ q => gt_int q
theorem op_ge : OpR X (compareOp .GtE) (rI0 fun i j => .bl (decide (j ≤ i))) := opB0 fun _ _ _ _ _ _ _ q => ge_int q
theorem zX (b : Expr) {op : CmpOp} (h : op ≠ .In := by decide) (h2 : op ≠ .NotIn := by decide) : behindInMarks op b = false := by
 have e1 : (op == CmpOp.In) = false := by cases op <;> first | rfl | exact absurd rfl h
 have e2 : (op == CmpOp.NotIn) = false := by cases op <;> first | rfl | exact absurd rfl h2
 cases b <;> simp [behindInMarks, e1, e2]
theorem Q6 {op : CmpOp} {r : R2} (ho : OpR X (compareOp op) r) (ha : PE X a ta) (hb : PE X b tb) (hm : behindInMarks op b = false) : PE X (.Compare a [op] [b] pos) (tOp r ta tb) := by
 intro pins s σ H Q I h
 exact wpAny_Compare1 (binT ha hb I h fun v u s2 x y H2 I2 rx ry q => ho pins s2 σ H2 x y v u Q I2 rx ry q) hm
def tTest (t : TE) : TT := fun σ H Q => t σ H fun x H' => ∃ k, x = .bl k ∧ Q k H'
theorem zJ {op : CmpOp} {r : R2} (ho : OpR X (compareOp op) r) (ha : PE X a ta) (hb : PE X b tb) (hm : behindInMarks op b = false) : PT X (.Compare a [op] [b] pos) (tTest (tOp r ta tb)) := by
 intro pins s σ H Q I h
 refine wpAny_isTrue_Compare1 (thn (ha pins s σ H _ I h) fun v s1 ⟨x, H1, I1, r1, q1⟩ => thn (hb pins s1 σ H1 _ I1 q1) fun u s2 ⟨y, H2, I2, r2, q2⟩ =>
  thn (ho pins s2 σ H2 x y v u _ I2 r1 r2 q2) fun c s3 ⟨z, H3, I3, r3, k, e, q3⟩ => ?_) hm
 subst e
 cases r3
 exact wpAny_truthy_bool ⟨H3, I3, q3⟩
theorem line63 : (sizeLine : Nat) < 2 ^ 63 := by rw [sizeLine_eq]; decide
theorem vals1 {x : V} {us : List Value} (r : Vals [x] us) : ∃ u, us = [u] ∧ RelV x u := by
 cases r with
 | cons r1 r2 => cases r2; exact ⟨_, rfl, r1⟩
theorem vals2 {x y : V} {us : List Value} (r : Vals [x, y] us) : ∃ u w', us = [u, w'] ∧ RelV x u ∧ RelV y w' := by
 cases r with
 | cons r1 r2 =>
  cases r2 with
  | cons r3 r4 => cases r4; exact ⟨_, _, rfl, r1, r3⟩
theorem Z6 : CallR X (.builtin "abs") (fun xs H Q => ∃ i, xs = [.int i] ∧ Q (.int (if i < 0 then -i else i)) H) := by
 intro pins s σ H xs us Q I r h
 obtain ⟨i, rfl, q⟩ := h
 obtain ⟨u, rfl, t, rfl⟩ := vals1 r
 exact call_abs_int fun u tk => ⟨.int (if i < 0 then -i else i), H, I.tok _, ⟨_, rfl⟩, q⟩
theorem call_min2 (hc : X.calm = true) : CallR X (.builtin "min") (fun xs H Q => ∃ i j, xs = [.int i, .int j] ∧ Q (.int (if j < i then j else i)) H) := by
 intro pins s σ H xs us Q I r h
 obtain ⟨i, j, rfl, q⟩ := h
 obtain ⟨u, w', rfl, ⟨t, rfl⟩, ⟨t', rfl⟩⟩ := vals2 r
 refine min_two_ints (I.ok.hd hc) fun h' tk k => ⟨_, H, I.kept k, ?_, q⟩
 by_cases hj : j < i
 ·rw [if_pos hj, if_pos hj]; exact ⟨_, rfl⟩
 ·rw [if_neg hj, if_neg hj]; exact ⟨_, rfl⟩
theorem Yw : CallR X (.type "int") (fun xs H Q => (∃ i, xs = [.int i] ∧ Q (.int i) H) ∨ ∃ k, xs = [.bl k] ∧ Q (.int (if k then 1 else 0)) H) := by
 intro pins s σ H xs us Q I r h
 rcases h with ⟨i, rfl, q⟩ | ⟨k, rfl, q⟩
 ·obtain ⟨u, rfl, t, rfl⟩ := vals1 r
  exact call_int_int ⟨.int i, H, I, ⟨_, rfl⟩, q⟩
 ·obtain ⟨u, rfl, r1⟩ := vals1 r
  cases r1
  exact call_int_bool ⟨.int (if k then 1 else 0), H, I.tok _, ⟨_, rfl⟩, q⟩
theorem vY : CallR X (.builtin "divmod") (fun xs H Q => ∃ i j, xs = [.int i, .int j] ∧ CDiv i j ∧ ∀ p, H p = none → Q (.ref p) (upd H p (.tup [.int (i / j), .int (i % j)]))) := by
 intro pins s σ H xs us Q I r h
 obtain ⟨i, j, rfl, ⟨h1, h2⟩, q⟩ := h
 obtain ⟨u, w', rfl, ⟨t, rfl⟩, ⟨t', rfl⟩⟩ := vals2 r
 refine divmod_int (by omega) ?_ (.inl (PyProof.noPylong_small (by omega)))
 rw [Int.fdiv_eq_ediv_of_nonneg i (by omega), Int.fmod_eq_emod_of_nonneg i (by omega)]
 have hn : H s.heap.objs.size = none := I.hok.fresh (Nat.le_refl _)
 refine ⟨.ref s.heap.objs.size, _, ?_, rfl, q _ hn⟩
 refine I.laid (fun b o e => Heap.get?_push_of_some _ e) (Nat.le_refl _) ⟨by simp only [List.length_cons, List.length_nil]; rw [sizeLine_eq]; decide, [.int (i / j) s.toks, .int (i % j) (s.toks + 1)], .cons ⟨_, rfl⟩ (.cons ⟨_, rfl⟩ .nil), ?_⟩
 exact ⟨_, Heap.get?_push_size s.heap rfl, rfl, 0, rfl⟩
end
end L2
namespace L2
open PySem PySem.Spec PyProof.Rows
structure ObjM (h : Heap) (x dx C : Addr) (mA : Str → Option Value) : Prop where
 obj : h.get? x = some (PySem.W.instObj C dx)
 ns : h.Ns1 dx mA
 ne : dx ≠ x
theorem lookIn_ns {h : Heap} {dx : Addr} {mA : Str → Option Value} (n : h.Ns1 dx mA) : ∃ od, h.get? dx = some od ∧ ∀ name, PySem.W.lookIn name od = some (mA name) := by
 obtain ⟨o, es, ep, ho, hd, hk, _, hm⟩ := n
 refine ⟨o, ho, fun name => ?_⟩
 have e := hm name
 unfold nsFind findBy at e
 rw [← Array.find?_toList] at e
 unfold PySem.W.lookIn
 rw [hd]
 dsimp only
 split
 ·rename_i y q
  rw [q] at e
  exact congrArg some e
 ·rename_i q
  rw [q] at e
  have a : es.toList.any (·.refKey) = false := by
   rw [List.any_eq_false]
   intro y hy
   obtain ⟨z, t, hkey⟩ := hk y (Array.mem_toList_iff.mp hy)
   simp [DictEntry.refKey, hkey]
  have a' : ¬ es.toList.any (·.refKey) = true := by rw [a]; exact Bool.false_ne_true
  rw [if_neg a']
  exact congrArg some e
theorem ObjM.look {h : Heap} {x dx C : Addr} {mA : Str → Option Value} (I : ObjM h x dx C mA) : ∃ od, PySem.W.InstAt h x (PySem.W.instObj C dx) C (some od) ∧ ∀ name, PySem.W.lookIn name od = some (mA name) :=
 let ⟨od, ho, hl⟩ := lookIn_ns I.ns
 ⟨od, ⟨I.obj, rfl, rfl, ho⟩, hl⟩
section
variable {prog : Program} {w : World} {A : Around} {E : Value → Shared → Prop} {s : Shared} {K : Fg9} {x dx C f : Addr} {mA : Str → Option Value} {name : Str} {v : Value}
theorem get_map {expr : Bool} {Q : Value → Shared → Prop} (X : K.In s.heap) (I : ObjM s.heap x dx C mA) (hg : PySem.W.plainGet K C name = true) (hh : PySem.W.hasDictIn K C = true)
  (ha : PySem.W.findIn K (.ref C) name = some none) (hv : mA name = some v) (hv' : PySem.W.handedIn v = true) (h : Q v { s with toks := s.toks + 1 }) :
  wpAny (model prog w) A (getAttr (.ref x) name expr) Q E s := by
 obtain ⟨od, J, hl⟩ := I.look
 exact PySem.W.get_value X J (PySem.W.plainGet_of hg).1 (PySem.W.findObj_own hh ha rfl (by rw [hl, hv])) hv' h
theorem get_meth {pl : Sem Bool} {Q : Value × List Value → Shared → Prop} (X : K.In s.heap) (I : ObjM s.heap x dx C mA) (hg : PySem.W.plainGet K C name = true)
  (hf : PySem.W.findIn K (.ref C) name = some (some (.ref f))) (ht : PySem.W.isFn K (.ref f) = true) (hv : mA name = none) (h : Q (.ref f, [.ref x]) s) :
  wpAny (model prog w) A (getMethod (.ref x) name pl) Q E s := by
 obtain ⟨od, J, hl⟩ := I.look
 exact PySem.W.method_fn X J (PySem.W.plainGet_of hg).1 (PySem.W.plainGet_of hg).2 hf (beq_iff_eq.mp ht) (by show (PySem.W.lookIn name od).map (·.isSome) = some false; rw [hl, hv]; rfl) h
theorem set_map {ns : List Str} {Q : Unit → Shared → Prop} (X : K.In s.heap) (I : ObjM s.heap x dx C mA)
  (hs : PySem.W.findIn K (.ref C) "__setattr__" = some (some (.builtin "object.__setattr__"))) (hp : PySem.W.plainOver K C = true) (ht : PySem.W.takerIn K C name = some none) (hh : PySem.W.hasDictIn K C = true)
  (hw : PySem.Within mA ns) (hsz : ns.length ≤ sizeLine)
  (h : ∀ h', ObjM h' x dx C (fun y => if y = name then some v else mA y) → Heap.SameBut dx s.heap h' → Q () { s with heap := h', toks := s.toks + 2 }) :
  wpAny (model prog w) A (setAttr (.ref x) name v) Q E s := by
 obtain ⟨od, J, hl⟩ := I.look
 refine PySem.W.set_plain X J hs (PySem.W.osa_open (s := { s with toks := s.toks + 1 }) (r := none) X J hp ht fun b => ?_)
 obtain ⟨cd, hc, hd'⟩ := PySem.W.any_some hh
 have hx : s.heap.get? x = some ⟨.ref C, some dx, .plain, #[]⟩ := I.obj
 refine wpAny_bind (wpAny_pure (wpAny_bind (wpAny_bind (wpAny_loadPart hx (wpAny_bind (PySem.W.Looks.here (s := { s with toks := s.toks + 1 }) (PySem.W.looks_clsIn X hc) ?_))))))
 rw [hd']
 refine wpAny_pure (a := some dx) (wpAny_bind (wpAny_pure (wpAny_bind ?_)))
 refine wpAny_nsSet1 (s := { s with toks := s.toks + 1 }) I.ns fun h' hn2 hs2 => ?_
 obtain ⟨oD, esD, epD, hoD, hdD, hcD⟩ := hn2.count (PySem.Within.cons name v hw)
 refine wpAny_bind (wpAny_lookBehind hoD (by rw [hdD]; exact pastItsLine_dict (Nat.le_trans hcD (by rw [List.length_cons]; omega))) ?_)
 exact wpAny_pure (h _ ⟨(hs2.2 _ (Ne.symm I.ne)).trans I.obj, hn2, I.ne⟩ hs2)
theorem make_map {R : Result → Shared → Prop} {vs : List Value} {kw : List (Str × Value)} (X : K.In s.heap) (hm : PySem.W.makesIn K C = true)
  (hi : PySem.W.findIn K (.ref C) "__init__" = some (some (.ref f))) (hf : PySem.W.typeIn K (.ref f) = some (.type "function"))
  (h : codeAny (model prog w) (A.under (.builtin "type.__call__" ⟨.ref C :: vs, kw⟩)) (.call (.ref f) ⟨.ref (s.heap.objs.size + 1) :: vs, kw⟩) (PySem.W.InitBack (s.heap.objs.size + 1) R)
   { s with heap := (s.heap.push PySem.W.emptyDict).push (PySem.W.instObj C s.heap.objs.size) }) :
  codeAny (model prog w) A (.call (.ref C) ⟨vs, kw⟩) R s := by
 obtain ⟨hh, g, d, t, os⟩ := s
 exact PySem.W.make_core (PySem.W.makes_of X hm) (PySem.W.looks_findIn X hi) (fun self => PySem.W.bind_fn X self hf) (.inl rfl) h
end
def putF (f : Str) (v : V) : List (Str × V) → List (Str × V)
 | [] => [(f, v)]
 | (g, x) :: r => if g = f then (g, v) :: r else (g, x) :: putF f v r
theorem lookup_putF (f g : Str) (v : V) : ∀ fs : List (Str × V), (putF f v fs).lookup g = if g = f then some v else fs.lookup g
 | [] => by
  show List.lookup g [(f, v)] = _
  by_cases h : g = f
  ·have hb : (g == f) = true := beq_iff_eq.mpr h
   simp only [List.lookup, hb, if_pos h]
  ·have hb : (g == f) = false := beq_eq_false_iff_ne.mpr h
   simp only [List.lookup, hb, if_neg h]
 | (k, x) :: r => by
  have ih := lookup_putF f g v r
  rw [show putF f v ((k, x) :: r) = (if k = f then (k, v) :: r else (k, x) :: putF f v r) from rfl]
  by_cases hk : k = f
  ·rw [if_pos hk]
   by_cases h : g = k
   ·have hb : (g == k) = true := beq_iff_eq.mpr h
    simp only [List.lookup, hb, if_pos (h.trans hk)]
   ·have hb : (g == k) = false := beq_eq_false_iff_ne.mpr h
    simp only [List.lookup, hb, if_neg (fun e : g = f => h (e.trans hk.symm))]
  ·rw [if_neg hk]
   by_cases h : g = k
   ·have hb : (g == k) = true := beq_iff_eq.mpr h
    simp only [List.lookup, hb, if_neg (fun e : g = f => hk (h.symm.trans e))]
   ·have hb : (g == k) = false := beq_eq_false_iff_ne.mpr h
    simp only [List.lookup, hb]
    exact ih
theorem keys_putF (f : Str) (v : V) : ∀ fs : List (Str × V), f ∈ (putF f v fs).map (·.1) ∧ ∀ g, g ∈ fs.map (·.1) → g ∈ (putF f v fs).map (·.1)
 | [] => ⟨by simp [putF], fun g h => by simp at h⟩
 | (k, x) :: r => by
  obtain ⟨i1, i2⟩ := keys_putF f v r
  rw [show putF f v ((k, x) :: r) = (if k = f then (k, v) :: r else (k, x) :: putF f v r) from rfl]
  by_cases hk : k = f
  ·rw [if_pos hk]
   subst hk
   exact ⟨by simp, fun g h => by simpa using h⟩
  ·rw [if_neg hk]
   refine ⟨?_, fun g h => ?_⟩
   ·rw [List.map_cons]
    exact List.mem_cons_of_mem _ i1
   ·rw [List.map_cons] at h ⊢
    rcases List.mem_cons.mp h with e | e
    ·exact List.mem_cons.mpr (.inl e)
    ·exact List.mem_cons_of_mem _ (i2 g e)
theorem length_putF (f : Str) (v : V) : ∀ fs : List (Str × V), (putF f v fs).length ≤ fs.length + 1
 | [] => by simp [putF]
 | (k, x) :: r => by
  have ih := length_putF f v r
  rw [show putF f v ((k, x) :: r) = (if k = f then (k, v) :: r else (k, x) :: putF f v r) from rfl]
  by_cases hk : k = f
  ·rw [if_pos hk, List.length_cons, List.length_cons]; omega
  ·rw [if_neg hk, List.length_cons, List.length_cons]; omega
theorem RelO.some_of {v : V} {o : Option Value} (r : RelO (some v) o) : ∃ u, o = some u ∧ RelV v u := by
 cases o with
 | none => exact (show False from r).elim
 | some u => exact ⟨u, rfl, r⟩
theorem RelO.none_of {o : Option Value} (r : RelO none o) : o = none := by
 cases o with
 | none => rfl
 | some u => exact (show False from r).elim
theorem handed_of {v : V} {u : Value} (r : RelV v u) : PySem.W.handedIn u = true := by
 cases v with
 | non => cases (show u = Value.none from r); rfl
 | bl b => cases (show u = Value.bool b from r); rfl
 | int i => obtain ⟨t, e⟩ := (show ∃ t, u = Value.int i t from r); cases e; rfl
 | str x => obtain ⟨t, e⟩ := (show ∃ t, u = Value.str x t from r); cases e; rfl
 | byt b => obtain ⟨t, e⟩ := (show ∃ t, u = Value.bytes b t from r); cases e; rfl
 | flt b => obtain ⟨t, e⟩ := (show ∃ t, u = Value.float b t from r); cases e; rfl
 | ref a => cases (show u = Value.ref a from r); rfl
 | ty n => cases (show u = Value.type n from r); rfl
section
variable {P : Program} {w : World} {H H' : Hp} {h h' : Heap} {a C dx : Addr} {fs fs' : List (Str × V)}
theorem ins_get (hok : HOk P w H h) (e : H a = some (.ins C dx fs)) : ∃ mA, ObjM h a dx C mA ∧ (∀ f, RelO (fs.lookup f) (mA f)) ∧ PySem.Within mA (fs.map (·.1)) ∧ fs.length ≤ 1000 ∧ H dx = some (.own a) := by
 obtain ⟨d, z, ne, ob, mA, n, r, q⟩ := (show ObjOk P w H h a (.ins C dx fs) from hok a _ e)
 exact ⟨mA, ⟨ob, n, ne⟩, r, q, z, d⟩
end
structure Cls (K : Fg9) (C : Addr) : Prop where
 pg : PySem.W.plainGet K C Str.empty = true
 hd : PySem.W.hasDictIn K C = true
 po : PySem.W.plainOver K C = true
 sa : PySem.W.findIn K (.ref C) "__setattr__" = some (some (.builtin "object.__setattr__"))
theorem Cls.get {K : Fg9} {C : Addr} (c : Cls K C) (f : Str) : PySem.W.plainGet K C f = true := c.pg
def Jz (K : Fg9) (C : Addr) (f : Str) : Prop := PySem.W.findIn K (.ref C) f = some none
theorem Jz.taker {K : Fg9} {C : Addr} {f : Str} (n : Jz K C f) : PySem.W.takerIn K C f = some none := by
 unfold PySem.W.takerIn
 rw [show PySem.W.findIn K (.ref C) f = some none from n]
 rfl
structure Con (K : Fg9) (C : Addr) (f : Str) (v : V) (u : Value) : Prop where
 at_ : PySem.W.findIn K (.ref C) f = some (some u)
 rel : RelV v u
 get : PySem.W.specialIn K u "__get__" = some none
 cp : PySem.W.copiedNames.contains f = false
structure Meth (K : Fg9) (C : Addr) (m : Str) (f : Addr) : Prop where
 at_ : PySem.W.findIn K (.ref C) m = some (some (.ref f))
 fn : PySem.W.isFn K (.ref f) = true
 kp : PySem.W.keepIn K (.ref f) = true
section
variable {X : Cx} {pins : List (Addr × Obj)} {σ : St} {H : Hp} {s : Shared} {a C dx : Addr} {fs : List (Str × V)} {f : Str} {v : V} {A : Around} {E : Value → Shared → Prop}
theorem getattr_ok {b : Bool} {Q : Value → Shared → Prop} (I : Inv X pins σ H s) (e : H a = some (.ins C dx fs)) (c : Cls X.K C) (n : Jz X.K C f) (l : fs.lookup f = some v)
  (h : ∀ u s', Inv X pins σ H s' → RelV v u → Q u s') : wpAny (model X.prog X.w) A (getAttr (.ref a) f b) Q E s := by
 obtain ⟨mA, O, r, _, _, _⟩ := ins_get I.hok e
 obtain ⟨u, hu, ru⟩ := RelO.some_of (v := v) (o := mA f) (by rw [← l]; exact r f)
 exact get_map I.kIn O (c.get f) c.hd n hu (handed_of ru) (h u _ (I.tok _) ru)
theorem getmeth_ok {m : Str} {g : Addr} {pl : Sem Bool} {Q : Value × List Value → Shared → Prop} (I : Inv X pins σ H s) (e : H a = some (.ins C dx fs)) (c : Cls X.K C) (k : Meth X.K C m g) (l : fs.lookup m = none)
  (h : Q (.ref g, [.ref a]) s) : wpAny (model X.prog X.w) A (getMethod (.ref a) m pl) Q E s := by
 obtain ⟨mA, O, r, _, _, _⟩ := ins_get I.hok e
 have hn : mA m = none := RelO.none_of (by rw [← l]; exact r m)
 exact get_meth I.kIn O (c.get m) k.at_ k.fn hn h
theorem setattr_ok {y : V} {u : Value} {Q : Unit → Shared → Prop} (I : Inv X pins σ H s) (e : H a = some (.ins C dx fs)) (c : Cls X.K C) (n : Jz X.K C f) (hl : fs.length < 1000) (ry : RelV y u)
  (h : ∀ s', Inv X pins σ (upd H a (.ins C dx (putF f y fs))) s' → Q () s') : wpAny (model X.prog X.w) A (setAttr (.ref a) f u) Q E s := by
 obtain ⟨mA, O, r, wi, _, ho⟩ := ins_get I.hok e
 have hz : (fs.map (·.1)).length ≤ sizeLine := by rw [List.length_map, sizeLine_eq]; omega
 refine set_map I.kIn O c.sa c.po n.taker c.hd wi hz fun h' O' sb => h _ ?_
 have hd : ∃ o, h'.get? dx = some o := let ⟨o, _, _, e', _⟩ := O'.ns; ⟨o, e'⟩
 refine I.write (x := a) (e := dx) (by rw [e]; exact True.intro) (.inr ho) (fun b q hb z => (sb.2 b hb).trans z) hd ?_
 refine ⟨by rw [y7 O.ne]; exact ho, ?_, O.ne, O'.obj, _, O'.ns, fun g => ?_, fun g hg => ?_⟩
 ·have := length_putF f y fs; omega
 ·show RelO ((putF f y fs).lookup g) (if g = f then some u else mA g)
  rw [lookup_putF]
  by_cases q : g = f
  ·rw [if_pos q, if_pos q]; exact ry
  ·rw [if_neg q, if_neg q]; exact r g
 ·by_cases q : g = f
  ·rw [q]; exact (keys_putF f y fs).1
  ·refine (keys_putF f y fs).2 g (wi g fun z => hg ?_)
   show (if g = f then some u else mA g) = none
   rw [if_neg q]; exact z
theorem Inv.made (I : Inv X pins σ H s) : Inv X pins σ (upd (upd H s.heap.objs.size (.own (s.heap.objs.size + 1))) (s.heap.objs.size + 1) (.ins C s.heap.objs.size []))
  { s with heap := (s.heap.push PySem.W.emptyDict).push (PySem.W.instObj C s.heap.objs.size) } := by
 have e1 : (s.heap.push PySem.W.emptyDict).get? s.heap.objs.size = some PySem.W.emptyDict := Heap.get?_push_size s.heap rfl
 have e2 : ((s.heap.push PySem.W.emptyDict).push (PySem.W.instObj C s.heap.objs.size)).get? (s.heap.objs.size + 1) = some (PySem.W.instObj C s.heap.objs.size) := by
  have := Heap.get?_push_size (s.heap.push PySem.W.emptyDict) (o := PySem.W.instObj C s.heap.objs.size) rfl
  rwa [Heap.size_push] at this
 have e3 : (s.heap.push PySem.W.emptyDict).Ns s.heap.objs.size (fun _ => none) := ⟨PySem.W.emptyDict, #[], _, e1, rfl, (fun e he => absurd he (by simp)), fun _ => rfl⟩
 have I1 := I.laid (a := s.heap.objs.size) (o := .own (s.heap.objs.size + 1)) (h' := s.heap.push PySem.W.emptyDict) (t' := s.toks) (fun b u q => Heap.get?_push_of_some _ q) (Nat.le_refl _) ⟨_, e1⟩
 refine I1.laid (a := s.heap.objs.size + 1) (o := .ins C s.heap.objs.size []) (t' := s.toks) (fun b u q => Heap.get?_push_of_some _ q) (Nat.le_of_eq (Heap.size_push _ _)) ?_
 have ne : s.heap.objs.size ≠ s.heap.objs.size + 1 := Nat.ne_of_lt (Nat.lt_succ_self _)
 refine ⟨by rw [y7 ne, qv], Nat.zero_le _, ne, e2, fun _ => none, (Heap.Ns1.of_empty e3).at fun o q => Heap.get?_push_of_some _ q, fun _ => True.intro, fun y hy => absurd rfl hy⟩
theorem attr_of {prog : Program} {w : World} {env : Env} {e : Expr} {f : Str} {pos : Pos} {s : Shared} {Q : Value → Shared → Prop} (hb : attributeBase e f env (eval e env) = eval e env)
  (h : wpAny (model prog w) A (eval e env) (fun o s₁ => wpAny (model prog w) A (getAttr o f true) Q E s₁) E s) : wpAny (model prog w) A (eval (.Attribute e f pos) env) Q E s :=
 Attribute_any_ h (by rw [arm_eval_Attribute, hb])
end
def tFld (K : Fg9) (ta : TE) (f : Str) : TE := fun σ H Q => ta σ H fun x H1 => ∃ a C dx fs v, x = .ref a ∧ H1 a = some (.ins C dx fs) ∧ Cls K C ∧ Jz K C f ∧ fs.lookup f = some v ∧ Q v H1
def sFld (K : Fg9) (ta tv : TE) (f : Str) : TS := fun D σ H => tv σ H fun y H1 => ta σ H1 fun x H2 => ∃ a C dx fs, x = .ref a ∧ H2 a = some (.ins C dx fs) ∧ Cls K C ∧ Jz K C f ∧ fs.length < 1000 ∧ D.nx σ (upd H2 a (.ins C dx (putF f y fs)))
section
variable {X : Cx} {o e value : Expr} {f : Str} {pos pos' tpos : Pos} {ta tv : TE}
theorem JY (he : PE X e ta) (hb : attributeBase e f X.env (eval e X.env) = eval e X.env) : PE X (.Attribute e f pos) (tFld X.K ta f) := by
 intro pins s σ H Q I h
 refine attr_of hb (thn (he pins s σ H _ I h) fun u s1 ⟨x, H1, I1, rx, a, C, dx, fs, v, ex, ea, c, n, l, q⟩ => ?_)
 subst ex
 obtain rfl : u = Value.ref a := rx
 exact getattr_ok I1 ea c n l fun u' s2 I2 ru => ⟨v, H1, I2, ru, q⟩
theorem ps_fld (ha : PE X o ta) (hv : PE X value tv) (hs : swapsWith value (some (.Attribute o f pos')) pos.line X.env = pure false) : PS X (.Assign [.Attribute o f pos'] value pos) (sFld X.K ta tv f) := by
 intro pins s σ H D I h
 refine plainObj_wpAny_Assign_Attribute (thn (hv pins s σ H _ I h) fun u s1 ⟨y, H1, I1, ry, q⟩ => thn (ha pins s1 σ H1 _ I1 q) fun ov s2 ⟨x, H2, I2, rx, a, C, dx, fs, ex, ea, c, n, l, q2⟩ => ?_) hs
 subst ex
 obtain rfl : ov = Value.ref a := rx
 exact setattr_ok I2 ea c n l ry fun s3 I3 => ⟨σ, _, I3, q2⟩
end
section
variable {X : Cx} {pins : List (Addr × Obj)} {σ : St} {H : Hp} {s : Shared} {A : Around} {E : Value → Shared → Prop} {Q : Value → Shared → Prop} {c : Value} {b : Bool}
inductive TyOf (K : Fg9) (H : Hp) : V → Value → Prop where
 | non : TyOf K H .non (.type "NoneType")
 | bl (x : Bool) : TyOf K H (.bl x) (.type "bool")
 | int (i : Int) : TyOf K H (.int i) (.type "int")
 | str (x : Str) : TyOf K H (.str x) (.type "str")
 | flt (x : UInt64) : TyOf K H (.flt x) (.type "float")
 | lst {a : Addr} {xs : List V} (e : H a = some (.lst xs)) : TyOf K H (.ref a) (.type "list")
 | frz {a : Addr} {o : Obj} {xs : List V} (e : H a = some (.frz o (.lst xs))) : TyOf K H (.ref a) (.type "list")
 | tup {a : Addr} {xs : List V} (e : H a = some (.tup xs)) : TyOf K H (.ref a) (.type "tuple")
 | dK {a : Addr} {kvs : List (Key × V)} (e : H a = some (.dK kvs)) : TyOf K H (.ref a) (.type "dict")
 | dT {a : Addr} {kvs : List (List Key × V)} (e : H a = some (.dT kvs)) : TyOf K H (.ref a) (.type "dict")
 | ins {a C dx : Addr} {fs : List (Str × V)} (e : H a = some (.ins C dx fs)) (cl : Cls K C) (ha : PySem.W.findIn K (.ref C) "__class__" = some (some (.builtin "object.__class__")))
   (hn : PySem.W.specialIn K (.builtin "object.__class__") "__get__" = some (some (.builtin "getset_descriptor.__get__"))) (htk : PySem.W.takesIn K (.builtin "object.__class__") = some true)
   (hm : PySem.W.mroIn K C (.type "object") = some true) : TyOf K H (.ref a) (.ref C)
end
end L2
namespace L2
open PySem PySem.Spec PyProof.Rows
structure Room (k : Nat) (A : Around) : Prop where
 hd : A.handled = none
 dp : A.depth + 3 * k + 5 < recursionLimit
 un : A.units + 16 * k + 200 < cLine
theorem Room.mono {j k : Nat} {A : Around} (r : Room k A) (h : j ≤ k) : Room j A := ⟨r.hd, by have := r.dp; omega, by have := r.un; omega⟩
theorem Room.deeper {k : Nat} {A : Around} (r : Room (k + 1) A) (env : Env) : Room k (A.deeper env) :=
 ⟨r.hd, by have := r.dp; show A.depth + 1 + 3 * k + 5 < _; omega, by have := r.un; show A.units + 3 + 16 * k + 200 < _; omega⟩
theorem make_depth {A : Around} {C : Addr} {us : List Value} {kw : List (Str × Value)} : (A.under (.builtin "type.__call__" ⟨.ref C :: us, kw⟩)).depth = A.depth + 1 := by
 first | rfl | simp [Around.under, Code.weight, Code.isCreation, Code.isGuard, Code.isCaller, Code.frames, Code.isFrame, guardIds]
theorem make_units {A : Around} {C : Addr} {us : List Value} {kw : List (Str × Value)} : (A.under (.builtin "type.__call__" ⟨.ref C :: us, kw⟩)).units = A.units + 1 := by
 first | rfl | simp [Around.under, Code.cUnits, Code.frames, Code.isFrame]
theorem Room.make {k : Nat} {A : Around} (r : Room (k + 1) A) (C : Addr) (us : List Value) (kw : List (Str × Value)) : Room k (A.under (.builtin "type.__call__" ⟨.ref C :: us, kw⟩)) :=
 ⟨r.hd, by have := r.dp; rw [make_depth]; omega, by have := r.un; rw [make_units]; omega⟩
theorem Room.depth {k : Nat} {A : Around} (r : Room k A) : A.depth < recursionLimit := by have := r.dp; omega
theorem Room.units {k : Nat} {A : Around} (r : Room k A) : A.units + 64 < cLine := by have := r.un; omega
def tNil : TA := fun _ H Q => Q [] H
def tCons (ta : TE) (tr : TA) : TA := fun σ H Q => ta σ H fun x H1 => tr σ H1 fun xs H2 => Q (x :: xs) H2
section
variable {X : Cx} {e : Expr} {es : List Expr} {te : TE} {t : TA} {pos : Pos}
theorem qj : PA X [] tNil := fun _ _ _ _ H Q I h => Calls.spliced_nil ⟨[], H, I, .nil, h⟩
theorem pa_cons (ha : PE X e te) (hr : PA X es t) (hs : starEach (e :: es) X.env = (false, eval e X.env) :: starEach es X.env := by rfl) : PA X (e :: es) (tCons te t) := by
 intro pos pins s σ H Q I h
 rw [hs]
 show wpAny _ _ (spliced ((false, eval e X.env) :: backTo pos (starEach es X.env))) _ _ s
 refine Calls.spliced_cons (thn (ha pins s σ H _ I h) fun u s1 ⟨x, H1, I1, r1, q1⟩ => ?_)
 exact thn (hr pos pins s1 σ H1 _ I1 q1) fun us s2 ⟨xs, H2, I2, r2, q2⟩ => ⟨x :: xs, H2, I2, .cons r1 r2, q2⟩
def tTup (t : TA) : TE := fun σ H Q => t σ H fun xs H1 => xs.length ≤ sizeLine ∧ ∀ p, H1 p = none → Q (.ref p) (upd H1 p (.tup xs))
def tLst (t : TA) : TE := fun σ H Q => t σ H fun xs H1 => xs.length ≤ sizeLine ∧ ∀ p, H1 p = none → Q (.ref p) (upd H1 p (.lst xs))
theorem yq {x1} (h : PA X es t) : PE X (.Tuple es x1 pos) (tTup t) := by
 intro pins s σ H Q I hq
 refine wpAny_Tuple_spliced (thn (h pos pins s σ H _ I hq) fun us s1 ⟨xs, H1, I1, r, z, q⟩ => ⟨by rw [← r.length]; exact z, ?_⟩)
 have hf : H1 s1.heap.objs.size = none := I1.hok.fresh (Nat.le_refl _)
 refine ⟨.ref s1.heap.objs.size, upd H1 s1.heap.objs.size (.tup xs), I1.laid (t' := s1.toks) (fun b u e => Heap.get?_push_of_some _ e) (Nat.le_refl _) ?_, rfl, q _ hf⟩
 exact ⟨z, us, r, ⟨_, Heap.get?_push_size _ rfl, rfl, _, rfl⟩⟩
theorem j7 (h : PA X es t) : PE X (.List es pos) (tLst t) := by
 intro pins s σ H Q I hq
 refine wpAny_List_spliced (thn (h pos pins s σ H _ I hq) fun us s1 ⟨xs, H1, I1, r, z, q⟩ => ⟨by rw [← r.length]; exact z, ?_⟩)
 have hf : H1 s1.heap.objs.size = none := I1.hok.fresh (Nat.le_refl _)
 refine ⟨.ref s1.heap.objs.size, upd H1 s1.heap.objs.size (.lst xs), I1.laid (t' := s1.toks) (fun b u e => Heap.get?_push_of_some _ e) (Nat.le_refl _) ?_, rfl, q _ hf⟩
 exact ⟨z, us, 0, r, Heap.get?_push_size _ rfl⟩
end
abbrev Sp := List V → Hp → VK → XK → Prop
abbrev CXT := List Env → Hp → Shared → XK → Value → Shared → Prop
structure Env0 (P : Program) (w : World) (K : Fg9) (mg : Str → Option Value) (base : Heap) (A : Around) (outer : List Env) (s : Shared) (H : Hp) : Prop where
 frames : A.frames = some outer
 mod : Mod K mg base
 bs : ∀ b o, base.get? b = some o → s.heap.get? b = some o ∧ H b = none
 bsz : base.objs.size ≤ s.heap.objs.size
 funs : s.heap.FunFrames base outer
 frf : ∀ b ∈ frs outer, H b = none
 hok : HOk P w H s.heap
 bare : AllBare s.gens
def CE (outer : List Env) (P : Program) (w : World) (H : Hp) (s : Shared) (Q : VK) (u : Value) (s' : Shared) : Prop :=
 ∃ v H', s'.os = s.os ∧ AllBare s'.gens ∧ Un (frs outer) [] H H' s.heap s'.heap ∧ HOk P w H' s'.heap ∧ RelV v u ∧ Q v H'
def CR (CX : CXT) (outer : List Env) (P : Program) (w : World) (H : Hp) (s : Shared) (Q : VK) (E : XK) (r : Result) (s' : Shared) : Prop :=
 match r with
 | .ok (.ret u) => CE outer P w H s Q u s'
 | .ok _ => False
 | .error e => CX outer H s E e s'
structure FnOk (P : Program) (w : World) (K : Fg9) (mg : Str → Option Value) (base : Heap) (CX : CXT) (k : Nat) (f : Addr) (fd : FuncData) (ps : List Str) (sp : Sp) : Prop where
 len : ∀ vs H Q E, sp vs H Q E → vs.length = ps.length
 run : ∀ (A : Around) (outer : List Env) (s : Shared) (H : Hp) (args : Args) (us : List Value) (vs : List V) (Q : VK) (E : XK), Room k A → Env0 P w K mg base A outer s H → BindsTo s fd args (ps.zip us) → Vals vs us → sp vs H Q E → codeAny (model P w) A (.call (.ref f) args) (CR CX outer P w H s Q E) s
theorem FnOk.imp {P : Program} {w : World} {K : Fg9} {mg : Str → Option Value} {base : Heap} {CX : CXT} {k : Nat} {f : Addr} {fd : FuncData} {ps : List Str} {sp sp' : Sp} (F : FnOk P w K mg base CX k f fd ps sp)
  (h : ∀ vs H Q E, sp' vs H Q E → sp vs H Q E) : FnOk P w K mg base CX k f fd ps sp' :=
 ⟨fun vs H Q E q => F.len vs H Q E (h _ _ _ _ q), fun A outer s H args us vs Q E hr he hb hv hs => F.run A outer s H args us vs Q E hr he hb hv (h _ _ _ _ hs)⟩
theorem Env0.make {P : Program} {w : World} {K : Fg9} {mg : Str → Option Value} {base : Heap} {A : Around} {outer : List Env} {s : Shared} {H : Hp} (e : Env0 P w K mg base A outer s H) (C : Addr) (us : List Value) (kw : List (Str × Value)) :
  Env0 P w K mg base (A.under (.builtin "type.__call__" ⟨.ref C :: us, kw⟩)) outer s H := ⟨by first | exact e.frames | (simpa [Around.under, Code.envs, Code.isFrame, pushEnvs] using e.frames), e.mod, e.bs, e.bsz, e.funs, e.frf, e.hok, e.bare⟩
section
variable {X : Cx} {pins : List (Addr × Obj)} {σ : St} {H : Hp} {s s' : Shared}
theorem Inv.env0 (I : Inv X pins σ H s) : Env0 X.prog X.w X.K X.mg X.base X.A X.stack s H :=
 ⟨I.ok.frames, I.ok.mod, I.bs, Nat.le_trans I.ok.bsz I.sz, I.stack, I.stkFree, I.hok, I.bare⟩
theorem Inv.after {Q : VK} {u : Value} (I : Inv X pins σ H s) (h : CE X.stack X.prog X.w H s Q u s') : EP X pins σ Q u s' := by
 obtain ⟨v, H', os, bare, un, hok, r, q⟩ := h
 obtain ⟨hh, g, d, t, os'⟩ := s'
 obtain rfl : os' = s.os := os
 exact ⟨v, H', I.call (h' := hh) (g' := g) (d' := d) (t' := t) (ch := []) un hok bare (fun b z => absurd z (by simp)), r, q⟩
end
def tCall (sp : Sp) (dvs : List V) (E : XK) (t : TA) : TE := fun σ H Q => t σ H fun vs H1 => sp (vs ++ dvs) H1 Q E
def tMeth (C : Addr) (m : Str) (sp : Sp) (dvs : List V) (E : XK) (ta : TE) (t : TA) : TE := fun σ H Q => ta σ H fun x H1 => ∃ a dx fs, x = .ref a ∧ H1 a = some (.ins C dx fs) ∧ fs.lookup m = none ∧ t σ H1 fun vs H2 => sp (x :: (vs ++ dvs)) H2 Q E
def tMake (C : Addr) (sp : Sp) (dvs : List V) (E : XK) (t : TA) : TE := fun σ H Q => t σ H fun vs H1 => ∀ x dx, H1 x = none → H1 dx = none → dx ≠ x → sp (.ref x :: (vs ++ dvs)) (upd (upd H1 dx (.own x)) x (.ins C dx [])) (fun v H2 => v = .non ∧ Q (.ref x) H2) E
def Binds (K : Fg9) (fd : FuncData) (ps : List Str) (ds : List Value) : Prop :=
 ∀ (s : Shared) (us : List Value), K.In s.heap → (us ++ ds).length = ps.length → BindsTo s fd ⟨us, []⟩ (ps.zip (us ++ ds))
theorem Binds.all {K : Fg9} {fd : FuncData} {ps : List Str} (h : ∀ us : List Value, us.length = ps.length → bindArgs fd ⟨us, []⟩ = pure (ps.zip us)) : Binds K fd ps [] := fun s us _ hl => by
 rw [List.append_nil] at hl ⊢
 exact .of_eq (h us hl)
def Passes (CX : CXT) (X : Cx) (E : XK) : Prop := ∀ (pins : List (Addr × Obj)) (σ : St) (H : Hp) (s : Shared) (e : Value) (s' : Shared), Inv X pins σ H s → CX X.stack H s E e s' → X.xe e s'
section
variable {X : Cx} {CX : CXT} {k : Nat} {f C : Addr} {fd : FuncData} {ps : List Str} {sp : Sp} {dvs : List V} {ds : List Value} {E : XK} {x m : Str} {p pos apos : Pos} {e o : Expr} {es : List Expr} {ta : TE} {t : TA}
theorem run_fn {pins : List (Addr × Obj)} {σ : St} {H : Hp} {s : Shared} {Q : VK} {us : List Value} {vs : List V} (F : FnOk X.prog X.w X.K X.mg X.base CX k f fd ps sp) (hr : Room k X.A) (hb : Binds X.K fd ps ds) (hd : Vals dvs ds) (hx : Passes CX X E)
  (I : Inv X pins σ H s) (r : Vals vs us) (h : sp (vs ++ dvs) H Q E) : wpAny (model X.prog X.w) X.A (call (.ref f) us) (EP X pins σ Q) X.xe s := by
 have r2 : Vals (vs ++ dvs) (us ++ ds) := r.append hd
 have hl : (us ++ ds).length = ps.length := by rw [← r2.length]; exact F.len _ _ _ _ h
 refine wpAny_call (codeAny_mono (F.run X.A X.stack s H ⟨us, []⟩ (us ++ ds) (vs ++ dvs) Q E hr I.env0 (hb s us I.kIn hl) r2 h) fun r s' hq => ?_)
 cases r with
 | error e => exact hx pins σ H s e s' I hq
 | ok fl =>
  cases fl with
  | ret u => exact I.after hq
  | next => exact False.elim hq
  | brk => exact False.elim hq
  | cont => exact False.elim hq
theorem qK (F : FnOk X.prog X.w X.K X.mg X.base CX k f fd ps sp) (hr : Room k X.A) (hg : Gl X x) (hm : X.mg x = some (.ref f)) (hk : PySem.W.keepIn X.K (.ref f) = true) (hb : Binds X.K fd ps ds) (hd : Vals dvs ds) (hx : Passes CX X E)
  (ha : PA X (e :: es) t) (hdb : (x == ("__debug__" : Str)) = false := by decide) (he : starEach (e :: es) X.env = (false, eval e X.env) :: starEach es X.env := by rfl) (hpl : (backTo pos (starEach es X.env)).any (·.1) = false := by rfl) :
  PE X (.Call (.Name x p) (e :: es) [] pos) (tCall sp dvs E t) := by
 intro pins s σ H Q I h
 refine wpAny_Call_Name_kw (ld_glob I hg hm ?_ hdb)
 refine PySem.W.callWith_K (h₀ := X.base) I.ok.mod.kin hk (thn (ha pos pins s σ H _ I h) fun us s1 ⟨vs, H1, I1, r, q⟩ => ⟨I1.kIn, ?_⟩) he hpl
 exact run_fn F hr hb hd hx I1 r q
theorem Z0 {pl : Sem Bool} (he : PE X o ta) (c : Cls X.K C) (hm : Meth X.K C m f) (F : FnOk X.prog X.w X.K X.mg X.base CX k f fd ps sp) (hr : Room k X.A) (hb : Binds X.K fd ps ds) (hd : Vals dvs ds) (hx : Passes CX X E)
  (ht : eval (.Call (.Attribute o m apos) [] [] pos) X.env = (do
   let ov ← eval o X.env
   standAt apos.atName
   let (f, first) ← holding [ov] (getMethod ov m pl)
   callWith pos f first (backTo pos (starEach [] X.env)) (backToKw pos (keywordEach [] X.env))) := by rfl) :
  PE X (.Call (.Attribute o m apos) [] [] pos) (tMeth C m sp dvs E ta tNil) := by
 intro pins s σ H Q I h
 refine PySem.W.methodCall_KW (pl := pl) (thn (he pins s σ H _ I h) fun u s1 ⟨x, H1, I1, rx, a, dx, fs, ex, ea, l, q⟩ => ?_) ht
 subst ex
 obtain rfl : u = Value.ref a := rx
 refine getmeth_ok I1 ea c hm l ?_
 exact PySem.W.callWith_K0 (first := [.ref a]) I1.kIn hm.kp (run_fn (us := [.ref a]) (vs := [.ref a]) F hr hb hd hx I1 (.cons rfl .nil) q)
structure Mk (K : Fg9) (C f : Addr) : Prop where
 makes : PySem.W.makesIn K C = true
 init : PySem.W.findIn K (.ref C) "__init__" = some (some (.ref f))
 fn : PySem.W.isFn K (.ref f) = true
 kp : PySem.W.keepIn K (.ref C) = true
theorem run_make {pins : List (Addr × Obj)} {σ : St} {H : Hp} {s : Shared} {Q : VK} {us : List Value} {vs : List V} (M : Mk X.K C f) (F : FnOk X.prog X.w X.K X.mg X.base CX k f fd ps sp) (hr : Room (k + 1) X.A) (hb : Binds X.K fd ps ds) (hd : Vals dvs ds)
  (hx : Passes CX X E) (I : Inv X pins σ H s) (r : Vals vs us)
  (h : ∀ x dx, H x = none → H dx = none → dx ≠ x → sp (.ref x :: (vs ++ dvs)) (upd (upd H dx (.own x)) x (.ins C dx [])) (fun v H2 => v = .non ∧ Q (.ref x) H2) E) :
  wpAny (model X.prog X.w) X.A (call (.ref C) us) (EP X pins σ Q) X.xe s := by
 have hq := h (s.heap.objs.size + 1) s.heap.objs.size (I.hok.fresh (Nat.le_succ _)) (I.hok.fresh (Nat.le_refl _)) (Nat.ne_of_lt (Nat.lt_succ_self _))
 have I2 := Inv.made (C := C) I
 have r2 : Vals (V.ref (s.heap.objs.size + 1) :: (vs ++ dvs)) (Value.ref (s.heap.objs.size + 1) :: (us ++ ds)) := .cons rfl (r.append hd)
 have hl : (Value.ref (s.heap.objs.size + 1) :: us ++ ds).length = ps.length := by
  have e := r2.length
  rw [F.len _ _ _ _ hq] at e
  exact e.symm
 refine wpAny_call (make_map (f := f) I.kIn M.makes M.init (beq_iff_eq.mp M.fn) (codeAny_mono (F.run _ X.stack _ _ ⟨Value.ref (s.heap.objs.size + 1) :: us, []⟩ (Value.ref (s.heap.objs.size + 1) :: (us ++ ds)) _ _ E (hr.make C us [])
  (I2.env0.make C us []) (hb _ (Value.ref (s.heap.objs.size + 1) :: us) I2.kIn hl) r2 hq) fun r s' hq' => ?_))
 cases r with
 | error e => exact hx pins σ _ _ e s' I2 hq'
 | ok fl =>
  cases fl with
  | ret u =>
   obtain ⟨v, H', I3, rv, ev, q3⟩ := I2.after hq'
   subst ev
   exact ⟨rv, ⟨V.ref (s.heap.objs.size + 1), H', I3, rfl, q3⟩⟩
  | next => exact False.elim hq'
  | brk => exact False.elim hq'
  | cont => exact False.elim hq'
theorem pe_make (M : Mk X.K C f) (F : FnOk X.prog X.w X.K X.mg X.base CX k f fd ps sp) (hr : Room (k + 1) X.A) (hg : Gl X x) (hm : X.mg x = some (.ref C)) (hb : Binds X.K fd ps ds) (hd : Vals dvs ds) (hx : Passes CX X E)
  (ha : PA X (e :: es) t) (hdb : (x == ("__debug__" : Str)) = false := by decide) (he : starEach (e :: es) X.env = (false, eval e X.env) :: starEach es X.env := by rfl) (hpl : (backTo pos (starEach es X.env)).any (·.1) = false := by rfl) :
  PE X (.Call (.Name x p) (e :: es) [] pos) (tMake C sp dvs E t) := by
 intro pins s σ H Q I h
 refine wpAny_Call_Name_kw (ld_glob I hg hm ?_ hdb)
 refine PySem.W.callWith_K (h₀ := X.base) I.ok.mod.kin M.kp (thn (ha pos pins s σ H _ I h) fun us s1 ⟨vs, H1, I1, r, q⟩ => ⟨I1.kIn, ?_⟩) he hpl
 exact run_make M F hr hb hd hx I1 r q
end
section
variable {X : Cx} {CX : CXT} {k : Nat} {f C : Addr} {fd : FuncData} {ps ks : List Str} {sp : Sp} {E : XK} {x m : Str} {p pos apos kpos : Pos} {e o : Expr} {es : List Expr} {kws : List Keyword} {te ta : TE} {t tk : TA} {nm : Option Str}
structure KBinds (K : Fg9) (fd : FuncData) (ps ks : List Str) (g : List Value → List Value → List Value) (gV : List V → List V → List V) : Prop where
 to : ∀ (s : Shared) (us ws : List Value), K.In s.heap → (g us ws).length = ps.length → BindsTo s fd ⟨us, ks.zip ws⟩ (ps.zip (g us ws))
 rel : ∀ {vs : List V} {us : List Value} {zs : List V} {ws : List Value}, Vals vs us → Vals zs ws → Vals (gV vs zs) (g us ws)
variable {g : List Value → List Value → List Value} {gV : List V → List V → List V}
end
structure FnScope (N P : List Str) (sc : Scope) : Prop where
 kind : sc.kind = .function
 co : sc.isCoroutine = false
 gen : sc.isGenerator = false
 nd : N.Nodup
 pre : N.take P.length = P
 par : ∀ x ∈ P, sc.names.lookup x = some .local ∨ sc.names.lookup x = some .cell
 nofree : ∀ y ∈ sc.names, y.2 ≠ .free
theorem bindL_out {kindOf : Str → Option NameKind} {x : Str} : ∀ {binds : List (Str × Value)} {m : Str → Option Value}, (∀ v, (x, v) ∉ binds) → bindL kindOf binds m x = m x
 | [], _, _ => rfl
 | (n, v) :: r, m, h => by
  unfold bindL
  rw [bindL_out fun w hw => h w (List.mem_cons_of_mem _ hw)]
  split
  ·have : x ≠ n := by rintro rfl; exact h v List.mem_cons_self
   simp [this]
  ·rfl
theorem bindC_out {kindOf : Str → Option NameKind} {x : Str} : ∀ {binds : List (Str × Value)} {m : Str → Option Value}, (∀ v, (x, v) ∉ binds) → bindC kindOf binds m x = m x
 | [], _, _ => rfl
 | (n, v) :: r, m, h => by
  unfold bindC
  rw [bindC_out fun w hw => h w (List.mem_cons_of_mem _ hw)]
  split
  ·rfl
  ·have : x ≠ n := by rintro rfl; exact h v List.mem_cons_self
   simp [this]
theorem bindL_get {kindOf : Str → Option NameKind} {x : Str} {v : Value} : ∀ {P : List Str} {vs : List Value} {i : Nat} {m : Str → Option Value}, P.Nodup → P[i]? = some x → vs[i]? = some v → kindOf x = some .local → bindL kindOf (P.zip vs) m x = some v
 | [], _, _, _, _, h, _, _ => by simp at h
 | _ :: _, [], _, _, _, _, h, _ => by simp at h
 | p :: P, w :: vs, 0, m, nd, h1, h2, hk => by
  simp at h1 h2; subst h1; subst h2
  show bindL kindOf ((p, w) :: P.zip vs) m p = _
  unfold bindL
  rw [bindL_out fun v hv => (List.nodup_cons.mp nd).1 (List.of_mem_zip hv).1, if_pos hk]
  simp
 | p :: P, w :: vs, i + 1, m, nd, h1, h2, hk => by
  show bindL kindOf ((p, w) :: P.zip vs) m x = _
  unfold bindL
  exact bindL_get (i := i) (List.nodup_cons.mp nd).2 (by simpa using h1) (by simpa using h2) hk
theorem bindC_get {kindOf : Str → Option NameKind} {x : Str} {v : Value} : ∀ {P : List Str} {vs : List Value} {i : Nat} {m : Str → Option Value}, P.Nodup → P[i]? = some x → vs[i]? = some v → kindOf x ≠ some .local → bindC kindOf (P.zip vs) m x = some v
 | [], _, _, _, _, h, _, _ => by simp at h
 | _ :: _, [], _, _, _, _, h, _ => by simp at h
 | p :: P, w :: vs, 0, m, nd, h1, h2, hk => by
  simp at h1 h2; subst h1; subst h2
  show bindC kindOf ((p, w) :: P.zip vs) m p = _
  unfold bindC
  rw [bindC_out fun v hv => (List.nodup_cons.mp nd).1 (List.of_mem_zip hv).1, if_neg hk]
  simp
 | p :: P, w :: vs, i + 1, m, nd, h1, h2, hk => by
  show bindC kindOf ((p, w) :: P.zip vs) m x = _
  unfold bindC
  exact bindC_get (i := i) (List.nodup_cons.mp nd).2 (by simpa using h1) (by simpa using h2) hk
def start (N : List Str) (vs : List V) : St := vs.map some ++ List.replicate (N.length - vs.length) none
def cxOf (CX : CXT) (P : Program) (w : World) (K : Fg9) (mg : Str → Option Value) (base : Heap) (N : List Str) (qual : Str) (scope : Scope) (f : Addr) (cd : Value) (A : Around) (outer : List Env) (s : Shared) (H : Hp) (E : XK) : Cx where
 prog := P
 w := w
 K := K
 mg := mg
 base := base
 A := A.deeper (envOfC qual scope s.heap.objs.size f cd)
 N := N
 s₀ := s
 H₀ := H
 env := envOfC qual scope s.heap.objs.size f cd
 outer := outer
 stack := envOfC qual scope s.heap.objs.size f cd :: outer
 ex := []
 calm := true
 fn := fun _ => true
 pn := []
 xe := fun e s' => wpAny (model P w) (A.deeper (envOfC qual scope s.heap.objs.size f cd)) (leaving (envOfC qual scope s.heap.objs.size f cd) e) (fun _ s'' => CX outer H s E e s'') (fun e' s'' => CX outer H s E e' s'') s'
theorem cell_has {sc : Scope} {n : Nat} {x : Str} (h : sc.names.lookup x = some .cell) : ∃ c, (cellsFrom n sc.names []).lookup x = some c := by
 have q := PySem.W.cellsFrom_some sc.names n [] (.inl h)
 exact Option.isSome_iff_exists.mp q
theorem inv_start {CX : CXT} {P : Program} {w : World} {K : Fg9} {mg : Str → Option Value} {base : Heap} {N ps : List Str} {qual : Str} {scope : Scope} {f : Addr} {cd : Value} {A : Around} {outer : List Env} {s s1 : Shared} {H : Hp} {E : XK} {us : List Value} {vs : List V}
  (S : FnScope N ps scope) (hd : A.handled = none) (e0 : Env0 P w K mg base A outer s H) (hl : vs.length = ps.length) (r : Vals vs us)
  (x : InCallC s s.heap.objs.size (bindL (envOfC qual scope s.heap.objs.size f cd).kindOf (ps.zip us) fun _ => none) (cellsFrom (s.heap.objs.size + 1) scope.names []) (bindC (envOfC qual scope s.heap.objs.size f cd).kindOf (ps.zip us) fun _ => none) s1) :
  Inv (cxOf CX P w K mg base N qual scope f cd A outer s H E) [] (start N vs) H s1 := by
 have hpl : ps.length ≤ N.length := by have := congrArg List.length S.pre; rw [List.length_take] at this; omega
 obtain ⟨h1, tk, rfl, hk⟩ := x.done
 have noA : ∀ b : Addr, b ∉ (cxOf CX P w K mg base N qual scope f cd A outer s H E).ex := fun b z => absurd (show b ∈ ([] : List Addr) from z) (by simp)
 refine ⟨⟨e0.mod, S.kind, rfl, rfl, Nat.le_refl _, fun y z c h1 h2 => ?_, fun y hy => ?_, fun y c _ h => ?_, fun _ => hd, Around.frames_deeper e0.frames, .inr ⟨rfl, rfl⟩, fun b z => absurd z (noA b), e0.bs, e0.bsz, fun b _ _ => noA b, fun b z => absurd z (noA b), e0.funs, e0.frf⟩, rfl, e0.bare, Un.kept hk, ⟨_, x.toInCall.ns, fun i y v h1 h2 h3 => ?_⟩, fun y c h => ⟨_, x.cell y c h⟩, e0.hok.fresh (Nat.le_refl _), fun y c h => ?_, fun p hp => absurd (show p ∈ ([] : List (Addr × Obj)) from hp) (by simp), e0.hok.kept hk, ?_⟩
 ·exact name_of_addr x.apart (PySem.mem_of_lookup h1) (PySem.mem_of_lookup h2)
 ·have hy : scope.names.lookup y = some .cell ∨ scope.names.lookup y = some .free := hy
  rcases hy with hy | hy
  ·exact cell_has hy
  ·exact absurd rfl (S.nofree _ (PySem.mem_of_lookup hy))
 ·exact Nat.le_of_lt (x.above y c (PySem.mem_of_lookup h))
 ·have hi : i < vs.length := by
   unfold start at h2
   by_cases hi : i < vs.length
   ·exact hi
   ·rw [List.getElem?_append_right (by simpa using hi)] at h2
    rw [List.getElem?_replicate] at h2
    split at h2 <;> cases h2
  have ha : vs[i]? = some v := by
   unfold start at h2
   rw [List.getElem?_append_left (by simpa using hi), List.getElem?_map] at h2
   cases e : vs[i]? with
   | none => rw [e] at h2; cases h2
   | some a => rw [e] at h2; cases h2; rfl
  obtain ⟨u, hu, rv⟩ := r.get ha
  have hp : ps[i]? = some y := by
   rw [← S.pre, List.getElem?_take_of_lt (by omega)]; exact h1
  have ndP : ps.Nodup := by rw [← S.pre]; exact S.nd.sublist (List.take_sublist _ _)
  refine ⟨u, rv, ?_⟩
  rcases S.par y (List.mem_of_getElem? hp) with k | k
  ·exact .inl ⟨k, bindL_get ndP hp hu k⟩
  ·obtain ⟨c, e⟩ := cell_has (n := s.heap.objs.size + 1) k
   refine .inr ⟨.inl k, c, e, ?_⟩
   have q := x.cell y c e
   rw [bindC_get ndP hp hu (by show scope.names.lookup y ≠ _; rw [k]; decide)] at q
   exact q
 ·exact e0.hok.fresh (Nat.le_of_lt (x.above y c (PySem.mem_of_lookup h)))
 ·unfold start
  show _ = N.length
  rw [List.length_append, List.length_map, List.length_replicate]
  omega
theorem fn_of {CX : CXT} {P : Program} {w : World} {K : Fg9} {mg : Str → Option Value} {base : Heap} {k : Nat} {f : Addr} {name qual : Str} {params : Arguments} {body : List Stmt} {scope : Scope} {dV kV doc pm cdv ct oc : Value} {an od : Option Addr}
  {osl : Array (Option Value)} {N ps : List Str} {sp : Sp} (lk : K.lookup f = some ⟨oc, od, .func (PySem.W.fnOf name qual params body scope dV kV doc pm an cdv ct), osl⟩) (hcd : PySem.W.codeIn K cdv qual = true) (S : FnScope N ps scope)
  (len : ∀ vs H Q E, sp vs H Q E → vs.length = ps.length)
  (hbody : ∀ (A : Around) (outer : List Env) (s : Shared) (H : Hp) (vs : List V) (Q : VK) (E : XK), Room k (A.deeper (envOfC qual scope s.heap.objs.size f cdv)) → sp vs H Q E → ∃ t, PSs (cxOf CX P w K mg base N qual scope f cdv A outer s H E) body t ∧ t { nx := fun _ H' => Q .non H', rt := Q } (start N vs) H) :
  FnOk P w K mg base CX (k + 1) f (PySem.W.fnOf name qual params body scope dV kV doc pm an cdv ct) ps sp := by
 refine ⟨len, fun A outer s H args us vs Q E hr e0 hb r hsp => ?_⟩
 have hl := len _ _ _ _ hsp
 have KX : K.In s.heap := e0.mod.kin.keeps fun b o e => (e0.bs b o e).1
 have lim : s.heap.NoLimit := e0.mod.nolimit.keeps fun b o e => (e0.bs b o e).1
 have hkind : ∀ y ∈ ps.zip us, scope.names.lookup y.1 = some .local ∨ (scope.names.lookup y.1 = some .cell ∧ ((cellsFrom (s.heap.objs.size + 1) scope.names []).lookup y.1).isSome = true) := fun ⟨n, v⟩ hy => by
  rcases S.par n (List.of_mem_zip hy).1 with q | q
  ·exact .inl q
  ·exact .inr ⟨q, PySem.W.cellsFrom_some _ _ _ (.inl q)⟩
 refine codeAny_call_function hr.depth (KX _ _ lk) rfl S.co S.gen rfl (PySem.W.codeRec_of KX hcd) (hb _ _ _ _ ?_)
 refine wpAny_newFunctionEnv_cells S.kind hkind fun env he s1 x => ?_
 subst he
 refine ⟨lim.keeps x.toInCall.keep, codeAny_func ?_⟩
 obtain ⟨t, ht, hq⟩ := hbody A outer s H vs Q E (hr.deeper _) hsp
 have I : Inv (cxOf CX P w K mg base N qual scope f cdv A outer s H E) [] (start N vs) H s1 := inv_start S hr.hd e0 hl r x
 refine wpAny_mono (ht [] s1 (start N vs) H _ I hq) (fun fl s' hs => ?_) fun e s' hs => hs
 have fin : ∀ {σ' : St} {H' : Hp} {v : V} {u : Value}, Inv (cxOf CX P w K mg base N qual scope f cdv A outer s H E) [] σ' H' s' → RelV v u → Q v H' → CE outer P w H s Q u s' :=
  fun {σ' H' v u} J rv q => ⟨v, H', J.os, J.bare, J.base, J.hok, rv, q⟩
 cases fl with
 | ret u =>
  obtain ⟨v, σ', H', J, rv, q⟩ := hs
  exact fin J rv q
 | next =>
  obtain ⟨σ', H', J, q⟩ := hs
  exact fin (v := V.non) (u := Value.none) J rfl q
 | brk =>
  obtain ⟨_, _, _, q⟩ := hs
  exact False.elim q
 | cont =>
  obtain ⟨_, _, _, q⟩ := hs
  exact False.elim q
end L2
namespace L2
open PySem PySem.Spec PyProof.Rows
section
variable {X : Cx} {x : Str} {p pos : Pos} {e : Expr} {es : List Expr} {t : TA} {id T : String} {r : List V → Hp → VK → Prop}
def tCB (r : List V → Hp → VK → Prop) (t : TA) : TE := fun σ H Q => t σ H fun vs H1 => r vs H1 Q
theorem zq (hc : CallR X (.builtin id) r) (hg : Gl X x) (hm : X.mg x = none) (hv : bootBuiltins x = some (.builtin id)) (ha : PA X (e :: es) t) (hn : x ≠ "__name__" := by decide) (hdb : (x == ("__debug__" : Str)) = false := by decide)
  (he : starEach (e :: es) X.env = (false, eval e X.env) :: starEach es X.env := by rfl) (hpl : (backTo pos (starEach es X.env)).any (·.1) = false := by rfl) : PE X (.Call (.Name x p) (e :: es) [] pos) (tCB r t) := by
 intro pins s σ H Q I h
 refine wpAny_Call_Name_kw (ld_blt I hg hm hv ?_ hn hdb)
 exact PyProof.Rows.callWith_builtin1 (thn (ha pos pins s σ H _ I h) fun us s1 ⟨vs, H1, I1, r1, q1⟩ => hc pins s1 σ H1 vs us Q I1 r1 q1) he hpl
theorem jy (hc : CallR X (.type T) r) (hg : Gl X x) (hm : X.mg x = none) (hv : bootBuiltins x = some (.type T)) (ha : PA X (e :: es) t) (hn : x ≠ "__name__" := by decide) (hdb : (x == ("__debug__" : Str)) = false := by decide)
  (he : starEach (e :: es) X.env = (false, eval e X.env) :: starEach es X.env := by rfl) (hpl : (backTo pos (starEach es X.env)).any (·.1) = false := by rfl) : PE X (.Call (.Name x p) (e :: es) [] pos) (tCB r t) := by
 intro pins s σ H Q I h
 refine wpAny_Call_Name_kw (ld_blt I hg hm hv ?_ hn hdb)
 exact PyProof.Rows.callWith_type1 (thn (ha pos pins s σ H _ I h) fun us s1 ⟨vs, H1, I1, r1, q1⟩ => hc pins s1 σ H1 vs us Q I1 r1 q1) he hpl
end
end L2
namespace HT
open PySem PyProof.Rows
section
open PySem.SeqAt
open PySem.AutoSeq1 (wpAny_loadPart')
open PySem.MeetsSeq PySem.MeetsSeq2 PySem.MeetsSeq3
end
section
variable {prog : Program} {w : World} {A : Around} {E : Value → Shared → Prop} {s : Shared}
def sIx (n d : Nat) : Option Int → Nat
 | none => d
 | some v => if v < 0 then (v + (n : Int)).toNat else min v.toNat n
theorem sIx_none (n d : Nat) : sIx n d none = d := rfl
theorem sIx_nat (n d k : Nat) : sIx n d (some (k : Int)) = min k n := by
 show (if (k : Int) < 0 then ((k : Int) + (n : Int)).toNat else min (k : Int).toNat n) = min k n
 rw [if_neg (by omega), Int.toNat_natCast]
end
end HT
namespace L2
open PySem PySem.Spec PyProof.Rows
abbrev TO := St → Hp → (Option Int → Hp → Prop) → Prop
def PO (X : Cx) (e : Option Expr) (t : TO) : Prop :=
 ∀ (pins : List (Addr × Obj)) (s : Shared) (σ : St) (H : Hp) (Q : Option Int → Hp → Prop), Inv X pins σ H s → t σ H Q → wpAny (model X.prog X.w) X.A (evalPart e X.env) (fun u s' => ∃ o H', Inv X pins σ H' s' ∧ IsPart u o ∧ Q o H') X.xe s
def tNoPart : TO := fun _ H Q => Q none H
def tPart (t : TE) : TO := fun σ H Q => t σ H fun x H1 => ∃ i, x = .int i ∧ Q (some i) H1
section
variable {X : Cx} {e : Expr} {te : TE} {lo hi : Option Expr} {tl th : TO} {pos p2 : Pos}
theorem kY : PO X none tNoPart := by
 intro pins s σ H Q I h
 rw [evalPart_none]
 exact wpAny_pure ⟨none, H, I, .none, h⟩
theorem vJ (h : PE X e te) : PO X (some e) (tPart te) := by
 intro pins s σ H Q I hw
 rw [evalPart_some]
 refine thn (h pins s σ H _ I hw) fun u s1 ⟨x, H1, I1, r1, q1⟩ => ?_
 obtain ⟨i, rfl, q⟩ := q1
 obtain ⟨t, rfl⟩ := r1
 exact ⟨some i, H1, I1, .int i t, q⟩
def SlR (X : Cx) (r : V → Option Int → Option Int → Hp → VK → Prop) : Prop :=
 ∀ (pins : List (Addr × Obj)) (s : Shared) (σ : St) (H : Hp) (x : V) (v vl vu : Value) (lo hi : Option Int) (sl : Addr) (Q : VK), Inv X pins σ H s → RelV x v → s.heap.IsSliceOf sl vl vu .none → IsPart vl lo → IsPart vu hi → r x lo hi H Q → ∃ T id, typeLookup (.type T) "__getitem__" = pure (some (.builtin id)) ∧ s.TypeIs v T ∧ wpAny (model X.prog X.w) X.A (getItem v (.ref sl)) (EP X pins σ Q) X.xe s
def tSl (r : V → Option Int → Option Int → Hp → VK → Prop) (te : TE) (tl th : TO) : TE := fun σ H Q => te σ H fun x H1 => tl σ H1 fun l H2 => th σ H2 fun u H3 => r x l u H3 Q
theorem vx {r : V → Option Int → Option Int → Hp → VK → Prop} (hr : SlR X r) (he : PE X e te) (hl : PO X lo tl) (hu : PO X hi th) : PE X (.Subscript e (.Slice lo hi none p2) pos) (tSl r te tl th) := by
 intro pins s σ H Q I h
 refine Subscript_ (thn (he pins s σ H _ I h) fun v s1 ⟨x, H1, I1, r1, q1⟩ => ?_)
 refine wpAny_Slice (thn (hl pins s1 σ H1 _ I1 q1) fun vl s2 ⟨l, H2, I2, pl, q2⟩ => thn (hu pins s2 σ H2 _ I2 q2) fun vu s3 ⟨u, H3, I3, pu, q3⟩ => ?_)
 rw [evalPart_none]
 refine wpAny_pure ?_
 have I4 : Inv X pins σ H3 { s3 with heap := s3.heap.push { cls := .type "slice", data := .fields #[vl, vu, .none] } } := I3.kept (t' := s3.toks) fun b ob q => Heap.get?_push_of_some _ q
 obtain ⟨T, id, hT, ht, hg⟩ := hr pins { s3 with heap := s3.heap.push { cls := .type "slice", data := .fields #[vl, vu, .none] } } σ H3 x v vl vu l u s3.heap.objs.size Q I4 r1 (Heap.IsSliceOf.new ..) pl pu q3
 show wpAny (model X.prog X.w) X.A (subscriptTail e (.Slice lo hi none p2) v (.ref s3.heap.objs.size)) (EP X pins σ Q) X.xe { s3 with heap := s3.heap.push { cls := .type "slice", data := .fields #[vl, vu, .none] } }
 exact tail_any (ops := [.ref s3.heap.objs.size, v]) ht hT hg (by with_unfolding_all rfl)
def cutV (xs : List V) (lo hi : Option Int) : List V := (xs.drop (HT.sIx xs.length 0 lo)).take (HT.sIx xs.length xs.length hi - HT.sIx xs.length 0 lo)
theorem cutV_length (xs : List V) (lo hi : Option Int) : (cutV xs lo hi).length ≤ xs.length := by
 unfold cutV
 rw [List.length_take, List.length_drop]
 omega
end
end L2
namespace L2
open PySem PySem.Spec PyProof.Rows
def ixN (n : Nat) (i : Int) : Option Nat := if 0 ≤ i then (if i < n then some i.toNat else none) else if -(n : Int) ≤ i then some (i + n).toNat else none
def atI {α : Type} (xs : List α) (i : Int) : Option α := (ixN xs.length i).bind fun j => xs[j]?
theorem ixN_seq {n : Nat} {i : Int} {j : Nat} (h : ixN n i = some j) : seqIndex? i n = some j ∧ j < n ∧ -(n : Int) ≤ i ∧ i < n := by
 unfold ixN at h
 by_cases h0 : 0 ≤ i
 ·rw [if_pos h0] at h
  by_cases h1 : i < n
  ·rw [if_pos h1] at h
   have e : i.toNat = j := Option.some.inj h
   exact ⟨by rw [seqIndex_of h0 h1, e], by omega, by omega, h1⟩
  ·rw [if_neg h1] at h; cases h
 ·rw [if_neg h0] at h
  by_cases h1 : -(n : Int) ≤ i
  ·rw [if_pos h1] at h
   have e : (i + n).toNat = j := Option.some.inj h
   exact ⟨by rw [seqIndex_neg (by omega) h1, e], by omega, h1, by omega⟩
  ·rw [if_neg h1] at h; cases h
theorem atI_get {α : Type} {xs : List α} {i : Int} {v : α} (h : atI xs i = some v) : ∃ j, seqIndex? i xs.length = some j ∧ xs[j]? = some v ∧ j < xs.length ∧ -(xs.length : Int) ≤ i ∧ i < xs.length := by
 unfold atI at h
 cases e : ixN xs.length i with
 | none => rw [e] at h; cases h
 | some j =>
  rw [e] at h
  obtain ⟨h1, h2, h3, h4⟩ := ixN_seq e
  exact ⟨j, h1, h, h2, h3, h4⟩
def PlainIx (b : Expr) : Prop := ∀ o i, subscripted b false o i = operate [o, i] (getItem o i)
def IxR (X : Cx) (r : R2) : Prop :=
 ∀ (value slice : Expr) (pins : List (Addr × Obj)) (s : Shared) (σ : St) (H : Hp) (x y : V) (v u : Value) (Q : VK), Inv X pins σ H s → RelV x v → RelV y u → r x y H Q → subscripted slice false v u = operate [v, u] (getItem v u) → wpAny (model X.prog X.w) X.A (subscriptTail value slice v u) (EP X pins σ Q) X.xe s
def MtR (X : Cx) (id : String) (r : V → List V → Hp → VK → Prop) : Prop :=
 ∀ (pins : List (Addr × Obj)) (s : Shared) (σ : St) (H : Hp) (x : V) (xs : List V) (v : Value) (us : List Value) (Q : VK), Inv X pins σ H s → RelV x v → Vals xs us → r x xs H Q → wpAny (model X.prog X.w) X.A (call (.builtin id) (v :: us)) (EP X pins σ Q) X.xe s
section
variable {X : Cx} {a b : Expr} {ta tb : TE} {pos : Pos}
theorem pe_ix {r : R2} (hr : IxR X r) (ha : PE X a ta) (hb : PE X b tb) (hs : PlainIx b) : PE X (.Subscript a b pos) (tOp r ta tb) := by
 intro pins s σ H Q I h
 exact Subscript_ (binT ha hb I h fun v u s2 x y H2 I2 rx ry q => hr a b pins s2 σ H2 x y v u Q I2 rx ry q (hs _ _))
def rIxL (K : Fg9) : R2 := fun x y H Q => ∃ p xs i v, x = .ref p ∧ y = .int i ∧ SqL K H p xs ∧ atI xs i = some v ∧ Q v H
def rIxT (K : Fg9) : R2 := fun x y H Q => ∃ p xs i v, x = .ref p ∧ y = .int i ∧ SqT K H p xs ∧ atI xs i = some v ∧ Q v H
theorem yk : IxR X (rIxL X.K) := by
 intro value slice pins s σ H x y v u Q I rx ry h hs
 obtain ⟨p, xs, i, z, rfl, rfl, hq, he, q⟩ := h
 cases rx
 obtain ⟨t, rfl⟩ := ry
 obtain ⟨its, r, pl, hz⟩ := I.list hq
 obtain ⟨j, h1, h2, h3, h4, h5⟩ := atI_get he
 obtain ⟨w, ew, rw'⟩ := r.get h2
 have hl := r.length
 have hn := line63
 have fin : EP X pins σ Q w s := ⟨z, H, I, rw', q⟩
 by_cases h0 : 0 ≤ i
 ·have hj : i.toNat = j := by
   rw [seqIndex_of h0 h5] at h1
   exact Option.some.inj h1
  exact item_listR pl.isList h0 (by omega) (by rw [hj]; simpa using ew) fin hs
 ·have hj : (i + (its.toArray.size : Int)).toNat = j := by
   rw [seqIndex_neg (by omega) h4] at h1
   rw [List.size_toArray, ← hl]
   exact Option.some.inj h1
  exact subscriptTail_builtinR (x := w) pl.isList.typeIs slot_list_getitem.lookup
   (wpAny_getItem_list_neg (Q := fun r s' => r = w ∧ EP X pins σ Q r s') pl.isList (by omega) (by rw [List.size_toArray] <;> omega) (by omega) (by rw [hj]; simpa using ew) ⟨rfl, fin⟩) hs
theorem qY : IxR X (rIxT X.K) := by
 intro value slice pins s σ H x y v u Q I rx ry h hs
 obtain ⟨p, xs, i, z, rfl, rfl, hq, he, q⟩ := h
 cases rx
 obtain ⟨t, rfl⟩ := ry
 obtain ⟨its, r, pl, hz⟩ := I.tuple hq
 obtain ⟨j, h1, h2, h3, h4, h5⟩ := atI_get he
 obtain ⟨w, ew, rw'⟩ := r.get h2
 have hl := r.length
 have hn := line63
 have fin : EP X pins σ Q w s := ⟨z, H, I, rw', q⟩
 exact subscriptTail_builtinR (x := w) pl.typeIs slot_tuple_getitem.lookup
  (getItem_tuple (j := j) (Q := fun r s' => r = w ∧ EP X pins σ Q r s') pl (by omega) (by omega) (by rw [List.size_toArray, ← hl]; exact h1) (by simpa using ew) ⟨rfl, fin⟩) hs
theorem slice_bounds (lo hi : Option Int) (n : Nat) : (sliceBounds lo hi none n).1 = ((HT.sIx n 0 lo : Nat) : Int) ∧ (sliceBounds lo hi none n).2.1 = ((HT.sIx n n hi : Nat) : Int) ∧ (sliceBounds lo hi none n).2.2 = 1 := by
 refine ⟨?_, ?_, rfl⟩
 ·cases lo with
  | none => simp [sliceBounds, HT.sIx]
  | some i =>
   simp only [sliceBounds, HT.sIx, Option.getD_none, show (1 : Int) > 0 by decide, if_true]
   by_cases h : i < 0
   ·simp only [h, if_true] <;> omega
   ·simp only [h, if_false] <;> omega
 ·cases hi with
  | none => simp [sliceBounds, HT.sIx]
  | some i =>
   simp only [sliceBounds, HT.sIx, Option.getD_none, show (1 : Int) > 0 by decide, if_true]
   by_cases h : i < 0
   ·simp only [h, if_true] <;> omega
   ·simp only [h, if_false] <;> omega
theorem slicePick_cut (its : List Value) (lo hi : Option Int) : slicePick its.toArray lo hi none = ((its.drop (HT.sIx its.length 0 lo)).take (HT.sIx its.length its.length hi - HT.sIx its.length 0 lo)).toArray := by
 obtain ⟨h1, h2, h3⟩ := slice_bounds lo hi its.toArray.size
 unfold slicePick
 rw [h1, h2, h3]
 simp only [sliceRange_one, pick_run, List.size_toArray] <;> rfl
def rSlL (K : Fg9) : V → Option Int → Option Int → Hp → VK → Prop := fun x lo hi H Q => ∃ a xs, x = .ref a ∧ SqL K H a xs ∧ ∀ p, H p = none → Q (.ref p) (upd H p (.lst (cutV xs lo hi)))
theorem wZ : SlR X (rSlL X.K) := by
 intro pins s σ H x v vl vu lo hi sl Q I rx hs pl pu h
 obtain ⟨a, xs, rfl, hx, q⟩ := h
 cases rx
 obtain ⟨its, r, ht, hz⟩ := I.list hx
 have hlen := r.length
 refine ⟨"list", _, slot_list_getitem.lookup, ht.isList.typeIs, ?_⟩
 refine wpAny_getItem_list_slice ht.isList hs pl pu .none (by simp) ?_ (by rw [List.size_toArray] <;> omega)
 rw [slicePick_cut, ← hlen]
 refine ⟨.ref s.heap.objs.size, _, I.laid (t' := s.toks) (o := .lst (cutV xs lo hi)) (fun b ob q => Heap.get?_push_of_some _ q) (Nat.le_refl _) ?_, rfl, q _ (I.hok.fresh (Nat.le_refl _))⟩
 exact ⟨Nat.le_trans (cutV_length xs lo hi) hz, _, 0, (r.drop (HT.sIx xs.length 0 lo)).take (HT.sIx xs.length xs.length hi - HT.sIx xs.length 0 lo), Heap.get?_push_size _ rfl⟩
def flatV : V → Bool
 | .non => true
 | .bl _ => true
 | .int _ => true
 | .str _ => true
 | _ => false
def eqV : V → V → Bool
 | .non, .non => true
 | .bl a, .bl b => a == b
 | .bl a, .int b => (if a then 1 else 0) == b
 | .int a, .bl b => a == (if b then 1 else 0)
 | .int a, .int b => a == b
 | .str a, .str b => a == b
 | _, _ => false
theorem eqAt_V {A : Around} {s : Shared} {y x : V} {u v : Value} (ry : RelV y u) (rx : RelV x v) (fy : flatV y = true) (fx : flatV x = true) : SeqAt.EqAt A s u v (eqV y x) := by
 cases y with
 | non =>
  cases ry
  cases x with
  | non => cases rx; exact SeqAt.EqAt.same _
  | bl b => cases rx; exact SeqAt.EqAt.none_bool b
  | int b => obtain ⟨t, rfl⟩ := rx; exact SeqAt.EqAt.none_int b t
  | str b => obtain ⟨t, rfl⟩ := rx; exact SeqAt.EqAt.none_str b t
  | _ => exact absurd (show false = true from fx) Bool.false_ne_true
 | bl a =>
  cases ry
  cases x with
  | non => cases rx; exact SeqAt.EqAt.bool_none a
  | bl b => cases rx; exact SeqAt.EqAt.bool_bool a b
  | int b => obtain ⟨t, rfl⟩ := rx; exact SeqAt.EqAt.bool_int a b t
  | str b => obtain ⟨t, rfl⟩ := rx; exact SeqAt.EqAt.bool_str a b t
  | _ => exact absurd (show false = true from fx) Bool.false_ne_true
 | int a =>
  obtain ⟨t', rfl⟩ := ry
  cases x with
  | non => cases rx; exact SeqAt.EqAt.int_none a t'
  | bl b => cases rx; exact SeqAt.EqAt.int_bool a t' b
  | int b => obtain ⟨t, rfl⟩ := rx; exact SeqAt.EqAt.int_int a t' b t
  | str b => obtain ⟨t, rfl⟩ := rx; exact SeqAt.EqAt.int_str a t' b t
  | _ => exact absurd (show false = true from fx) Bool.false_ne_true
 | str a =>
  obtain ⟨t', rfl⟩ := ry
  cases x with
  | non => cases rx; exact SeqAt.EqAt.str_none a t'
  | bl b => cases rx; exact SeqAt.EqAt.str_bool a t' b
  | int b => obtain ⟨t, rfl⟩ := rx; exact SeqAt.EqAt.str_int a t' b t
  | str b => obtain ⟨t, rfl⟩ := rx; exact SeqAt.EqAt.str_str a t' b t
  | _ => exact absurd (show false = true from fx) Bool.false_ne_true
 | _ => exact absurd (show false = true from fy) Bool.false_ne_true
theorem zZ : CallR X (.builtin "len") (fun xs H Q => ∃ p ys, xs = [.ref p] ∧ (SqL X.K H p ys ∨ SqT X.K H p ys) ∧ Q (.int ys.length) H) := by
 intro pins s σ H xs us Q I r h
 obtain ⟨p, ys, rfl, hq, q⟩ := h
 obtain ⟨u, rfl, rx⟩ := vals1 r
 cases rx
 have hn := line63
 rcases hq with hq | hq
 ·obtain ⟨its, r', pl, hz⟩ := I.list hq
  have hlen := r'.length
  exact Calls.call_len_list pl.isList (by simp only [List.size_toArray] <;> omega) ⟨.int ys.length, H, I.tok _, ⟨s.toks + 1, by rw [List.size_toArray, hlen]⟩, q⟩
 ·obtain ⟨its, r', pl, hz⟩ := I.tuple hq
  have hlen := r'.length
  exact len_tuple pl (by simp only [List.size_toArray] <;> omega) ⟨.int ys.length, H, I.tok _, ⟨s.toks + 1, by rw [List.size_toArray, hlen]⟩, q⟩
theorem Yq : CallR X (.type "list") (fun xs H Q => ∃ p ys, xs = [.ref p] ∧ (SqL X.K H p ys ∨ SqT X.K H p ys) ∧ ∀ l, H l = none → Q (.ref l) (upd H l (.lst ys))) := by
 intro pins s σ H xs us Q I r h
 obtain ⟨p, ys, rfl, hq, q⟩ := h
 obtain ⟨u, rfl, rx⟩ := vals1 r
 cases rx
 have fin : ∀ (its : List Value), Vals ys its → ys.length ≤ sizeLine → ∀ (h' : Heap) (c' : Nat), (∀ b o', s.heap.get? b = some o' → h'.get? b = some o') → h'.get? s.heap.objs.size = some { cls := .type "list", dict := none, data := .seq its.toArray c', slots := #[] } → EP X pins σ Q (.ref s.heap.objs.size) { s with heap := h' } := fun its r' hz h' c' kp e =>
  ⟨.ref s.heap.objs.size, _, I.laid (t' := s.toks) kp (Nat.le_refl _) (show ObjOk X.prog X.w _ h' _ (.lst ys) from ⟨hz, its, c', r', e⟩), rfl, q _ (I.hok.fresh (Nat.le_refl _))⟩
 rcases hq with hq | hq
 ·obtain ⟨its, r', pl, hz⟩ := I.list hq
  have hlen := r'.length
  obtain ⟨o, ho, hc, n, hd⟩ := pl.isList
  exact call_list_seq p (.inl rfl) ho hc hd (fun h' c' kp e => fin its r' hz h' c' kp e) (by simp only [List.size_toArray] <;> omega)
 ·obtain ⟨its, r', pl, hz⟩ := I.tuple hq
  have hlen := r'.length
  obtain ⟨o, ho, hc, n, hd⟩ := pl
  exact call_list_seq p (.inr rfl) ho hc hd (fun h' c' kp e => fin its r' hz h' c' kp e) (by simp only [List.size_toArray] <;> omega)
theorem call_tuple_of : CallR X (.type "tuple") (fun xs H Q => ∃ p ys, xs = [.ref p] ∧ ((SqL X.K H p ys ∧ ∀ l, H l = none → Q (.ref l) (upd H l (.tup ys))) ∨ (SqT X.K H p ys ∧ Q (.ref p) H))) := by
 intro pins s σ H xs us Q I r h
 obtain ⟨p, ys, rfl, h⟩ := h
 obtain ⟨u, rfl, rx⟩ := vals1 r
 cases rx
 rcases h with ⟨hq, q⟩ | ⟨hq, q⟩
 ·obtain ⟨its, r', pl, hz⟩ := I.list hq
  have hlen := r'.length
  refine call_tuple_list pl.isList (fun h' kp => ?_) (by simp only [List.size_toArray] <;> omega)
  have I1 : Inv X pins σ H { s with heap := h' } := I.kept (t' := s.toks) kp
  have I2 : Inv X pins σ (upd H h'.objs.size (.tup ys)) { s with heap := h'.push { cls := .type "tuple", data := .seq its.toArray } } :=
   I1.laid (t' := s.toks) (fun b o e => Heap.get?_push_of_some _ e) (Nat.le_refl _) (show ObjOk X.prog X.w _ _ _ (.tup ys) from ⟨hz, its, r', IsTup.new _ _⟩)
  exact ⟨.ref h'.objs.size, _, I2, rfl, q _ (I1.hok.fresh (Nat.le_refl _))⟩
 ·obtain ⟨its, r', pl, hz⟩ := I.tuple hq
  exact call_tuple_same pl ⟨.ref p, H, I, rfl, q⟩
def tyV (K : Fg9) (T : String) (x : V) (H : Hp) : Prop := match x with
 | .str _ => T = "str"
 | .int _ => T = "int"
 | .ref p => (T = "list" ∧ ∃ xs, SqL K H p xs) ∨ (T = "tuple" ∧ ∃ o, K.lookup p = some o ∧ o.cls = .type "tuple" ∧ o.dict = none) ∨
   (T = "dict" ∧ ((∃ kvs, H p = some (.dK kvs)) ∨ ∃ kvs, H p = some (.dT kvs))) ∨ (T = "set" ∧ ∃ S n, H p = some (.set S n))
 | _ => False
theorem tyV_is {pins : List (Addr × Obj)} {σ : St} {H : Hp} {s : Shared} {T : String} {x : V} {v : Value} (I : Inv X pins σ H s) (r : RelV x v) (ty : tyV X.K T x H) :
  s.TypeIs v T ∧ ∀ a, v = .ref a → ∃ ob, s.heap.get? a = some ob ∧ ob.dict = none := by
 cases x with
 | str z =>
  obtain ⟨t, rfl⟩ := r
  cases (show T = "str" from ty)
  exact ⟨typeIs_str s z t, fun _ e => nomatch e⟩
 | int i =>
  obtain ⟨t, rfl⟩ := r
  cases (show T = "int" from ty)
  exact ⟨typeIs_int s i t, fun _ e => nomatch e⟩
 | ref p =>
  cases r
  rcases ty with ⟨rfl, xs, hq⟩ | ⟨rfl, o, hk, hc, hd⟩ | ⟨rfl, hk⟩ | ⟨rfl, S, n, hk⟩
  ·obtain ⟨its, _, pl, _⟩ := I.list hq
   refine ⟨pl.isList.typeIs, fun a e => ?_⟩
   cases e
   obtain ⟨o, n, e, c, hd, _⟩ := pl
   exact ⟨o, e, hd⟩
  ·refine ⟨⟨o, I.kIn p o hk, hc⟩, fun a e => ?_⟩
   cases e
   exact ⟨o, I.kIn _ o hk, hd⟩
  ·have z : ∃ o, s.heap.get? p = some o ∧ o.ExactDict := by
    rcases hk with ⟨kvs, hk⟩ | ⟨kvs, hk⟩
    ·obtain ⟨_, _, _, _, o, _, _, e, ex, _⟩ := I.hok p _ hk
     exact ⟨o, e, ex⟩
    ·obtain ⟨_, _, _, _, o, _, _, e, ex, _⟩ := I.hok p _ hk
     exact ⟨o, e, ex⟩
   obtain ⟨o, e, ex⟩ := z
   refine ⟨⟨o, e, ex.1⟩, fun a e2 => ?_⟩
   cases e2
   exact ⟨o, e, ex.2.1⟩
  ·obtain ⟨o, _, _, _, e, ex, _⟩ := I.hok p _ hk
   refine ⟨⟨o, e, ex.1⟩, fun a e2 => ?_⟩
   cases e2
   exact ⟨o, e, ex.2.1⟩
 | _ => exact False.elim ty
def tBM (K : Fg9) (T : String) (r : V → List V → Hp → VK → Prop) (to : TE) (t : TA) : TE := fun σ H Q => to σ H fun x H1 => tyV K T x H1 ∧ t σ H1 fun xs H2 => r x xs H2 Q
variable {o e : Expr} {es : List Expr} {to : TE} {t : TA} {name : Str} {apos cpos : Pos} {T id : String} {r : V → List V → Hp → VK → Prop}
theorem pe_bm (pa : PlainAttrs T) (slot : Slot T name id) (hty : typeOf (.builtin id) = pure (.type "method_descriptor")) (hm : MtR X id r) (ho : PE X o to) (ha : PA X (e :: es) t)
  (hbase : attributeBase o name X.env (eval o X.env) = eval o X.env := by rfl)
  (hfew : ((backTo cpos (starEach (e :: es) X.env)).all (fun x => !x.1) && (backToKw cpos (keywordEach [] X.env)).all (fun x => x.1.isSome)
   && decide ((e :: es).length + ([] : List Keyword).length + (if ([] : List Keyword).isEmpty then 0 else 1) < 30)) = true := by rfl)
  (hline : (apos.endLine == cpos.line) = true := by rfl) (hs : starEach (e :: es) X.env = (false, eval e X.env) :: starEach es X.env := by rfl) (hplain : (backTo cpos (starEach es X.env)).any (·.1) = false := by rfl) :
  PE X (.Call (.Attribute o name apos) (e :: es) [] cpos) (tBM X.K T r to t) := by
 intro pins s σ H Q I h
 refine wpAny_Call_method_late hbase hfew hline rfl (thn (ho pins s σ H _ I h) fun v s1 ⟨x, H1, I1, r1, ty, q1⟩ => ?_)
 obtain ⟨h1, h2⟩ := tyV_is I1 r1 ty
 refine ⟨T, id, pa, slot, hty, h1, h2, ?_⟩
 have hA := ha cpos pins s1 σ H1 _ I1 q1
 rw [hs] at hA ⊢
 refine Calls.callWith_builtin (by show (false || (backTo cpos (starEach es X.env)).any (·.1)) = false; rw [hplain] <;> rfl) (Calls.evalArgs_plain ?_)
 exact thn hA fun us s2 ⟨vs, H2, I2, r2, q2⟩ => hm pins s2 σ H2 x vs v us Q I2 r1 r2 q2
end
end L2
namespace L2
open PySem PySem.Spec PyProof.Rows
def MtM (X : Cx) (id : String) (r : V → List V → Hp → VK → Prop) : Prop :=
 ∀ (pins : List (Addr × Obj)) (s : Shared) (σ : St) (H : Hp) (x : V) (xs : List V) (v : Value) (us : List Value) (Q : VK), Inv X pins σ H s → RelV x v → Vals xs us → r x xs H Q → wpAny (model X.prog X.w) X.A (call (.builtin id) (v :: us)) (EP X pins σ Q) X.xe s
theorem Vals.one : ∀ {x : V} {us : List Value}, Vals [x] us → ∃ u, us = [u] ∧ RelV x u
 | _, _, .cons r .nil => ⟨_, rfl, r⟩
theorem Vals.eraseIdx : ∀ {xs : List V} {us : List Value} (i : Nat), Vals xs us → Vals (xs.eraseIdx i) (us.eraseIdx i)
 | _, _, _, .nil => .nil
 | _, _, 0, .cons _ t => t
 | _, _, i + 1, .cons r t => .cons r (Vals.eraseIdx i t)
theorem Vals.rep {xs : List V} {us : List Value} (h : Vals xs us) : ∀ k : Nat, Vals (List.replicate k xs).flatten (List.replicate k us).flatten
 | 0 => .nil
 | k + 1 => by
  rw [List.replicate_succ, List.replicate_succ, List.flatten_cons, List.flatten_cons]
  exact Vals.append h (Vals.rep h k)
theorem len_erase {α : Type} : ∀ (l : List α) (i : Nat), (l.eraseIdx i).length ≤ l.length
 | [], _ => Nat.le_refl _
 | _ :: _, 0 => Nat.le_succ _
 | _ :: r, i + 1 => Nat.succ_le_succ (len_erase r i)
theorem foldl_rep (its : List Value) : ∀ (k : Nat) (acc : List Value), List.foldl (fun x1 x2 => x1 ++ x2) acc.toArray (List.replicate k its.toArray) = (acc ++ (List.replicate k its).flatten).toArray
 | 0, acc => by simp
 | k + 1, acc => by
  have e : acc.toArray ++ its.toArray = (acc ++ its).toArray := by simp
  have e2 : (acc ++ its) ++ (List.replicate k its).flatten = acc ++ (List.replicate (k + 1) its).flatten := by
   rw [List.replicate_succ, List.flatten_cons, List.append_assoc]
  rw [← e2, ← foldl_rep its k (acc ++ its), ← e, List.replicate_succ, List.foldl_cons]
section
variable {X : Cx} {pins : List (Addr × Obj)} {σ : St} {H : Hp} {s : Shared} {l b : Addr} {xs ys zs : List V}
theorem Inv.lset {its its' : List Value} {n : Nat} {f : Array Value → Array Value} {t' : Nat} (I : Inv X pins σ H s) (hH : H l = some (.lst xs))
  (e : s.heap.get? l = some { cls := .type "list", data := .seq its.toArray n }) (hf : f its.toArray = its'.toArray) (hv : Vals ys its') (hz : ys.length ≤ sizeLine) :
  Inv X pins σ (upd H l (.lst ys)) { s with heap := s.heap.update l (Obj.mapSeq f), toks := t' } := by
 have q := PySem.IsL.update e f
 rw [hf] at q
 refine I.write (x := l) (e := l) (by rw [hH]; exact trivial) (.inl rfl) (fun b' u hb hu => (Heap.get?_update_other s.heap (Obj.mapSeq f) (Ne.symm hb)).trans hu) ⟨_, q⟩ ?_
 exact ⟨hz, its', _, hv, q⟩
theorem Inv.lnew {its : List Value} {t' : Nat} (I : Inv X pins σ H s) (hv : Vals ys its) (hz : ys.length ≤ sizeLine) :
  Inv X pins σ (upd H s.heap.objs.size (.lst ys)) { s with heap := s.heap.push { cls := .type "list", data := .seq its.toArray }, toks := t' } :=
 I.laid (fun _ _ q => Heap.get?_push_of_some _ q) (Nat.le_refl _) ⟨hz, its, 0, hv, Heap.get?_push_size _ rfl⟩
theorem Inv.fresh (I : Inv X pins σ H s) : H s.heap.objs.size = none := I.hok.fresh (Nat.le_refl _)
theorem Inv.lstM (I : Inv X pins σ H s) (hH : H l = some (.lst xs)) : xs.length ≤ sizeLine ∧ ∃ (its : List Value) (n : Nat), Vals xs its ∧ xs.length = its.length ∧ s.heap.get? l = some { cls := .type "list", data := .seq its.toArray n } := by
 obtain ⟨z, its, n, r, e⟩ := I.hok l _ hH
 exact ⟨z, its, n, r, r.length, e⟩
theorem notLongL {n : Nat} (h : n ≤ sizeLine) : Builtin.List.listTooLong n = false := by
 unfold Builtin.List.listTooLong
 exact decide_eq_false (by omega)
end
section
variable {X : Cx}
def rAppend : V → List V → Hp → VK → Prop := fun x vs H Q => ∃ l xs y, x = .ref l ∧ vs = [y] ∧ H l = some (.lst xs) ∧ xs.length < sizeLine ∧ Q .non (upd H l (.lst (xs ++ [y])))
theorem kx : MtM X "list.append" rAppend := by
 intro pins s σ H x vs v us Q I rx rv h
 obtain ⟨l, xs, y, rfl, rfl, hH, hz, q⟩ := h
 cases rx
 obtain ⟨u, rfl, ru⟩ := rv.one
 obtain ⟨z, its, n, r, hl, e⟩ := I.lstM hH
 refine call_meets F.slot_list_append ⟨_, e, rfl⟩ F.entry_list_append (F.args_list_append_2 _ _) (PySem.list_append l its.toArray n u (by rw [List.size_toArray]; omega)) ⟨e, ?_⟩
 refine ⟨.non, _, I.lset (its' := its ++ [u]) hH e (by simp) (r.append (.cons ru .nil)) ?_, rfl, q⟩
 rw [List.length_append, List.length_singleton]
 omega
def rExtend : V → List V → Hp → VK → Prop := fun x vs H Q => ∃ l b xs zs, x = .ref l ∧ vs = [.ref b] ∧ H l = some (.lst xs) ∧ H b = some (.lst zs) ∧ xs.length + zs.length ≤ sizeLine ∧ Q .non (upd H l (.lst (xs ++ zs)))
theorem mt_extend : MtM X "list.extend" rExtend := by
 intro pins s σ H x vs v us Q I rx rv h
 obtain ⟨l, b, xs, zs, rfl, rfl, hH, hB, hz, q⟩ := h
 cases rx
 obtain ⟨u, rfl, ru⟩ := rv.one
 cases ru
 obtain ⟨z, its, n, r, hl, e⟩ := I.lstM hH
 obtain ⟨z2, its2, n2, r2, hl2, e2⟩ := I.lstM hB
 have hsz : its.toArray.size + its2.toArray.size ≤ sizeLine := by rw [List.size_toArray, List.size_toArray]; omega
 have hlong : ¬ (!its.toArray.isEmpty && Builtin.List.listTooLong (its.toArray.size + its2.toArray.size)) = true := by
  rw [notLongL hsz, Bool.and_false]
  exact Bool.false_ne_true
 refine call_meets F.slot_list_extend ⟨_, e, rfl⟩ F.entry_list_extend (F.args_list_extend_2 _ _)
  (AutoSeq1.list_extend_list_list_0 l its.toArray n b its2.toArray n2 hlong (by rw [List.size_toArray]; omega) (by omega)) ⟨e, e2, ?_⟩
 refine ⟨.non, _, I.lset (its' := its ++ its2) hH e (by simp) (r.append r2) ?_, rfl, q⟩
 rw [List.length_append]
 omega
def rPopAt : V → List V → Hp → VK → Prop := fun x vs H Q => ∃ l xs i k y, x = .ref l ∧ vs = [.int i] ∧ H l = some (.lst xs) ∧ -(2 ^ 63) ≤ i ∧ i < 2 ^ 63 ∧ seqIndex? i xs.length = some k ∧ xs[k]? = some y ∧ Q y (upd H l (.lst (xs.eraseIdx k)))
theorem mt_popAt : MtM X "list.pop" rPopAt := by
 intro pins s σ H x vs v us Q I rx rv h
 obtain ⟨l, xs, i, k, y, rfl, rfl, hH, h1, h2, hk, hy, q⟩ := h
 cases rx
 obtain ⟨u, rfl, ru⟩ := rv.one
 obtain ⟨t, rfl⟩ := ru
 obtain ⟨z, its, n, r, hl, e⟩ := I.lstM hH
 obtain ⟨w, hw, rw'⟩ := r.get hy
 refine call_meets F.slot_list_pop ⟨_, e, rfl⟩ F.entry_list_pop (F.args_list_pop_2 _ _)
  (MeetsSeq.list_pop_at l its.toArray n i t k w (fitsIndex_both h1 h2) (by rw [List.size_toArray, ← hl]; exact hk) (by rw [← Array.getElem?_toList]; exact hw) (by rw [List.size_toArray]; omega)) ⟨e, ?_⟩
 refine ⟨y, _, I.lset (its' := its.eraseIdx k) hH e ?_ (r.eraseIdx k) ?_, rw', q⟩
 ·show its.toArray.eraseIdxIfInBounds k = (its.eraseIdx k).toArray
  rw [List.eraseIdxIfInBounds_toArray]
 ·have := len_erase xs k
  omega
def rCat : R2 := fun x y H Q => ∃ l b xs zs, x = .ref l ∧ y = .ref b ∧ H l = some (.lst xs) ∧ H b = some (.lst zs) ∧ xs.length + zs.length ≤ sizeLine ∧ ∀ p, H p = none → Q (.ref p) (upd H p (.lst (xs ++ zs)))
theorem Y4 : OpR X (binaryOp .Add) rCat := by
 intro pins s σ H x y v u Q I rx ry h
 obtain ⟨l, b, xs, zs, rfl, rfl, hH, hB, hz, q⟩ := h
 cases rx
 cases ry
 obtain ⟨z, its, n, r, hl, e⟩ := I.lstM hH
 obtain ⟨z2, its2, n2, r2, hl2, e2⟩ := I.lstM hB
 refine PySem.P.add_list e e2 ?_ (by rw [List.size_toArray, List.size_toArray]; omega)
 have ea : its.toArray ++ its2.toArray = (its ++ its2).toArray := by simp
 rw [ea]
 exact ⟨.ref _, _, I.lnew (t' := s.toks) (r.append r2) (by rw [List.length_append]; omega), rfl, q _ I.fresh⟩
def rRep : R2 := fun x y H Q => ∃ l k xs, x = .ref l ∧ y = .int k ∧ H l = some (.lst xs) ∧ -(2 ^ 63) ≤ k ∧ k < 2 ^ 63 ∧ xs.length * k.toNat ≤ sizeLine ∧ ∀ p, H p = none → Q (.ref p) (upd H p (.lst (List.replicate k.toNat xs).flatten))
theorem len_rep {α : Type} (xs : List α) (k : Nat) : (List.replicate k xs).flatten.length = k * xs.length := by
 induction k with
 | zero => simp
 | succ k ih => rw [List.replicate_succ, List.flatten_cons, List.length_append, ih, Nat.succ_mul, Nat.add_comm]
theorem op_rep : OpR X (binaryOp .Mult) rRep := by
 intro pins s σ H x y v u Q I rx ry h
 obtain ⟨l, k, xs, rfl, rfl, hH, h1, h2, hz, q⟩ := h
 cases rx
 obtain ⟨t, rfl⟩ := ry
 obtain ⟨z, its, n, r, hl, e⟩ := I.lstM hH
 have hlen : its.toArray.size * k.toNat ≤ sizeLine := by rw [List.size_toArray, ← hl]; exact hz
 have hcap : ¬ its.toArray.size * k.toNat > (2 ^ 63 - 1) / 8 := by
  have : (sizeLine : Nat) ≤ (2 ^ 63 - 1) / 8 := by decide
  omega
 have hfit : ¬ (!Builtin.List.listFitsIndex k) = true := by
  rw [fitsIndex_both h1 h2]
  exact Bool.false_ne_true
 have hlong : ¬ Builtin.List.listTooLong (its.toArray.size * k.toNat) = true := by
  rw [notLongL hlen]
  exact Bool.false_ne_true
 have hnew : List.foldl (fun x1 x2 => x1 ++ x2) #[] (List.replicate (if its.toArray.isEmpty = true then 0 else k.toNat) its.toArray) = (List.replicate k.toNat its).flatten.toArray := by
  have f0 : ∀ m : Nat, List.foldl (fun x1 x2 => x1 ++ x2) #[] (List.replicate m its.toArray) = (List.replicate m its).flatten.toArray := fun m => by
   have := foldl_rep its m []
   rw [List.nil_append] at this
   exact this
  rw [f0]
  cases its with
  | nil => simp
  | cons a r' => rw [if_neg (by simp)]
 refine wpAny_binaryOp_repeat_ref (T := "list") (U := "int") (by decide) ⟨_, e, rfl⟩ (fun s' => typeIs_int s' k t) noFill_list_mul F.fills_int_mul F.slot_int_rmul repeat_list F.slot_int_index.lookup
  (call_meets F.slot_int_rmul (typeIs_int s k t) F.entry_int_rmul (F.args_int_rmul_2 _ _) (int___rmul___int_list k t l its.toArray n)
   ⟨e, rfl, ⟨_, e, rfl⟩, call_meets F.slot_list_mul ⟨_, e, rfl⟩ F.entry_list_mul (F.args_list_mul_2 _ _) (AutoListH.list___mul___list_int_3 l its.toArray n k t hfit hcap hlong) ⟨e, ?_⟩⟩)
 rw [hnew]
 exact ⟨.ref _, _, I.lnew (t' := s.toks) (r.rep k.toNat) (by rw [len_rep, Nat.mul_comm]; exact hz), rfl, q _ I.fresh⟩
end
section
variable {prog : Program} {w : World} {A : Around} {E : Value → Shared → Prop} {s : Shared}
end
section
variable {X : Cx}
end
end L2
namespace Att
open PySem PySem.W PySem.Calls PyProof.Rows
theorem ints_of_wellAll {P : Params} {h : Heap} : ∀ (ns : List Int) (vs : List Value), WellAll P h vs (ns.map WData.int) → IntsAre vs ns := by
 intro ns
 induction ns with
 | nil =>
  intro vs w
  rw [List.map_nil] at w
  cases w
  exact .nil
 | cons n ns ih =>
  intro vs w
  rw [List.map_cons] at w
  cases w with
  | cons a b =>
   cases a
   exact .cons _ _ (ih _ b)
theorem script_of {l : OpenLaw} {n : Nat} (hn : l.most = some n) {P : Params} {h : Heap} {args : List WData} {vals : List Value}
  (hpre : l.row.toRowW.claim.pre args = true) (hwl : WellAll P h vals args) :
  ∃ a vs ns, vals = [Value.ref a] ∧ args = [WData.list (ns.map WData.int)] ∧ h.get? a = some { cls := .type "list", data := .seq vs.toArray } ∧ IntsAre vs ns ∧ ns.length ≤ n := by
 have hsh : WShape.hasAll [] args [.list .int] = true := (pre_splitW hpre).1
 have hc : l.pre.holds [] { args := args } = true := (pre_splitW hpre).2
 obtain ⟨d, r, rfl, h1, h2⟩ := hasAllW_cons hsh
 obtain rfl := hasAllW_nil h2
 obtain ⟨xs, rfl, h3⟩ := hasW_list h1
 obtain ⟨ns, rfl⟩ := items_int h3
 have hlen : ns.length ≤ n := by
  unfold OpenLaw.pre at hc
  have h4 : (WTm.not (.lt (.lit (.int (n : Int))) (.len (.arg 0)))).holds [] { args := [.list (ns.map .int)] } = true := by
   have h4 := (holds_andW hc).1
   rw [hn] at h4
   exact h4
  have h5 := condW_of h4 (w_not (w_lt w_lit (w_len_list (w_arg rfl))))
  rw [List.length_map] at h5
  refine Nat.le_of_not_lt fun q => ?_
  have q' : (n : Int) < ((ns.length : Nat) : Int) := by omega
  first
   | (rw [decide_eq_true q'] at h5; exact absurd h5 (by decide))
   | (simp at h5; omega)
 cases hwl with
 | cons w1 w2 =>
  cases w2
  cases w1 with
  | list ho hall => exact ⟨_, _, ns, rfl, rfl, ho, ints_of_wellAll ns _ hall, hlen⟩
theorem post_true (l : OpenLaw) (args : List WData) : l.row.toRowW.claim.post args (.bool true) args = true :=
 postW_of (r := l.row.toRowW) (X := (true == true))
  (show WShape.has [] (.bool true) .bool = true by first | rfl | decide | simp [WShape.has, WShape.arms, WShape.armsAll])
  (show (WTm.eq .res (.lit (.bool true))).value [] { args := args, res := some (.bool true), after := args } = some (.bool (true == true)) from w_eq_bool (w_res rfl) w_lit) rfl
theorem attach_call {l : OpenLaw} {n : Nat} {q : Program} {loose : List Str} {XP : (Str → Option Value) → Heap → Prop} {YP : World → Heap → Prop} {d : DefRec}
  (hn : l.most = some n) (hdf : d.params.defaults = [])
  (call : ∀ (w : World) (s₀ s₁ : Shared) (mg mb : Str → Option Value) (fa : Addr) (o : Obj) (pm cd doc : Value) (a : Addr) (vs : List Value) (ns : List Int), Ground q loose [] XP w s₀ mg mb s₁.heap → YP w s₁.heap → s₁.heap.get? fa = some o → o.data = .func (docDef d.name d.params d.body d.scope pm cd doc) → s₁.heap.CodeRec cd d.name → mg d.name = some (.ref fa) → s₁.heap.get? a = some { cls := .type "list", data := .seq vs.toArray } → IntsAre vs ns → ns.length ≤ n → s₁.gens = #[] → codeAny (model l.prog w) callerA (.call (.ref fa) ⟨[.ref a], []⟩) (fun r s' => r = .ok (.ret (.bool true)) ∧ OldK s₁.heap s'.heap ∧ s'.os = s₁.os ∧ AllBare s'.gens) s₁) :
  WalkO q loose XP YP l.row.toRowW d [] (fun f vs => PySem.call f vs) := by
 intro w s₀ s₁ mg mb G Y fa o pm cd doc dV kV ho hd hcd hD hmg hg args vals as hpre hlay hrd hwl hlo
 obtain rfl : dV = .none := Dflts.none hD hdf
 obtain rfl : kV = .none := Dflts.noKw hD
 obtain ⟨a, vs, ns, rfl, rfl, hobj, hints, hlen⟩ := script_of hn hpre hwl
 refine enter_call (codeAny_mono (call w s₀ s₁ mg mb fa o pm cd doc a vs ns G Y ho (fd_plain hd) hcd hmg hobj hints hlen hg) fun r s' hq => ?_)
 obtain ⟨rfl, h2, h3, h4⟩ := hq
 exact ⟨.inl ⟨.bool true, .bool true, [], rfl, fun _ => rfl, .bool true, post_true l _, fun _ => ⟨List.Pairwise.nil, fun _ hm => (nomatch hm)⟩⟩, h2, h3, h4⟩
section
variable {prog : Program} {w : World} {A : Around} {E : Value → Shared → Prop} {s : Shared} {K : Frag}
def ledger (h : Heap) (L d : Addr) : List (Addr × Obj) := (List.range h.objs.size).filterMap fun a => if a = L ∨ a = d then none else (h.get? a).map fun o => (a, o)
end
end Att
namespace L2
open PySem PySem.Spec PyProof.Rows
theorem vals_ints : ∀ {vs : List Value} {ns : List Int}, IntsAre vs ns → Vals (ns.map V.int) vs
 | _, _, .nil => .nil
 | _, _, .cons n t h => .cons ⟨t, rfl⟩ (vals_ints h)
def Only (H : Hp) : Prop := ∀ b, H b = none ∨ ∃ o xs, H b = some (.frz o (.lst xs))
theorem law_call {P : Program} {w : World} {K : Fg9} {mg mb : Str → Option Value} {CX : CXT} {k : Nat} {fa a : Addr} {fd : FuncData} {x : Str} {sp : Sp} {s₁ : Shared} {vs : List Value} {ns : List Int}
  (KX : K.In s₁.heap) (hns : s₁.heap.Ns mainGlobals mg) (hb : s₁.heap.Ns builtinsNs mb) (hbb : ∀ x : Str, x ≠ "__name__" → mb x = bootBuiltins x) (hlim : s₁.heap.NoLimit) (hg : s₁.gens = #[])
  (ha : s₁.heap.get? a = some { cls := .type "list", data := .seq vs.toArray }) (hi : IntsAre vs ns) (hl : ns.length ≤ sizeLine) (hr : Room k callerA)
  (F : ∀ base : Heap, K.In base → base.Ns mainGlobals mg → FnOk P w K mg base CX k fa fd [x] sp) (hbind : ∀ (s : Shared) (u : Value), BindsTo s fd ⟨[u], []⟩ [(x, u)])
  (hsp : ∀ H : Hp, Only H → SqL K H a (ns.map V.int) → sp [.ref a] H (fun v _ => v = .bl true) fun _ _ _ => False)
  (hCX : ∀ H e s', CX [] H s₁ (fun _ _ _ => False) e s' → False) :
  codeAny (model P w) callerA (.call (.ref fa) ⟨[.ref a], []⟩) (fun r s' => r = .ok (.ret (.bool true)) ∧ OldK s₁.heap s'.heap ∧ s'.os = s₁.os ∧ AllBare s'.gens) s₁ := by
 have rv := vals_ints hi
 have lenV := hi.length
 have core : ∀ H : Hp, Only H → SqL K H a (ns.map V.int) → HOk P w H s₁.heap → (∀ b, H b ≠ none → b = a) → (H a ≠ none → K.lookup a = none) → codeAny (model P w) callerA (.call (.ref fa) ⟨[.ref a], []⟩) (fun r s' => r = .ok (.ret (.bool true)) ∧ OldK s₁.heap s'.heap ∧ s'.os = s₁.os ∧ AllBare s'.gens) s₁ := by
  intro H hO hS hok hA hK
  have base_of : ∀ {b : Addr} {o : Obj}, s₁.heap.get? b = some o → H b = none → (hidT s₁.heap H).get? b = some o := fun e n => hidT_get e n
  have noA : ∀ {b : Addr} {o : Obj} {es : Array DictEntry} {ep : Nat}, s₁.heap.get? b = some o → o.data = .dict es ep → H b = none := fun {b o es ep} e d => by
   cases q : H b with
   | none => rfl
   | some u =>
    have e' : b = a := hA b (by rw [q]; simp)
    subst e'
    rw [ha] at e; cases e
    have d' : Data.seq vs.toArray _ = Data.dict es ep := d
    cases d'
  have nsK : ∀ {b : Addr} {m : Str → Option Value}, s₁.heap.Ns b m → (hidT s₁.heap H).Ns b m := fun {b m} ⟨o, es, ep, e, d, r⟩ => ⟨o, es, ep, base_of e (noA e d), d, r⟩
  have hKb : K.In (hidT s₁.heap H) := fun b o e => base_of (KX b o e) (by
   cases q : H b with
   | none => rfl
   | some u =>
    have e' : b = a := hA b (by rw [q]; simp)
    subst e'
    rw [hK (by rw [q]; simp)] at e; cases e)
  have hM : Mod K mg (hidT s₁.heap H) := ⟨hKb, nsK hns, ⟨mb, nsK hb, hbb⟩, let ⟨mc, h1, h2⟩ := hlim; ⟨mc, nsK h1, h2⟩⟩
  have e0 : Env0 P w K mg (hidT s₁.heap H) callerA [] s₁ H := ⟨rfl, hM, fun b o e => of_hidT e, Nat.le_of_eq (hidT_size _ _), trivial, fun b hb => absurd (show b ∈ ([] : List Addr) from hb) (by simp), hok, .of_eq hg⟩
  refine codeAny_mono ((F _ hKb (nsK hns)).run callerA [] s₁ H ⟨[.ref a], []⟩ [.ref a] [.ref a] _ _ hr e0 (hbind s₁ (.ref a)) (.cons rfl .nil) (hsp H hO hS)) fun r s' h => ?_
  cases r with
  | error e => exact (hCX H e s' h).elim
  | ok fl =>
   cases fl with
   | next => exact False.elim h
   | brk => exact False.elim h
   | cont => exact False.elim h
   | ret u =>
    obtain ⟨v, H', os, bare, un, hok', r', q⟩ := h
    have q' : v = .bl true := q
    subst q'
    obtain rfl : u = Value.bool true := r'
    refine ⟨rfl, OldK.of_keep fun b o e => ?_, os, bare⟩
    cases q : H b with
    | none => exact un.keep b o e q (by intro z; exact absurd (show b ∈ ([] : List Addr) from z) (by simp)) (by simp)
    | some u =>
     rcases hO b with z | ⟨ob, xs, z⟩
     ·rw [q] at z; cases z
     ·have z2 := un.frzs b ob _ z
      obtain ⟨e1, _⟩ := hok b _ z
      obtain ⟨e2, _⟩ := hok' b _ z2
      rw [e] at e1; cases e1
      exact e2
 cases hk : K.lookup a with
 | some o =>
  have e := KX a o hk
  rw [ha] at e
  cases e
  refine core (fun _ => none) (fun _ => .inl rfl) (.inr ⟨_, vs.toArray, _, hk, rfl, rfl, rfl, by rw [List.size_toArray, lenV]; exact hl, by simpa using rv⟩) (fun b u z => by have z' : (none : Option HO) = some u := z; cases z') (fun b z => absurd rfl z) fun z => absurd rfl z
 | none =>
  refine core (fun b => if b = a then some (.frz { cls := .type "list", data := .seq vs.toArray } (.lst (ns.map V.int))) else none) (fun b => ?_) (.inl (.inr ⟨{ cls := .type "list", data := .seq vs.toArray }, if_pos rfl⟩)) (fun b u z => ?_) (fun b z => ?_) fun _ => hk
  ·by_cases hb : b = a
   ·exact .inr ⟨_, _, if_pos hb⟩
   ·exact .inl (if_neg hb)
  ·by_cases hb : b = a
   ·have z' := (if_pos hb).symm.trans z
    cases z'
    subst hb
    exact ⟨ha, by rw [List.length_map]; exact hl, vs, _, rv, ha⟩
   ·have z' := (if_neg hb).symm.trans z
    cases z'
  ·by_cases hb : b = a
   ·exact hb
   ·exact absurd (if_neg hb) z
end L2
namespace L2
open PySem PySem.Spec PyProof.Rows
abbrev KOf {K : Fg9} {h : Heap} (_ : K.In h) : Fg9 := K
theorem walk_of {l : PySem.W.OpenLaw} {n k : Nat} {q : Program} {loose : List Str} {XP : (Str → Option Value) → Heap → Prop} {YP : World → Heap → Prop} {d : DefRec} {K : Params → Fg9} {CX : World → CXT} {sp : World → Sp} {x : Str}
  (hn : l.most = some n) (hn2 : n ≤ sizeLine) (hdf : d.params.defaults = []) (hr : Room k callerA)
  (hY : ∀ (w : World) (h : Heap), YP w h → (K w.params).In h)
  (F : ∀ (w : World) (mg : Str → Option Value) (fa : Addr) (h : Heap), (K w.params).In h → h.Ns mainGlobals mg → mg d.name = some (.ref fa) → ∃ fd : FuncData, (∀ (s : Shared) (u : Value), BindsTo s fd ⟨[u], []⟩ [(x, u)]) ∧ ∀ base : Heap, (K w.params).In base → base.Ns mainGlobals mg → FnOk l.prog w (K w.params) mg base (CX w) k fa fd [x] (sp w))
  (hsp : ∀ (w : World) (H : Hp) (a : Addr) (ns : List Int), ns.length ≤ n → Only H → SqL (K w.params) H a (ns.map V.int) → sp w [.ref a] H (fun v _ => v = .bl true) fun _ _ _ => False)
  (hCX : ∀ (w : World) (H : Hp) (s : Shared) (e : Value) (s' : Shared), CX w [] H s (fun _ _ _ => False) e s' → False) :
  PySem.W.WalkO q loose XP YP l.row.toRowW d [] (fun f vs => PySem.call f vs) := by
 refine Att.attach_call hn hdf fun w s₀ s₁ mg mb fa o pm cd doc a vs ns G Y ho hd hcd hmg hobj hints hlen hg => ?_
 have KX := hY w _ Y
 obtain ⟨fd, hb, hF⟩ := F w mg fa _ KX G.T.g hmg
 exact law_call KX G.T.g G.T.b G.T.builtins G.T.nolimit hg hobj hints (Nat.le_trans hlen hn2) hr hF hb (fun H hO hS => hsp w H a ns hlen hO hS) fun H e s' => hCX w H s₁ e s'
end L2
namespace L2
open PySem PySem.Spec PyProof.Rows
abbrev CX0 : CXT := fun _ _ _ _ _ _ => False
abbrev E0 : XK := fun _ _ _ => False
theorem pass0 {X : Cx} : Passes CX0 X E0 := fun _ _ _ _ _ _ _ h => h.elim
structure Fun (K : Fg9) (x qual : Str) (st : Stmt) (f : Addr) (fd : FuncData) : Prop where
 ex : ∃ (oc : Value) (od : Option Addr) (kV doc pm : Value) (an : Option Addr) (cdv ct : Value) (osl : Array (Option Value)), fd = PySem.W.fnOf x qual (zv st) (qJ st) (qQ st) .none kV doc pm an cdv ct ∧ K.lookup f = some ⟨oc, od, .func fd, osl⟩ ∧ PySem.W.codeIn K cdv qual = true
 kp : PySem.W.keepIn K (.ref f) = true
section
variable {P : Program} {w : World} {K : Fg9} {mg : Str → Option Value} {base : Heap}
theorem Fun.ok {x qual : Str} {st : Stmt} {f : Addr} {fd : FuncData} {N ps : List Str} {k : Nat} {sp : Sp} (F : Fun K x qual st f fd) (S : FnScope N ps (qQ st)) (len : ∀ vs H Q E, sp vs H Q E → vs.length = ps.length)
  (hbody : ∀ (cdv : Value) (A : Around) (outer : List Env) (s : Shared) (H : Hp) (vs : List V) (Q : VK) (E : XK), Room k (A.deeper (envOfC qual (qQ st) s.heap.objs.size f cdv)) → sp vs H Q E → ∃ t, PSs (cxOf CX0 P w K mg base N qual (qQ st) f cdv A outer s H E).nox (qJ st) t ∧ t { nx := fun _ H' => Q .non H', rt := Q } (start N vs) H) : FnOk P w K mg base CX0 (k + 1) f fd ps sp := by
 obtain ⟨oc, od, kV, doc, pm, an, cdv, ct, osl, rfl, lk, hcd⟩ := F.ex
 refine fn_of lk hcd S len fun A outer s H vs Q E hr hsp => ?_
 obtain ⟨t, h, q⟩ := hbody cdv A outer s H vs Q E hr hsp
 exact ⟨t, h.nox, q⟩
theorem Fun.binds {x qual : Str} {st : Stmt} {f : Addr} {fd : FuncData} {ps : List Str} (F : Fun K x qual st f fd)
  (h : ∀ (kV doc pm : Value) (an : Option Addr) (cdv ct : Value) (us : List Value), us.length = ps.length → bindArgs (PySem.W.fnOf x qual (zv st) (qJ st) (qQ st) .none kV doc pm an cdv ct) ⟨us, []⟩ = pure (ps.zip us)) : Binds K fd ps [] := by
 obtain ⟨oc, od, kV, doc, pm, an, cdv, ct, osl, rfl, lk, hcd⟩ := F.ex
 exact .all (h kV doc pm an cdv ct)
theorem zV {x qual : Str} {st : Stmt} {f : Addr} {oc : Value} {od an : Option Addr} {osl : Array (Option Value)} {kV doc pm cdv ct : Value} (l : K.lookup f = some ⟨oc, od, .func (PySem.W.fnOf x qual (zv st) (qJ st) (qQ st) .none kV doc pm an cdv ct), osl⟩)
  (c : PySem.W.codeIn K cdv qual = true) (k : PySem.W.keepIn K (.ref f) = true) : Fun K x qual st f (PySem.W.fnOf x qual (zv st) (qJ st) (qQ st) .none kV doc pm an cdv ct) := ⟨⟨oc, od, kV, doc, pm, an, cdv, ct, osl, rfl, l, c⟩, k⟩
end
theorem hu_of {A : Around} {k : Nat} (hr : Room k A) : A.units + 1 < cLine := Nat.lt_of_le_of_lt (Nat.add_le_add_left (by decide : 1 ≤ 64) _) hr.units
theorem zj {n : Nat} (h : n ≤ 1000) : n < sizeLine := Nat.lt_of_le_of_lt h (by decide)
section
variable {X : Cx}
theorem pv (i : Nat) {x : Str} {pos : Pos} (hN : X.N[i]? = some x := by rfl) (hv : Vis X.env.scope x := by first | exact Or.inl rfl | exact Or.inr (Or.inl rfl) | exact Or.inr (Or.inr rfl)) (hd : (x == ("__debug__" : Str)) = false := by decide)
  (hcd : (x == ("__classdict__" : Str)) = false := by decide) : PE X (.Name x pos) (tVar i) := pe_var hN hv hd hcd
end
theorem iteF {A B : Prop} (h : B) : if false = true then A else B := by
 rw [if_neg Bool.false_ne_true]
 exact h
theorem iteT {A B : Prop} (h : A) : if true = true then A else B := by
 rw [if_pos rfl]
 exact h
theorem iteNS {c A B : Prop} [Decidable c] (hc : c) (h : B) : if (!decide c) = true then A else B := by
 rw [decide_eq_true hc]
 exact iteF h
def Same (H H' : Hp) : Prop := ∀ b o, H b = some o → H' b = some o
theorem Same.refl (H : Hp) : Same H H := fun _ _ h => h
theorem Same.trans {H H1 H2 : Hp} (a : Same H H1) (b : Same H1 H2) : Same H H2 := fun c o h => b c o (a c o h)
theorem Same.seq {K : Fg9} {H H' : Hp} {a : Addr} {xs : List V} (e : Same H H') (h : SqL K H a xs) : SqL K H' a xs := by
 rcases h with (h | ⟨o, h⟩) | h
 ·exact .inl (.inl (e _ _ h))
 ·exact .inl (.inr ⟨o, e _ _ h⟩)
 ·exact .inr h
end L2
namespace BP
def Sm (n : Nat) (x : Int) : Prop := x.natAbs < 2 ^ n
theorem Sm.mono {m n : Nat} {x : Int} (h : Sm m x) (l : m ≤ n) : Sm n x := Nat.lt_of_lt_of_le h (Nat.pow_le_pow_right (by decide) l)
theorem Sm.mul {m n : Nat} {x y : Int} (hx : Sm m x) (hy : Sm n y) : Sm (m + n) (x * y) := by
 unfold Sm at *
 rw [Int.natAbs_mul, Nat.pow_add]
 exact Nat.mul_lt_mul'' hx hy
theorem Sm.neg {n : Nat} {x : Int} (hx : Sm n x) : Sm n (-x) := by
 unfold Sm at *
 rw [Int.natAbs_neg]; exact hx
theorem Sm.le {n : Nat} {x y : Int} (h : Sm n y) (l : x.natAbs ≤ y.natAbs) : Sm n x := Nat.lt_of_le_of_lt l h
theorem Sm.log2 {n : Nat} {x : Int} (h : Sm n x) (hn : 0 < n) : x.natAbs.log2 < n := by
 by_cases h0 : x.natAbs = 0
 ·rw [h0]; simpa using hn
 ·exact (Nat.log2_lt h0).mpr h
structure IsR (x y : Int) : Prop where
 pos : 0 < y
 low : Int.gcd x y = 1
def sg (t b : Int) : Int := if b < 0 then -(Int.gcd t b : Int) else (Int.gcd t b : Int)
theorem gcd_pos {t b : Int} (hb : b ≠ 0) : 0 < Int.gcd t b := Nat.pos_of_ne_zero fun h => hb (Int.gcd_eq_zero_iff.mp h).2
theorem sg_ne {t b : Int} (hb : b ≠ 0) : sg t b ≠ 0 := by
 have := gcd_pos (t := t) hb
 unfold sg; split <;> omega
theorem sg_dvd_left (t b : Int) : sg t b ∣ t := by
 unfold sg; split
 ·exact Int.neg_dvd.mpr (Int.gcd_dvd_left t b)
 ·exact Int.gcd_dvd_left t b
theorem sg_dvd_right (t b : Int) : sg t b ∣ b := by
 unfold sg; split
 ·exact Int.neg_dvd.mpr (Int.gcd_dvd_right t b)
 ·exact Int.gcd_dvd_right t b
def nt (t b : Int) : Int := t.fdiv (sg t b)
def nb (t b : Int) : Int := b.fdiv (sg t b)
theorem sg_nt (t b : Int) : sg t b * nt t b = t := Int.mul_fdiv_cancel' (sg_dvd_left t b)
theorem sg_nb (t b : Int) : sg t b * nb t b = b := Int.mul_fdiv_cancel' (sg_dvd_right t b)
theorem sg_abs (t b : Int) : (sg t b).natAbs = Int.gcd t b := by
 unfold sg; split <;> omega
theorem nb_pos {t b : Int} (hb : b ≠ 0) : 0 < nb t b := by
 have e := sg_nb t b
 have g := gcd_pos (t := t) hb
 by_cases h : b < 0
 ·have hs : sg t b < 0 := by unfold sg; rw [if_pos h]; omega
  rcases Int.lt_trichotomy (nb t b) 0 with z | z | z
  ·have := Int.mul_pos_of_neg_of_neg hs z; omega
  ·rw [z] at e; omega
  ·exact z
 ·have hs : 0 < sg t b := by unfold sg; rw [if_neg h]; omega
  rcases Int.lt_trichotomy (nb t b) 0 with z | z | z
  ·have := Int.mul_neg_of_pos_of_neg hs z; omega
  ·rw [z] at e; omega
  ·exact z
theorem n_low {t b : Int} (hb : b ≠ 0) : Int.gcd (nt t b) (nb t b) = 1 := by
 have g := gcd_pos (t := t) hb
 have h := Int.gcd_mul_left (sg t b) (nt t b) (nb t b)
 rw [sg_nt, sg_nb, sg_abs] at h
 exact (Nat.eq_of_mul_eq_mul_left g (by rw [Nat.mul_one]; exact h)).symm
theorem n_isR {t b : Int} (hb : b ≠ 0) : IsR (nt t b) (nb t b) := ⟨nb_pos hb, n_low hb⟩
theorem n_cross (t b : Int) : nt t b * b = t * nb t b := by
 have h1 := sg_nt t b
 have h2 := sg_nb t b
 calc nt t b * b = nt t b * (sg t b * nb t b) := by rw [h2]
  _ = (sg t b * nt t b) * nb t b := by ac_rfl
  _ = t * nb t b := by rw [h1]
theorem isR_unique {x y u v : Int} (a : IsR x y) (b : IsR u v) (h : x * v = u * y) : x = u ∧ y = v := by
 have hy := a.pos
 have hv := b.pos
 have ca : Nat.Coprime y.natAbs x.natAbs := by
  have := a.low
  rw [Int.gcd_comm] at this
  exact this
 have cb : Nat.Coprime v.natAbs u.natAbs := by
  have := b.low
  rw [Int.gcd_comm] at this
  exact this
 have hn : x.natAbs * v.natAbs = u.natAbs * y.natAbs := by rw [← Int.natAbs_mul, ← Int.natAbs_mul, h]
 have d1 : y.natAbs ∣ v.natAbs := ca.dvd_of_dvd_mul_left ⟨u.natAbs, by rw [hn, Nat.mul_comm]⟩
 have d2 : v.natAbs ∣ y.natAbs := cb.dvd_of_dvd_mul_left ⟨x.natAbs, by rw [← hn, Nat.mul_comm]⟩
 have e : y.natAbs = v.natAbs := Nat.dvd_antisymm d1 d2
 have ey : y = v := by omega
 subst ey
 exact ⟨Int.eq_of_mul_eq_mul_right (by omega) h, rfl⟩
theorem nt_le (t b : Int) (hb : b ≠ 0) : (nt t b).natAbs ≤ t.natAbs := by
 have h := congrArg Int.natAbs (sg_nt t b)
 rw [Int.natAbs_mul, sg_abs] at h
 have g := gcd_pos (t := t) hb
 rw [← h]
 exact Nat.le_mul_of_pos_left _ g
theorem nb_le (t b : Int) (hb : b ≠ 0) : (nb t b).natAbs ≤ b.natAbs := by
 have h := congrArg Int.natAbs (sg_nb t b)
 rw [Int.natAbs_mul, sg_abs] at h
 have g := gcd_pos (t := t) hb
 exact Nat.le_trans (Nat.le_mul_of_pos_left _ g) (Nat.le_of_eq h)
theorem gcd_step {a b : Int} : Int.gcd b (a % b) = Int.gcd a b := by
 have h : a % b = a + b * (-(a / b)) := by
  have := Int.emod_add_mul_ediv a b
  rw [Int.mul_neg]
  omega
 rw [h, Int.gcd_add_mul_left_right, Int.gcd_comm]
theorem gcd_end {a : Int} (h : 0 ≤ a) : ((Int.gcd a 0 : Nat) : Int) = a := by
 rw [Int.gcd_zero_right]; omega
theorem abs_gcd (t b : Int) : Int.gcd (if t < 0 then -t else t) (if b < 0 then -b else b) = Int.gcd t b := by
 split <;> split <;> simp [Int.gcd_neg, Int.neg_gcd]
theorem abs_nn (t : Int) : 0 ≤ (if t < 0 then -t else t) := by split <;> omega
end BP
namespace BP
theorem plus_way {x y u v g t r : Int} (R1 : IsR x y) (R2 : IsR u v) (hg : g = (Int.gcd y v : Nat)) (ht : t = x * v.fdiv g + u * y.fdiv g) (hr : r = (Int.gcd t g : Nat)) :
  IsR (t.fdiv r) (y.fdiv g * v.fdiv r) ∧ t.fdiv r * (y * v) = (x * v + u * y) * (y.fdiv g * v.fdiv r) := by
 have hy := R1.pos
 have hv := R2.pos
 have gp : 0 < g := by
  have := Int.gcd_pos_of_ne_zero_left v (show y ≠ 0 by omega)
  omega
 have rp : 0 < r := by
  have := Int.gcd_pos_of_ne_zero_right t (show g ≠ 0 by omega)
  omega
 have gy : g ∣ y := by rw [hg]; exact Int.gcd_dvd_left y v
 have gv : g ∣ v := by rw [hg]; exact Int.gcd_dvd_right y v
 have rt : r ∣ t := by rw [hr]; exact Int.gcd_dvd_left t g
 have rg : r ∣ g := by rw [hr]; exact Int.gcd_dvd_right t g
 obtain ⟨y', ey⟩ := gy
 obtain ⟨v', ev⟩ := gv
 obtain ⟨t', et⟩ := rt
 obtain ⟨g', eg⟩ := rg
 have gne : g ≠ 0 := by omega
 have rne : r ≠ 0 := by omega
 have dy : y.fdiv g = y' := by rw [ey]; exact Int.mul_fdiv_cancel_left y' gne
 have dv : v.fdiv g = v' := by rw [ev]; exact Int.mul_fdiv_cancel_left v' gne
 have dt : t.fdiv r = t' := by rw [et]; exact Int.mul_fdiv_cancel_left t' rne
 have evr : v = r * (g' * v') := by rw [ev, eg, Int.mul_assoc]
 have dvr : v.fdiv r = g' * v' := by rw [evr]; exact Int.mul_fdiv_cancel_left _ rne
 rw [dy, dv] at ht
 rw [dy, dvr, dt]
 have py : 0 < y' := by
  rcases Int.lt_trichotomy y' 0 with z | z | z
  ·have := Int.mul_neg_of_pos_of_neg gp z; omega
  ·rw [z] at ey; omega
  ·exact z
 have pv : 0 < v' := by
  rcases Int.lt_trichotomy v' 0 with z | z | z
  ·have := Int.mul_neg_of_pos_of_neg gp z; omega
  ·rw [z] at ev; omega
  ·exact z
 have pg : 0 < g' := by
  rcases Int.lt_trichotomy g' 0 with z | z | z
  ·have := Int.mul_neg_of_pos_of_neg rp z; omega
  ·rw [z] at eg; omega
  ·exact z
 have c1 : Int.gcd y' v' = 1 := by
  have h := Int.gcd_mul_left g y' v'
  rw [← ey, ← ev] at h
  have h2 : Int.gcd y v = g.natAbs := by omega
  rw [h2] at h
  have : 0 < g.natAbs := by omega
  exact (Nat.eq_of_mul_eq_mul_left this (by rw [Nat.mul_one]; exact h)).symm
 have c2 : Int.gcd t' g' = 1 := by
  have h := Int.gcd_mul_left r t' g'
  rw [← et, ← eg] at h
  have h2 : Int.gcd t g = r.natAbs := by omega
  rw [h2] at h
  have : 0 < r.natAbs := by omega
  exact (Nat.eq_of_mul_eq_mul_left this (by rw [Nat.mul_one]; exact h)).symm
 have cop : ∀ {a b c : Int}, Int.gcd a b = 1 → c ∣ b → Int.gcd a c = 1 := fun {a b c} h d => by
  have k : Int.gcd a c ∣ Int.gcd a b := Int.gcd_dvd_gcd_of_dvd_right a d
  rw [h] at k
  exact Nat.eq_one_of_dvd_one k
 have copl : ∀ {a b c : Int}, Int.gcd b a = 1 → c ∣ b → Int.gcd c a = 1 := fun {a b c} h d => by
  rw [Int.gcd_comm] at h ⊢
  exact cop h d
 have c3 : Int.gcd x y' = 1 := cop R1.low ⟨g, by rw [ey, Int.mul_comm]⟩
 have c4 : Int.gcd u v' = 1 := cop R2.low ⟨g, by rw [ev, Int.mul_comm]⟩
 have mulr : ∀ {a b c : Int}, Int.gcd a b = 1 → Int.gcd a c = 1 → Int.gcd a (b * c) = 1 := fun {a b c} h1 h2 => by
  have k : Nat.Coprime a.natAbs (b.natAbs * c.natAbs) := Nat.Coprime.mul_right h1 h2
  show Nat.gcd a.natAbs (b * c).natAbs = 1
  rw [Int.natAbs_mul]
  exact k
 have mull : ∀ {a b c : Int}, Int.gcd b a = 1 → Int.gcd c a = 1 → Int.gcd (b * c) a = 1 := fun {a b c} h1 h2 => by
  rw [Int.gcd_comm] at h1 h2 ⊢
  exact mulr h1 h2
 have c1' : Int.gcd v' y' = 1 := by rw [Int.gcd_comm]; exact c1
 have c5 : Int.gcd t y' = 1 := by
  have h : Int.gcd (x * v') y' = 1 := mull c3 c1'
  have e : t = x * v' + u * y' := ht
  rw [e, Int.gcd_comm, Int.gcd_add_mul_right_right, Int.gcd_comm]
  exact h
 have c6 : Int.gcd t v' = 1 := by
  have h : Int.gcd (u * y') v' = 1 := mull c4 c1
  have e : t = u * y' + x * v' := by rw [ht, Int.add_comm]
  rw [e, Int.gcd_comm, Int.gcd_add_mul_right_right, Int.gcd_comm]
  exact h
 have d' : t' ∣ t := ⟨r, by rw [et, Int.mul_comm]⟩
 refine ⟨⟨Int.mul_pos py (Int.mul_pos pg pv), mulr (copl c5 d') (mulr c2 (copl c6 d'))⟩, ?_⟩
 have k1 : x * v + u * y = g * t := by
  rw [ht, Int.mul_add]
  have a1 : x * v = g * (x * v') := by rw [ev]; ac_rfl
  have a2 : u * y = g * (u * y') := by rw [ey]; ac_rfl
  rw [a1, a2]
 rw [k1]
 calc t' * (y * v) = t' * (g * y' * (r * (g' * v'))) := by rw [← evr, ← ey]
  _ = g * (r * t') * (y' * (g' * v')) := by ac_rfl
  _ = g * t * (y' * (g' * v')) := by rw [← et]
theorem n_of {x y t b : Int} (hb : b ≠ 0) (R : IsR x y) (h : x * b = t * y) : x = nt t b ∧ y = nb t b := by
 refine isR_unique R (n_isR hb) ?_
 have c := n_cross t b
 refine Int.eq_of_mul_eq_mul_right hb ?_
 calc x * nb t b * b = x * b * nb t b := by ac_rfl
  _ = t * y * nb t b := by rw [h]
  _ = t * nb t b * y := by ac_rfl
  _ = nt t b * b * y := by rw [c]
  _ = nt t b * y * b := by ac_rfl
theorem times_way {x y u v g k : Int} (R1 : IsR x y) (R2 : IsR u v) (hg : g = (Int.gcd x v : Nat)) (hk : k = (Int.gcd u y : Nat)) :
  IsR (x.fdiv g * u.fdiv k) (y.fdiv k * v.fdiv g) ∧ (x.fdiv g * u.fdiv k) * (y * v) = (x * u) * (y.fdiv k * v.fdiv g) := by
 have hy := R1.pos
 have hv := R2.pos
 have gp : 0 < g := by
  have := Int.gcd_pos_of_ne_zero_right x (show v ≠ 0 by omega)
  omega
 have kp : 0 < k := by
  have := Int.gcd_pos_of_ne_zero_right u (show y ≠ 0 by omega)
  omega
 have gx : g ∣ x := by rw [hg]; exact Int.gcd_dvd_left x v
 have gv : g ∣ v := by rw [hg]; exact Int.gcd_dvd_right x v
 have ku : k ∣ u := by rw [hk]; exact Int.gcd_dvd_left u y
 have ky : k ∣ y := by rw [hk]; exact Int.gcd_dvd_right u y
 obtain ⟨x', ex⟩ := gx
 obtain ⟨v', ev⟩ := gv
 obtain ⟨u', eu⟩ := ku
 obtain ⟨y', ey⟩ := ky
 have gne : g ≠ 0 := by omega
 have kne : k ≠ 0 := by omega
 have dx : x.fdiv g = x' := by rw [ex]; exact Int.mul_fdiv_cancel_left x' gne
 have dv : v.fdiv g = v' := by rw [ev]; exact Int.mul_fdiv_cancel_left v' gne
 have du : u.fdiv k = u' := by rw [eu]; exact Int.mul_fdiv_cancel_left u' kne
 have dy : y.fdiv k = y' := by rw [ey]; exact Int.mul_fdiv_cancel_left y' kne
 rw [dx, dv, du, dy]
 have py : 0 < y' := by
  rcases Int.lt_trichotomy y' 0 with z | z | z
  ·have := Int.mul_neg_of_pos_of_neg kp z; omega
  ·rw [z] at ey; omega
  ·exact z
 have pv : 0 < v' := by
  rcases Int.lt_trichotomy v' 0 with z | z | z
  ·have := Int.mul_neg_of_pos_of_neg gp z; omega
  ·rw [z] at ev; omega
  ·exact z
 have c1 : Int.gcd x' v' = 1 := by
  have h := Int.gcd_mul_left g x' v'
  rw [← ex, ← ev] at h
  have h2 : Int.gcd x v = g.natAbs := by omega
  rw [h2] at h
  have : 0 < g.natAbs := by omega
  exact (Nat.eq_of_mul_eq_mul_left this (by rw [Nat.mul_one]; exact h)).symm
 have c2 : Int.gcd u' y' = 1 := by
  have h := Int.gcd_mul_left k u' y'
  rw [← eu, ← ey] at h
  have h2 : Int.gcd u y = k.natAbs := by omega
  rw [h2] at h
  have : 0 < k.natAbs := by omega
  exact (Nat.eq_of_mul_eq_mul_left this (by rw [Nat.mul_one]; exact h)).symm
 have cop2 : ∀ {a b c d : Int}, Int.gcd a b = 1 → c ∣ a → d ∣ b → Int.gcd c d = 1 := fun {a b c d} h h1 h2 => by
  have k : Int.gcd c d ∣ Int.gcd a b := Nat.dvd_trans (Int.gcd_dvd_gcd_of_dvd_right c h2) (Int.gcd_dvd_gcd_of_dvd_left b h1)
  rw [h] at k
  exact Nat.eq_one_of_dvd_one k
 have c3 : Int.gcd x' y' = 1 := cop2 R1.low ⟨g, by rw [ex, Int.mul_comm]⟩ ⟨k, by rw [ey, Int.mul_comm]⟩
 have c4 : Int.gcd u' v' = 1 := cop2 R2.low ⟨k, by rw [eu, Int.mul_comm]⟩ ⟨g, by rw [ev, Int.mul_comm]⟩
 have mulr : ∀ {a b c : Int}, Int.gcd a b = 1 → Int.gcd a c = 1 → Int.gcd a (b * c) = 1 := fun {a b c} h1 h2 => by
  have k : Nat.Coprime a.natAbs (b.natAbs * c.natAbs) := Nat.Coprime.mul_right h1 h2
  show Nat.gcd a.natAbs (b * c).natAbs = 1
  rw [Int.natAbs_mul]
  exact k
 have mull : ∀ {a b c : Int}, Int.gcd b a = 1 → Int.gcd c a = 1 → Int.gcd (b * c) a = 1 := fun {a b c} h1 h2 => by
  rw [Int.gcd_comm] at h1 h2 ⊢
  exact mulr h1 h2
 refine ⟨⟨Int.mul_pos py pv, mull (mulr c3 c1) (mulr c2 c4)⟩, ?_⟩
 calc x' * u' * (y * v) = x' * u' * (k * y' * (g * v')) := by rw [← ev, ← ey]
  _ = (g * x') * (k * u') * (y' * v') := by ac_rfl
  _ = x * u * (y' * v') := by rw [← ex, ← eu]
theorem isR_sm_t {n : Nat} {t b : Int} (hb : b ≠ 0) (h : Sm n t) : Sm n (nt t b) := h.le (nt_le t b hb)
theorem isR_sm_b {n : Nat} {t b : Int} (hb : b ≠ 0) (h : Sm n b) : Sm n (nb t b) := h.le (nb_le t b hb)
theorem Sm.gcd_right {n : Nat} {t b : Int} (hb : b ≠ 0) (h : Sm n b) : Sm n ((Int.gcd t b : Nat) : Int) := h.le (by
 have : Int.gcd t b ≤ b.natAbs := Nat.le_of_dvd (by omega) (Int.natAbs_dvd_natAbs.mpr (Int.gcd_dvd_right t b))
 omega)
theorem V7 (t b : Int) : Int.gcd (if t < 0 then -t else t) b = Int.gcd t b := by split <;> simp [Int.neg_gcd]
end BP
namespace BP
theorem Q4 (q : Rat) : IsR q.num (q.den : Int) := ⟨by have := q.den_pos; omega, by
 have := q.reduced
 unfold Nat.Coprime at this
 simpa [Int.gcd] using this⟩
theorem rat_of {x y : Int} (h : IsR x y) : (Rat.divInt x y).num = x ∧ ((Rat.divInt x y).den : Int) = y := by
 have hy := h.pos
 have ne : y ≠ 0 := by omega
 refine isR_unique (Q4 _) h ?_
 have e := Rat.num_divInt_den (Rat.divInt x y)
 have := (Rat.divInt_eq_divInt_iff (n₁ := (Rat.divInt x y).num) (n₂ := x) (d₁ := ((Rat.divInt x y).den : Int)) (d₂ := y) (by have := (Rat.divInt x y).den_pos; omega) ne).mp e
 exact this
theorem n_rat {t b : Int} (hb : b ≠ 0) : nt t b = (Rat.divInt t b).num ∧ nb t b = ((Rat.divInt t b).den : Int) := by
 have c := n_cross t b
 have R := n_isR (t := t) hb
 refine isR_unique R (Q4 _) ?_
 have e := Rat.num_divInt_den (Rat.divInt t b)
 have h1 := (Rat.divInt_eq_divInt_iff (n₁ := (Rat.divInt t b).num) (n₂ := t) (d₁ := ((Rat.divInt t b).den : Int)) (d₂ := b) (by have := (Rat.divInt t b).den_pos; omega) hb).mp e
 refine Int.eq_of_mul_eq_mul_right hb ?_
 calc nt t b * ((Rat.divInt t b).den : Int) * b = nt t b * b * ((Rat.divInt t b).den : Int) := by ac_rfl
  _ = t * nb t b * ((Rat.divInt t b).den : Int) := by rw [c]
  _ = t * ((Rat.divInt t b).den : Int) * nb t b := by ac_rfl
  _ = (Rat.divInt t b).num * b * nb t b := by rw [h1]
  _ = (Rat.divInt t b).num * nb t b * b := by ac_rfl
theorem Z5 (q : Rat) : (q.den : Int) ≠ 0 := by have := q.den_pos; omega
theorem q_plus (a b : Rat) : nt (a.num * b.den + b.num * a.den) ((a.den : Int) * b.den) = (a + b).num ∧ nb (a.num * b.den + b.num * a.den) ((a.den : Int) * b.den) = ((a + b).den : Int) := by
 have h := n_rat (t := a.num * b.den + b.num * a.den) (b := (a.den : Int) * b.den) (Int.mul_ne_zero (Z5 a) (Z5 b))
 rw [← Rat.divInt_add_divInt _ _ (Z5 a) (Z5 b), Rat.num_divInt_den, Rat.num_divInt_den] at h
 exact h
theorem q_times (a b : Rat) : nt (a.num * b.num) ((a.den : Int) * b.den) = (a * b).num ∧ nb (a.num * b.num) ((a.den : Int) * b.den) = ((a * b).den : Int) := by
 have h := n_rat (t := a.num * b.num) (b := (a.den : Int) * b.den) (Int.mul_ne_zero (Z5 a) (Z5 b))
 rw [← Rat.divInt_mul_divInt, Rat.num_divInt_den, Rat.num_divInt_den] at h
 exact h
theorem q_less (a b : Rat) : decide (a.num * b.den < b.num * a.den) = decide (a < b) :=
  decide_eq_decide.mpr (Rat.lt_iff a b).symm
def SmQ (n : Nat) (q : Rat) : Prop := Sm n q.num ∧ Sm n (q.den : Int)
theorem SmQ.mono {m n : Nat} {q : Rat} (h : SmQ m q) (l : m ≤ n := by decide) : SmQ n q := ⟨h.1.mono l, h.2.mono l⟩
theorem SmQ.mul {m n : Nat} {a b : Rat} (h : SmQ m a) (k : SmQ n b) : SmQ (m + n) (a * b) := by
 have ne := Int.mul_ne_zero (Z5 a) (Z5 b)
 have e := q_times a b
 unfold SmQ
 rw [← e.1, ← e.2]
 exact ⟨isR_sm_t ne (h.1.mul k.1), isR_sm_b ne (h.2.mul k.2)⟩
end BP
namespace L2
open PySem PySem.Spec PyProof.Rows BP
section
variable {X : Cx}
theorem mulOk {m n : Nat} {x y : Int} (hx : Sm m x) (hy : Sm n y) (h : m + n ≤ 134217728 := by decide) : IntMulOk x y := IntMulOk.of_le (intBits_le_iff.mpr hx) (intBits_le_iff.mpr hy) h
theorem jY : OpR X (binaryOp .Mult) (rI IntMulOk fun i j => .int (i * j)) := opI fun _ _ _ _ _ _ _ hc q => mul_int q hc
def CDivB (_ j : Int) : Prop := j ≠ 0 ∧ j.natAbs.log2 < 9000
theorem yz : OpR X (binaryOp .FloorDiv) (rI CDivB fun i j => .int (i.fdiv j)) := opI fun _ _ _ _ _ _ _ hc q => floordiv_int hc.1 q (.inl (PyProof.noPylong_of_log2 hc.2))
inductive IsI (K : Fg9) (H : Hp) : V → String → Bool → Prop where
 | intInt (i : Int) : IsI K H (.int i) "int" true
 | intBool (i : Int) : IsI K H (.int i) "bool" false
 | blInt (b : Bool) : IsI K H (.bl b) "int" true
 | blBool (b : Bool) : IsI K H (.bl b) "bool" true
 | nonInt : IsI K H .non "int" false
 | strInt (x : Str) : IsI K H (.str x) "int" false
 | strStr (x : Str) : IsI K H (.str x) "str" true
 | tupTup {a : Addr} {xs : List V} (h : SqT K H a xs) : IsI K H (.ref a) "tuple" true
 | tupInt {a : Addr} {xs : List V} (h : SqT K H a xs) : IsI K H (.ref a) "int" false
 | lstList {a : Addr} {xs : List V} (h : SqL K H a xs) : IsI K H (.ref a) "list" true
 | lstInt {a : Addr} {xs : List V} (h : SqL K H a xs) : IsI K H (.ref a) "int" false
 | dictInt {a : Addr} {kvs : List (Key × V)} (h : H a = some (.dK kvs)) : IsI K H (.ref a) "int" false
theorem wX : CallR X (.builtin "isinstance") (fun xs H Q => ∃ x T b, xs = [x, .ty T] ∧ IsI X.K H x T b ∧ Q (.bl b) H) := by
 intro pins s σ H xs us Q I r h
 obtain ⟨x, T, b, rfl, hi, q⟩ := h
 obtain ⟨u, u', rfl, rx, rt⟩ := vals2 r
 cases rt
 cases hi with
 | intInt i => obtain ⟨t, rfl⟩ := rx; exact IsiPair.int_int ⟨.bl true, H, I, rfl, q⟩
 | intBool i => obtain ⟨t, rfl⟩ := rx; exact IsiPair.int_bool ⟨.bl false, H, I.tok _, rfl, q⟩
 | blInt i => cases rx; exact IsiPair.bool_int ⟨.bl true, H, I, rfl, q⟩
 | blBool i => cases rx; exact IsiPair.bool_bool ⟨.bl true, H, I, rfl, q⟩
 | nonInt => cases rx; exact IsiPair.NoneType_int ⟨.bl false, H, I.tok _, rfl, q⟩
 | strInt i => obtain ⟨t, rfl⟩ := rx; exact IsiPair.str_int ⟨.bl false, H, I.tok _, rfl, q⟩
 | strStr i => obtain ⟨t, rfl⟩ := rx; exact IsiPair.str_str ⟨.bl true, H, I, rfl, q⟩
 | tupTup h =>
  cases rx
  obtain ⟨its, _, ⟨o, ho, hc, _⟩, _⟩ := I.tuple h
  exact IsiPair.tuple_tuple ho hc ⟨.bl true, H, I, rfl, q⟩
 | tupInt h =>
  cases rx
  obtain ⟨its, _, ⟨o, ho, hc, _⟩, _⟩ := I.tuple h
  exact IsiPair.tuple_int ho hc ⟨.bl false, H, I.tok _, rfl, q⟩
 | lstList h =>
  cases rx
  obtain ⟨its, _, p, _⟩ := I.list h
  obtain ⟨o, ho, hc, _⟩ := p.isList
  exact IsiPair.list_list ho hc ⟨.bl true, H, I, rfl, q⟩
 | lstInt h =>
  cases rx
  obtain ⟨its, _, p, _⟩ := I.list h
  obtain ⟨o, ho, hc, _⟩ := p.isList
  exact IsiPair.list_int ho hc ⟨.bl false, H, I.tok _, rfl, q⟩
 | @dictInt ad kvs h =>
  cases rx
  obtain ⟨_, _, vs, _, p⟩ := (show ObjOk X.prog X.w H s.heap ad (.dK kvs) from I.hok ad _ h)
  obtain ⟨o, es, ep, h1, h2, _⟩ := p
  exact IsiPair.dict_int h1 h2.1 ⟨.bl false, H, I.tok _, rfl, q⟩
def eqVs : List V → List V → Bool
 | [], [] => true
 | x :: xs, y :: ys => eqV x y && eqVs xs ys
 | _, _ => false
theorem eqVs_self : ∀ {xs : List V}, xs.all flatV = true → eqVs xs xs = true
 | [], _ => rfl
 | x :: xs, h => by
  rw [List.all_cons, Bool.and_eq_true] at h
  have e : eqV x x = true := by cases x <;> first | rfl | (unfold eqV; simp; done) | (exact absurd (show false = true from h.1) Bool.false_ne_true)
  unfold eqVs
  rw [e, eqVs_self h.2]
  rfl
theorem JX : ∀ {xs : List V} {us : List Value} (r : Vals xs us) (j : Nat) (h : j < us.length), ∃ x, xs[j]? = some x ∧ RelV x us[j]
 | _, _, .nil, j, h => absurd h (Nat.not_lt_zero _)
 | _, _, .cons r _, 0, _ => ⟨_, rfl, r⟩
 | _, _, .cons _ t, j + 1, h => by
  obtain ⟨x, e, r⟩ := JX t j (by simpa using h)
  exact ⟨x, by simpa using e, by simpa using r⟩
theorem Vv : ∀ (xs ys : List V) (e : Nat → Bool), (∀ j x y, xs[j]? = some x → ys[j]? = some y → e j = eqV x y) → ((List.range (min xs.length ys.length)).all e && xs.length == ys.length) = eqVs xs ys
 | [], [], e, _ => by simp [eqVs]
 | [], y :: ys, e, _ => by simp [eqVs]
 | x :: xs, [], e, _ => by simp [eqVs]
 | x :: xs, y :: ys, e, h => by
  have ih := Vv xs ys (fun j => e (j + 1)) (fun j a b ha hb => h (j + 1) a b (by simpa using ha) (by simpa using hb))
  have h0 : e 0 = eqV x y := h 0 x y rfl rfl
  have hm : min (x :: xs).length (y :: ys).length = min xs.length ys.length + 1 := by simp only [List.length_cons]; omega
  rw [hm, List.range_succ_eq_map, List.all_cons, List.all_map, h0]
  unfold eqVs
  rw [← ih]
  have hl : ((x :: xs).length == (y :: ys).length) = (xs.length == ys.length) := by simp
  rw [hl, Bool.and_assoc]
  rfl
theorem flat_at {xs : List V} (h : xs.all flatV = true) {j : Nat} {x : V} (e : xs[j]? = some x) : flatV x = true := List.all_eq_true.mp h x (List.mem_of_getElem? e)
end
def xy : Expr → Bool
 | .Starred _ _ => false
 | _ => true
theorem qz {e : Expr} (h : xy e = true) (es : List Expr) (env : Env) : starEach (e :: es) env = (false, eval e env) :: starEach es env := by
 cases e <;> first | rfl | exact absurd (show false = true from h) Bool.false_ne_true
theorem qZ {es : List Expr} {env : Env} {pos : Pos} (h : es.all xy = true) : (backTo pos (starEach es env)).any (·.1) = false := by
 induction es with
 | nil => rfl
 | cons e es ih =>
  rw [List.all_cons, Bool.and_eq_true] at h
  rw [qz h.1]
  have q := ih h.2
  unfold backTo at q ⊢
  rw [List.map_cons, List.any_cons, q]
  rfl
theorem pa_c {X : Cx} {e : Expr} {es : List Expr} {te : TE} {t : TA} (ha : PE X e te) (hr : PA X es t) (hp : xy e = true := by rfl) : PA X (e :: es) (tCons te t) := pa_cons ha hr (qz hp es X.env)
theorem boot_isinstance : bootBuiltins "isinstance" = some (.builtin "isinstance") := PyProof.Rows.boot_isinstance
theorem boot_int : bootBuiltins "int" = some (.type "int") := PyProof.Rows.boot_int
theorem boot_bool : bootBuiltins "bool" = some (.type "bool") := PyProof.Rows.boot_bool
theorem boot_tuple : bootBuiltins "tuple" = some (.type "tuple") := PyProof.Rows.boot_tuple
theorem boot_list : bootBuiltins "list" = some (.type "list") := PyProof.Rows.boot_list
theorem boot_str : bootBuiltins "str" = some (.type "str") := PyProof.Rows.boot_str
theorem boot_abs : bootBuiltins "abs" = some (.builtin "abs") := PyProof.Rows.boot_abs
theorem qy {H : Hp} {p : Addr} (h : H p = none) (o : HO) : Same H (upd H p o) := fun b u q => by rw [y7 (zK q h)]; exact q
theorem Same.tup {K : Fg9} {H H' : Hp} {a : Addr} {xs : List V} (e : Same H H') (h : SqT K H a xs) : SqT K H' a xs := by
 rcases h with (h | ⟨o, h⟩) | h
 ·exact .inl (.inl (e _ _ h))
 ·exact .inl (.inr ⟨o, e _ _ h⟩)
 ·exact .inr h
def RetT (H : Hp) (Q : VK) (xs : List V) : Prop := ∀ p H', Same H H' → H' p = some (.tup xs) → Q (.ref p) H'
theorem RetT.new {H : Hp} {Q : VK} {xs : List V} (h : RetT H Q xs) {p : Addr} (hp : H p = none) : Q (.ref p) (upd H p (.tup xs)) := h p _ (qy hp _) qv
abbrev T2 (x y : Int) : List V := [.int x, .int y]
theorem y9 : 2 ≤ sizeLine := by decide
theorem iteN {c A B : Prop} [Decidable c] (hc : ¬ c) (h : B) : if decide c = true then A else B := by
 rw [decide_eq_false hc]
 exact iteF h
theorem iteP {c A B : Prop} [Decidable c] (hc : c) (h : A) : if decide c = true then A else B := by
 rw [decide_eq_true hc]
 exact iteT h
theorem iteD {c A B : Prop} [Decidable c] (h1 : c → A) (h2 : ¬ c → B) : if decide c = true then A else B := by
 by_cases h : c
 ·exact iteP h (h1 h)
 ·exact iteN h (h2 h)
theorem iteNP {c A B : Prop} [Decidable c] (hc : ¬ c) (h : A) : if (!decide c) = true then A else B := by
 rw [decide_eq_false hc]
 exact iteT h
end L2
namespace L2
open PySem PySem.Spec PyProof.Rows BP
section
variable {X : Cx} {pins : List (Addr × Obj)} {σ : St} {H : Hp} {s : Shared}
theorem Inv.track {ea : Addr} {o : HO} (I : Inv X pins σ H s) (hn : H ea = none) (h0 : X.s₀.heap.get? ea = none) (hp : ∀ p ∈ X.pn ++ pins, p.1 ≠ ea) (hL : ea ≠ X.env.locals)
  (hc : ∀ x c, X.env.cells.lookup x = some c → c ≠ ea) (ok : ObjOk X.prog X.w (upd H ea o) s.heap ea o) : Inv X pins σ (upd H ea o) s := by
 refine ⟨I.ok, I.os, I.bare, ⟨I.base.keep, I.base.slot, fun b u q n hx => ?_, I.base.there, fun b xs e => ?_, fun b u xs e => ?_, fun b ps e => ?_⟩, I.loc, I.cell, ?_, fun x c e => ?_, fun p hp' => ?_, fun b u e => ?_, I.len⟩
 ·rw [y7 (fun z => by rw [z, h0] at q; cases q)]
  exact I.base.free b u q n hx
 ·have z := I.base.tups b xs e
  rw [y7 (zK z hn)]
  exact z
 ·have z := I.base.frzs b u xs e
  rw [y7 (zK z hn)]
  exact z
 ·obtain ⟨m, z⟩ := I.base.tbls b ps e
  exact ⟨m, by rw [y7 (zK z hn)]; exact z⟩
 ·rw [y7 (Ne.symm hL)]
  exact I.free
 ·rw [y7 (hc x c e)]
  exact I.freeC x c e
 ·obtain ⟨e, n, r⟩ := I.pin p hp'
  exact ⟨e, by rw [y7 (hp p hp')]; exact n, r⟩
 ·by_cases hb : b = ea
  ·subst hb
   rw [qv] at e
   cases e
   exact ok
  ·rw [y7 hb] at e
   exact (I.hok b u e).stay (fun c v _ q => q) (fun c q => by rw [y7 (zK q hn)]; exact q) fun c xs q => by rw [y7 (zK q hn)]; exact q
end
end L2
namespace L2
open PySem PySem.Spec PyProof.Rows BP
structure CP where
 C : Addr
 fp : List Addr
 s : Shared
 H : Hp
abbrev Cx.comp (X : Cx) (scope : Scope) (cl : List (Str × Addr)) (N : List Str) (c : CP) : Cx :=
 { prog := X.prog, w := X.w, K := X.K, mg := X.mg, base := X.base, A := X.A, N := N, s₀ := c.s, H₀ := c.H, env := compEnvC scope cl c.C X.env, outer := X.stack, stack := X.stack, ex := c.fp, fn := fun _ => false, calm := X.calm, pn := [], xe := fun _ _ => False }
def ixS : St → Nat → Option V
 | [], _ => none
 | x :: _, 0 => x
 | _ :: r, n + 1 => ixS r n
theorem ixS_some : ∀ {σ : St} {j : Nat} {v : V}, ixS σ j = some v → σ[j]? = some (some v)
 | [], _, _, h => by cases h
 | x :: r, 0, v, h => by
  have h' : x = some v := h
  rw [h']; rfl
 | x :: r, n + 1, v, h => by
  have q := ixS_some (σ := r) (j := n) (v := v) h
  simpa using q
def compS : List (Option Nat) → St → St
 | [], _ => []
 | none :: r, σ => none :: compS r σ
 | some j :: r, σ => ixS σ j :: compS r σ
theorem compS_len : ∀ (ix : List (Option Nat)) (σ : St), (compS ix σ).length = ix.length
 | [], _ => rfl
 | none :: r, σ => congrArg Nat.succ (compS_len r σ)
 | some _ :: r, σ => congrArg Nat.succ (compS_len r σ)
def LeS : St → St → Prop
 | [], [] => True
 | a :: r, b :: r' => (a = none ∨ a = b) ∧ LeS r r'
 | _, _ => False
theorem LeS.refl : ∀ σ : St, LeS σ σ
 | [] => trivial
 | _ :: r => ⟨.inr rfl, LeS.refl r⟩
theorem LeS.len : ∀ {a b : St}, LeS a b → a.length = b.length
 | [], [], _ => rfl
 | _ :: _, _ :: _, h => congrArg Nat.succ (LeS.len h.2)
 | [], _ :: _, h => h.elim
 | _ :: _, [], h => h.elim
theorem LeS.get : ∀ {a b : St} {i : Nat} {v : V}, LeS a b → a[i]? = some (some v) → b[i]? = some (some v)
 | [], [], _, _, _, e => by simp at e
 | [], _ :: _, _, _, h, _ => h.elim
 | _ :: _, [], _, _, h, _ => h.elim
 | x :: r, y :: r', 0, v, h, e => by
  have e' : x = some v := by simpa using e
  rcases h.1 with z | z
  ·rw [z] at e'; cases e'
  ·rw [← z, e']; rfl
 | x :: r, y :: r', i + 1, v, h, e => by
  have e' : r[i]? = some (some v) := by simpa using e
  have q := LeS.get h.2 e'
  simpa using q
def GOk (g : TG) (σ : St) : Prop := ∀ x H Q, g x σ H Q → g x σ H fun σ2 H2 => LeS σ σ2 ∧ Q σ2 H2
theorem leS_set : ∀ {σ : St} {i : Nat} {v : V}, σ[i]? = some none → LeS σ (σ.set i (some v))
 | [], _, _, h => by simp at h
 | x :: r, 0, v, h => by
  have e : x = none := by simpa using h
  exact ⟨.inl e, LeS.refl r⟩
 | x :: r, i + 1, v, h => by
  have e : r[i]? = some none := by simpa using h
  exact ⟨.inr rfl, leS_set e⟩
theorem compS_none {ix : List (Option Nat)} : ∀ {i : Nat} {σ : St}, ix[i]? = some none → (compS ix σ)[i]? = some none := by
 induction ix with
 | nil => intro i σ h; simp at h
 | cons a r ih =>
  intro i σ h
  cases i with
  | zero =>
   have e : a = none := by simpa using h
   subst e; rfl
  | succ i =>
   have e : r[i]? = some none := by simpa using h
   have q := ih (σ := σ) e
   cases a <;> (unfold compS; simpa using q)
theorem wV {i : Nat} {ix : List (Option Nat)} (h : ix[i]? = some none) (σ : St) : GOk (gName i) (compS ix σ) := fun _ _ _ q => ⟨leS_set (compS_none h), q⟩
theorem LeS.trans : ∀ {a b c : St}, LeS a b → LeS b c → LeS a c
 | [], [], [], _, _ => trivial
 | [], [], _ :: _, _, h => h.elim
 | [], _ :: _, _, h, _ => h.elim
 | _ :: _, [], _, h, _ => h.elim
 | _ :: _, _ :: _, [], _, h => h.elim
 | x :: r, y :: r', z :: r'', h, k => by
  refine ⟨?_, LeS.trans h.2 k.2⟩
  rcases h.1 with e | e
  ·exact .inl e
  ·rcases k.1 with e' | e'
   ·exact .inl (e.trans e')
   ·exact .inr (e.trans e')
theorem V5 {K : Fg9} {i j : Nat} {ix : List (Option Nat)} (h : ix[i]? = some none) (h' : ix[j]? = some none) (hij : i ≠ j) (σ : St) : GOk (gTup K 2 (gCons (gName i) (gCons (gName j) gNil))) (compS ix σ) := by
 intro x H Q q
 obtain ⟨a, xs, e1, e2, e3, v, r, e4, v', r', e5, e6, q⟩ := q
 have z : (compS ix σ)[i]? = some none := compS_none h
 have z' : ((compS ix σ).set i (some v))[j]? = some none := by
  rw [List.getElem?_set_ne hij]
  exact compS_none h'
 exact ⟨a, xs, e1, e2, e3, v, r, e4, v', r', e5, e6, (leS_set z).trans (leS_set z'), q⟩
def SubL (cells : List (Str × Addr)) : List (Str × Addr) → Prop
 | [] => True
 | p :: r => cells.lookup p.1 = some p.2 ∧ SubL cells r
theorem SubL.get {cells : List (Str × Addr)} : ∀ {cl : List (Str × Addr)} {x : Str} {c : Addr}, SubL cells cl → cl.lookup x = some c → cells.lookup x = some c
 | [], _, _, _, e => by cases e
 | p :: r, x, c, h, e => by
  rw [List.lookup_cons] at e
  cases hx : x == p.1 with
  | true =>
   rw [hx] at e
   have e1 : x = p.1 := by simpa using hx
   have e2 : p.2 = c := Option.some.inj e
   rw [e1, ← e2]
   exact h.1
  | false =>
   rw [hx] at e
   exact SubL.get h.2 e
def IxOk (X : Cx) (rn : List (Str × NameKind)) (cl : List (Str × Addr)) : List Str → List (Option Nat) → Prop
 | [], [] => True
 | _ :: N, none :: ix => IxOk X rn cl N ix
 | x :: N, some j :: ix => (X.N[j]? = some x ∧ Vis X.env.scope x ∧ (X.env.kindOf x ≠ some .local) ∧ (cl.lookup x).isSome = true ∧ (rn.lookup x = some .cell ∨ rn.lookup x = some .free)) ∧ IxOk X rn cl N ix
 | _, _ => False
theorem IxOk.len {X : Cx} {rn : List (Str × NameKind)} {cl : List (Str × Addr)} : ∀ {N : List Str} {ix : List (Option Nat)}, IxOk X rn cl N ix → ix.length = N.length
 | [], [], _ => rfl
 | _ :: _, none :: _, h => congrArg Nat.succ (IxOk.len (show IxOk X rn cl _ _ from h))
 | _ :: _, some _ :: _, h => congrArg Nat.succ (IxOk.len h.2)
 | [], none :: _, h => h.elim
 | [], some _ :: _, h => h.elim
 | _ :: _, [], h => h.elim
theorem IxOk.get {X : Cx} {rn : List (Str × NameKind)} {cl : List (Str × Addr)} : ∀ {N : List Str} {ix : List (Option Nat)} {σ : St} {i : Nat} {x : Str} {v : V}, IxOk X rn cl N ix → N[i]? = some x → (compS ix σ)[i]? = some (some v) → ∃ j : Nat, X.N[j]? = some x ∧ σ[j]? = some (some v) ∧ Vis X.env.scope x ∧ X.env.kindOf x ≠ some .local ∧ (cl.lookup x).isSome = true ∧ (rn.lookup x = some .cell ∨ rn.lookup x = some .free)
 | [], [], _, _, _, _, _, e, _ => by simp at e
 | y :: N, none :: ix, σ, 0, x, v, _, _, e => by
  have z : (none : Option V) = some v := by simpa [compS] using e
  cases z
 | y :: N, none :: ix, σ, i + 1, x, v, h, e, e' => IxOk.get (N := N) (ix := ix) (σ := σ) (i := i) (show IxOk X rn cl N ix from h) (by simpa using e) (by simpa [compS] using e')
 | y :: N, some j :: ix, σ, 0, x, v, h, e, e' => by
  have z : ixS σ j = some v := by simpa [compS] using e'
  have y1 : y = x := by simpa using e
  subst y1
  exact ⟨j, h.1.1, ixS_some z, h.1.2⟩
 | y :: N, some j :: ix, σ, i + 1, x, v, h, e, e' => IxOk.get (N := N) (ix := ix) (σ := σ) (i := i) h.2 (by simpa using e) (by simpa [compS] using e')
 | [], none :: _, _, _, _, _, h, _, _ => h.elim
 | [], some _ :: _, _, _, _, _, h, _, _ => h.elim
 | _ :: _, [], _, _, _, _, h, _, _ => h.elim
structure CompOk (X : Cx) (scope : Scope) (cl : List (Str × Addr)) (N : List Str) (ix : List (Option Nat)) : Prop where
 clos : closureFor scope X.env = pure cl := by rfl
 kind : scope.kind = .function := by rfl
 nms : (scope.names.all fun x => x.2 != .local || scope.names.lookup x.1 == some .local) = true := by rfl
 nocell : (scope.names.all fun x => x.2 != .cell) = true := by rfl
 sub : SubL X.env.cells cl
 has : ((relabel scope X.env).names.all fun x => x.2 == .local || (cl.lookup x.1).isSome || !(x.2 == .cell || x.2 == .free)) = true := by rfl
 ixs : IxOk X (relabel scope X.env).names cl N ix
section
variable {X : Cx} {scope : Scope} {cl : List (Str × Addr)} {N : List Str} {ix : List (Option Nat)} {pins : List (Addr × Obj)} {σ : St} {H : Hp} {s : Shared}
theorem lookup_mem : ∀ {l : List (Str × NameKind)} {x : Str} {k : NameKind}, l.lookup x = some k → (x, k) ∈ l
 | [], _, _, h => by cases h
 | (y, k') :: r, x, k, h => by
  rw [List.lookup_cons] at h
  cases hx : x == y with
  | true =>
   rw [hx] at h
   have e1 : x = y := by simpa using hx
   have e2 : k' = k := Option.some.inj h
   rw [e1, e2]
   exact List.mem_cons_self
  | false =>
   rw [hx] at h
   exact List.mem_cons_of_mem _ (lookup_mem h)
theorem CompOk.cells (k : CompOk X scope cl N ix) {x : Str} (h : (relabel scope X.env).names.lookup x = some .cell ∨ (relabel scope X.env).names.lookup x = some .free) : ∃ c, cl.lookup x = some c := by
 have all := List.all_eq_true.mp k.has
 rcases h with h | h
 ·have q := all _ (lookup_mem h)
  exact Option.isSome_iff_exists.mp (by simpa using q)
 ·have q := all _ (lookup_mem h)
  exact Option.isSome_iff_exists.mp (by simpa using q)
theorem CompOk.ok (k : CompOk X scope cl N ix) (I : Inv X pins σ H s) {fp : List Addr} {C : Addr} (hf : ∀ b ∈ fp, FpOk X pins H b ∧ b < s.heap.objs.size) (hC : s.heap.objs.size ≤ C) : (X.comp scope cl N ⟨C, fp, s, H⟩).Ok where
 mod := I.ok.mod
 kind := k.kind
 glob := I.ok.glob
 blt := I.ok.blt
 above := hC
 inj := fun x y c e1 e2 => I.ok.inj x y c (k.sub.get e1) (k.sub.get e2)
 has := fun x h => k.cells h
 cab := fun x c h _ => by cases h
 hd := I.ok.hd
 frames := I.ok.frames
 stk := .inl rfl
 exf := fun b hb => ⟨Nat.ne_of_lt (Nat.lt_of_lt_of_le (hf b hb).2 hC), fun x c e => (hf b hb).1.2.2.2.2.1 x c (k.sub.get e)⟩
 bs := fun b o e => I.bs b o e
 bsz := Nat.le_trans I.ok.bsz I.sz
 noex := fun b o e hb => by
  obtain ⟨⟨_, _, _, z, _⟩, _⟩ := hf b hb
  rcases z with z | z
  ·exact I.ok.noex b o e z
  ·exact absurd (Nat.lt_of_lt_of_le (Heap.lt_size e) (Nat.le_trans I.ok.bsz z)) (Nat.lt_irrefl _)
 exfs := fun b hb z => by
  obtain ⟨⟨_, nl, nf, _⟩, _⟩ := hf b hb
  rcases List.mem_cons.mp (I.stkSub b z) with e | e
  ·exact nl e
  ·exact nf e
 funs := I.stack
 frf := I.stkFree
theorem CompOk.enter (k : CompOk X scope cl N ix) (I : Inv X pins σ H s) {fp : List Addr} {C : Addr} {h' : Heap} {t' : Nat} {m : Str → Option Value} (hf : ∀ b ∈ fp, FpOk X pins H b ∧ b < s.heap.objs.size) (hC : s.heap.objs.size ≤ C)
  (keep : ∀ b o, s.heap.get? b = some o → h'.get? b = some o) (hn : h'.Ns C m) : Inv (X.comp scope cl N ⟨C, fp, s, H⟩) [] (compS ix σ) H { s with heap := h', toks := t' } where
 ok := k.ok I hf hC
 os := rfl
 bare := I.bare
 base := Un.kept keep
 loc := ⟨m, hn, fun i x v e1 e2 _ => by
  obtain ⟨j, h1, h2, h3, h4, h5, h6⟩ := k.ixs.get e1 e2
  obtain ⟨m0, _, hl⟩ := I.loc
  obtain ⟨u, r, l⟩ := hl j x v h1 h2 h3
  rcases l with ⟨l, _⟩ | ⟨_, c, ec, z⟩
  ·exact absurd l h4
  ·obtain ⟨c', ec'⟩ := Option.isSome_iff_exists.mp h5
   have e3 := k.sub.get ec'
   rw [ec] at e3
   have e4 : c = c' := Option.some.inj e3
   subst e4
   obtain ⟨o, ho, hd⟩ := z
   exact ⟨u, r, .inr ⟨h6, c, ec', o, keep _ _ ho, hd⟩⟩⟩
 cell := fun x c e => by
  obtain ⟨v, o, ho, hd⟩ := I.cell x c (k.sub.get e)
  exact ⟨v, o, keep _ _ ho, hd⟩
 free := I.hok.fresh hC
 freeC := fun x c e => I.freeC x c (k.sub.get e)
 pin := fun p hp => by cases hp
 hok := I.hok.kept keep
 len := (compS_len ix σ).trans k.ixs.len
end
end L2
namespace L2
open PySem PySem.Spec PyProof.Rows BP
section
variable {prog : Program} {w : World} {A : Around} {R : Result → Shared → Prop} {s : Shared}
theorem comp_loop {elt tg iter : Expr} {ifs : List Expr} {scope : Scope} {pos : Pos} {it acc : Value} {env : Env} (J : Nat → Shared → Prop)
  (turn : ∀ n s1, J n s1 → ∀ E : Value → Shared → Prop, wpAny (model prog w) A (pyNext it) (fun r s2 => (r = none ∧ R (.ok .next) s2) ∨ ∃ v, r = some v ∧ wpAny (model prog w) A (letOwnedTupleGo tg it v) (fun _ s3 => wpAny (model prog w) A (assign tg env v) (fun _ s4 =>
    wpAny (model prog w) A (forIn ifs true fun c b => if b = true then do let ok ← isTrue c env (eval c env); pure (ForInStep.yield ok) else pure (ForInStep.yield b)) (fun ok s5 =>
     (ok = true ∧ wpAny (model prog w) A (eval elt env) (fun x s6 => wpAny (model prog w) A (call (.builtin "list.append") [acc, x]) (fun _ s7 => ∃ m, m < n ∧ J m s7) E s6) E s5) ∨ (ok = false ∧ ∃ m, m < n ∧ J m s5)) E s4) E s3) E s2) E s1)
  (n : Nat) (h : J n s) : codeAny (model prog w) A (.compLoop (.ListComp elt [⟨tg, iter, ifs, 0⟩] scope pos) 0 it acc env) R s := by
 refine codeAny_loop rfl J (fun n s1 hJ => ?_) n h
 show wpAny _ _ ((compTurn (.ListComp elt [⟨tg, iter, ifs, 0⟩] scope pos) 0 it acc env).onRaise fun x => do
  noteFrame x env
  theTreesLotGoes x) _ _ s1
 refine wpAny_noted ?_
 rw [compTurn_list]
 refine wpAny_bind (wpAny_standAt (wpAny_bind (thn (turn n s1 hJ _) fun r s2 h2 => ?_)))
 rcases h2 with ⟨e, q⟩ | ⟨v, e, q⟩
 ·subst e
  exact wpAny_pure q
 ·subst e
  refine wpAny_bind (thn q fun _ s3 q3 => wpAny_bind (thn q3 fun _ s4 q4 => wpAny_bind (thn q4 fun ok s5 q5 => ?_)))
  rcases q5 with ⟨e, q5⟩ | ⟨e, q5⟩
  ·subst e
   exact wpAny_bind (wpAny_bind (thn q5 fun x s6 q6 => wpAny_bind (thn q6 fun _ s7 q7 => wpAny_pure (wpAny_pure ⟨rfl, q7⟩))))
  ·subst e
   exact wpAny_pure ⟨rfl, q5⟩
end
def PIfs (X : Cx) (ifs : List Expr) (t : TT) : Prop :=
 ∀ (pins : List (Addr × Obj)) (s : Shared) (σ : St) (H : Hp) (Q : Bool → Hp → Prop), Inv X pins σ H s → t σ H Q → wpAny (model X.prog X.w) X.A (forIn ifs true fun c b => if b = true then do let ok ← isTrue c X.env (eval c X.env); pure (ForInStep.yield ok) else pure (ForInStep.yield b)) (TP X pins σ Q) X.xe s
def tNoIf : TT := fun _ H Q => Q true H
theorem jk {X : Cx} : PIfs X [] tNoIf := fun _ _ _ H _ I h => wpAny_tests_nil ⟨H, I, h⟩
theorem pif_one {X : Cx} {c : Expr} {t : TT} (h : PT X c t) : PIfs X [c] t := fun pins s σ H Q I q => wpAny_tests_one (h pins s σ H Q I q)
def tCompZ (ix : List (Option Nat)) (wi : TI) (g : CP → TG) (tt : CP → TT) (te : CP → TE) (σ : St) (H : Hp) (Z : List V → Hp → Prop) : Prop :=
 wi σ H fun J H1 => ∃ W : Nat → Nat → List V → Hp → Prop, (∃ m, W 0 m [] H1) ∧ ∀ i m ys H, W i m ys H → ys.length < sizeLine ∧ ((J.stop i H ∧ Z ys H) ∨ (J.go i H ∧ ∀ c x H', J.yld i H x H' → g c x (compS ix σ) H' fun σ2 H2 => tt c σ2 H2 fun b H3 =>
   (b = true ∧ te c σ2 H3 fun y H4 => ∃ m', m' < m ∧ W (i + 1) m' (ys ++ [y]) H4) ∨ (b = false ∧ ∃ m', m' < m ∧ W (i + 1) m' ys H3)))
def tComp (ix : List (Option Nat)) (wi : TI) (g : CP → TG) (tt : CP → TT) (te : CP → TE) : TE := fun σ H Q =>
 tCompZ ix wi g tt te σ H fun ys H1 => ∀ D, H1 D = none → Q (.ref D) (upd H1 D (.lst ys))
def sComp (ix : List (Option Nat)) (i : Nat) (wi : TI) (g : CP → TG) (tt : CP → TT) (te : CP → TE) : TS := fun D σ H =>
 tCompZ ix wi g tt te σ H fun ys H1 => ∀ p, H1 p = none → D.nx (σ.set i (some (.ref p))) (upd H1 p (.lst ys))
theorem comp_run {X : Cx} {scope : Scope} {cl : List (Str × Addr)} {N : List Str} {ix : List (Option Nat)} {elt tg iter : Expr} {ifs : List Expr} {pos pos' : Pos} {wi : TI} {g : CP → TG} {tt : CP → TT} {te : CP → TE}
  {pins : List (Addr × Obj)} {σ : St} {H : Hp} {s : Shared} {Z : List V → Hp → Prop} {use : Option (Value → Sem Unit)} {Q0 : Value → Shared → Prop}
  (k : CompOk X scope cl N ix) (hc : X.calm = true) (hi : PI X tg iter wi) (hg : ∀ c, PG (X.comp scope cl N c) tg (g c)) (ho : ∀ c σ, GOk (g c) (compS ix σ)) (ht : ∀ c, PIfs (X.comp scope cl N c) ifs (tt c)) (he : ∀ c, PE (X.comp scope cl N c) elt (te c))
  (hs : ∀ x, foldedSetIterable iter X.env x = pure x) (I : Inv X pins σ H s) (h : tCompZ ix wi g tt te σ H Z)
  (fin : ∀ (D C : Addr) (s' : Shared) (H' : Hp) (ys : List V) (m : Str → Option Value), Inv X pins σ (upd H' D (.lst ys)) s' → FpOk X pins (upd H' D (.lst ys)) C → s'.heap.Ns C m → H' D = none → Z ys H' → compPost (model X.prog X.w) X.A X.xe use Q0 (.ref D) C (.ok .next) s') :
  wpAny (model X.prog X.w) X.A (comprehension (.ListComp elt [⟨tg, iter, ifs, 0⟩] scope pos) scope X.env pos' (newList []) false (eval iter X.env) use) Q0 X.xe s := by
 have hnm : ∀ x ∈ scope.names, x.2 = .local → scope.names.lookup x.1 = some .local := fun x hx hl => by
  have q := List.all_eq_true.mp k.nms x hx
  rw [hl] at q
  simpa using q
 have hnc : ∀ x ∈ scope.names, x.2 ≠ .cell := fun x hx => by
  have q := List.all_eq_true.mp k.nocell x hx
  simpa using q
 refine wpAny_comprehension_free rfl hs k.clos k.kind hnm (thn (hi pins s σ H _ I h) fun v s1 h1 => thn h1 fun itv s2 h2 => ?_)
 obtain ⟨it, fp, tn, J, H2, e, I2, T, st2, f2, W, ⟨m0, w0⟩, step⟩ := h2
 subst e
 refine wpAny_newObj_type (wpAny_newFunctionEnv hnc (by intro y hy; simp at hy) (fun h3 hns hsb => ?_) k.kind)
 dsimp only at hns hsb ⊢
 generalize hD : s2.heap.objs.size = D at hns hsb ⊢
 generalize hP : s2.heap.push { cls := .type "list", dict := none, data := .seq ([] : List Value).toArray } = P2 at hns hsb ⊢
 generalize hCe : P2.objs.size = C at hns hsb ⊢
 have szC : C = D + 1 := by rw [← hCe, ← hP, Heap.size_push, hD]
 have hDC : D ≠ C := by rw [szC]; exact Nat.ne_of_lt (Nat.lt_succ_self _)
 have ltD : ∀ {b : Addr} {o : Obj}, s2.heap.get? b = some o → b < D := fun e => hD ▸ Heap.lt_size e
 have pD : P2.get? D = some { cls := .type "list", dict := none, data := .seq ([] : List Value).toArray } := by rw [← hP, ← hD]; exact Heap.get?_push_size _ rfl
 have old : ∀ b o, s2.heap.get? b = some o → h3.get? b = some o := fun b o e => by
  have lb := ltD e
  have nb : b ≠ C := by rw [szC]; exact Nat.ne_of_lt (Nat.lt_succ_of_lt lb)
  refine (hsb.2 b nb).trans ?_
  refine Heap.get?_push_of_some _ ?_
  rw [← hP]
  exact Heap.get?_push_of_some _ e
 have lst0 : h3.PlainList D #[] := ⟨_, (hsb.2 D hDC).trans (Heap.get?_push_of_some _ pD)⟩
 have lt2 : ∀ b ∈ fp, b < s2.heap.objs.size := fun b hb => let ⟨_, e, _⟩ := T.obj _ _ st2 b hb; Heap.lt_size e
 have f2' : ∀ b ∈ fp, FpOk X pins H2 b ∧ b < s2.heap.objs.size := fun b hb => ⟨f2 b hb, lt2 b hb⟩
 have leC : s2.heap.objs.size ≤ C := by rw [szC, hD]; exact Nat.le_succ _
 have leD : s2.heap.objs.size ≤ D := by rw [hD]; exact Nat.le_refl _
 have nD : D ∉ fp := fun z => Nat.lt_irrefl _ (hD ▸ lt2 D z)
 have nC : C ∉ fp := fun z => Nat.lt_irrefl _ (Nat.lt_of_lt_of_le (lt2 C z) leC)
 have st3 : tn 0 h3 := T.keep _ _ _ st2 fun b _ o e => old b o e
 generalize hY : X.comp scope cl N ⟨C, fp, s2, H2⟩ = Y
 have I3 : Inv Y [] (compS ix σ) H2 { s2 with heap := h3, toks := s2.toks + ([] : List (Str × Value)).length } := hY ▸ k.enter I2 f2' leC old hns
 have fpY : ∀ {H' : Hp}, (∀ b ∈ fp, H' b = none) → ∀ b ∈ fp, FpOk Y [] H' b := fun {H'} hn b hb => by
  subst hY
  obtain ⟨_, a1, a2, a3, a4, a5⟩ := f2 b hb
  refine ⟨hn b hb, Nat.ne_of_lt (Nat.lt_of_lt_of_le (lt2 b hb) leC), fun z => ?_, .inl hb, fun x c e => a4 x c (k.sub.get e), fun p hp => by cases hp⟩
  rcases List.mem_cons.mp (I2.stkSub b z) with e | e
  ·exact a1 e
  ·exact a2 e
 have nDs : D ∉ frs X.stack := fun z => by
  rcases List.mem_cons.mp (I2.stkSub D z) with e | e
  ·exact absurd I2.lt (by rw [← e]; exact Nat.not_lt.mpr leD)
  ·exact I2.nofs leD e
 have cD : ∀ x c, cl.lookup x = some c → c ≠ D := fun x c e z => by
  obtain ⟨v, o, ho, _⟩ := I2.cell x c (k.sub.get e)
  exact absurd (Heap.lt_size ho) (by rw [z]; exact Nat.not_lt.mpr leD)
 have prgY : Y.prog = X.prog := by rw [← hY]
 have wY : Y.w = X.w := by rw [← hY]
 have KY : Y.K = X.K := by rw [← hY]
 have AY : Y.A = X.A := by rw [← hY]
 have cY : Y.calm = true := by rw [← hY]; exact hc
 have xeY : Y.xe = fun _ _ => False := by rw [← hY]
 have envY : Y.env = compEnvC scope cl C X.env := by rw [← hY]
 have pinD : ∀ {σ' : St} {H' : Hp} {s' : Shared} {us : Array Value} {n0 : Nat}, Inv Y [] σ' H' s' → H' D = none → s'.heap.PlainList D us → s'.heap.get? D = some { cls := .type "list", data := .seq us n0 } → Inv Y [(D, { cls := .type "list", data := .seq us n0 })] σ' H' s' := fun I' hn _ e => I'.pins_of fun p hp => by
  have e1 : p = (D, _) := List.mem_singleton.mp hp
  subst e1
  exact ⟨e, hn, by rw [← hY]; exact hDC, by rw [← hY]; exact nDs, fun v z => by cases z⟩
 have fpD : ∀ {H' : Hp}, (∀ b ∈ fp, H' b = none) → ∀ (o : Obj), ∀ b ∈ fp, FpOk Y [(D, o)] H' b := fun {H'} hn o b hb => by
  obtain ⟨a0, a1, a2, a3, a4, a5⟩ := fpY hn b hb
  refine ⟨a0, a1, a2, a3, a4, fun p hp => ?_⟩
  rcases List.mem_append.mp hp with z | z
  ·exact a5 p (List.mem_append_left _ z)
  ·have e1 : p = (D, o) := List.mem_singleton.mp z
   subst e1
   exact fun z => by
    have z' : D = b := z
    rw [z'] at nD
    exact nD hb
 have leave : ∀ {s' : Shared} {H' : Hp} {ys : List V} {us : Array Value}, Inv Y [] (compS ix σ) H' s' → H' D = none → s'.heap.PlainList D us → Vals ys us.toList → ys.length ≤ sizeLine → Z ys H' → compPost (model X.prog X.w) X.A X.xe use Q0 (.ref D) C (.ok .next) s' := fun {s' H' ys us} I' hn hpl rv hl z => by
  subst hY
  have I4 : Inv X pins σ H' s' := I2.call' (ch := fp) I'.os I'.base I'.hok I'.bare fun b hb => let ⟨_, a1, _, a3, a4, a5⟩ := f2 b hb; ⟨a3, a1, a4, a5⟩
  have fD := I2.fpOk (H' := H') leD hn
  have ok : ObjOk X.prog X.w (upd H' D (.lst ys)) s'.heap D (.lst ys) := by
   obtain ⟨n, e⟩ := hpl
   exact ⟨hl, us.toList, n, rv, by simpa using e⟩
  have I5 : Inv X pins σ (upd H' D (.lst ys)) s' := by
   refine I4.track hn ?_ fD.2.2.2.2.2 fD.2.1 fD.2.2.2.2.1 ok
   refine Heap.get?_none_of_le (Nat.le_trans I2.sz leD)
  obtain ⟨m, hm, _⟩ := I'.loc
  have hC' : upd H' D (.lst ys) C = none := by
   rw [y7 (Ne.symm hDC)]
   exact I'.free
  exact fin D C s' H' ys m I5 (I2.fpOk leC hC') hm hn z
 have loop : codeAny (model X.prog X.w) X.A (.compLoop (.ListComp elt [⟨tg, iter, ifs, 0⟩] scope pos) 0 (.ref it) (.ref D) (compEnvC scope cl C X.env))
   (compPost (model X.prog X.w) X.A X.xe use Q0 (.ref D) C) { s2 with heap := h3, toks := s2.toks + ([] : List (Str × Value)).length } := by
  refine comp_loop (fun n s' => ∃ i H' ys us, Inv Y [] (compS ix σ) H' s' ∧ tn i s'.heap ∧ (∀ b ∈ fp, H' b = none) ∧ H' D = none ∧ s'.heap.PlainList D us ∧ Vals ys us.toList ∧ W i n ys H') ?_ m0
   ⟨0, H2, [], #[], I3, st3, fun b hb => (f2 b hb).1, I2.hok.fresh leD, lst0, .nil, w0⟩
  rintro n s4 ⟨i, H4, ys, us, I4, st4, fr4, d4, l4, v4, w4⟩ E
  obtain ⟨hl, step4⟩ := step i n ys H4 w4
  rcases step4 with ⟨stop, z⟩ | ⟨go, turn⟩
  ·obtain ⟨n0, e0⟩ := l4
   have I4' := pinD I4 d4 ⟨n0, e0⟩ e0
   have q := T.done Y prgY wY KY cY i _ s4 (compS ix σ) H4 E I4' (fpD fr4 _) st4 stop
   rw [AY] at q
   refine thn q fun r s5 q5 => .inl ⟨q5.1, ?_⟩
   have e5 := (q5.2.pin _ (List.mem_append_right _ List.mem_cons_self)).1
   exact leave (q5.2.pins_of fun p hp => by cases hp) d4 ⟨n0, e5⟩ v4 (Nat.le_of_lt hl) z
  ·obtain ⟨n0, e0⟩ := l4
   have I4' := pinD I4 d4 ⟨n0, e0⟩ e0
   have q := T.item Y prgY wY KY cY i _ s4 (compS ix σ) H4 E I4' (fpD fr4 _) st4 go
   rw [AY] at q
   refine thn q fun r s5 q5 => .inr ?_
   obtain ⟨v, er, q5⟩ := q5
   refine ⟨v, er, thn q5 fun _ s6 q6 => ?_⟩
   obtain ⟨x, H6, I6, r6, y6, st6, fr6⟩ := q6
   have I6' := I6.pinned (fpD fr6 _) (T.obj _ _ st6)
   have g6 := ho ⟨C, fp, s2, H2⟩ σ x H6 _ (turn ⟨C, fp, s2, H2⟩ x H6 y6)
   have inD : ∀ {l : List (Addr × Obj)}, (D, ({ cls := .type "list", data := .seq us n0 } : Obj)) ∈ Y.pn ++ ([(D, { cls := .type "list", data := .seq us n0 })] ++ l) := List.mem_append_right _ (List.mem_append_left _ List.mem_cons_self)
   have inF : ∀ {b : Addr} {o : Obj}, b ∈ fp → s6.heap.get? b = some o → (b, o) ∈ Y.pn ++ ([(D, ({ cls := .type "list", data := .seq us n0 } : Obj))] ++ pinsAt fp s6.heap) := fun hb e => List.mem_append_right _ (List.mem_append_right _ (mem_pinsAt hb e))
   have back : ∀ {σ7 : St} {H7 : Hp} {s7 : Shared}, Inv Y ([(D, { cls := .type "list", data := .seq us n0 })] ++ pinsAt fp s6.heap) σ7 H7 s7 → LeS (compS ix σ) σ7 → Inv Y [] (compS ix σ) H7 s7 ∧ tn (i + 1) s7.heap ∧ (∀ b ∈ fp, H7 b = none) ∧ H7 D = none ∧ s7.heap.PlainList D us := fun {σ7 H7 s7} I7 le => by
    refine ⟨(I7.weak le.len fun i v e => le.get e).pins_of (fun p hp => (by cases hp)), T.keep _ _ _ st6 fun b hb o e => (I7.pin _ (inF hb e)).1, fun b hb => ?_, (I7.pin _ inD).2.1, n0, (I7.pin _ inD).1⟩
    obtain ⟨o, e, _⟩ := T.obj _ _ st6 b hb
    exact (I7.pin _ (inF hb e)).2.1
   have hgY := hg ⟨C, fp, s2, H2⟩
   have htY := ht ⟨C, fp, s2, H2⟩
   have heY := he ⟨C, fp, s2, H2⟩
   rw [hY] at hgY htY heY
   have q7 := hgY _ s6 _ H6 x v _ I6' r6 g6
   rw [prgY, wY, AY, xeY, envY] at q7
   refine wpAny_mono q7 (fun _ s7 q7 => ?_) fun _ _ z => z.elim
   obtain ⟨σ7, H7, I7, le7, t7⟩ := q7
   have q8 := htY _ s7 σ7 H7 _ I7 t7
   rw [prgY, wY, AY, xeY, envY] at q8
   refine wpAny_mono q8 (fun ok s8 q8 => ?_) fun _ _ z => z.elim
   obtain ⟨H8, I8, q8⟩ := q8
   rcases q8 with ⟨eo, q8⟩ | ⟨eo, m', hm, w8⟩
   ·refine .inl ⟨eo, ?_⟩
    have q9 := heY _ s8 σ7 H8 _ I8 q8
    rw [prgY, wY, AY, xeY, envY] at q9
    refine wpAny_mono q9 (fun u s9 q9 => ?_) fun _ _ z => z.elim
    obtain ⟨y, H9, I9, r9, m', hm, w9⟩ := q9
    obtain ⟨J9, t9, f9, d9, l9⟩ := back I9 le7
    have hsz : us.size ≤ sizeLine := by
     have e1 : ys.length = us.toList.length := v4.length
     have e2 : us.toList.length = us.size := by simp
     exact Nat.le_of_lt (e2 ▸ e1 ▸ hl)
    refine wpAny_list_append_plain l9 (fun h10 l10 sb => ?_) hsz
    have J10 : Inv Y [] (compS ix σ) H9 { s9 with heap := h10 } := J9.turned (t' := s9.toks) (fun b o hb e => (sb.2 b hb).trans e) d9 (by rw [← hY]; exact hDC) (.inr (by rw [← hY]; exact leD)) (fun x c e => by rw [← hY] at e; exact cD x c e) fun p hp => by rw [← hY] at hp; cases hp
    refine ⟨m', hm, i + 1, H9, ys ++ [y], us.push u, J10, T.keep _ _ _ t9 fun b hb o e => (sb.2 b fun z => nD (z ▸ hb)).trans e, f9, d9, l10, ?_, w9⟩
    rw [Array.toList_push]
    exact v4.append (.cons r9 .nil)
   ·refine .inr ⟨eo, m', hm, i + 1, H8, ys, us, ?_⟩
    obtain ⟨J8, t8, f8, d8, l8⟩ := back I8 le7
    exact ⟨J8, t8, f8, d8, l8, v4, w8⟩
 exact codeAny_compStart_list loop (T.self _ 0 _ _ _ st3 loop)
def closL (scope : Scope) (env : Env) : List (Str × Addr) := scope.names.foldl (fun cs p => if p.2 == .free then (p.1, (env.cells.lookup p.1).getD 0) :: cs else cs) []
theorem Z3 {k : Option NameKind} (h : k = some .cell) : k ≠ some .local := fun z => by rw [h] at z; cases z
theorem wK {X : Cx} {scope : Scope} {N : List Str} {ix : List (Option Nat)} {elt tg iter : Expr} {ifs : List Expr} {pos : Pos} {wi : TI} {g : CP → TG} {tt : CP → TT} {te : CP → TE}
  (k : CompOk X scope (closL scope X.env) N ix) (hc : X.calm = true) (hi : PI X tg iter wi) (hg : ∀ c, PG (X.comp scope (closL scope X.env) N c) tg (g c)) (ho : ∀ c σ, GOk (g c) (compS ix σ)) (ht : ∀ c, PIfs (X.comp scope (closL scope X.env) N c) ifs (tt c)) (he : ∀ c, PE (X.comp scope (closL scope X.env) N c) elt (te c))
  (hs : ∀ x, foldedSetIterable iter X.env x = pure x := by intro _; rfl) : PE X (.ListComp elt [⟨tg, iter, ifs, 0⟩] scope pos) (tComp ix wi g tt te) := by
 intro pins s σ H Q I h
 rw [eval_ListComp]
 refine comp_run (use := none) k hc hi hg ho ht he hs I h fun D C s' H' ys m I' fC hm hn z => ?_
 refine ⟨m, hm, fun h' sb => ⟨.ref D, _, I'.turned (t' := s'.toks) (fun b o hb e => (sb.2 b hb).trans e) fC.1 fC.2.1 fC.2.2.2.1 fC.2.2.2.2.1 fC.2.2.2.2.2, rfl, z D hn⟩⟩
theorem kW {X : Cx} {scope : Scope} {N : List Str} {ix : List (Option Nat)} {elt tg iter : Expr} {ifs : List Expr} {pos ps pn : Pos} {wi : TI} {g : CP → TG} {tt : CP → TT} {te : CP → TE} {i : Nat} {x : Str}
  (hN : X.N.Nodup) (hx : X.N[i]? = some x) (hl : Loc X.env.scope x) (k : CompOk X scope (closL scope X.env) N ix) (hc : X.calm = true) (hi : PI X tg iter wi) (hg : ∀ c, PG (X.comp scope (closL scope X.env) N c) tg (g c)) (ho : ∀ c σ, GOk (g c) (compS ix σ)) (ht : ∀ c, PIfs (X.comp scope (closL scope X.env) N c) ifs (tt c))
  (he : ∀ c, PE (X.comp scope (closL scope X.env) N c) elt (te c)) (hsw : swapsWith (.ListComp elt [⟨tg, iter, ifs, 0⟩] scope pos) (some (.Name x pn)) ps.line X.env = pure true := by rfl)
  (hs : ∀ x, foldedSetIterable iter X.env x = pure x := by intro _; rfl) (hf : X.fn x = true ∨ X.env.scope.names.lookup x = some .local := by first | exact .inl rfl | exact .inr rfl | assumption) :
  PS X (.Assign [.Name x pn] (.ListComp elt [⟨tg, iter, ifs, 0⟩] scope pos) ps) (sComp ix i wi g tt te) := by
 intro pins s σ H D I h
 rw [exec_Assign_Name_used _ _ _ _ hsw]
 refine wpAny_bind (wpAny_standAt (wpAny_bind ?_))
 show wpAny _ _ (comprehension (.ListComp elt [⟨tg, iter, ifs, 0⟩] scope pos) scope X.env _ (newList []) false (eval iter X.env) (some (assign (.Name x pn) X.env)) >>= fun _ => _) _ _ s
 refine wpAny_bind (thn (comp_run (use := some (assign (.Name x pn) X.env)) (Q0 := fun _ s' => SP X pins D .next s') k hc hi hg ho ht he hs I h fun p C s' H' ys m I' fC hm hn z => ?_) fun _ s' q => wpAny_pure (wpAny_pure q))
 show wpAny _ _ (assign (.Name x pn) X.env (.ref p)) _ _ s'
 refine wpAny_assign_Name (store_ok2 (v := .ref p) I' hN hx hl rfl (fun s3 I3 same => ?_) hf)
 obtain ⟨b, sb, hb⟩ := same
 have nb : C ≠ b := by
  rcases hb with e | e
  ·rw [e]; exact fC.2.1
  ·exact Ne.symm (fC.2.2.2.2.1 x b e)
 refine ⟨m, hm.sameBut sb nb, fun h' sb' => ⟨_, _, I3.turned (t' := s3.toks) (fun c o hc e => (sb'.2 c hc).trans e) fC.1 fC.2.1 fC.2.2.2.1 fC.2.2.2.2.1 fC.2.2.2.2.2, z p hn⟩⟩
def CW (n : Nat) (Pv : Nat → List V → Hp → Prop) (i m : Nat) (ys : List V) (H : Hp) : Prop := m + i = n ∧ ys.length ≤ i ∧ Pv i ys H
theorem jq {J : It} {n : Nat} {ix : List (Option Nat)} {g : CP → TG} {tt : CP → TT} {te : CP → TE} {σ : St} {H1 : Hp} {Z : List V → Hp → Prop} (Pv : Nat → List V → Hp → Prop) (h0 : Pv 0 [] H1) (hn : n < sizeLine)
  (stop : ∀ ys H, Pv n ys H → J.stop n H ∧ Z ys H) (go : ∀ i ys H, i < n → Pv i ys H → J.go i H)
  (step : ∀ i m ys H c x H', i < n → Pv i ys H → J.yld i H x H' → (∀ y H4, Pv (i + 1) (ys ++ [y]) H4 → ∃ m', m' < m ∧ CW n Pv (i + 1) m' (ys ++ [y]) H4) → (∀ H4, Pv (i + 1) ys H4 → ∃ m', m' < m ∧ CW n Pv (i + 1) m' ys H4) → g c x (compS ix σ) H' fun σ2 H2 => tt c σ2 H2 fun b H3 => (b = true ∧ te c σ2 H3 fun y H4 => ∃ m', m' < m ∧ CW n Pv (i + 1) m' (ys ++ [y]) H4) ∨ (b = false ∧ ∃ m', m' < m ∧ CW n Pv (i + 1) m' ys H3)) :
  ∃ W : Nat → Nat → List V → Hp → Prop, (∃ m, W 0 m [] H1) ∧ ∀ i m ys H, W i m ys H → ys.length < sizeLine ∧ ((J.stop i H ∧ Z ys H) ∨ (J.go i H ∧ ∀ c x H', J.yld i H x H' → g c x (compS ix σ) H' fun σ2 H2 => tt c σ2 H2 fun b H3 =>
    (b = true ∧ te c σ2 H3 fun y H4 => ∃ m', m' < m ∧ W (i + 1) m' (ys ++ [y]) H4) ∨ (b = false ∧ ∃ m', m' < m ∧ W (i + 1) m' ys H3))) := by
 refine ⟨CW n Pv, ⟨n, by omega, Nat.le_refl _, h0⟩, ?_⟩
 rintro i m ys H ⟨hm, hl, p⟩
 refine ⟨by omega, ?_⟩
 by_cases hi : i < n
 ·refine .inr ⟨go i ys H hi p, fun c x H' hy => step i m ys H c x H' hi p hy (fun y H4 q => ⟨m - 1, by omega, by omega, ?_, q⟩) fun H4 q => ⟨m - 1, by omega, by omega, by omega, q⟩⟩
  rw [List.length_append, List.length_singleton]
  omega
 ·have e : i = n := by omega
  subst e
  exact .inl (stop ys H p)
theorem vy {J : It} {n : Nat} {g : TG} {tb : TS} {D : Ends} {σ : St} {H : Hp} (Pv : Nat → St → Hp → Prop) (h0 : Pv 0 σ H) (stop : ∀ σ H, Pv n σ H → J.stop n H ∧ D.nx σ H) (go : ∀ i σ H, i < n → Pv i σ H → J.go i H)
  (step : ∀ i σ H x H', i < n → Pv i σ H → J.yld i H x H' → g x σ H' fun σ2 H2 => tb { D with nx := Pv (i + 1), ct := Pv (i + 1), bk := D.nx } σ2 H2) :
  ∃ W : Nat → Nat → St → Hp → Prop, (∃ m, W 0 m σ H) ∧ ∀ i m σ H, W i m σ H → (J.stop i H ∧ D.nx σ H) ∨ (J.go i H ∧ ∃ N : St → Hp → Prop, (∀ σ' H', N σ' H' → ∃ m', m' < m ∧ W (i + 1) m' σ' H') ∧ ∀ x H', J.yld i H x H' → g x σ H' fun σ2 H2 => tb { D with nx := N, ct := N, bk := D.nx } σ2 H2) := by
 refine ⟨fun i m σ H => m + i = n ∧ Pv i σ H, ⟨n, by omega, h0⟩, ?_⟩
 rintro i m σ H ⟨hm, p⟩
 by_cases hi : i < n
 ·exact .inr ⟨go i σ H hi p, Pv (i + 1), fun σ' H' q => ⟨m - 1, by omega, by omega, q⟩, fun x H' y => step i σ H x H' hi p y⟩
 ·have e : i = n := by omega
  subst e
  exact .inl (stop σ H p)
end L2
namespace L2
open PySem PySem.Spec PyProof.Rows BP
theorem boot_all : bootBuiltins "all" = some (.builtin "all") := PyProof.Rows.boot_all
theorem boot_any : bootBuiltins "any" = some (.builtin "any") := by decide +kernel
theorem boot_zip : bootBuiltins "zip" = some (.type "zip") := PyProof.Rows.boot_zip
theorem boot_enumerate : bootBuiltins "enumerate" = some (.type "enumerate") := PyProof.Rows.boot_enumerate
theorem range_all (bs : List Bool) (tr : Nat → Bool) (h : ∀ i b, bs[i]? = some b → tr i = b) : (List.range bs.length).all tr = bs.all id := by
 induction bs generalizing tr with
 | nil => rfl
 | cons b r ih =>
  have q := ih (fun i => tr (i + 1)) fun i c e => h (i + 1) c (by simpa using e)
  rw [List.length_cons, List.range_succ_eq_map, List.all_cons, List.all_map, List.all_cons, h 0 b rfl]
  exact congrArg (b && ·) q
theorem range_any (bs : List Bool) (tr : Nat → Bool) (h : ∀ i b, bs[i]? = some b → tr i = b) : (List.range bs.length).any tr = bs.any id := by
 induction bs generalizing tr with
 | nil => rfl
 | cons b r ih =>
  have q := ih (fun i => tr (i + 1)) fun i c e => h (i + 1) c (by simpa using e)
  rw [List.length_cons, List.range_succ_eq_map, List.any_cons, List.any_map, List.any_cons, h 0 b rfl]
  exact congrArg (b || ·) q
theorem vals_bl : ∀ {bs : List Bool} {us : List Value}, Vals (bs.map V.bl) us → us = bs.map Value.bool
 | [], _, .nil => rfl
 | b :: r, _, .cons h t => by
  have e : _ = Value.bool b := h
  rw [e, vals_bl t]; rfl
section
variable {X : Cx}
theorem bools_walk {pins : List (Addr × Obj)} {σ : St} {H : Hp} {s : Shared} {p : Addr} {bs : List Bool} (hc : X.calm = true) (I : Inv X pins σ H s) (hq : SqL X.K H p (bs.map V.bl)) {R : (Nat → Bool) → Shared → Prop}
  (fin : ∀ (tr : Nat → Bool) (h' : Heap) (tk : Nat), (∀ i b, bs[i]? = some b → tr i = b) → Inv X pins σ H { s with heap := h', toks := tk } → R tr { s with heap := h', toks := tk }) {E : Value → Shared → Prop} :
  wpAny (model X.prog X.w) X.A.in1 (pyIter (.ref p)) (fun it s2 => ∃ I fp wr n P St tr, it = .ref I ∧ Walks X.prog X.w X.A.in1 I fp wr n P St ∧ St 0 s2.heap ∧ TruthOf X.prog X.w X.A.in1 P tr ∧ n = bs.length ∧ ∀ h' tk, (∀ b o, b ∉ wr → s2.heap.get? b = some o → h'.get? b = some o) → R tr { s2 with heap := h', toks := tk }) E s := by
 obtain ⟨its, rv, pl, hz⟩ := I.list hq
 have el := vals_bl rv
 refine wpAny_pyIter_list pl.isList ?_
 have ne : p ≠ s.heap.objs.size := Nat.ne_of_lt pl.lt
 refine ⟨s.heap.objs.size, _, _, _, _, _, fun i => bs.getD i true, rfl, Walks.list (A := X.A.in1) (I.ok.hd hc) _ p ne its.toArray, ⟨⟨_, Heap.get?_push_size _ rfl, rfl, rfl⟩, ?_⟩, fun i v s1 Q E' hv q => ?_, ?_, fun h' tk k => ?_⟩
 ·obtain ⟨o, e, r⟩ := pl.isList
  exact ⟨o, Heap.get?_push_of_some _ e, r⟩
 ·have hv' : its[i]? = some v := by simpa using hv
  rw [el, List.getElem?_map] at hv'
  cases hb : bs[i]? with
  | none => rw [hb] at hv'; cases hv'
  | some b =>
   rw [hb] at hv'
   have e : Value.bool b = v := Option.some.inj hv'
   subst e
   have e2 : bs.getD i true = b := by simp [List.getD, hb]
   have q : Q (bs.getD i true) s1 := q
   rw [e2] at q
   exact wpAny_truthy_bool q
 ·rw [el]; simp
 ·refine fin _ h' tk (fun i b e => by simp [List.getD, e]) (I.kept fun b u e => k b u (fun z => ?_) (Heap.get?_push_of_some _ e))
  have e1 : b = s.heap.objs.size := by simpa using z
  exact absurd (Heap.lt_size e) (by rw [e1]; exact Nat.lt_irrefl _)
theorem call_all (hc : X.calm = true) : CallR X (.builtin "all") (fun xs H Q => ∃ (p : Addr) (bs : List Bool), xs = [.ref p] ∧ SqL X.K H p (bs.map V.bl) ∧ Q (.bl (bs.all id)) H) := by
 intro pins s σ H xs us Q I r h
 obtain ⟨p, bs, rfl, hq, q⟩ := h
 obtain ⟨u, rfl, rx⟩ := vals1 r
 cases rx
 refine call_all_walk (thn (bools_walk hc I hq (R := fun tr s' => EP X pins σ Q (.bool ((List.range bs.length).all tr)) s') fun tr h' tk e I' => ⟨.bl (bs.all id), H, I', by rw [range_all bs tr e]; rfl, q⟩) ?_)
 rintro it s2 ⟨I', fp, wr, n, P, St, tr, e1, e2, e3, e4, rfl, e6⟩
 exact ⟨I', fp, wr, _, P, St, tr, e1, e2, e3, e4, e6⟩
theorem call_any (hc : X.calm = true) : CallR X (.builtin "any") (fun xs H Q => ∃ (p : Addr) (bs : List Bool), xs = [.ref p] ∧ SqL X.K H p (bs.map V.bl) ∧ Q (.bl (bs.any id)) H) := by
 intro pins s σ H xs us Q I r h
 obtain ⟨p, bs, rfl, hq, q⟩ := h
 obtain ⟨u, rfl, rx⟩ := vals1 r
 cases rx
 refine call_any_walk (thn (bools_walk hc I hq (R := fun tr s' => EP X pins σ Q (.bool ((List.range bs.length).any tr)) s') fun tr h' tk e I' => ⟨.bl (bs.any id), H, I', by rw [range_any bs tr e]; rfl, q⟩) ?_)
 rintro it s2 ⟨I', fp, wr, n, P, St, tr, e1, e2, e3, e4, rfl, e6⟩
 exact ⟨I', fp, wr, _, P, St, tr, e1, e2, e3, e4, e6⟩
end
def Itz (K : Fg9) (a b : Addr) : It :=
 ⟨fun i H => ∃ xs ys x y, SqL K H a xs ∧ SqL K H b ys ∧ xs[i]? = some x ∧ ys[i]? = some y, fun i H v H' => ∃ p x y, H p = none ∧ v = .ref p ∧ H' = upd H p (.tup [x, y]) ∧ (∀ xs, SqL K H a xs → xs[i]? = some x) ∧ ∀ ys, SqL K H b ys → ys[i]? = some y, fun i H => ∃ xs ys, SqL K H a xs ∧ SqL K H b ys ∧ (xs.length ≤ i ∨ ys.length ≤ i)⟩
theorem ty_ne {x y : String} (h : x ≠ y) : Value.type x ≠ Value.type y := fun q => h (Value.type.inj q)
structure ZipSt (z TI TO i1 i2 a b : Addr) (i : Nat) (h : Heap) : Prop where
 nd : [z, TI, TO, i1, i2].Nodup
 zip : IsZip h z TI TO .none
 its : IsPair h TI (.ref i1) (.ref i2)
 out : ∃ x y, IsPair h TO x y
 one : h.IsListIter i1 a i
 two : h.IsListIter i2 b i
theorem ZipSt.apart {z TI TO i1 i2 a b : Addr} {i : Nat} {h : Heap} {xs ys : Array Value} (t : ZipSt z TI TO i1 i2 a b i h) (ha : h.IsList a xs) (hb : h.IsList b ys) : ZipApart z TI TO i1 i2 a b := by
 have nd := t.nd
 simp only [List.nodup_cons, List.mem_cons, List.not_mem_nil, or_false, not_or, List.nodup_nil, and_true, not_false_eq_true] at nd
 obtain ⟨⟨n1, n2, n3, n4⟩, ⟨n5, n6, n7⟩, ⟨n8, n9⟩, n10⟩ := nd
 have lst : ∀ {c d : Addr} {zs : Array Value} {o : Obj}, h.IsList c zs → h.get? d = some o → o.cls ≠ .type "list" → c ≠ d := fun {c d zs o} hc e hn q => by
  obtain ⟨o', e', c', _⟩ := hc
  rw [q, e] at e'
  cases e'
  exact hn c'
 obtain ⟨x, y, ho⟩ := t.out
 obtain ⟨o1, e1, c1, _⟩ := t.one
 obtain ⟨o2, e2, c2, _⟩ := t.two
 have k1 : o1.cls ≠ .type "list" := by rw [c1]; exact ty_ne (by decide)
 have k2 : o2.cls ≠ .type "list" := by rw [c2]; exact ty_ne (by decide)
 exact { TIz := Ne.symm n1, TOz := Ne.symm n2, i1z := Ne.symm n3, i2z := Ne.symm n4, TITO := n5, TIi1 := n6, TIi2 := n7, TOi1 := n8, TOi2 := n9, i12 := n10, l1z := lst ha t.zip (ty_ne (by decide)), l1TO := lst ha ho (ty_ne (by decide)), l1i1 := lst ha e1 k1, l1i2 := lst ha e2 k2, l2z := lst hb t.zip (ty_ne (by decide)), l2TO := lst hb ho (ty_ne (by decide)), l2i1 := lst hb e1 k1, l2i2 := lst hb e2 k2 }
theorem Inv.turnedAll {X : Cx} {pins : List (Addr × Obj)} {σ : St} {H : Hp} {s : Shared} {h' : Heap} {t' : Nat} {fp : List Addr} (I : Inv X pins σ H s) (hf : ∀ b ∈ fp, FpOk X pins H b)
  (k : ∀ b o, b ∉ fp → s.heap.get? b = some o → h'.get? b = some o) : Inv X pins σ H { s with heap := h', toks := t' } := by
 have nf : ∀ b u, H b = some u → b ∉ fp := fun b u e z => by rw [(hf b z).1] at e; cases e
 refine I.step (g' := s.gens) (d' := s.drawn) (ch := fp) (fun b hb => ?_) (fun b o _ _ hc e _ => k b o hc e) (fun b o _ _ hc e _ => ⟨o.slots, k b o hc e⟩) (fun _ _ _ _ n => n)
  (fun b o hc e => ⟨o, k b o hc e⟩) (fun _ _ e => e) (fun _ _ _ e => e) (fun b ps e => ⟨#[], by rw [e]; simp⟩) (fun m hm => ?_) (fun b u e => ?_) I.bare
 ·obtain ⟨_, a1, _, a3, a4, a5⟩ := hf b hb
  exact ⟨a3, a1, a4, a5⟩
 ·obtain ⟨o, es, ep, ho, r⟩ := hm
  exact ⟨o, es, ep, k _ o (fun z => (hf _ z).2.1 rfl) ho, r⟩
 ·refine (I.hok b u e).stay (fun c v hc q => k c v ?_ q) (fun _ q => q) fun _ _ q => q
  rcases hc with z | z
  ·rw [z]; exact nf b u e
  ·exact nf c _ z
theorem pair_ok {P : Program} {w : World} {H : Hp} {h : Heap} {p : Addr} {x y : V} {u v : Value} (e : IsPair h p u v) (rx : RelV x u) (ry : RelV y v) : ObjOk P w H h p (.tup [x, y]) :=
 ⟨(show 2 ≤ sizeLine by decide), [u, v], .cons rx (.cons ry .nil), _, e, rfl, _, rfl⟩
theorem turn_zip {P : Program} {w : World} {K : Fg9} {es : List Expr} {k1 : Nat} {pt : Pos} (z TI TO i1 i2 a b : Addr) : Turn P w K (.Tuple es k1 pt) (Itz K a b) [z, TI, TO, i1, i2] z (ZipSt z TI TO i1 i2 a b) where
 mem := by simp
 obj := fun i h t c hc => by
  obtain ⟨x, y, ho⟩ := t.out
  obtain ⟨o1, e1, c1, d1⟩ := t.one
  obtain ⟨o2, e2, c2, d2⟩ := t.two
  simp only [List.mem_cons, List.not_mem_nil, or_false] at hc
  rcases hc with rfl | rfl | rfl | rfl | rfl
  ·exact ⟨_, t.zip, fun v q => by cases q⟩
  ·exact ⟨_, t.its, fun v q => by cases q⟩
  ·exact ⟨_, ho, fun v q => by cases q⟩
  ·exact ⟨_, e1, fun v q => by rw [d1] at q; cases q⟩
  ·exact ⟨_, e2, fun v q => by rw [d2] at q; cases q⟩
 keep := fun i h h' t k => by
  obtain ⟨x, y, ho⟩ := t.out
  exact ⟨t.nd, k z (by simp) _ t.zip, k TI (by simp) _ t.its, ⟨x, y, k TO (by simp) _ ho⟩, t.one.at fun o e => k i1 (by simp) o e, t.two.at fun o e => k i2 (by simp) o e⟩
 item := by
  intro X hP hw hK hc i pins s σ H E I hf t hg
  subst hP hw hK
  obtain ⟨xs, ys, x, y, qa, qb, hx, hy⟩ := hg
  obtain ⟨as, ra, pa, _⟩ := I.list qa
  obtain ⟨bs, rb, pb, _⟩ := I.list qb
  obtain ⟨u, hu, ru⟩ := ra.get hx
  obtain ⟨v, hv, rv⟩ := rb.get hy
  obtain ⟨x0, y0, ho⟩ := t.out
  have D := t.apart pa.isList pb.isList
  refine wpAny_pyNext_zip_item D t.zip t.its ho t.one t.two pa.isList pb.isList (x := u) (y := v) (by simpa using hu) (by simpa using hv) fun h1 a1 a2 a3 a4 a5 a6 hk => ⟨_, rfl, ?_⟩
  refine wpAny_letOwnedTupleGo_zip (s := { s with heap := h1 }) a1 fun h2 b1 sb => ?_
  have zl : z < s.heap.objs.size := Heap.lt_size t.zip
  have nz : s.heap.objs.size ≠ z := Nat.ne_of_gt zl
  have kp : ∀ c o, c ∉ [z, TI, TO, i1, i2] → s.heap.get? c = some o → h2.get? c = some o := fun c o hc e => by
   simp only [List.mem_cons, List.not_mem_nil, or_false, not_or] at hc
   exact (sb.2 c hc.1).trans (hk c o hc.1 hc.2.2.1 hc.2.2.2.1 hc.2.2.2.2 e)
  have I1 : Inv X pins σ H { s with heap := h2, toks := s.toks } := I.turnedAll hf kp
  have np : H s.heap.objs.size = none := I.hok.fresh (Nat.le_refl _)
  have pr : IsPair h2 s.heap.objs.size u v := (sb.2 _ nz).trans a5
  have I2 : Inv X pins σ (upd H s.heap.objs.size (.tup [x, y])) { s with heap := h2, toks := s.toks } := by
   have fo := I.fpOk (H' := H) (Nat.le_refl _) np
   refine I1.track np ?_ fo.2.2.2.2.2 fo.2.1 fo.2.2.2.2.1 (pair_ok pr ru rv)
   exact Heap.get?_none_of_le I.sz
  refine ⟨.ref s.heap.objs.size, _, I2, rfl, ⟨_, x, y, np, rfl, rfl, fun zs hz => by rw [I.list_inj hz qa]; exact hx, fun zs hz => by rw [I.list_inj hz qb]; exact hy⟩, ?_, fun c hc => ?_⟩
  ·have up : ∀ c o, c ≠ z → h1.get? c = some o → h2.get? c = some o := fun c o hc e => (sb.2 c hc).trans e
   refine ⟨t.nd, b1, up _ _ D.TIz (hk _ _ D.TIz D.TITO D.TIi1 D.TIi2 t.its), ⟨u, v, up _ _ D.TOz a2⟩, a3.at fun o e => up _ _ D.i1z e, a4.at fun o e => up _ _ D.i2z e⟩
  ·obtain ⟨c0, c1, _⟩ := hf c hc
   have ne : c ≠ s.heap.objs.size := fun q => by
    have ob : ∃ o, s.heap.get? c = some o := by
     obtain ⟨o1, e1, _⟩ := t.one
     obtain ⟨o2, e2, _⟩ := t.two
     simp only [List.mem_cons, List.not_mem_nil, or_false] at hc
     rcases hc with rfl | rfl | rfl | rfl | rfl
     ·exact ⟨_, t.zip⟩
     ·exact ⟨_, t.its⟩
     ·exact ⟨_, ho⟩
     ·exact ⟨_, e1⟩
     ·exact ⟨_, e2⟩
    obtain ⟨o, e⟩ := ob
    exact absurd (Heap.lt_size e) (by rw [q]; exact Nat.lt_irrefl _)
   rw [y7 ne]
   exact c0
 done := by
  intro X hP hw hK hc i pins s σ H E I hf t hg
  subst hP hw hK
  obtain ⟨xs, ys, qa, qb, hl⟩ := hg
  obtain ⟨as, ra, pa, _⟩ := I.list qa
  obtain ⟨bs, rb, pb, _⟩ := I.list qb
  obtain ⟨x0, y0, ho⟩ := t.out
  have D := t.apart pa.isList pb.isList
  have l1 := ra.length
  have l2 := rb.length
  refine wpAny_pyNext_zip_end (I.ok.hd hc) D t.zip t.its ho t.one t.two pa.isList pb.isList ?_ fun h1 hk => ⟨rfl, ?_⟩
  ·rcases hl with h | h
   ·exact .inl (by simp; omega)
   ·exact .inr (by simp; omega)
  ·refine I.turnedAll (t' := s.toks) hf fun c o hc e => ?_
   simp only [List.mem_cons, List.not_mem_nil, or_false, not_or] at hc
   exact hk c o hc.1 hc.2.2.1 hc.2.2.2.1 hc.2.2.2.2 e
 self := fun _ _ _ _ _ t h => wpAny_pyIter_zip t.zip h
def iZip (K : Fg9) (ta : TA) : TI := fun σ H R => ta σ H fun vs H1 => ∃ a b, vs = [.ref a, .ref b] ∧ (∃ xs, SqL K H1 a xs) ∧ (∃ ys, SqL K H1 b ys) ∧ R (Itz K a b) H1
theorem pi_zip {X : Cx} {es : List Expr} {k1 : Nat} {pt p pos : Pos} {e1 e2 : Expr} {ta : TA} (hg : Gl X "zip") (hm : X.mg "zip" = none) (ha : PA X [e1, e2] ta) (q1 : xy e1 = true := by rfl) (q2 : xy e2 = true := by rfl) :
  PI X (.Tuple es k1 pt) (.Call (.Name "zip" p) [e1, e2] [] pos) (iZip X.K ta) := by
 intro pins s σ H R I h
 have hpl : (backTo pos (starEach [e2] X.env)).any (·.1) = false := qZ (by simp [q2])
 refine Call_ (ld_blt I hg hm boot_zip (PyProof.Rows.callWith_type1 (thn (ha pos pins s σ H _ I h) fun us s1 ⟨vs, H1, I1, r1, q⟩ => ?_) (qz q1 _ _) hpl))
 obtain ⟨a, b, rfl, ⟨xs, qa⟩, ⟨ys, qb⟩, q⟩ := q
 obtain ⟨u, v, rfl, ra, rb⟩ := vals2 r1
 cases ra
 cases rb
 obtain ⟨as, _, pa, _⟩ := I1.list qa
 obtain ⟨bs, _, pb, _⟩ := I1.list qb
 refine call_zip_2 pa.isList pb.isList fun h2 z1 z2 z3 z4 z5 z6 kp => ?_
 refine wpAny_pyIter_zip z1 ?_
 have I2 : Inv X pins σ H1 { s1 with heap := h2, toks := s1.toks } := I1.kept kp
 refine ⟨_, _, _, _, H1, rfl, I2, turn_zip _ _ _ _ _ a b, ⟨?_, z1, z2, ⟨_, _, z3⟩, z4, z5⟩, fun c hc => ?_, q⟩
 ·simp
 ·have hc' : s1.heap.objs.size ≤ c := by
   simp only [List.mem_cons, List.not_mem_nil, or_false] at hc
   rcases hc with h | h | h | h | h <;> rw [h] <;> first | exact Nat.le_refl _ | exact Nat.le_add_right _ _
  exact I1.fpOk hc' (I1.hok.fresh hc')
def Ite (K : Fg9) (a : Addr) : It :=
 ⟨fun i H => ∃ xs x, SqL K H a xs ∧ xs[i]? = some x, fun i H v H' => ∃ p x, H p = none ∧ v = .ref p ∧ H' = upd H p (.tup [.int i, x]) ∧ ∀ xs, SqL K H a xs → xs[i]? = some x, fun i H => ∃ xs, SqL K H a xs ∧ xs.length ≤ i⟩
structure EnumSt (e it a : Addr) (i : Nat) (h : Heap) : Prop where
 ne : e ≠ it
 enm : ∃ old, IsEnum h e it i old
 one : h.IsListIter it a i
theorem turn_enum {P : Program} {w : World} {K : Fg9} {es : List Expr} {k1 : Nat} {pt : Pos} (e it a : Addr) : Turn P w K (.Tuple es k1 pt) (Ite K a) [e, it] e (EnumSt e it a) where
 mem := by simp
 obj := fun i h t c hc => by
  obtain ⟨old, e0⟩ := t.enm
  obtain ⟨o1, e1, c1, d1⟩ := t.one
  simp only [List.mem_cons, List.not_mem_nil, or_false] at hc
  rcases hc with rfl | rfl
  ·exact ⟨_, e0, fun v q => by cases q⟩
  ·exact ⟨_, e1, fun v q => by rw [d1] at q; cases q⟩
 keep := fun i h h' t k => by
  obtain ⟨old, e0⟩ := t.enm
  exact ⟨t.ne, ⟨old, k e (by simp) _ e0⟩, t.one.at fun o q => k it (by simp) o q⟩
 item := by
  intro X hP hw hK hc i pins s σ H E I hf t hg
  subst hP hw hK
  obtain ⟨xs, x, qa, hx⟩ := hg
  obtain ⟨as, ra, pa, _⟩ := I.list qa
  obtain ⟨u, hu, ru⟩ := ra.get hx
  obtain ⟨old, e0⟩ := t.enm
  refine wpAny_pyNext_enum_item e0 t.one pa.isList (x := u) (by simpa using hu) t.ne fun h1 a1 a2 a3 a4 hk => ⟨_, rfl, ?_⟩
  refine wpAny_letOwnedTupleGo_enum (s := { s with heap := h1, toks := s.toks + 1 }) a1 fun h2 b1 sb => ?_
  have el : e < s.heap.objs.size := Heap.lt_size e0
  have il : it < s.heap.objs.size := by obtain ⟨_, q, _⟩ := t.one; exact Heap.lt_size q
  have kp : ∀ c o, c ∉ [e, it] → s.heap.get? c = some o → h2.get? c = some o := fun c o hc q => by
   simp only [List.mem_cons, List.not_mem_nil, or_false, not_or] at hc
   exact (sb.2 c hc.1).trans (hk c o hc.1 hc.2 q)
  have I1 : Inv X pins σ H { s with heap := h2, toks := s.toks + 1 } := I.turnedAll hf kp
  have np : H s.heap.objs.size = none := I.hok.fresh (Nat.le_refl _)
  have pr : IsPair h2 s.heap.objs.size (.int i s.toks) u := (sb.2 _ (Nat.ne_of_gt el)).trans a3
  have I2 : Inv X pins σ (upd H s.heap.objs.size (.tup [.int i, x])) { s with heap := h2, toks := s.toks + 1 } := by
   have fo := I.fpOk (H' := H) (Nat.le_refl _) np
   refine I1.track np ?_ fo.2.2.2.2.2 fo.2.1 fo.2.2.2.2.1 (pair_ok pr ⟨_, rfl⟩ ru)
   exact Heap.get?_none_of_le I.sz
  refine ⟨.ref s.heap.objs.size, _, I2, rfl, ⟨_, x, np, rfl, rfl, fun zs hz => by rw [I.list_inj hz qa]; exact hx⟩, ⟨t.ne, ⟨u, b1⟩, a2.at fun o q => (sb.2 it (Ne.symm t.ne)).trans q⟩, fun c hc => ?_⟩
  obtain ⟨c0, c1, _⟩ := hf c hc
  have ne : c ≠ s.heap.objs.size := fun q => by
   simp only [List.mem_cons, List.not_mem_nil, or_false] at hc
   rcases hc with h | h
   ·rw [← h, q] at el
    exact Nat.lt_irrefl _ el
   ·rw [← h, q] at il
    exact Nat.lt_irrefl _ il
  rw [y7 ne]
  exact c0
 done := by
  intro X hP hw hK hc i pins s σ H E I hf t hg
  subst hP hw hK
  obtain ⟨xs, qa, hl⟩ := hg
  obtain ⟨as, ra, pa, _⟩ := I.list qa
  obtain ⟨old, e0⟩ := t.enm
  have l1 := ra.length
  refine wpAny_pyNext_enum_end (I.ok.hd hc) e0 t.one pa.isList (by simp; omega) fun h1 hk => ⟨rfl, ?_⟩
  refine I.turnedAll (t' := s.toks) hf fun c o hc q => ?_
  simp only [List.mem_cons, List.not_mem_nil, or_false, not_or] at hc
  exact hk c o hc.2 q
 self := fun A i s Q E t h => by
  obtain ⟨old, e0⟩ := t.enm
  exact wpAny_pyIter_enum e0 h
def iEnum (K : Fg9) (ta : TA) : TI := fun σ H R => ta σ H fun vs H1 => ∃ a, vs = [.ref a] ∧ (∃ xs, SqL K H1 a xs) ∧ R (Ite K a) H1
theorem pi_enum {X : Cx} {es : List Expr} {k1 : Nat} {pt p pos : Pos} {e1 : Expr} {ta : TA} (hg : Gl X "enumerate") (hm : X.mg "enumerate" = none) (ha : PA X [e1] ta) (q1 : xy e1 = true := by rfl) :
  PI X (.Tuple es k1 pt) (.Call (.Name "enumerate" p) [e1] [] pos) (iEnum X.K ta) := by
 intro pins s σ H R I h
 refine Call_ (ld_blt I hg hm boot_enumerate (PyProof.Rows.callWith_type1 (thn (ha pos pins s σ H _ I h) fun us s1 ⟨vs, H1, I1, r1, q⟩ => ?_) (qz q1 _ _) rfl))
 obtain ⟨a, rfl, ⟨xs, qa⟩, q⟩ := q
 obtain ⟨u, rfl, ra⟩ := vals1 r1
 cases ra
 obtain ⟨as, _, pa, _⟩ := I1.list qa
 refine call_enumerate_list pa.isList fun h2 z1 z2 z3 kp => ?_
 refine wpAny_pyIter_enum z1 ?_
 have I2 : Inv X pins σ H1 { s1 with heap := h2, toks := s1.toks } := I1.kept kp
 refine ⟨_, _, _, _, H1, rfl, I2, turn_enum _ _ a, ⟨Nat.succ_ne_self _, ⟨_, z1⟩, z2⟩, fun c hc => ?_, q⟩
 have hc' : s1.heap.objs.size ≤ c := by
  simp only [List.mem_cons, List.not_mem_nil, or_false] at hc
  rcases hc with h | h <;> rw [h] <;> first | exact Nat.le_refl _ | exact Nat.le_add_right _ _
 exact I1.fpOk hc' (I1.hok.fresh hc')
end L2
namespace L2
open PySem PySem.Spec PyProof.Rows BP
inductive DEq (K : Fg9) (H : Hp) : Nat → V → V → Prop where
 | flat {n : Nat} {x : V} (h : flatV x = true) : DEq K H n x x
 | same {n : Nat} (a : Addr) : DEq K H n (.ref a) (.ref a)
 | tup {n : Nat} {a b : Addr} {xs ys : List V} (ha : SqT K H a xs) (hb : SqT K H b ys) (hl : xs.length = ys.length) (h : ∀ (j : Nat) (x y : V), xs[j]? = some x → ys[j]? = some y → DEq K H n x y) : DEq K H (n + 1) (.ref a) (.ref b)
 | lst {n : Nat} {a b : Addr} {xs ys : List V} (ha : SqL K H a xs) (hb : SqL K H b ys) (hl : xs.length = ys.length) (h : ∀ (j : Nat) (x y : V), xs[j]? = some x → ys[j]? = some y → DEq K H n x y) : DEq K H (n + 1) (.ref a) (.ref b)
section
variable {X : Cx} {pins : List (Addr × Obj)} {σ : St} {H : Hp} {s : Shared}
end
end L2
namespace L2
open PySem PySem.Spec PyProof.Rows BP
section
variable {X : Cx}
end
end L2
namespace L2
open PySem PySem.Spec PyProof.Rows BP
section
variable {X : Cx}
end
end L2
namespace L2
open PySem PySem.Spec PyProof.Rows BP
section
variable {X : Cx} {pins : List (Addr × Obj)} {σ : St} {H : Hp} {s : Shared}
end
end L2
namespace BP
def absQ (q : Rat) : Rat := if q.num < 0 then -q else q
theorem absQ_nn (q : Rat) : 0 ≤ absQ q := by
 unfold absQ
 split
 ·exact Rat.num_nonneg.mp (by show 0 ≤ -q.num; omega)
 ·exact Rat.num_nonneg.mp (by omega)
theorem absQ_num (q : Rat) : (absQ q).num = (if q.num < 0 then -q.num else q.num) ∧ (absQ q).den = q.den := by
 unfold absQ
 split <;> exact ⟨rfl, rfl⟩
end BP
namespace L2
open PySem PySem.Spec PyProof.Rows BP
def RngAt (p : Addr) (n : Nat) (h : Heap) : Prop := ∃ t u v, IsRange h p 0 n 1 t u v
theorem boot_range : bootBuiltins "range" = some (.type "range") := PyProof.Rows.boot_range
theorem boot_divmod : bootBuiltins "divmod" = some (.builtin "divmod") := PyProof.Rows.boot_divmod
theorem boot_min : bootBuiltins "min" = some (.builtin "min") := PyProof.Rows.boot_min
theorem boot_set : bootBuiltins "set" = some (.type "set") := PyProof.Rows.boot_set
section
variable {X : Cx}
theorem call_range1 : CallR X (.type "range") (fun xs H Q => ∃ n : Nat, xs = [.int n] ∧ ∀ p, H p = none → Q (.ref p) (upd H p (.ext (RngAt p n)))) := by
 intro pins s σ H xs us Q I r h
 obtain ⟨n, rfl, q⟩ := h
 obtain ⟨u, rfl, t, rfl⟩ := vals1 r
 refine call_range_1 ⟨.ref s.heap.objs.size, _, I.laid (a := s.heap.objs.size) (o := .ext (RngAt s.heap.objs.size n)) (t' := s.toks + 1 + 1) (fun b o e => Heap.get?_push_of_some _ e) (Nat.le_refl _) ?_, rfl, q _ (I.hok.fresh (Nat.le_refl _))⟩
 exact ⟨⟨_, _, _, IsRange.new _ _ _ _ _ _ _⟩, ⟨_, Heap.get?_push_size _ rfl⟩, fun h1 h2 ⟨t, u, v, e⟩ k => ⟨t, u, v, k _ e⟩⟩
theorem vals_of_get : ∀ {xs : List V} {us : List Value}, xs.length = us.length → (∀ (j : Nat) (x : V) (u : Value), xs[j]? = some x → us[j]? = some u → RelV x u) → Vals xs us
 | [], [], _, _ => .nil
 | x :: xs, u :: us, hl, h => .cons (h 0 x u rfl rfl) (vals_of_get (by simpa using hl) fun j y v e1 e2 => h (j + 1) y v (by simpa using e1) (by simpa using e2))
 | [], _ :: _, hl, _ => by simp at hl
 | _ :: _, [], hl, _ => by simp at hl
theorem call_list_rng (hc : X.calm = true) : CallR X (.type "list") (fun xs H Q => ∃ (p : Addr) (n : Nat), xs = [.ref p] ∧ H p = some (.ext (RngAt p n)) ∧ n ≤ 1000 ∧ ∀ l, H l = none → Q (.ref l) (upd H l (.lst ((List.range n).map fun k : Nat => V.int (k : Int))))) := by
 intro pins s σ H xs us Q I r h
 obtain ⟨p, n, rfl, hp, small, q⟩ := h
 obtain ⟨u, rfl, rx⟩ := vals1 r
 cases rx
 obtain ⟨⟨t, u, v, e⟩, _, _⟩ := (show ObjOk X.prog X.w H s.heap p (.ext (RngAt p n)) from I.hok p _ hp)
 refine call_list_range (n := n) (I.ok.hd hc) e (small_one (by omega) (by omega) (by omega) (by omega)) (by rw [rangeSize_one]; split <;> omega) (by omega) fun h' tk acc' c' kp e' its => ?_
 obtain ⟨i1, i2⟩ := its
 have rv : Vals ((List.range n).map fun k : Nat => V.int (k : Int)) acc'.toList := by
  refine vals_of_get (by simp [i1]) fun j x u e1 e2 => ?_
  obtain ⟨t, rfl⟩ := i2 j u (by simpa using e2)
  have hj : j < n := by
   have := (List.getElem?_eq_some_iff.mp e1).1
   simpa using this
  have ex : V.int (j : Int) = x := by simpa [hj] using e1
  subst ex
  exact ⟨t, by simp⟩
 refine ⟨.ref s.heap.objs.size, _, I.laid (t' := tk) kp (Nat.le_refl _) (show ObjOk X.prog X.w _ h' _ (.lst _) from ⟨?_, acc'.toList, c', rv, by simpa using e'⟩), rfl, q _ (I.hok.fresh (Nat.le_refl _))⟩
 have hs : sizeLine = 16777216 := sizeLine_eq
 simp; omega
theorem ints_are : ∀ {ns : List Int} {us : List Value}, Vals (ns.map V.int) us → PyProof.Rows.IntsAre us ns
 | [], _, .nil => by constructor
 | n :: ns, _, .cons h t => by
  obtain ⟨k, rfl⟩ := h
  constructor
  exact ints_are t
theorem dedup_nodup : ∀ (xs acc : List Int), (acc ++ xs).Nodup → xs.foldl step_dedup acc = acc ++ xs
 | [], acc, _ => by simp
 | x :: xs, acc, h => by
  have hx : x ∉ acc := fun z => by
   rw [List.nodup_append] at h
   exact h.2.2 x z x List.mem_cons_self rfl
  have e : step_dedup acc x = acc ++ [x] := by
   unfold step_dedup
   simp [hx]
  rw [List.foldl_cons, e, dedup_nodup xs (acc ++ [x]) (by simpa using h)]
  simp
theorem firstMet_nodup {ns : List Int} (h : ns.Nodup) : firstMet (fun i => ns.getD i 0) ns.length = ns := by
 unfold firstMet
 have e : (List.range ns.length).map (fun i => ns.getD i 0) = ns := by
  apply List.ext_getElem?
  intro j
  by_cases hj : j < ns.length
  ·simp [hj, List.getD]
  ·simp [hj]
 rw [e, dedup_nodup ns [] (by simpa using h)]
 simp
theorem call_set_ints (hc : X.calm = true) : CallR X (.type "set") (fun xs H Q => ∃ (p : Addr) (ns : List Int), xs = [.ref p] ∧ SqL X.K H p (ns.map V.int) ∧ ns.length ≤ 100 ∧ ns.Nodup ∧ ∀ l S, H l = none → Q (.ref l) (upd H l (.set S ns.length))) := by
 intro pins s σ H xs us Q I r h
 obtain ⟨p, ns, rfl, hq, small, nd, q⟩ := h
 obtain ⟨u, rfl, rx⟩ := vals1 r
 cases rx
 obtain ⟨its, rv, pl, hz⟩ := I.list hq
 have hlen : its.length = ns.length := by rw [← rv.length, List.length_map]
 refine call_set_list (I.ok.hd hc) pl.isList (ns := ns) (by simpa using ints_are rv) (by rw [List.size_toArray, hlen]; exact Nat.lt_of_le_of_lt (show ns.length + 1 ≤ 101 by omega) (by decide)) fun h' tk hs kp => ?_
 have ez : its.toArray.size = ns.length := by rw [List.size_toArray, hlen]
 rw [ez, firstMet_nodup nd] at hs
 exact ⟨.ref s.heap.objs.size, _, I.laid (t' := tk) (fun b o e => kp b o (Heap.lt_size e) e) (Nat.le_refl _) (show ObjOk X.prog X.w _ h' _ (.set _ _) from hs), rfl, q _ _ (I.hok.fresh (Nat.le_refl _))⟩
theorem call_len_setV : CallR X (.builtin "len") (fun xs H Q => ∃ (p : Addr) (S : Int → Bool) (n : Nat), xs = [.ref p] ∧ H p = some (.set S n) ∧ n ≤ 100 ∧ Q (.int n) H) := by
 intro pins s σ H xs us Q I r h
 obtain ⟨p, S, n, rfl, hp, small, q⟩ := h
 obtain ⟨u, rfl, rx⟩ := vals1 r
 cases rx
 obtain ⟨o, es, ep, t, h1, h2, h3, _, _, _, h7, h8⟩ := (show ObjOk X.prog X.w H s.heap p (.set S n) from I.hok p _ hp)
 exact call_len_set h1 h2 h3 h7 (by omega) ⟨.int n, H, I.tok _, ⟨_, by rw [h8]⟩, q⟩
end
end L2
namespace BP
def D0 : Nat := 84000000000
def Bq (d b : Nat) (q : Rat) : Prop := q.den ∣ D0 ^ d ∧ q.num.natAbs ≤ 2 ^ b * q.den
theorem Bq.mono {d b d' b' : Nat} {q : Rat} (h : Bq d b q) (hd : d ≤ d') (hb : b ≤ b') : Bq d' b' q :=
 ⟨Nat.dvd_trans h.1 (Nat.pow_dvd_pow _ hd), Nat.le_trans h.2 (Nat.mul_le_mul_right _ (Nat.pow_le_pow_right (by decide) hb))⟩
theorem den_le {d : Nat} {q : Rat} (h : q.den ∣ D0 ^ d) : q.den < 2 ^ (37 * d + 1) := by
 have p : 0 < D0 ^ d := Nat.pow_pos (by decide)
 have k := Nat.le_of_dvd p h
 have l : D0 ^ d ≤ (2 ^ 37) ^ d := Nat.pow_le_pow_left (by decide) d
 rw [← Nat.pow_mul] at l
 have m : 2 ^ (37 * d) < 2 ^ (37 * d + 1) := Nat.pow_lt_pow_right (by decide) (Nat.lt_succ_self _)
 omega
theorem Bq.sm {d b : Nat} {q : Rat} (h : Bq d b q) : SmQ (b + (37 * d + 1)) q := by
 have k := den_le h.1
 constructor
 ·show q.num.natAbs < 2 ^ (b + (37 * d + 1))
  rw [Nat.pow_add]
  exact Nat.lt_of_le_of_lt h.2 (Nat.mul_lt_mul_of_pos_left k (Nat.pow_pos (by decide)))
 ·show (q.den : Int).natAbs < 2 ^ (b + (37 * d + 1))
  rw [Int.natAbs_natCast]
  exact Nat.lt_of_lt_of_le k (Nat.pow_le_pow_right (by decide) (by omega))
theorem Bq.of {d b : Nat} {t : Int} {m : Nat} (hm : 0 < m) (h1 : m ∣ D0 ^ d) (h2 : t.natAbs ≤ 2 ^ b * m) : Bq d b (Rat.divInt t m) := by
 have hne : (m : Int) ≠ 0 := by omega
 have e := n_rat (t := t) (b := (m : Int)) hne
 have s1 := sg_nt t (m : Int)
 have s2 := sg_nb t (m : Int)
 rw [e.1] at s1
 rw [e.2] at s2
 have a1 := congrArg Int.natAbs s1
 have a2 := congrArg Int.natAbs s2
 rw [Int.natAbs_mul, sg_abs] at a1 a2
 have g := gcd_pos (t := t) hne
 rw [Int.natAbs_natCast, Int.natAbs_natCast] at a2
 refine ⟨Nat.dvd_trans ⟨Int.gcd t m, by rw [Nat.mul_comm]; exact a2.symm⟩ h1, ?_⟩
 have h2 : Int.gcd t m * (Rat.divInt t m).num.natAbs ≤ 2 ^ b * (Int.gcd t m * (Rat.divInt t m).den) := by rw [a1, a2]; exact h2
 refine Nat.le_of_mul_le_mul_left (c := Int.gcd t m) ?_ g
 calc Int.gcd t m * (Rat.divInt t m).num.natAbs ≤ 2 ^ b * (Int.gcd t m * (Rat.divInt t m).den) := h2
  _ = Int.gcd t m * (2 ^ b * (Rat.divInt t m).den) := by rw [← Nat.mul_assoc, ← Nat.mul_assoc, Nat.mul_comm (2 ^ b)]
theorem Bq.mul {d b e c : Nat} {x y : Rat} (h : Bq d b x) (k : Bq e c y) : Bq (d + e) (b + c) (x * y) := by
 have r : x * y = Rat.divInt (x.num * y.num) ((x.den * y.den : Nat) : Int) := by
  rw [Int.natCast_mul, ← Rat.divInt_mul_divInt, Rat.num_divInt_den, Rat.num_divInt_den]
 rw [r]
 refine Bq.of (Nat.mul_pos x.den_pos y.den_pos) ?_ ?_
 ·rw [Nat.pow_add]; exact Nat.mul_dvd_mul h.1 k.1
 ·rw [Int.natAbs_mul, Nat.pow_add]
  calc x.num.natAbs * y.num.natAbs ≤ (2 ^ b * x.den) * (2 ^ c * y.den) := Nat.mul_le_mul h.2 k.2
   _ = 2 ^ b * 2 ^ c * (x.den * y.den) := by ac_rfl
theorem Bq.add {d b : Nat} {x y : Rat} (h : Bq d b x) (k : Bq d b y) : Bq d (b + 1) (x + y) := by
 obtain ⟨p, hp⟩ := h.1
 obtain ⟨q, hq⟩ := k.1
 have D : 0 < D0 ^ d := Nat.pow_pos (by decide)
 have ne : ((D0 ^ d : Nat) : Int) ≠ 0 := by omega
 have pp : p ≠ 0 := fun z => by rw [z, Nat.mul_zero] at hp; omega
 have qp : q ≠ 0 := fun z => by rw [z, Nat.mul_zero] at hq; omega
 have ex : x = Rat.divInt (x.num * (p : Int)) ((D0 ^ d : Nat) : Int) := by
  have e : ((D0 ^ d : Nat) : Int) = (x.den : Int) * (p : Int) := by rw [← Int.natCast_mul, ← hp]
  rw [e, Rat.divInt_mul_right (by omega), Rat.num_divInt_den]
 have ey : y = Rat.divInt (y.num * (q : Int)) ((D0 ^ d : Nat) : Int) := by
  have e : ((D0 ^ d : Nat) : Int) = (y.den : Int) * (q : Int) := by rw [← Int.natCast_mul, ← hq]
  rw [e, Rat.divInt_mul_right (by omega), Rat.num_divInt_den]
 have s : x + y = Rat.divInt (x.num * (p : Int) + y.num * (q : Int)) ((D0 ^ d : Nat) : Int) := by
  have z := Rat.divInt_add_divInt (x.num * (p : Int)) (y.num * (q : Int)) ne ne
  rw [← ex, ← ey] at z
  rw [z]
  have e : x.num * (p : Int) * ((D0 ^ d : Nat) : Int) + y.num * (q : Int) * ((D0 ^ d : Nat) : Int) = (x.num * (p : Int) + y.num * (q : Int)) * ((D0 ^ d : Nat) : Int) := by rw [Int.add_mul]
  rw [e, Rat.divInt_mul_right ne]
 rw [s]
 refine Bq.of D (Nat.dvd_refl _) ?_
 have a1 : (x.num * (p : Int)).natAbs ≤ 2 ^ b * D0 ^ d := by
  rw [Int.natAbs_mul, Int.natAbs_natCast, hp]
  calc x.num.natAbs * p ≤ 2 ^ b * x.den * p := Nat.mul_le_mul_right _ h.2
   _ = 2 ^ b * (x.den * p) := Nat.mul_assoc _ _ _
 have a2 : (y.num * (q : Int)).natAbs ≤ 2 ^ b * D0 ^ d := by
  rw [Int.natAbs_mul, Int.natAbs_natCast, hq]
  calc y.num.natAbs * q ≤ 2 ^ b * y.den * q := Nat.mul_le_mul_right _ k.2
   _ = 2 ^ b * (y.den * q) := Nat.mul_assoc _ _ _
 have a3 := Int.natAbs_add_le (x.num * (p : Int)) (y.num * (q : Int))
 have e : 2 ^ (b + 1) * D0 ^ d = 2 ^ b * D0 ^ d + 2 ^ b * D0 ^ d := by rw [Nat.pow_succ, Nat.mul_comm (2 ^ b) 2, Nat.mul_assoc, Nat.two_mul]
 omega
theorem Bq.zero (d b : Nat) : Bq d b 0 := ⟨Nat.one_dvd _, Nat.zero_le _⟩
theorem Bq.neg {d b : Nat} {q : Rat} (h : Bq d b q) : Bq d b (-q) := ⟨h.1, by show (-q.num).natAbs ≤ _; rw [Int.natAbs_neg]; exact h.2⟩
def Shr (q : Rat) : Prop := Bq 1 63 q
theorem shr_part {t : Int} {m : Nat} (h : m = 1 ∨ m = 2 ∨ m = 3 ∨ m = 4 ∨ m = 7 ∨ m = 1000000000) (ht : t.natAbs ≤ 2 ^ 63) : Shr (Rat.divInt t m) := by
 refine Bq.of (by omega) ?_ (Nat.le_trans ht (Nat.le_mul_of_pos_right _ (by omega)))
 rcases h with h | h | h | h | h | h <;> subst h <;> decide
def bentQ (q : Rat) : Rat := if 0 < q then q else 0
theorem Bq.bent {d b : Nat} {q : Rat} (h : Bq d b q) : Bq d b (bentQ q) := by
 unfold bentQ
 split
 ·exact h
 ·exact Bq.zero d b
end BP
namespace BP
end BP
namespace L2
open PySem PySem.Spec PyProof.Rows BP
end L2
namespace L2
open PySem PySem.Spec PyProof.Rows
section
variable {X : Cx}
end
end L2
namespace L2
open PySem PySem.Spec PyProof.Rows
section
variable {X : Cx}
theorem strs_are : ∀ {ys : List Str} {us : List Value}, Vals (ys.map V.str) us → StrsAre us ys
 | [], _, .nil => .nil
 | y :: ys, u :: us, .cons r t => by
  obtain ⟨tk, h⟩ := r
  subst h
  exact .cons _ _ (strs_are t)
theorem count_strs (k : Str) : ∀ ys : List Str, countIn (.str k) (ys.map PyData.str) = ((ys.countP (fun y => y == k) : Nat) : Int)
 | [] => rfl
 | y :: ys => by
  rw [List.map_cons, countIn, List.countP_cons, count_strs k ys]
  simp only [same]
  rcases Bool.eq_false_or_eq_true (y == k) with hb | hb <;> simp only [hb, Bool.false_eq_true, if_true, if_false] <;> push_cast <;> omega
def rCount (K : Fg9) : V → List V → Hp → VK → Prop := fun x vs H Q => ∃ (l : Addr) (ys : List Str) (k : Str), x = .ref l ∧ vs = [.str k] ∧ SqL K H l (ys.map V.str) ∧ Q (.int ((ys.countP (fun y => y == k) : Nat) : Int)) H
theorem mt_count : MtM X "list.count" (rCount X.K) := by
 intro pins s σ H x vs v us Q I rx rv h
 obtain ⟨l, ys, k, rfl, rfl, hq, q⟩ := h
 cases rx
 obtain ⟨u, rfl, ru⟩ := rv.one
 obtain ⟨t, rfl⟩ := ru
 obtain ⟨its, r, pl, hz⟩ := I.list hq
 refine count_list_strs pl.isList (strs_are r) ⟨.int _, H, I.tok _, ⟨_, by rw [count_strs]⟩, q⟩
end
end L2
namespace L2
open PySem PySem.Spec PyProof.Rows
section
variable {X : Cx}
inductive IsL (K : Fg9) (H : Hp) : V → String → Bool → Prop where
 | old {v : V} {s : String} {b : Bool} (h : IsI K H v s b) : IsL K H v s b
 | lstTup {a : Addr} {xs : List V} (h : SqL K H a xs) : IsL K H (.ref a) "tuple" false
 | tupList {a : Addr} {xs : List V} (h : SqT K H a xs) : IsL K H (.ref a) "list" false
 | intList (i : Int) : IsL K H (.int i) "list" false
 | intTup (i : Int) : IsL K H (.int i) "tuple" false
theorem call_isl : CallR X (.builtin "isinstance") (fun xs H Q => ∃ x T b, xs = [x, .ty T] ∧ IsL X.K H x T b ∧ Q (.bl b) H) := by
 intro pins s σ H xs us Q I r h
 obtain ⟨x, T, b, rfl, hi, q⟩ := h
 cases hi with
 | old h => exact wX pins s σ H _ us Q I r ⟨_, _, _, rfl, h, q⟩
 | lstTup h =>
  obtain ⟨u, u', rfl, rx, rt⟩ := vals2 r
  cases rt
  cases rx
  obtain ⟨its, _, p, _⟩ := I.list h
  obtain ⟨o, ho, hc, _⟩ := p.isList
  exact IsiPair.list_tuple ho hc ⟨.bl false, H, I.tok _, rfl, q⟩
 | tupList h =>
  obtain ⟨u, u', rfl, rx, rt⟩ := vals2 r
  cases rt
  cases rx
  obtain ⟨its, _, ⟨o, ho, hc, _⟩, _⟩ := I.tuple h
  exact IsiPair.tuple_list ho hc ⟨.bl false, H, I.tok _, rfl, q⟩
 | intList i =>
  obtain ⟨u, u', rfl, rx, rt⟩ := vals2 r
  cases rt
  obtain ⟨t, rfl⟩ := rx
  exact IsiPair.int_list ⟨.bl false, H, I.tok _, rfl, q⟩
 | intTup i =>
  obtain ⟨u, u', rfl, rx, rt⟩ := vals2 r
  cases rt
  obtain ⟨t, rfl⟩ := rx
  exact IsiPair.int_tuple ⟨.bl false, H, I.tok _, rfl, q⟩
end
end L2
namespace L2
open PySem PySem.Spec PyProof.Rows
section
variable {prog : Program} {w : World} {A : Around} {E : Value → Shared → Prop} {h : Heap} {gs : Array GenState} {dr : Drawn} {tk : Nat} {os : OsState}
def Gives (prog : Program) (w : World) (A : Around) (c b : Addr) (oc ob on : Obj) (x : Value) : Prop :=
 ∀ (E : Value → Shared → Prop) (h : Heap) (gs : Array GenState) (dr : Drawn) (tk : Nat) (os : OsState) (Q : Value → Shared → Prop), h.get? c = some oc → h.get? b = some ob → (∀ h', h'.get? c = some on → Heap.SameBut c h h' → Q x ⟨h', gs, dr, tk, os⟩) → wpAny (model prog w) A (Builtin.SmallTypes.nextOf (.ref c)) Q E ⟨h, gs, dr, tk, os⟩
def Stops (prog : Program) (w : World) (A : Around) (c b : Addr) (oc ob : Obj) : Prop :=
 ∀ (E : Value → Shared → Prop) (h : Heap) (gs : Array GenState) (dr : Drawn) (tk : Nat) (os : OsState) (Q : Value → Shared → Prop), h.get? c = some oc → h.get? b = some ob → (∀ h' e oe, Heap.ExtBut c h h' → h'.get? e = some oe → oe.cls = .type "StopIteration" → E (.ref e) ⟨h', gs, dr, tk, os⟩) → wpAny (model prog w) A (Builtin.SmallTypes.nextOf (.ref c)) Q E ⟨h, gs, dr, tk, os⟩
abbrev zobj (I O : Addr) (f0 : Value) : Obj := { cls := .type "zip", dict := none, data := .fields #[f0, .bool false, .bool false, .ref I, .ref O], slots := #[] }
abbrev pobj (x y : Value) : Obj := { cls := .type "tuple", data := .seq #[x, y] }
abbrev tobj (b : Addr) (n : Nat) : Obj := { cls := .type "tuple_iterator", data := .fields #[.ref b, .int n 0] }
def V4 (h : Heap) : List Obj → Heap
 | [] => h
 | o :: os => V4 (h.push o) os
theorem laidAll_old : ∀ (ls : List Obj) {h : Heap} {c : Addr} {o : Obj}, h.get? c = some o → (V4 h ls).get? c = some o
 | [], _, _, _, e => e
 | _ :: ls, _, _, _, e => laidAll_old ls (Heap.get?_push_of_some _ e)
theorem laidAll_new : ∀ (ls : List Obj) {h : Heap} {n : Nat} {o : Obj}, ls[n]? = some o → o.isFreed = false → (V4 h ls).get? (h.objs.size + n) = some o
 | [], _, _, _, e, _ => by cases e
 | p :: ls, h, 0, o, e, f => by
  cases e
  exact laidAll_old ls (Heap.get?_push_size _ f)
 | p :: ls, h, n + 1, o, e, f => by
  have r := laidAll_new ls (h := h.push p) (n := n) e f
  rw [Heap.size_push, Nat.add_assoc, Nat.add_comm 1 n] at r
  exact r
end
structure ZipStT (z I O i j a b : Addr) (n : Nat) (h : Heap) : Prop where
 nd : [z, I, O, i, j].Nodup
 zip : h.get? z = some (zobj I O .none)
 its : h.get? I = some (pobj (.ref i) (.ref j))
 out : ∃ x y, h.get? O = some (pobj x y)
 one : h.get? i = some (tobj a n)
 two : h.get? j = some (tobj b n)
 far : a ≠ O ∧ b ≠ O
end L2
namespace L2
open PySem PySem.Spec PyProof.Rows
section
variable {prog : Program} {w : World} {A : Around} {E : Value → Shared → Prop} {h : Heap} {gs : Array GenState} {dr : Drawn} {tk : Nat} {os : OsState}
abbrev tri (x y v : Value) : Obj := { cls := .type "tuple", data := .seq #[x, y, v] }
abbrev lobj (b : Addr) (n : Nat) : Obj := { cls := .type "list_iterator", data := .fields #[.ref b, .int n 0] }
theorem lst_gives {c b : Addr} {n m : Nat} {ob : Obj} {vs : Array Value} {x : Value} (hd : ob.data = .seq vs m) (hx : vs[n]? = some x) : Gives prog w A c b (lobj b n) ob (lobj b (n + 1)) x := by
 intro E h gs dr tk os Q e1 e2 k
 obtain ⟨oc, od, odt, osl⟩ := ob
 cases hd
 have ty : Shared.TypeIs ⟨h, gs, dr, tk, os⟩ (.ref c) "list_iterator" := ⟨_, e1, rfl⟩
 delta Builtin.SmallTypes.nextOf
 refine wpAny_bind (wpAny_callSpecial?_slot ty slot_listiter_next (wpAny_call_entry slot_listiter_next ty entry_listiter_next ?_ (args_listiter_next _)))
 wp_walk
 rw [Int.toNat_natCast, hx]
 wp_walk
 exact ⟨_, rfl, wpAny_pure (k _ (Heap.get?_update_self _ e1 rfl) (Heap.SameBut.update ..))⟩
theorem lst_stops {c b : Addr} {n m : Nat} {ob : Obj} {vs : Array Value} (hh : A.handled = none) (hd : ob.data = .seq vs m) (hx : vs[n]? = none) : Stops prog w A c b (lobj b n) ob := by
 intro E h gs dr tk os Q e1 e2 k
 obtain ⟨oc, od, odt, osl⟩ := ob
 cases hd
 have ty : Shared.TypeIs ⟨h, gs, dr, tk, os⟩ (.ref c) "list_iterator" := ⟨_, e1, rfl⟩
 have quiet : A.in1.handled = none := hh
 delta Builtin.SmallTypes.nextOf
 refine wpAny_bind (wpAny_callSpecial?_slot ty slot_listiter_next (wpAny_call_entry slot_listiter_next ty entry_listiter_next ?_ (args_listiter_next _)))
 wp_walk
 rw [Int.toNat_natCast, hx]
 wp_walk using wpAny_raiseNew_none quiet
 refine k _ _ _ (((Heap.SameBut.update ..).extBut.push _).push _) (Heap.get?_push_size _ rfl) rfl
theorem zip3_step {z I O i j l a b c : Addr} {oi oj ol oa ob oc oi' oj' ol' : Obj} {x y v p q r : Value} {Q : Fin → Shared → Prop}
  (hz : h.get? z = some (zobj I O .none)) (hI : h.get? I = some (tri (.ref i) (.ref j) (.ref l))) (hO : h.get? O = some (tri p q r)) (hi : h.get? i = some oi) (hj : h.get? j = some oj) (hl : h.get? l = some ol) (ha : h.get? a = some oa) (hb : h.get? b = some ob) (hc : h.get? c = some oc)
  (g1 : Gives prog w A i a oi oa oi' x) (g2 : Gives prog w A j b oj ob oj' y) (g3 : Gives prog w A l c ol oc ol' v)
  (nz : ∀ d ∈ [I, O, i, j, l, a, b, c], d ≠ z) (nO : ∀ d ∈ [i, j, l, a, b, c], d ≠ O) (ni : ∀ d ∈ [j, l, b, c], d ≠ i) (nj : ∀ d ∈ [l, c], d ≠ j)
  (k : ∀ h', h'.get? z = some (zobj I O (rawInt h.objs.size)) → h'.get? O = some (tri x y v) → h'.get? i = some oi' → h'.get? j = some oj' → h'.get? l = some ol' → h'.get? h.objs.size = some (tri x y v) → (∀ d o, d ∉ [z, O, i, j, l] → h.get? d = some o → h'.get? d = some o) → Q (.done (.ret (.ref h.objs.size))) ⟨h', gs, dr, tk, os⟩) :
  wpAny (model prog w) A (Builtin.«zip.__next__» ⟨[.ref z], []⟩) Q E ⟨h, gs, dr, tk, os⟩ := by
 simp only [List.mem_cons, List.not_mem_nil, or_false, forall_eq_or_imp, forall_eq] at nz nO ni nj
 obtain ⟨z1, z2, z3, z4, z4', z5, z6, z7⟩ := nz
 obtain ⟨o1, o2, o2', o3, o4, o5⟩ := nO
 obtain ⟨i1, i1', i2, i3⟩ := ni
 obtain ⟨j1, j2⟩ := nj
 delta Gives at g1 g2 g3
 repeat (first
  | with_reducible refine wpAny_onRaise ?_
  | ((with_reducible refine g1 _ _ _ _ _ _ _ ?p1 ?p2 ?_); (case p1 => exact Heap.get?_update_of_ne _ z3.symm hi); (case p2 => exact Heap.get?_update_of_ne _ z5.symm ha))
  | wp_step)
 intro h2 e2 s2
 have u2 : ∀ d, d ≠ z → d ≠ i → h2.get? d = h.get? d := fun d c1 c2 => (s2.2 d c2).trans (Heap.get?_update_other _ _ c1.symm)
 have y2 : h2.get? z = some (zobj I O .ellipsis) := (s2.2 z z3.symm).trans (Heap.get?_update_self _ hz rfl)
 have O2 := (u2 O z2 o1.symm).trans hO
 have j2' := (u2 j z4 i1).trans hj
 have b2 := (u2 b z6 i2).trans hb
 have l2 := (u2 l z4' i1').trans hl
 have c2 := (u2 c z7 i3).trans hc
 have t2 : h2.objs.size = h.objs.size := s2.1.trans (Heap.size_after_update ..)
 clear g1
 repeat (first
  | with_reducible refine wpAny_onRaise ?_
  | ((with_reducible refine g2 _ _ _ _ _ _ _ ?p1 ?p2 ?_); (case p1 => exact Heap.get?_update_of_ne _ o2.symm j2'); (case p2 => exact Heap.get?_update_of_ne _ o4.symm b2))
  | wp_step)
 intro h3 e3 s3
 have u3 : ∀ d, d ≠ O → d ≠ j → h3.get? d = h2.get? d := fun d c1 c2 => (s3.2 d c2).trans (Heap.get?_update_other _ _ c1.symm)
 have O3 : h3.get? O = some (tri x q r) := (s3.2 O o2.symm).trans (Heap.get?_update_self _ O2 rfl)
 have y3 : h3.get? z = some (zobj I O .ellipsis) := (u3 z z2.symm z4.symm).trans y2
 have i3' : h3.get? i = some oi' := (u3 i o1 i1.symm).trans e2
 have l3 := (u3 l o2' j1).trans l2
 have c3 := (u3 c o5 j2).trans c2
 have t3 : h3.objs.size = h.objs.size := (s3.1.trans (Heap.size_after_update ..)).trans t2
 have u : ∀ d o, d ∉ [z, O, i, j, l] → h.get? d = some o → h3.get? d = some o := fun d o hc e => by
  simp only [List.mem_cons, List.not_mem_nil, or_false, not_or] at hc
  rw [u3 d hc.2.1 hc.2.2.2.1, u2 d hc.1 hc.2.2.1]
  exact e
 clear g2 s2 s3 u2 u3 hz hI hO hi hj ha hb e2 y2 O2 j2' b2 hl hc l2 c2
 repeat (first
  | with_reducible refine wpAny_onRaise ?_
  | ((with_reducible refine g3 _ _ _ _ _ _ _ ?p1 ?p2 ?_); (case p1 => exact Heap.get?_update_of_ne _ o2'.symm l3); (case p2 => exact Heap.get?_update_of_ne _ o5.symm c3))
  | wp_step)
 intro h4 e4 s4
 have u4 : ∀ d, d ≠ O → d ≠ l → h4.get? d = h3.get? d := fun d c1 c2 => (s4.2 d c2).trans (Heap.get?_update_other _ _ c1.symm)
 have O4 : h4.get? O = some (tri x y r) := (s4.2 O o2'.symm).trans (Heap.get?_update_self _ O3 rfl)
 have y4 : h4.get? z = some (zobj I O .ellipsis) := (u4 z z2.symm z4'.symm).trans y3
 have i4 : h4.get? i = some oi' := (u4 i o1 i1'.symm).trans i3'
 have j4 : h4.get? j = some oj' := (u4 j o2 j1.symm).trans e3
 have t4 : h4.objs.size = h.objs.size := (s4.1.trans (Heap.size_after_update ..)).trans t3
 have u' : ∀ d o, d ∉ [z, O, i, j, l] → h.get? d = some o → h4.get? d = some o := fun d o hc e => by
  have e' := u d o hc e
  simp only [List.mem_cons, List.not_mem_nil, or_false, not_or] at hc
  rw [u4 d hc.2.1 hc.2.2.2.2]
  exact e'
 clear g3 s4 u4 u e3 O3 y3 i3' l3 c3
 wp_walk
 have t5 : ∀ F, (h4.update O F).objs.size = h.objs.size := fun F => (Heap.size_after_update ..).trans t4
 have lz : z ≠ h.objs.size := Nat.ne_of_lt (by rw [← t4]; exact Heap.lt_size y4)
 rw [t5]
 have up : ∀ {F G K : Obj → Obj} {o : Obj} (d : Addr) (v : Obj), d ≠ z → d ≠ O → h4.get? d = some v → ((((h4.update O F).push o).update z G).update z K).get? d = some v := fun d v c1 c2 e =>
  Heap.get?_update_of_ne _ c1.symm (Heap.get?_update_of_ne _ c1.symm (Heap.get?_push_of_some _ (Heap.get?_update_of_ne _ c2.symm e)))
 refine k _ ?_ ?_ (up i _ z3 o1 i4) (up j _ z4 o2 j4) (up l _ z4' o2' e4) ?_ fun d o hc e => ?_
 ·exact Heap.get?_update_self _ (Heap.get?_update_self _ (Heap.get?_push_of_some _ (Heap.get?_update_of_ne _ z2 y4)) rfl) rfl
 ·exact Heap.get?_update_of_ne _ z2.symm (Heap.get?_update_of_ne _ z2.symm (Heap.get?_push_of_some _ (Heap.get?_update_self _ O4 rfl)))
 ·exact Heap.get?_update_of_ne _ lz (Heap.get?_update_of_ne _ lz (Heap.get?_push_at (t5 _).symm rfl))
 ·have e' := u' d o hc e
  simp only [List.mem_cons, List.not_mem_nil, or_false, not_or] at hc
  exact up d o hc.1 hc.2.1 e'
theorem zip3_stop {z I O i j l a : Addr} {oi oa : Obj} {p q r : Value} {Q : Fin → Shared → Prop}
  (hz : h.get? z = some (zobj I O .none)) (hI : h.get? I = some (tri (.ref i) (.ref j) (.ref l))) (hO : h.get? O = some (tri p q r)) (hi : h.get? i = some oi) (ha : h.get? a = some oa)
  (g1 : Stops prog w A i a oi oa) (nz : ∀ c ∈ [I, O, i, a], c ≠ z)
  (k : ∀ h' e oe, (∀ c o, c ∉ [z, i] → h.get? c = some o → h'.get? c = some o) → h'.get? e = some oe → oe.cls = .type "StopIteration" → E (.ref e) ⟨h', gs, dr, tk, os⟩) :
  wpAny (model prog w) A (Builtin.«zip.__next__» ⟨[.ref z], []⟩) Q E ⟨h, gs, dr, tk, os⟩ := by
 simp only [List.mem_cons, List.not_mem_nil, or_false, forall_eq_or_imp, forall_eq] at nz
 obtain ⟨z1, z2, z3, z5⟩ := nz
 delta Stops at g1
 repeat (first
  | with_reducible refine wpAny_onRaise ?_
  | ((with_reducible refine g1 _ _ _ _ _ _ _ ?p1 ?p2 ?_); (case p1 => exact Heap.get?_update_of_ne _ z3.symm hi); (case p2 => exact Heap.get?_update_of_ne _ z5.symm ha))
  | wp_step)
 intro h2 e oe x2 he ce
 have y2 : h2.get? z = some (zobj I O .ellipsis) := x2 z _ z3.symm (Heap.get?_update_self _ hz rfl)
 have ez : e ≠ z := fun r => by
  rw [r, y2] at he
  cases he
  exact absurd ce (fun r => by simp at r)
 clear g1 hI hO hi ha
 wp_walk
 refine k _ e oe (fun c o hc r => ?_) (Heap.get?_update_of_ne _ ez.symm he) ce
 simp only [List.mem_cons, List.not_mem_nil, or_false, not_or] at hc
 exact Heap.get?_update_of_ne _ (Ne.symm hc.1) (x2 c o hc.2 (Heap.get?_update_of_ne _ (Ne.symm hc.1) r))
def Jx (s : Nat) (t u v : Addr) : List Obj := [lobj t 0, lobj u 0, lobj v 0, tri (.ref s) (.ref (s + 1)) (.ref (s + 2)), tri .none .none .none, zobj (s + 3) (s + 4) .none]
theorem zip3_made (t u v : Addr) (xs ys zs : Array Value) : Meets (Builtin.«zip.__new__» ⟨[.type "zip", .ref t, .ref u, .ref v], []⟩)
  (fun _ R s => s.heap.IsList t xs ∧ s.heap.IsList u ys ∧ s.heap.IsList v zs ∧ R (.ok (.ret (.ref (s.heap.objs.size + 5)))) { s with heap := V4 s.heap (Jx s.heap.objs.size t u v) }) := by
 refine .of_wp fun pr wo Ar R st hyp => ?_
 obtain ⟨hp, gg, dd, kk, oo⟩ := st
 obtain ⟨c1, c2, c3, c4⟩ := hyp
 have sb := sub_zip
 have one : ∀ o, (hp.push o).IsList u ys := fun o => Heap.IsList.push c2 o
 have two : ∀ o o', ((hp.push o).push o').IsList v zs := fun o o' => Heap.IsList.push (Heap.IsList.push c3 o) o'
 wp_walk using wpAny_pyIter_list (s := ⟨hp, gg, dd, kk, oo⟩) c1, wpAny_pyIter_list (s := ⟨hp.push _, gg, dd, kk, oo⟩) (one _), wpAny_pyIter_list (s := ⟨(hp.push _).push _, gg, dd, kk, oo⟩) (two _ _)
 refine ⟨_, rfl, ?_⟩
 simp only [Heap.size_push]
 exact c4
theorem init4 (a b c d : Value) : argsOk "object.__init__" ⟨[a, b, c, d], []⟩ := by
 delta argsOk
 rw [signature?_of (id := "object.__init__") (n := ['_', '_', 't', 'i', 'n', 'i', '_', '_']) (o := ['t', 'c', 'e', 'j', 'b', 'o']) (by kernel_rfl) F.owner_object]
 kernel_rfl
theorem zip3_called {s : Shared} {t u v : Addr} {xs ys zs : Array Value} {Q : Value → Shared → Prop} (ht : s.heap.IsList t xs) (hu : s.heap.IsList u ys) (hv : s.heap.IsList v zs)
  (q : Q (.ref (s.heap.objs.size + 5)) { s with heap := V4 s.heap (Jx s.heap.objs.size t u v) }) : wpAny (model prog w) A (call (.type "zip") [.ref t, .ref u, .ref v]) Q E s :=
 callType_new F.called_zip (by decide) (by kernel_rfl) (by kernel_rfl) (fun ob => init4 ob _ _ _) F.entry_zip_new (zip3_made t u v xs ys zs)
  ⟨ht, hu, hv, ⟨_, laidAll_new (Jx s.heap.objs.size t u v) (n := 5) rfl rfl, rfl⟩, q⟩
end
def Itz3 (K : Fg9) (a b c : Addr) : It :=
 ⟨fun i H => ∃ xs ys zs x y z, SqL K H a xs ∧ SqL K H b ys ∧ SqL K H c zs ∧ xs[i]? = some x ∧ ys[i]? = some y ∧ zs[i]? = some z, fun i H v H' => ∃ p x y z, H p = none ∧ v = .ref p ∧ H' = upd H p (.tup [x, y, z]) ∧ (∀ xs, SqL K H a xs → xs[i]? = some x) ∧ (∀ ys, SqL K H b ys → ys[i]? = some y) ∧ ∀ zs, SqL K H c zs → zs[i]? = some z, fun i H => ∃ xs ys zs, SqL K H a xs ∧ SqL K H b ys ∧ SqL K H c zs ∧ xs.length ≤ i⟩
structure ZipSt3 (z I O i j l a b c : Addr) (n : Nat) (h : Heap) : Prop where
 nd : [z, I, O, i, j, l].Nodup
 zip : h.get? z = some (zobj I O .none)
 its : h.get? I = some (tri (.ref i) (.ref j) (.ref l))
 out : ∃ x y v, h.get? O = some (tri x y v)
 one : h.get? i = some (lobj a n)
 two : h.get? j = some (lobj b n)
 thr : h.get? l = some (lobj c n)
theorem ZipSt3.has {z I O i j l a b c : Addr} {n : Nat} {h : Heap} (t : ZipSt3 z I O i j l a b c n h) {d : Addr} (hd : d ∈ [z, I, O, i, j, l]) : ∃ o, h.get? d = some o ∧ ∀ v, o.data ≠ .cell v := by
 obtain ⟨x, y, v, ho⟩ := t.out
 simp only [List.mem_cons, List.not_mem_nil, or_false] at hd
 rcases hd with rfl | rfl | rfl | rfl | rfl | rfl
 ·exact ⟨_, t.zip, fun _ q => nomatch q⟩
 ·exact ⟨_, t.its, fun _ q => nomatch q⟩
 ·exact ⟨_, ho, fun _ q => nomatch q⟩
 ·exact ⟨_, t.one, fun _ q => nomatch q⟩
 ·exact ⟨_, t.two, fun _ q => nomatch q⟩
 ·exact ⟨_, t.thr, fun _ q => nomatch q⟩
theorem lst_not {h : Heap} {c d : Addr} {vs : Array Value} {o : Obj} (hc : h.IsList c vs) (e : h.get? d = some o) (n : o.cls ≠ .type "list") : c ≠ d := fun q => by
 obtain ⟨o', e', k, _⟩ := hc
 rw [q, e] at e'
 cases e'
 exact n k
theorem ZipSt3.off {z I O i j l a b c d : Addr} {n : Nat} {h : Heap} {xs : Array Value} (t : ZipSt3 z I O i j l a b c n h) (hd : h.IsList d xs) : d ≠ z ∧ d ≠ O ∧ d ≠ i ∧ d ≠ j := by
 obtain ⟨x, y, v, ho⟩ := t.out
 exact ⟨lst_not hd t.zip (ty_ne (by decide)), lst_not hd ho (ty_ne (by decide)), lst_not hd t.one (ty_ne (by decide)), lst_not hd t.two (ty_ne (by decide))⟩
theorem ZipSt3.parts {z I O i j l a b c : Addr} {n : Nat} {h : Heap} {xs ys zs : Array Value} (t : ZipSt3 z I O i j l a b c n h) (ha : h.IsList a xs) (hb : h.IsList b ys) (hc : h.IsList c zs) :
  (∀ d ∈ [I, O, i, j, l, a, b, c], d ≠ z) ∧ (∀ d ∈ [i, j, l, a, b, c], d ≠ O) ∧ (∀ d ∈ [j, l, b, c], d ≠ i) ∧ ∀ d ∈ [l, c], d ≠ j := by
 have nd := t.nd
 simp only [List.nodup_cons, List.mem_cons, List.not_mem_nil, or_false, not_or, List.nodup_nil, and_true, not_false_eq_true] at nd
 obtain ⟨⟨n1, n2, n3, n4, n5⟩, -, ⟨n8, n9, n10⟩, ⟨n11, n12⟩, n13⟩ := nd
 have a' := t.off ha
 have b' := t.off hb
 have c' := t.off hc
 simp only [List.mem_cons, List.not_mem_nil, or_false, forall_eq_or_imp, forall_eq]
 exact ⟨⟨Ne.symm n1, Ne.symm n2, Ne.symm n3, Ne.symm n4, Ne.symm n5, a'.1, b'.1, c'.1⟩, ⟨Ne.symm n8, Ne.symm n9, Ne.symm n10, a'.2.1, b'.2.1, c'.2.1⟩, ⟨Ne.symm n11, Ne.symm n12, b'.2.2.1, c'.2.2.1⟩, Ne.symm n13, c'.2.2.2⟩
theorem tri_ok {P : Program} {w : World} {H : Hp} {h : Heap} {p : Addr} {x y z : V} {u v s : Value} (e : h.get? p = some (tri u v s)) (rx : RelV x u) (ry : RelV y v) (rz : RelV z s) : ObjOk P w H h p (.tup [x, y, z]) :=
 ⟨(show 3 ≤ sizeLine by decide), [u, v, s], .cons rx (.cons ry (.cons rz .nil)), _, e, rfl, _, rfl⟩
theorem turn_zip3 {P : Program} {w : World} {K : Fg9} {es : List Expr} {k1 : Nat} {pt : Pos} (z I O i j l a b c : Addr) : Turn P w K (.Tuple es k1 pt) (Itz3 K a b c) [z, I, O, i, j, l] z (ZipSt3 z I O i j l a b c) where
 mem := List.mem_cons_self ..
 obj := fun n h t d hd => t.has hd
 keep := fun n h h' t k => by
  obtain ⟨x, y, v, ho⟩ := t.out
  exact ⟨t.nd, k z (by simp) _ t.zip, k I (by simp) _ t.its, ⟨x, y, v, k O (by simp) _ ho⟩, k i (by simp) _ t.one, k j (by simp) _ t.two, k l (by simp) _ t.thr⟩
 item := by
  intro X hP hw hK hc n pins s σ H E Iv hf t hg
  subst hP hw hK
  obtain ⟨xs, ys, zs, x, y, v, qa, qb, qc, hx, hy, hv⟩ := hg
  obtain ⟨as, ra, pa, _⟩ := Iv.list qa
  obtain ⟨bs, rb, pb, _⟩ := Iv.list qb
  obtain ⟨cs, rc, pc, _⟩ := Iv.list qc
  obtain ⟨ux, hux, rux⟩ := ra.get hx
  obtain ⟨uy, huy, ruy⟩ := rb.get hy
  obtain ⟨uv, huv, ruv⟩ := rc.get hv
  obtain ⟨x0, y0, v0, ho⟩ := t.out
  obtain ⟨m1, m2, m3, m4⟩ := t.parts pa.isList pb.isList pc.isList
  obtain ⟨oa, ea, _, na, da⟩ := pa.isList
  obtain ⟨ob, eb, _, nb, db⟩ := pb.isList
  obtain ⟨oc, ec, _, nc, dc⟩ := pc.isList
  obtain ⟨hp, gg, dd, kk, oo⟩ := s
  have ty : Shared.TypeIs ⟨hp, gg, dd, kk, oo⟩ (.ref z) "zip" := ⟨_, t.zip, rfl⟩
  delta pyNext
  refine wpAny_bind (wpAny_attempt (wpAny_callSpecial?_slot ty F.slot_zip_next (wpAny_call_entry F.slot_zip_next ty F.entry_zip_next ?_ (F.args_zip_next_1 _))))
  refine zip3_step t.zip t.its ho t.one t.two t.thr ea eb ec (lst_gives da (x := ux) (by simpa using hux)) (lst_gives db (x := uy) (by simpa using huy)) (lst_gives dc (x := uv) (by simpa using huv)) m1 m2 m3 m4 fun h1 z1 o1 i1 j1 l1 p1 kp => ⟨_, rfl, wpAny_pure ⟨_, rfl, ?_⟩⟩
  refine wpAny_letOwnedTupleGo_zip (s := ⟨h1, gg, dd, kk, oo⟩) z1 fun h2 z2 sb => ?_
  have nz : hp.objs.size ≠ z := Nat.ne_of_gt (Heap.lt_size t.zip)
  have all : ∀ d o, d ∉ [z, I, O, i, j, l] → hp.get? d = some o → h2.get? d = some o := fun d o hd e => by
   have h4 : d ∉ [z, O, i, j, l] := fun q => hd (by simp only [List.mem_cons, List.not_mem_nil, or_false] at q ⊢; rcases q with q | q | q | q | q <;> simp [q])
   exact (sb.2 d fun q => hd (by simp [q])).trans (kp d o h4 e)
  have J1 : Inv X pins σ H ⟨h2, gg, dd, kk, oo⟩ := Iv.turnedAll (t' := kk) hf all
  have np : H hp.objs.size = none := Iv.hok.fresh (Nat.le_refl _)
  have J2 : Inv X pins σ (upd H hp.objs.size (.tup [x, y, v])) ⟨h2, gg, dd, kk, oo⟩ := by
   have fo := Iv.fpOk (H' := H) (Nat.le_refl _) np
   refine J1.track np (Heap.get?_none_of_le Iv.sz) fo.2.2.2.2.2 fo.2.1 fo.2.2.2.2.1 (tri_ok ((sb.2 _ nz).trans p1) rux ruy ruv)
  have cO : ∀ d ∈ [O, i, j, l], d ≠ z := fun d q => m1 d (by simp only [List.mem_cons, List.not_mem_nil, or_false] at q ⊢; rcases q with q | q | q | q <;> simp [q])
  have I4 : I ∉ [z, O, i, j, l] := fun q => by
   have nd := t.nd
   simp only [List.mem_cons, List.not_mem_nil, or_false] at q
   simp only [List.nodup_cons, List.mem_cons, List.not_mem_nil, or_false, not_or] at nd
   rcases q with q | q | q | q | q
   ·exact nd.1.1 q.symm
   ·exact nd.2.1.1 q
   ·exact nd.2.1.2.1 q
   ·exact nd.2.1.2.2.1 q
   ·exact nd.2.1.2.2.2 q
  refine ⟨.ref hp.objs.size, _, J2, rfl, ⟨_, x, y, v, np, rfl, rfl, fun ws hw => by rw [Iv.list_inj hw qa]; exact hx, fun ws hw => by rw [Iv.list_inj hw qb]; exact hy, fun ws hw => by rw [Iv.list_inj hw qc]; exact hv⟩, ⟨t.nd, z2, (sb.2 I (m1 I (by simp))).trans (kp I _ I4 t.its), ⟨ux, uy, uv, (sb.2 O (cO O (by simp))).trans o1⟩, (sb.2 i (cO i (by simp))).trans i1, (sb.2 j (cO j (by simp))).trans j1, (sb.2 l (cO l (by simp))).trans l1⟩, fun d hd => ?_⟩
  obtain ⟨o, e, _⟩ := t.has hd
  rw [y7 (Nat.ne_of_lt (Heap.lt_size e))]
  exact (hf d hd).1
 done := by
  intro X hP hw hK hc n pins s σ H E Iv hf t hg
  subst hP hw hK
  obtain ⟨xs, ys, zs, qa, qb, qc, hl⟩ := hg
  obtain ⟨as, ra, pa, _⟩ := Iv.list qa
  obtain ⟨bs, rb, pb, _⟩ := Iv.list qb
  obtain ⟨cs, rc, pc, _⟩ := Iv.list qc
  obtain ⟨x0, y0, v0, ho⟩ := t.out
  obtain ⟨m1, -, -, -⟩ := t.parts pa.isList pb.isList pc.isList
  obtain ⟨oa, ea, _, na, da⟩ := pa.isList
  have l1 := ra.length
  have hd := Iv.ok.hd hc
  obtain ⟨hp, gg, dd, kk, oo⟩ := s
  have ty : Shared.TypeIs ⟨hp, gg, dd, kk, oo⟩ (.ref z) "zip" := ⟨_, t.zip, rfl⟩
  delta pyNext
  refine wpAny_bind (wpAny_attempt (wpAny_callSpecial?_slot ty F.slot_zip_next (wpAny_call_entry F.slot_zip_next ty F.entry_zip_next ?_ (F.args_zip_next_1 _))))
  refine zip3_stop t.zip t.its ho t.one ea (lst_stops hd da (by simp; omega)) (fun d q => m1 d (by simp only [List.mem_cons, List.not_mem_nil, or_false] at q ⊢; rcases q with q | q | q | q <;> simp [q])) fun h1 e oe kp ee ce => ?_
  refine wpAny_bind (wpAny_isInstance (b := true) ⟨oe, ee, ce⟩ isSubtype_stop (wpAny_pure ⟨rfl, ?_⟩))
  exact Iv.turnedAll (t' := kk) hf fun d o hc e => kp d o (fun q => hc (by simp only [List.mem_cons, List.not_mem_nil, or_false] at q ⊢; rcases q with q | q <;> simp [q])) e
 self := fun _ _ _ _ _ t h => wpAny_pyIter_zip t.zip h
theorem vals3 {x y z : V} {us : List Value} (r : Vals [x, y, z] us) : ∃ u v s, us = [u, v, s] ∧ RelV x u ∧ RelV y v ∧ RelV z s := by
 cases r with
 | cons r1 r2 =>
  obtain ⟨v, s, rfl, r3, r4⟩ := vals2 r2
  exact ⟨_, _, _, rfl, r1, r3, r4⟩
def iZip3 (K : Fg9) (ta : TA) : TI := fun σ H R => ta σ H fun vs H1 => ∃ a b c, vs = [.ref a, .ref b, .ref c] ∧ (∃ xs, SqL K H1 a xs) ∧ (∃ ys, SqL K H1 b ys) ∧ (∃ zs, SqL K H1 c zs) ∧ R (Itz3 K a b c) H1
theorem pi_zip3 {X : Cx} {es : List Expr} {k1 : Nat} {pt p pos : Pos} {e1 e2 e3 : Expr} {ta : TA} (hg : Gl X "zip") (hm : X.mg "zip" = none) (ha : PA X [e1, e2, e3] ta) (q1 : xy e1 = true := by rfl) (q2 : xy e2 = true := by rfl) (q3 : xy e3 = true := by rfl) :
  PI X (.Tuple es k1 pt) (.Call (.Name "zip" p) [e1, e2, e3] [] pos) (iZip3 X.K ta) := by
 intro pins s σ H R I h
 have hpl : (backTo pos (starEach [e2, e3] X.env)).any (·.1) = false := qZ (by simp [q2, q3])
 refine Call_ (ld_blt I hg hm boot_zip (PyProof.Rows.callWith_type1 (thn (ha pos pins s σ H _ I h) fun us s1 ⟨vs, H1, I1, r1, q⟩ => ?_) (qz q1 _ _) hpl))
 obtain ⟨a, b, c, rfl, ⟨xs, qa⟩, ⟨ys, qb⟩, ⟨zs, qc⟩, q⟩ := q
 obtain ⟨u, v, s, rfl, ra, rb, rc⟩ := vals3 r1
 cases ra
 cases rb
 cases rc
 obtain ⟨as, _, pa, _⟩ := I1.list qa
 obtain ⟨bs, _, pb, _⟩ := I1.list qb
 obtain ⟨cs, _, pc, _⟩ := I1.list qc
 have new : ∀ (k : Nat) (o : Obj), (Jx s1.heap.objs.size a b c)[k]? = some o → o.isFreed = false → (V4 s1.heap (Jx s1.heap.objs.size a b c)).get? (s1.heap.objs.size + k) = some o := fun k o e f => laidAll_new _ e f
 refine zip3_called pa.isList pb.isList pc.isList (wpAny_pyIter_zip (new 5 _ rfl rfl) ?_)
 have I2 : Inv X pins σ H1 { s1 with heap := V4 s1.heap (Jx s1.heap.objs.size a b c), toks := s1.toks } := I1.kept fun c o e => laidAll_old _ e
 refine ⟨_, [s1.heap.objs.size + 5, s1.heap.objs.size + 3, s1.heap.objs.size + 4, s1.heap.objs.size, s1.heap.objs.size + 1, s1.heap.objs.size + 2], _, _, H1, rfl, I2, turn_zip3 _ _ _ _ _ _ a b c, ⟨by simp, new 5 _ rfl rfl, new 3 _ rfl rfl, ⟨_, _, _, new 4 _ rfl rfl⟩, new 0 _ rfl rfl, new 1 _ rfl rfl, new 2 _ rfl rfl⟩, fun d hd => ?_, q⟩
 have hc' : s1.heap.objs.size ≤ d := by
  simp only [List.mem_cons, List.not_mem_nil, or_false] at hd
  rcases hd with q | q | q | q | q | q <;> rw [q] <;> first | exact Nat.le_refl _ | exact Nat.le_add_right _ _
 exact I1.fpOk hc' (I1.hok.fresh hc')
end L2
namespace L2
open PySem PySem.Spec PyProof.Rows
section
variable {X : Cx}
end
end L2
namespace L2
open PySem PySem.Spec PyProof.Rows BP
section
variable {P : Program} {w : World} {H : Hp} {h : Heap} {a : Addr} {o : HO}
end
section
variable {X : Cx} {pins : List (Addr × Obj)} {σ : St} {H H' : Hp} {s s' : Shared} {h' B : Heap}
end
abbrev veB : List Value := [.type "ValueError", .type "Exception", .type "BaseException", .type "object"]
section
variable {X : Cx}
end
end L2
namespace L2
open PySem PySem.Spec PyProof.Rows BP
section
variable {X : Cx} {pins : List (Addr × Obj)} {σ : St} {H H1 H' : Hp} {s s1 s' : Shared} {h' B : Heap}
end
structure Under (K : Fg9) (C CB : Addr) : Prop where
 up : PySem.W.excIn K CB veB "ValueError.__new__" = true
 mro : PySem.W.mroIn K C (.ref CB) = some true
section
variable {X : Cx}
end
end L2
namespace L2
open PySem PySem.Spec PyProof.Rows BP
open PySem.Calls PySem.Builtin PySem.Builtin.ObjectAttr PySem.Builtin.Getset_descriptor
structure ExcCls (K : Fg9) (C : Addr) : Prop where
 cls : (PySem.W.clsIn K C).isSome = true
 ga : PySem.W.findIn K (.ref C) "__getattribute__" = some (some (.builtin "BaseException.__getattribute__"))
 hook : PySem.W.findIn K (.ref C) "__getattr__" = some none
 own : PySem.W.findIn K (.ref C) "__class__" = some (some (.builtin "object.__class__"))
 get : PySem.W.specialIn K (.builtin "object.__class__") "__get__" = some (some (.builtin "getset_descriptor.__get__"))
 takes : PySem.W.takesIn K (.builtin "object.__class__") = some true
 obj : PySem.W.mroIn K C (.type "object") = some true
 exc : PySem.W.mroIn K C (.type "BaseException") = some true
section
variable {K : Fg9} {C ea : Addr} {prog : Program} {w : World} {A : Around} {E : Value → Shared → Prop} {s : Shared}
end
end L2
namespace L2
open PySem PySem.Spec PyProof.Rows BP
section
variable {X : Cx} {e stp : Expr} {te : TE} {lo hi : Option Expr} {tl th ts : TO} {pos p2 : Pos}
end
end L2
namespace L2
open PySem PySem.Spec PyProof.Rows BP
section
variable {X : Cx} {tg : Expr}
end
section
variable {prog : Program} {w : World} {A : Around} {E : Value → Shared → Prop} {s : Shared} {I l : Addr}
end
section
variable {X : Cx}
end
end L2
namespace BP
open PySem PySem.NumText
end BP
namespace L2
open PySem PySem.Spec PyProof.Rows BP
section
variable {X : Cx}
inductive IsS (K : Fg9) (H : Hp) : V → Prop where
 | int (i : Int) : IsS K H (.int i)
 | bl (b : Bool) : IsS K H (.bl b)
 | non : IsS K H .non
 | tup {a : Addr} {xs : List V} (h : SqT K H a xs) : IsS K H (.ref a)
 | lst {a : Addr} {xs : List V} (h : SqL K H a xs) : IsS K H (.ref a)
 | dict {a : Addr} {kvs : List (Key × V)} (h : H a = some (.dK kvs)) : IsS K H (.ref a)
end
end L2
namespace BP
open PySem PySem.NumText L2
def valS (a : Str) : Nat := digitsVal a.cps.toList
def sgnS (s : Bool) : Str := if s then Str.ofString "-" else Str.empty
structure Pts (x : Str) (s : Bool) (ps : List Str) : Prop where
 sg : s = decide (x.cps.toList[0]? = some 45)
 eq : x = sgnS s ++ Str.join ⟨#[47]⟩ ps
 ne : ps ≠ []
 free : ∀ p ∈ ps, 47 ∉ p.cps.toList
def tv (s : Bool) (a : Str) : Int := if s then -(valS a : Int) else (valS a : Int)
end BP
namespace L2
open PySem PySem.Spec PyProof.Rows BP
section
variable {M : Model} {A : Around} {E : Value → Shared → Prop} {s : Shared} {B : Heap} {l : List Env} {e : Addr} {cls a0 : Value}
end
section
variable {X : Cx} {pins : List (Addr × Obj)} {σ : St} {H H' : Hp} {s s' : Shared} {h' B : Heap}
end
section
variable {X : Cx} {scope : Scope} {cl : List (Str × Addr)} {N : List Str} {ix : List (Option Nat)} {pins py : List (Addr × Obj)} {σ σy : St} {H1 H2 : Hp} {s1 s2 sx : Shared} {E : XK}
end
section
variable {A : Around} {prog : Program} {w : World} {s : Shared} {R : Result → Shared → Prop}
end
end L2
namespace L2
open PySem PySem.Spec PyProof.Rows BP
section
variable {X : Cx}
end
end L2
namespace L2
open PySem PySem.Spec PyProof.Rows BP
inductive IsA (K : Fg9) (H : Hp) : V → String → Bool → Prop where
 | old {v : V} {s : String} {b : Bool} (h : IsL K H v s b) : IsA K H v s b
 | blTup (b : Bool) : IsA K H (.bl b) "tuple" false
 | blList (b : Bool) : IsA K H (.bl b) "list" false
 | nonTup : IsA K H .non "tuple" false
 | nonList : IsA K H .non "list" false
 | strTup (z : Str) : IsA K H (.str z) "tuple" false
 | strList (z : Str) : IsA K H (.str z) "list" false
 | dictTup {a : Addr} {kvs : List (Key × V)} (h : H a = some (.dK kvs)) : IsA K H (.ref a) "tuple" false
 | dictList {a : Addr} {kvs : List (Key × V)} (h : H a = some (.dK kvs)) : IsA K H (.ref a) "list" false
section
variable {X : Cx}
theorem JJ : CallR X (.builtin "isinstance") (fun xs H Q => ∃ x T b, xs = [x, .ty T] ∧ IsA X.K H x T b ∧ Q (.bl b) H) := by
 intro pins s σ H xs us Q I r h
 obtain ⟨x, T, b, rfl, hi, q⟩ := h
 cases hi with
 | old h => exact call_isl pins s σ H _ us Q I r ⟨_, _, _, rfl, h, q⟩
 | blTup b => obtain ⟨u, u', rfl, rx, rt⟩ := vals2 r; cases rt; cases rx; exact IsiPair.bool_tuple ⟨.bl false, H, I.tok _, rfl, q⟩
 | blList b => obtain ⟨u, u', rfl, rx, rt⟩ := vals2 r; cases rt; cases rx; exact IsiPair.bool_list ⟨.bl false, H, I.tok _, rfl, q⟩
 | nonTup => obtain ⟨u, u', rfl, rx, rt⟩ := vals2 r; cases rt; cases rx; exact IsiPair.NoneType_tuple ⟨.bl false, H, I.tok _, rfl, q⟩
 | nonList => obtain ⟨u, u', rfl, rx, rt⟩ := vals2 r; cases rt; cases rx; exact IsiPair.NoneType_list ⟨.bl false, H, I.tok _, rfl, q⟩
 | strTup z => obtain ⟨u, u', rfl, rx, rt⟩ := vals2 r; cases rt; obtain ⟨t, rfl⟩ := rx; exact IsiPair.str_tuple ⟨.bl false, H, I.tok _, rfl, q⟩
 | strList z => obtain ⟨u, u', rfl, rx, rt⟩ := vals2 r; cases rt; obtain ⟨t, rfl⟩ := rx; exact IsiPair.str_list ⟨.bl false, H, I.tok _, rfl, q⟩
 | @dictTup ad kvs h =>
  obtain ⟨u, u', rfl, rx, rt⟩ := vals2 r
  cases rt
  cases rx
  obtain ⟨_, _, _, _, o, _, _, h1, h2, _⟩ := (show ObjOk X.prog X.w H s.heap ad (.dK kvs) from I.hok ad _ h)
  exact IsiPair.dict_tuple h1 h2.1 ⟨.bl false, H, I.tok _, rfl, q⟩
 | @dictList ad kvs h =>
  obtain ⟨u, u', rfl, rx, rt⟩ := vals2 r
  cases rt
  cases rx
  obtain ⟨_, _, _, _, o, _, _, h1, h2, _⟩ := (show ObjOk X.prog X.w H s.heap ad (.dK kvs) from I.hok ad _ h)
  exact IsiPair.dict_list h1 h2.1 ⟨.bl false, H, I.tok _, rfl, q⟩
end
end L2
namespace L2
open PySem PySem.Spec PyProof.Rows BP
inductive IsB (K : Fg9) (H : Hp) : V → String → Bool → Prop where
 | a {v : V} {s : String} {b : Bool} (h : IsA K H v s b) : IsB K H v s b
 | str (z : Str) : IsB K H (.str z) "str" true
 | noStr {v : V} (h : IsS K H v) : IsB K H v "str" false
section
variable {X : Cx}
end
end L2
namespace L2
open PySem PySem.Spec PyProof.Rows BP
section
variable {X : Cx}
def rNeT (K : Fg9) : R2 := fun x y H Q => ∃ a b xs ys, x = .ref a ∧ y = .ref b ∧ SqT K H a xs ∧ SqT K H b ys ∧ xs.all flatV = true ∧ ys.all flatV = true ∧ Q (.bl (!eqVs xs ys)) H
theorem op_neT (hu : X.A.units + 1 < cLine) : OpR X (compareOp .NotEq) (rNeT X.K) := by
 intro pins s σ H x y v u Q I rx ry h
 obtain ⟨a, b, xs, ys, rfl, rfl, ha, hb, fx, fy, q⟩ := h
 cases rx
 cases ry
 obtain ⟨its, r1, p1, _⟩ := I.tuple ha
 obtain ⟨its2, r2, p2, _⟩ := I.tuple hb
 have h1 := r1.length
 have h2 := r2.length
 refine SeqAt.RcNeAt.tuples (e := fun j => match xs[j]?, ys[j]? with | some x, some y => eqV x y | _, _ => true) p1 p2 (by omega) (fun j g1 g2 => ?_) _ _ _ _ ⟨.bl _, H, I, rfl, ?_⟩
 ·obtain ⟨x, e1, q1⟩ := JX r1 j (by simpa using g1)
  obtain ⟨y, e2, q2⟩ := JX r2 j (by simpa using g2)
  rw [e1, e2]
  exact eqAt_V (by simpa using q1) (by simpa using q2) (flat_at fx e1) (flat_at fy e2)
 ·rw [List.size_toArray, List.size_toArray, ← h1, ← h2, Vv xs ys _ fun j x y e1 e2 => by rw [e1, e2]]
  exact q
end
end L2
namespace L2
open PySem PySem.Spec PyProof.Rows BP
def PL (K : Fg9) (H : Hp) (xs : List V) (ts : List (Int × Int)) : Prop := xs.length = ts.length ∧ ∀ (j : Nat) (x : V) (t : Int × Int), xs[j]? = some x → ts[j]? = some t → ∃ a, x = .ref a ∧ SqT K H a [.int t.1, .int t.2]
def rEqQ (K : Fg9) : R2 := fun x y H Q => ∃ p r xs ys t1 t2, x = .ref p ∧ y = .ref r ∧ SqL K H p xs ∧ SqL K H r ys ∧ PL K H xs t1 ∧ PL K H ys t2 ∧ t1.length = t2.length ∧ Q (.bl (decide (t1 = t2))) H
theorem list_ext_all {α : Type} [DecidableEq α] {l m : List α} (h : l.length = m.length) : (List.range l.length).all (fun j => decide (l[j]? = m[j]?)) = decide (l = m) := by
 by_cases e : l = m
 ·subst e
  rw [decide_eq_true rfl]
  exact List.all_eq_true.mpr fun j _ => decide_eq_true rfl
 ·rw [decide_eq_false e]
  refine Bool.eq_false_iff.mpr fun k => e (List.ext_getElem? fun j => ?_)
  by_cases hj : j < l.length
  ·exact of_decide_eq_true (List.all_eq_true.mp k j (List.mem_range.mpr hj))
  ·rw [List.getElem?_eq_none (by omega), List.getElem?_eq_none (by omega)]
section
variable {X : Cx} {pins : List (Addr × Obj)} {σ : St} {H : Hp} {s : Shared}
theorem ref_val {a : Addr} {u : Value} (h : RelV (.ref a) u) : u = .ref a := by
 cases h
 rfl
theorem pairs_eq (t u : Int × Int) : eqVs [.int t.1, .int t.2] [.int u.1, .int u.2] = decide (t = u) := by
 obtain ⟨t1, t2⟩ := t
 obtain ⟨u1, u2⟩ := u
 show (eqV (.int t1) (.int u1) && (eqV (.int t2) (.int u2) && true)) = _
 have e : ∀ x y : Int, eqV (.int x) (.int y) = decide (x = y) := fun x y => by unfold eqV; rfl
 rw [e, e, Bool.and_true, ← Bool.decide_and]
 exact decide_eq_decide.mpr ⟨fun z => by rw [z.1, z.2], fun z => ⟨congrArg Prod.fst z, congrArg Prod.snd z⟩⟩
theorem pair_eqAt (I : Inv X pins σ H s) {a b : Addr} {t u : Int × Int} (ha : SqT X.K H a [.int t.1, .int t.2]) (hb : SqT X.K H b [.int u.1, .int u.2]) {A : Around} (hu : A.units + 3 < cLine) : SeqAt.EqAt A s (.ref a) (.ref b) (decide (t = u)) := by
 by_cases hab : a = b
 ·subst hab
  have e := I.tuple_inj ha hb
  have k := pairs_eq t u
  rw [e, eqVs_self (xs := [V.int u.1, V.int u.2]) rfl] at k
  rw [← k]
  exact SeqAt.EqAt.same _
 ·obtain ⟨its, r1, p1, _⟩ := I.tuple ha
  obtain ⟨its2, r2, p2, _⟩ := I.tuple hb
  have h1 := r1.length
  have h2 := r2.length
  have q := SeqAt.RcAt.tuples (A := A) (e := fun j => match [V.int t.1, V.int t.2][j]?, [V.int u.1, V.int u.2][j]? with | some x, some y => eqV x y | _, _ => true) p1 p2 (by omega) fun j g1 g2 => by
   obtain ⟨x, e1, q1⟩ := JX r1 j (by simpa using g1)
   obtain ⟨y, e2, q2⟩ := JX r2 j (by simpa using g2)
   rw [e1, e2]
   exact eqAt_V (by simpa using q1) (by simpa using q2) (flat_at (xs := [V.int t.1, V.int t.2]) rfl e1) (flat_at (xs := [V.int u.1, V.int u.2]) rfl e2)
  rw [List.size_toArray, List.size_toArray, ← h1, ← h2, Vv [V.int t.1, V.int t.2] [V.int u.1, V.int u.2] _ fun j x y e1 e2 => by rw [e1, e2], pairs_eq] at q
  exact SeqAt.EqAt.of_refs hab q
theorem op_eqQ (hu : X.A.units + 64 < cLine) : OpR X (compareOp .Eq) (rEqQ X.K) := by
 intro pins s σ H x y v u Q I rx ry h
 obtain ⟨p, r, xs, ys, t1, t2, rfl, rfl, ha, hb, k1, k2, hl, q⟩ := h
 cases rx
 cases ry
 obtain ⟨its, r1, p1, _⟩ := I.list ha
 obtain ⟨its2, r2, p2, _⟩ := I.list hb
 have h1 := r1.length
 have h2 := r2.length
 have l1 := k1.1
 have l2 := k2.1
 refine SeqAt.eq_listAt (e := fun j => decide (t1[j]? = t2[j]?)) p1.isList p2.isList (by simp only [List.size_toArray]; omega) (by omega) (fun j g1 g2 => ?_) ⟨.bl (decide (t1 = t2)), H, I, ?_, q⟩
 ·have j0 : j < its.length := by rw [← List.size_toArray]; exact g1
  have j2 : j < its2.length := by rw [← List.size_toArray]; exact g2
  obtain ⟨x, e1, q1⟩ := JX r1 j j0
  obtain ⟨y, e2, q2⟩ := JX r2 j j2
  have f1 : t1[j]? = some t1[j] := gE9 (by omega)
  have f2 : t2[j]? = some t2[j] := gE9 (by omega)
  obtain ⟨a, rfl, ka⟩ := k1.2 j x _ e1 f1
  obtain ⟨b, rfl, kb⟩ := k2.2 j y _ e2 f2
  have w1 : its.toArray[j] = Value.ref a := (List.getElem_toArray ..).trans (ref_val q1)
  have w2 : its2.toArray[j] = Value.ref b := (List.getElem_toArray ..).trans (ref_val q2)
  have z := pair_eqAt I ka kb (A := X.A.in1) (by show X.A.units + 1 + 3 < cLine; omega)
  have e : decide (t1[j]? = t2[j]?) = decide (t1[j] = t2[j]) := by rw [f1, f2]; exact decide_eq_decide.mpr ⟨Option.some.inj, congrArg some⟩
  rw [e, w1, w2]
  exact z
 ·rw [List.size_toArray, ← h1, l1, list_ext_all hl]
  rfl
def rNeE (K : Fg9) : R2 := fun x y H Q => ∃ p r xs, x = .ref p ∧ y = .ref r ∧ SqL K H p xs ∧ SqL K H r [] ∧ Q (.bl (!xs.isEmpty)) H
theorem op_neE (hu : X.A.units + 1 < cLine) : OpR X (compareOp .NotEq) (rNeE X.K) := by
 intro pins s σ H x y v u Q I rx ry h
 obtain ⟨p, r, xs, rfl, rfl, ha, hb, q⟩ := h
 cases rx
 cases ry
 obtain ⟨its, r1, p1, _⟩ := I.list ha
 obtain ⟨its2, r2, p2, _⟩ := I.list hb
 cases r2
 cases xs with
 | nil =>
  cases r1
  exact SeqAt.RcNeAt.lists (e := fun _ => true) p1.isList p2.isList rfl (by omega) (fun j g1 g2 => absurd g1 (by simp)) _ _ _ _ ⟨.bl false, H, I, rfl, q⟩
 | cons z zs =>
  cases r1 with
  | cons h t => exact SeqAt.RcNeAt.lists_lengths p1.isList p2.isList (by simp) (by omega) _ _ _ _ ⟨.bl true, H, I, rfl, q⟩
end
end L2
namespace L2
open PySem
section
variable {X : Cx}
theorem seq_cut {t u : TS} {D : Ends} {σ : St} {H : Hp} (h : ∀ N : St → Hp → Prop, N = u D → t { D with nx := N } σ H) : tSeq t u D σ H := h _ rfl
def bS (s : Stmt) (i : Nat) : Stmt := (qJ s).getD i (.Pass ⟨0, 0, 0, 0⟩)
abbrev pZ : Stmt := .Pass ⟨0, 0, 0, 0⟩
theorem body2 {s : Stmt} {t0 t1 : TS} (hb : qJ s = [bS s 0, bS s 1]) (h0 : PS X (bS s 0) t0) (h1 : PS X (bS s 1) t1) {D : Ends} {σ : St} {H : Hp} (k : let u0 := t0; let u1 := t1; (tSeq u0 u1) D σ H) : ∃ t, PSs X (qJ s) t ∧ t D σ H := by
 refine ⟨(tSeq t0 t1), ?_, k⟩
 rw [hb]
 exact (qW h0 (qV h1))
theorem body3 {s : Stmt} {t0 t1 t2 : TS} (hb : qJ s = [bS s 0, bS s 1, bS s 2]) (h0 : PS X (bS s 0) t0) (h1 : PS X (bS s 1) t1) (h2 : PS X (bS s 2) t2) {D : Ends} {σ : St} {H : Hp} (k : let u0 := t0; let u1 := t1; let u2 := t2; (tSeq u0 (tSeq u1 u2)) D σ H) : ∃ t, PSs X (qJ s) t ∧ t D σ H := by
 refine ⟨(tSeq t0 (tSeq t1 t2)), ?_, k⟩
 rw [hb]
 exact (qW h0 (qW h1 (qV h2)))
theorem body4 {s : Stmt} {t0 t1 t2 t3 : TS} (hb : qJ s = [bS s 0, bS s 1, bS s 2, bS s 3]) (h0 : PS X (bS s 0) t0) (h1 : PS X (bS s 1) t1) (h2 : PS X (bS s 2) t2) (h3 : PS X (bS s 3) t3) {D : Ends} {σ : St} {H : Hp} (k : let u0 := t0; let u1 := t1; let u2 := t2; let u3 := t3; (tSeq u0 (tSeq u1 (tSeq u2 u3))) D σ H) : ∃ t, PSs X (qJ s) t ∧ t D σ H := by
 refine ⟨(tSeq t0 (tSeq t1 (tSeq t2 t3))), ?_, k⟩
 rw [hb]
 exact (qW h0 (qW h1 (qW h2 (qV h3))))
theorem body5 {s : Stmt} {t0 t1 t2 t3 t4 : TS} (hb : qJ s = [bS s 0, bS s 1, bS s 2, bS s 3, bS s 4]) (h0 : PS X (bS s 0) t0) (h1 : PS X (bS s 1) t1) (h2 : PS X (bS s 2) t2) (h3 : PS X (bS s 3) t3) (h4 : PS X (bS s 4) t4) {D : Ends} {σ : St} {H : Hp} (k : let u0 := t0; let u1 := t1; let u2 := t2; let u3 := t3; let u4 := t4; (tSeq u0 (tSeq u1 (tSeq u2 (tSeq u3 u4)))) D σ H) : ∃ t, PSs X (qJ s) t ∧ t D σ H := by
 refine ⟨(tSeq t0 (tSeq t1 (tSeq t2 (tSeq t3 t4)))), ?_, k⟩
 rw [hb]
 exact (qW h0 (qW h1 (qW h2 (qW h3 (qV h4)))))
theorem body6 {s : Stmt} {t0 t1 t2 t3 t4 t5 : TS} (hb : qJ s = [bS s 0, bS s 1, bS s 2, bS s 3, bS s 4, bS s 5]) (h0 : PS X (bS s 0) t0) (h1 : PS X (bS s 1) t1) (h2 : PS X (bS s 2) t2) (h3 : PS X (bS s 3) t3) (h4 : PS X (bS s 4) t4) (h5 : PS X (bS s 5) t5) {D : Ends} {σ : St} {H : Hp} (k : let u0 := t0; let u1 := t1; let u2 := t2; let u3 := t3; let u4 := t4; let u5 := t5; (tSeq u0 (tSeq u1 (tSeq u2 (tSeq u3 (tSeq u4 u5))))) D σ H) : ∃ t, PSs X (qJ s) t ∧ t D σ H := by
 refine ⟨(tSeq t0 (tSeq t1 (tSeq t2 (tSeq t3 (tSeq t4 t5))))), ?_, k⟩
 rw [hb]
 exact (qW h0 (qW h1 (qW h2 (qW h3 (qW h4 (qV h5))))))
theorem body7 {s : Stmt} {t0 t1 t2 t3 t4 t5 t6 : TS} (hb : qJ s = [bS s 0, bS s 1, bS s 2, bS s 3, bS s 4, bS s 5, bS s 6]) (h0 : PS X (bS s 0) t0) (h1 : PS X (bS s 1) t1) (h2 : PS X (bS s 2) t2) (h3 : PS X (bS s 3) t3) (h4 : PS X (bS s 4) t4) (h5 : PS X (bS s 5) t5) (h6 : PS X (bS s 6) t6) {D : Ends} {σ : St} {H : Hp} (k : let u0 := t0; let u1 := t1; let u2 := t2; let u3 := t3; let u4 := t4; let u5 := t5; let u6 := t6; (tSeq u0 (tSeq u1 (tSeq u2 (tSeq u3 (tSeq u4 (tSeq u5 u6)))))) D σ H) : ∃ t, PSs X (qJ s) t ∧ t D σ H := by
 refine ⟨(tSeq t0 (tSeq t1 (tSeq t2 (tSeq t3 (tSeq t4 (tSeq t5 t6)))))), ?_, k⟩
 rw [hb]
 exact (qW h0 (qW h1 (qW h2 (qW h3 (qW h4 (qW h5 (qV h6)))))))
theorem body8 {s : Stmt} {t0 t1 t2 t3 t4 t5 t6 t7 : TS} (hb : qJ s = [bS s 0, bS s 1, bS s 2, bS s 3, bS s 4, bS s 5, bS s 6, bS s 7]) (h0 : PS X (bS s 0) t0) (h1 : PS X (bS s 1) t1) (h2 : PS X (bS s 2) t2) (h3 : PS X (bS s 3) t3) (h4 : PS X (bS s 4) t4) (h5 : PS X (bS s 5) t5) (h6 : PS X (bS s 6) t6) (h7 : PS X (bS s 7) t7) {D : Ends} {σ : St} {H : Hp} (k : let u0 := t0; let u1 := t1; let u2 := t2; let u3 := t3; let u4 := t4; let u5 := t5; let u6 := t6; let u7 := t7; (tSeq u0 (tSeq u1 (tSeq u2 (tSeq u3 (tSeq u4 (tSeq u5 (tSeq u6 u7))))))) D σ H) : ∃ t, PSs X (qJ s) t ∧ t D σ H := by
 refine ⟨(tSeq t0 (tSeq t1 (tSeq t2 (tSeq t3 (tSeq t4 (tSeq t5 (tSeq t6 t7))))))), ?_, k⟩
 rw [hb]
 exact (qW h0 (qW h1 (qW h2 (qW h3 (qW h4 (qW h5 (qW h6 (qV h7))))))))
theorem body9 {s : Stmt} {t0 t1 t2 t3 t4 t5 t6 t7 t8 : TS} (hb : qJ s = [bS s 0, bS s 1, bS s 2, bS s 3, bS s 4, bS s 5, bS s 6, bS s 7, bS s 8]) (h0 : PS X (bS s 0) t0) (h1 : PS X (bS s 1) t1) (h2 : PS X (bS s 2) t2) (h3 : PS X (bS s 3) t3) (h4 : PS X (bS s 4) t4) (h5 : PS X (bS s 5) t5) (h6 : PS X (bS s 6) t6) (h7 : PS X (bS s 7) t7) (h8 : PS X (bS s 8) t8) {D : Ends} {σ : St} {H : Hp} (k : let u0 := t0; let u1 := t1; let u2 := t2; let u3 := t3; let u4 := t4; let u5 := t5; let u6 := t6; let u7 := t7; let u8 := t8; (tSeq u0 (tSeq u1 (tSeq u2 (tSeq u3 (tSeq u4 (tSeq u5 (tSeq u6 (tSeq u7 u8)))))))) D σ H) : ∃ t, PSs X (qJ s) t ∧ t D σ H := by
 refine ⟨(tSeq t0 (tSeq t1 (tSeq t2 (tSeq t3 (tSeq t4 (tSeq t5 (tSeq t6 (tSeq t7 t8)))))))), ?_, k⟩
 rw [hb]
 exact (qW h0 (qW h1 (qW h2 (qW h3 (qW h4 (qW h5 (qW h6 (qW h7 (qV h8)))))))))
theorem body13 {s : Stmt} {t0 t1 t2 t3 t4 t5 t6 t7 t8 t9 t10 t11 t12 : TS} (hb : qJ s = [bS s 0, bS s 1, bS s 2, bS s 3, bS s 4, bS s 5, bS s 6, bS s 7, bS s 8, bS s 9, bS s 10, bS s 11, bS s 12]) (h0 : PS X (bS s 0) t0) (h1 : PS X (bS s 1) t1) (h2 : PS X (bS s 2) t2) (h3 : PS X (bS s 3) t3) (h4 : PS X (bS s 4) t4) (h5 : PS X (bS s 5) t5) (h6 : PS X (bS s 6) t6) (h7 : PS X (bS s 7) t7) (h8 : PS X (bS s 8) t8) (h9 : PS X (bS s 9) t9) (h10 : PS X (bS s 10) t10) (h11 : PS X (bS s 11) t11) (h12 : PS X (bS s 12) t12) {D : Ends} {σ : St} {H : Hp} (k : let u0 := t0; let u1 := t1; let u2 := t2; let u3 := t3; let u4 := t4; let u5 := t5; let u6 := t6; let u7 := t7; let u8 := t8; let u9 := t9; let u10 := t10; let u11 := t11; let u12 := t12; (tSeq u0 (tSeq u1 (tSeq u2 (tSeq u3 (tSeq u4 (tSeq u5 (tSeq u6 (tSeq u7 (tSeq u8 (tSeq u9 (tSeq u10 (tSeq u11 u12)))))))))))) D σ H) : ∃ t, PSs X (qJ s) t ∧ t D σ H := by
 refine ⟨(tSeq t0 (tSeq t1 (tSeq t2 (tSeq t3 (tSeq t4 (tSeq t5 (tSeq t6 (tSeq t7 (tSeq t8 (tSeq t9 (tSeq t10 (tSeq t11 t12)))))))))))), ?_, k⟩
 rw [hb]
 exact (qW h0 (qW h1 (qW h2 (qW h3 (qW h4 (qW h5 (qW h6 (qW h7 (qW h8 (qW h9 (qW h10 (qW h11 (qV h12)))))))))))))
end
end L2
namespace BP
open PySem L2
theorem sc_law_cell_at : FnScope ["_law_script", "_law_k"] ["_law_script", "_law_k"] (qQ x9) := ⟨rfl, rfl, rfl, by decide +kernel, rfl, by decide +kernel, by decide +kernel⟩
theorem JK : FnScope ["_law_cell", "_law_k", "_law_number"] ["_law_cell", "_law_k"] (qQ QJ) := ⟨rfl, rfl, rfl, by decide +kernel, rfl, by decide +kernel, by decide +kernel⟩
theorem J0 : FnScope ["_law_number", "_law_k", "_law_wide_here", "_law_j"] ["_law_number", "_law_k"] (qQ Zq) := ⟨rfl, rfl, rfl, by decide +kernel, rfl, by decide +kernel, by decide +kernel⟩
theorem v8 : FnScope ["_law_script", "_law_start", "_law_many_here", "_law_total", "_law_rest", "_law_at", "_law_cell", "_law_seeds_here", "_law_k"] ["_law_script", "_law_start", "_law_many_here"] (qQ jz) := ⟨rfl, rfl, rfl, by decide +kernel, rfl, by decide +kernel, by decide +kernel⟩
theorem J3 : FnScope ["_law_top", "_law_bottom", "_law_rest", "_law_by"] ["_law_top", "_law_bottom"] (qQ Zz) := ⟨rfl, rfl, rfl, by decide +kernel, rfl, by decide +kernel, by decide +kernel⟩
theorem vQ : FnScope ["_law_number", "_law_great", "_law_top", "_law_way", "_law_far", "_law_tail"] ["_law_number", "_law_great"] (qQ v9) := ⟨rfl, rfl, rfl, by decide +kernel, rfl, by decide +kernel, by decide +kernel⟩
theorem sc_law_small : FnScope ["_law_number", "_law_great"] ["_law_number", "_law_great"] (qQ QQ) := ⟨rfl, rfl, rfl, by decide +kernel, rfl, by decide +kernel, by decide +kernel⟩
theorem yv : FnScope ["_law_number", "_law_places", "_law_bent", "_law_great", "_law_kind", "_law_way", "_law_more", "_law_left", "_law_terms", "_law_k", "_law_coin", "_law_spot", "_law_share"] ["_law_number", "_law_places", "_law_bent", "_law_great"] (qQ jX) := ⟨rfl, rfl, rfl, by decide +kernel, rfl, by decide +kernel, by decide +kernel⟩
theorem yW : FnScope ["_law_script", "_law_start", "_law_most_bends", "_law_seeds_here", "_law_lead", "_law_more", "_law_many_here", "_law_great", "_law_size", "_law_units", "_law_bends_here", "_law_number", "_law_unit_here", "_law_outs", "_law_k"] ["_law_script", "_law_start", "_law_most_bends"] (qQ yV) := ⟨rfl, rfl, rfl, by decide +kernel, rfl, by decide +kernel, by decide +kernel⟩
theorem sc_common : FnScope ["one", "other", "rest"] ["one", "other"] (qQ Jy) := ⟨rfl, rfl, rfl, by decide +kernel, rfl, by decide +kernel, by decide +kernel⟩
theorem sc_is_whole : FnScope ["thing"] ["thing"] (qQ Zx) := ⟨rfl, rfl, rfl, by decide +kernel, rfl, by decide +kernel, by decide +kernel⟩
theorem sc_is_ratio : FnScope ["thing"] ["thing"] (qQ Zk) := ⟨rfl, rfl, rfl, by decide +kernel, rfl, by decide +kernel, by decide +kernel⟩
theorem sc_checked_place : FnScope ["place", "end"] ["place", "end"] (qQ wQ) := ⟨rfl, rfl, rfl, by decide +kernel, rfl, by decide +kernel, by decide +kernel⟩
theorem sc_plain : FnScope ["one"] ["one"] (qQ s_plain) := ⟨rfl, rfl, rfl, by decide +kernel, rfl, by decide +kernel, by decide +kernel⟩
theorem sc_checked_term : FnScope ["term", "end"] ["term", "end"] (qQ kq) := ⟨rfl, rfl, rfl, by decide +kernel, rfl, by decide +kernel, by decide +kernel⟩
theorem sc_checked_sum : FnScope ["constant", "terms", "end", "found"] ["constant", "terms", "end"] (qQ j8) := ⟨rfl, rfl, rfl, by decide +kernel, rfl, by decide +kernel, by decide +kernel⟩
theorem sc_checked_unit : FnScope ["unit", "end"] ["unit", "end"] (qQ j3) := ⟨rfl, rfl, rfl, by decide +kernel, rfl, by decide +kernel, by decide +kernel⟩
theorem Jk : FnScope ["units", "many", "found"] ["units", "many"] (qQ yJ) := ⟨rfl, rfl, rfl, by decide +kernel, rfl, by decide +kernel, by decide +kernel⟩
theorem sc_checked_outs : FnScope ["outs", "end"] ["outs", "end"] (qQ kz) := ⟨rfl, rfl, rfl, by decide +kernel, rfl, by decide +kernel, by decide +kernel⟩
theorem sc_Net_init : FnScope ["self", "many", "units", "outs"] ["self", "many", "units", "outs"] (qQ wk) := ⟨rfl, rfl, rfl, by decide +kernel, rfl, by decide +kernel, by decide +kernel⟩
theorem sc_less : FnScope ["one", "other"] ["one", "other"] (qQ s_less) := ⟨rfl, rfl, rfl, by decide +kernel, rfl, by decide +kernel, by decide +kernel⟩
theorem sc_checked_side : FnScope ["side"] ["side"] (qQ j6) := ⟨rfl, rfl, rfl, by decide +kernel, rfl, by decide +kernel, by decide +kernel⟩
theorem sc_Box_init : FnScope ["self", "sides"] ["self", "sides"] (qQ ZQ) := ⟨rfl, rfl, rfl, by decide +kernel, rfl, by decide +kernel, by decide +kernel⟩
theorem sc_law_bends : FnScope ["_law_net_here"] ["_law_net_here"] (qQ QX) := ⟨rfl, rfl, rfl, by decide +kernel, rfl, by decide +kernel, by decide +kernel⟩
theorem sc_told_unit : FnScope ["unit"] ["unit"] (qQ Qx) := ⟨rfl, rfl, rfl, by decide +kernel, rfl, by decide +kernel, by decide +kernel⟩
theorem sc_Net_told : FnScope ["self"] ["self"] (qQ Zw) := ⟨rfl, rfl, rfl, by decide +kernel, rfl, by decide +kernel, by decide +kernel⟩
theorem sc_bent_places : FnScope ["net"] ["net"] (qQ xq) := ⟨rfl, rfl, rfl, by decide +kernel, rfl, by decide +kernel, by decide +kernel⟩
theorem sc_Net_bends : FnScope ["self"] ["self"] (qQ QW) := ⟨rfl, rfl, rfl, by decide +kernel, rfl, by decide +kernel, by decide +kernel⟩
theorem sc_plus : FnScope ["one", "other", "by", "top", "rest"] ["one", "other"] (qQ YJ) := ⟨rfl, rfl, rfl, by decide +kernel, rfl, by decide +kernel, by decide +kernel⟩
theorem sc_minus : FnScope ["one", "other"] ["one", "other"] (qQ s_minus) := ⟨rfl, rfl, rfl, by decide +kernel, rfl, by decide +kernel, by decide +kernel⟩
theorem sc_not_above : FnScope ["form", "number"] ["form", "number"] (qQ Qw) := ⟨rfl, rfl, rfl, by decide +kernel, rfl, by decide +kernel, by decide +kernel⟩
theorem sc_times : FnScope ["one", "other", "by", "across"] ["one", "other"] (qQ Y0) := ⟨rfl, rfl, rfl, by decide +kernel, rfl, by decide +kernel, by decide +kernel⟩
theorem sc_scaled : FnScope ["form", "by"] ["form", "by"] (qQ Jw) := ⟨rfl, rfl, rfl, by decide +kernel, rfl, by decide +kernel, by decide +kernel⟩
theorem sc_not_below : FnScope ["form", "number"] ["form", "number"] (qQ Qv) := ⟨rfl, rfl, rfl, by decide +kernel, rfl, by decide +kernel, by decide +kernel⟩
theorem sc_side_rows : FnScope ["form", "side"] ["form", "side"] (qQ Qk) := ⟨rfl, rfl, rfl, by decide +kernel, rfl, by decide +kernel, by decide +kernel⟩
theorem sc_added_times : FnScope ["one", "other", "by"] ["one", "other", "by"] (qQ xz) := ⟨rfl, rfl, rfl, by decide +kernel, rfl, by decide +kernel, by decide +kernel⟩
theorem JV : FnScope ["form", "own", "span", "low", "high", "leaned"] ["form", "own", "span"] (qQ wz) := ⟨rfl, rfl, rfl, by decide +kernel, rfl, by decide +kernel, by decide +kernel⟩
theorem sc_bend_rows : FnScope ["state", "form", "own", "span", "under"] ["state", "form", "own", "span"] (qQ vj) := ⟨rfl, rfl, rfl, by decide +kernel, rfl, by decide +kernel, by decide +kernel⟩
theorem Z9 : FnScope ["net", "case", "forms", "widths", "rows", "place", "state", "own"] ["net", "case", "forms", "widths"] (qQ wW) := ⟨rfl, rfl, rfl, by decide +kernel, rfl, by decide +kernel, by decide +kernel⟩
theorem sc_variable_count : FnScope ["many", "case"] ["many", "case"] (qQ wq) := ⟨rfl, rfl, rfl, by decide +kernel, rfl, by decide +kernel, by decide +kernel⟩
theorem x5 : FnScope ["many", "case", "found", "behind", "state"] ["many", "case"] (qQ yY) := ⟨rfl, rfl, rfl, by decide +kernel, rfl, by decide +kernel, by decide +kernel⟩
theorem sc_lone_form : FnScope ["number", "many"] ["number", "many"] (qQ Qy) := ⟨rfl, rfl, rfl, by decide +kernel, rfl, by decide +kernel, by decide +kernel⟩
theorem sc_even_form : FnScope ["constant", "many"] ["constant", "many"] (qQ QK) := ⟨rfl, rfl, rfl, by decide +kernel, rfl, by decide +kernel, by decide +kernel⟩
theorem jJ : FnScope ["constant", "terms", "found", "count", "form", "place", "share"] ["constant", "terms", "found", "count"] (qQ j9) := ⟨rfl, rfl, rfl, by decide +kernel, rfl, by decide +kernel, by decide +kernel⟩
theorem sc_bend_form : FnScope ["state", "variable", "bent_form", "count"] ["state", "variable", "bent_form", "count"] (qQ vV) := ⟨rfl, rfl, rfl, by decide +kernel, rfl, by decide +kernel, by decide +kernel⟩
theorem kQ : FnScope ["net", "case", "told", "count", "variables", "found", "bends", "unit"] ["net", "case"] (qQ jK) := ⟨rfl, rfl, rfl, by decide +kernel, rfl, by decide +kernel, by decide +kernel⟩
theorem sc_Box_told : FnScope ["self"] ["self"] (qQ Zy) := ⟨rfl, rfl, rfl, by decide +kernel, rfl, by decide +kernel, by decide +kernel⟩
theorem sc_turned : FnScope ["pair", "share"] ["pair", "share"] (qQ Jv) := ⟨rfl, rfl, rfl, by decide +kernel, rfl, by decide +kernel, by decide +kernel⟩
theorem kv : FnScope ["constant", "terms", "found", "low", "high", "place", "share", "ends"] ["constant", "terms", "found"] (qQ wj) := ⟨rfl, rfl, rfl, by decide +kernel, rfl, by decide +kernel, by decide +kernel⟩
theorem sc_bent : FnScope ["one"] ["one"] (qQ s_bent) := ⟨rfl, rfl, rfl, by decide +kernel, rfl, by decide +kernel, by decide +kernel⟩
theorem sc_bend_span : FnScope ["span"] ["span"] (qQ QV) := ⟨rfl, rfl, rfl, by decide +kernel, rfl, by decide +kernel, by decide +kernel⟩
theorem sc_spans : FnScope ["net", "box", "found", "unit"] ["net", "box"] (qQ Y1) := ⟨rfl, rfl, rfl, by decide +kernel, rfl, by decide +kernel, by decide +kernel⟩
theorem sc_rows_in : FnScope ["net", "box", "case"] ["net", "box", "case"] (qQ Yz) := ⟨rfl, rfl, rfl, by decide +kernel, rfl, by decide +kernel, by decide +kernel⟩
theorem sc_law_sum : FnScope ["_law_one", "_law_other", "_law_top"] ["_law_one", "_law_other"] (qQ Yj) := ⟨rfl, rfl, rfl, by decide +kernel, rfl, by decide +kernel, by decide +kernel⟩
theorem xK : FnScope ["_law_script", "_law_start", "_law_many_here", "_law_sides_here", "_law_number", "_law_low", "_law_wide_here"] ["_law_script", "_law_start", "_law_many_here"] (qQ vK) := ⟨rfl, rfl, rfl, by decide +kernel, rfl, by decide +kernel, by decide +kernel⟩
theorem sc_law_many : FnScope ["_law_one", "_law_other"] ["_law_one", "_law_other"] (qQ Zj) := ⟨rfl, rfl, rfl, by decide +kernel, rfl, by decide +kernel, by decide +kernel⟩
theorem YZ : FnScope ["_law_rows_here", "_law_prices", "_law_many_here", "_law_mix_here", "_law_one", "_law_price_here"] ["_law_rows_here", "_law_prices", "_law_many_here"] (qQ x8) := ⟨rfl, rfl, rfl, by decide +kernel, rfl, by decide +kernel, by decide +kernel⟩
theorem jj : FnScope ["_law_number", "_law_terms", "_law_bound", "_law_prices", "_law_way", "_law_at", "_law_odd", "_law_k"] ["_law_number", "_law_terms", "_law_bound", "_law_prices"] (qQ qX) := ⟨rfl, rfl, rfl, by decide +kernel, rfl, by decide +kernel, by decide +kernel⟩
theorem kX : FnScope ["several", "bottom", "one"] ["several"] (qQ yx) := ⟨rfl, rfl, rfl, by decide +kernel, rfl, by decide +kernel, by decide +kernel⟩
theorem sc_ratio : FnScope ["top", "bottom", "by"] ["top", "bottom"] (qQ s_ratio) := ⟨rfl, rfl, rfl, by decide +kernel, rfl, by decide +kernel, by decide +kernel⟩
theorem sc_over : FnScope ["one", "other"] ["one", "other"] (qQ s_over) := ⟨rfl, rfl, rfl, by decide +kernel, rfl, by decide +kernel, by decide +kernel⟩
theorem Y2 : FnScope ["rows", "prices", "many", "lines", "weights", "totals", "weight", "line", "told"] ["rows", "prices", "many"] (qQ xW) := ⟨rfl, rfl, rfl, by decide +kernel, rfl, by decide +kernel, by decide +kernel⟩
theorem sc_are_prices : FnScope ["thing", "count"] ["thing", "count"] (qQ vZ) := ⟨rfl, rfl, rfl, by decide +kernel, rfl, by decide +kernel, by decide +kernel⟩
theorem x6 : FnScope ["net", "widths", "saying", "prices", "case", "forms", "rows", "count", "form", "row"] ["net", "widths", "saying", "prices", "case"] (qQ yQ) := ⟨rfl, rfl, rfl, by decide +kernel, rfl, by decide +kernel, by decide +kernel⟩
theorem sc_right_in : FnScope ["net", "widths", "saying", "tree", "case"] ["net", "widths", "saying", "tree", "case"] (qQ wx) := ⟨rfl, rfl, rfl, by decide +kernel, rfl, by decide +kernel, by decide +kernel⟩
theorem sc_all_open : FnScope ["net"] ["net"] (qQ Zv) := ⟨rfl, rfl, rfl, by decide +kernel, rfl, by decide +kernel, by decide +kernel⟩
theorem sc_right_tree : FnScope ["net", "box", "saying", "tree"] ["net", "box", "saying", "tree"] (qQ xV) := ⟨rfl, rfl, rfl, by decide +kernel, rfl, by decide +kernel, by decide +kernel⟩
theorem sc_law_price : FnScope ["_law_number"] ["_law_number"] (qQ QZ) := ⟨rfl, rfl, rfl, by decide +kernel, rfl, by decide +kernel, by decide +kernel⟩
theorem sc_form_of : FnScope ["net", "case", "terms"] ["net", "case", "terms"] (qQ Yx) := ⟨rfl, rfl, rfl, by decide +kernel, rfl, by decide +kernel, by decide +kernel⟩
theorem sc_law_no_ratio : FnScope ["_law_thing", "_law_part_here"] ["_law_thing"] (qQ jx) := ⟨rfl, rfl, rfl, by decide +kernel, rfl, by decide +kernel, by decide +kernel⟩
theorem Y3 : FnScope ["_law_net_here", "_law_box", "_law_saying", "_law_case", "_law_prices", "_law_rows_here", "_law_form", "_law_mix_here", "_law_gap"] ["_law_net_here", "_law_box", "_law_saying", "_law_case", "_law_prices"] (qQ jv) := ⟨rfl, rfl, rfl, by decide +kernel, rfl, by decide +kernel, by decide +kernel⟩
theorem kK : FnScope ["_law_script", "_law_told", "_law_net_here", "_law_box", "_law_bends_here", "_law_case", "_law_rows_here", "_law_lead", "_law_k", "_law_number", "_law_prices", "_law_mix_here", "_law_terms", "_law_bound", "_law_found"] ["_law_script"] (qQ s_law) := ⟨rfl, rfl, rfl, by decide +kernel, rfl, by decide +kernel, by decide +kernel⟩
set_option genInjectivity false in
set_option genSizeOf false in
structure Adr where
 f_law_cell_at : Addr
 d_law_cell_at : FuncData
 f_law_mixed : Addr
 d_law_mixed : FuncData
 f_law_wide : Addr
 d_law_wide : FuncData
 f_law_seeds : Addr
 d_law_seeds : FuncData
 f_law_part : Addr
 d_law_part : FuncData
 f_law_taken : Addr
 d_law_taken : FuncData
 f_law_small : Addr
 d_law_small : FuncData
 f_law_unit : Addr
 d_law_unit : FuncData
 f_law_net : Addr
 d_law_net : FuncData
 f_common : Addr
 d_common : FuncData
 f_is_whole : Addr
 d_is_whole : FuncData
 f_is_ratio : Addr
 d_is_ratio : FuncData
 f_checked_place : Addr
 d_checked_place : FuncData
 f_plain : Addr
 d_plain : FuncData
 f_checked_term : Addr
 d_checked_term : FuncData
 f_checked_sum : Addr
 d_checked_sum : FuncData
 f_checked_unit : Addr
 d_checked_unit : FuncData
 f_checked_units : Addr
 d_checked_units : FuncData
 f_checked_outs : Addr
 d_checked_outs : FuncData
 f_Net_init : Addr
 d_Net_init : FuncData
 f_less : Addr
 d_less : FuncData
 f_checked_side : Addr
 d_checked_side : FuncData
 f_Box_init : Addr
 d_Box_init : FuncData
 f_law_bends : Addr
 d_law_bends : FuncData
 f_told_unit : Addr
 d_told_unit : FuncData
 f_Net_told : Addr
 d_Net_told : FuncData
 f_bent_places : Addr
 d_bent_places : FuncData
 f_Net_bends : Addr
 d_Net_bends : FuncData
 f_plus : Addr
 d_plus : FuncData
 f_minus : Addr
 d_minus : FuncData
 f_not_above : Addr
 d_not_above : FuncData
 f_times : Addr
 d_times : FuncData
 f_scaled : Addr
 d_scaled : FuncData
 f_not_below : Addr
 d_not_below : FuncData
 f_side_rows : Addr
 d_side_rows : FuncData
 f_added_times : Addr
 d_added_times : FuncData
 f_cap_row : Addr
 d_cap_row : FuncData
 f_bend_rows : Addr
 d_bend_rows : FuncData
 f_rows_by : Addr
 d_rows_by : FuncData
 f_variable_count : Addr
 d_variable_count : FuncData
 f_variables_in : Addr
 d_variables_in : FuncData
 f_lone_form : Addr
 d_lone_form : FuncData
 f_even_form : Addr
 d_even_form : FuncData
 f_terms_form : Addr
 d_terms_form : FuncData
 f_bend_form : Addr
 d_bend_form : FuncData
 f_forms_in : Addr
 d_forms_in : FuncData
 f_Box_told : Addr
 d_Box_told : FuncData
 f_turned : Addr
 d_turned : FuncData
 f_sum_span : Addr
 d_sum_span : FuncData
 f_bent : Addr
 d_bent : FuncData
 f_bend_span : Addr
 d_bend_span : FuncData
 f_spans : Addr
 d_spans : FuncData
 f_rows_in : Addr
 d_rows_in : FuncData
 f_law_sum : Addr
 d_law_sum : FuncData
 f_law_sides : Addr
 d_law_sides : FuncData
 f_law_many : Addr
 d_law_many : FuncData
 f_law_mix : Addr
 d_law_mix : FuncData
 f_law_spoiled : Addr
 d_law_spoiled : FuncData
 f_over_one_bottom : Addr
 d_over_one_bottom : FuncData
 f_ratio : Addr
 d_ratio : FuncData
 f_over : Addr
 d_over : FuncData
 f_mixed : Addr
 d_mixed : FuncData
 f_are_prices : Addr
 d_are_prices : FuncData
 f_right_leaf : Addr
 d_right_leaf : FuncData
 f_right_in : Addr
 d_right_in : FuncData
 f_all_open : Addr
 d_all_open : FuncData
 f_right_tree : Addr
 d_right_tree : FuncData
 f_law_price : Addr
 d_law_price : FuncData
 f_form_of : Addr
 d_form_of : FuncData
 f_law_no_ratio : Addr
 d_law_no_ratio : FuncData
 f_law_leaf : Addr
 d_law_leaf : FuncData
 f_law : Addr
 d_law : FuncData
 c_Box : Addr
 c_Net : Addr
 t_MOST_BENDS : Tok
 t_MOST_UNITS : Tok
 t_MOST_OUTS : Tok
 t_MOST_INS : Tok
 t_MOST_SIDES : Tok
 g_MINUS_ONE : Addr
 g_NOUGHT : Addr
 g_ONE : Addr
structure Txt (K : Fg9) (mg : Str → Option Value) (a : Adr) : Prop where
 F_law_cell_at : Fun K "_law_cell_at" "_law_cell_at" x9 a.f_law_cell_at a.d_law_cell_at
 m_law_cell_at : mg "_law_cell_at" = some (.ref a.f_law_cell_at)
 b_law_cell_at : Binds K a.d_law_cell_at ["_law_script", "_law_k"] []
 F_law_mixed : Fun K "_law_mixed" "_law_mixed" QJ a.f_law_mixed a.d_law_mixed
 m_law_mixed : mg "_law_mixed" = some (.ref a.f_law_mixed)
 b_law_mixed : Binds K a.d_law_mixed ["_law_cell", "_law_k"] []
 F_law_wide : Fun K "_law_wide" "_law_wide" Zq a.f_law_wide a.d_law_wide
 m_law_wide : mg "_law_wide" = some (.ref a.f_law_wide)
 b_law_wide : Binds K a.d_law_wide ["_law_number", "_law_k"] []
 F_law_seeds : Fun K "_law_seeds" "_law_seeds" jz a.f_law_seeds a.d_law_seeds
 m_law_seeds : mg "_law_seeds" = some (.ref a.f_law_seeds)
 b_law_seeds : Binds K a.d_law_seeds ["_law_script", "_law_start", "_law_many_here"] []
 F_law_part : Fun K "_law_part" "_law_part" Zz a.f_law_part a.d_law_part
 m_law_part : mg "_law_part" = some (.ref a.f_law_part)
 b_law_part : Binds K a.d_law_part ["_law_top", "_law_bottom"] []
 F_law_taken : Fun K "_law_taken" "_law_taken" v9 a.f_law_taken a.d_law_taken
 m_law_taken : mg "_law_taken" = some (.ref a.f_law_taken)
 b_law_taken : Binds K a.d_law_taken ["_law_number", "_law_great"] []
 F_law_small : Fun K "_law_small" "_law_small" QQ a.f_law_small a.d_law_small
 m_law_small : mg "_law_small" = some (.ref a.f_law_small)
 b_law_small : Binds K a.d_law_small ["_law_number", "_law_great"] []
 F_law_unit : Fun K "_law_unit" "_law_unit" jX a.f_law_unit a.d_law_unit
 m_law_unit : mg "_law_unit" = some (.ref a.f_law_unit)
 b_law_unit : Binds K a.d_law_unit ["_law_number", "_law_places", "_law_bent", "_law_great"] []
 F_law_net : Fun K "_law_net" "_law_net" yV a.f_law_net a.d_law_net
 m_law_net : mg "_law_net" = some (.ref a.f_law_net)
 b_law_net : Binds K a.d_law_net ["_law_script", "_law_start", "_law_most_bends"] []
 F_common : Fun K "common" "common" Jy a.f_common a.d_common
 m_common : mg "common" = some (.ref a.f_common)
 b_common : Binds K a.d_common ["one", "other"] []
 F_is_whole : Fun K "is_whole" "is_whole" Zx a.f_is_whole a.d_is_whole
 m_is_whole : mg "is_whole" = some (.ref a.f_is_whole)
 b_is_whole : Binds K a.d_is_whole ["thing"] []
 F_is_ratio : Fun K "is_ratio" "is_ratio" Zk a.f_is_ratio a.d_is_ratio
 m_is_ratio : mg "is_ratio" = some (.ref a.f_is_ratio)
 b_is_ratio : Binds K a.d_is_ratio ["thing"] []
 F_checked_place : Fun K "checked_place" "checked_place" wQ a.f_checked_place a.d_checked_place
 m_checked_place : mg "checked_place" = some (.ref a.f_checked_place)
 b_checked_place : Binds K a.d_checked_place ["place", "end"] []
 F_plain : Fun K "plain" "plain" s_plain a.f_plain a.d_plain
 m_plain : mg "plain" = some (.ref a.f_plain)
 b_plain : Binds K a.d_plain ["one"] []
 F_checked_term : Fun K "checked_term" "checked_term" kq a.f_checked_term a.d_checked_term
 m_checked_term : mg "checked_term" = some (.ref a.f_checked_term)
 b_checked_term : Binds K a.d_checked_term ["term", "end"] []
 F_checked_sum : Fun K "checked_sum" "checked_sum" j8 a.f_checked_sum a.d_checked_sum
 m_checked_sum : mg "checked_sum" = some (.ref a.f_checked_sum)
 b_checked_sum : Binds K a.d_checked_sum ["constant", "terms", "end"] []
 F_checked_unit : Fun K "checked_unit" "checked_unit" j3 a.f_checked_unit a.d_checked_unit
 m_checked_unit : mg "checked_unit" = some (.ref a.f_checked_unit)
 b_checked_unit : Binds K a.d_checked_unit ["unit", "end"] []
 F_checked_units : Fun K "checked_units" "checked_units" yJ a.f_checked_units a.d_checked_units
 m_checked_units : mg "checked_units" = some (.ref a.f_checked_units)
 b_checked_units : Binds K a.d_checked_units ["units", "many"] []
 F_checked_outs : Fun K "checked_outs" "checked_outs" kz a.f_checked_outs a.d_checked_outs
 m_checked_outs : mg "checked_outs" = some (.ref a.f_checked_outs)
 b_checked_outs : Binds K a.d_checked_outs ["outs", "end"] []
 F_Net_init : Fun K "__init__" "Net.__init__" wk a.f_Net_init a.d_Net_init
 M_Net : Mk K a.c_Net a.f_Net_init
 b_Net_init : Binds K a.d_Net_init ["self", "many", "units", "outs"] []
 F_less : Fun K "less" "less" s_less a.f_less a.d_less
 m_less : mg "less" = some (.ref a.f_less)
 b_less : Binds K a.d_less ["one", "other"] []
 F_checked_side : Fun K "checked_side" "checked_side" j6 a.f_checked_side a.d_checked_side
 m_checked_side : mg "checked_side" = some (.ref a.f_checked_side)
 b_checked_side : Binds K a.d_checked_side ["side"] []
 F_Box_init : Fun K "__init__" "Box.__init__" ZQ a.f_Box_init a.d_Box_init
 M_Box : Mk K a.c_Box a.f_Box_init
 b_Box_init : Binds K a.d_Box_init ["self", "sides"] []
 F_law_bends : Fun K "_law_bends" "_law_bends" QX a.f_law_bends a.d_law_bends
 m_law_bends : mg "_law_bends" = some (.ref a.f_law_bends)
 b_law_bends : Binds K a.d_law_bends ["_law_net_here"] []
 F_told_unit : Fun K "told_unit" "told_unit" Qx a.f_told_unit a.d_told_unit
 m_told_unit : mg "told_unit" = some (.ref a.f_told_unit)
 b_told_unit : Binds K a.d_told_unit ["unit"] []
 F_Net_told : Fun K "told" "Net.told" Zw a.f_Net_told a.d_Net_told
 t_Net_told : Meth K a.c_Net "told" a.f_Net_told
 b_Net_told : Binds K a.d_Net_told ["self"] []
 F_bent_places : Fun K "bent_places" "bent_places" xq a.f_bent_places a.d_bent_places
 m_bent_places : mg "bent_places" = some (.ref a.f_bent_places)
 b_bent_places : Binds K a.d_bent_places ["net"] []
 F_Net_bends : Fun K "bends" "Net.bends" QW a.f_Net_bends a.d_Net_bends
 t_Net_bends : Meth K a.c_Net "bends" a.f_Net_bends
 b_Net_bends : Binds K a.d_Net_bends ["self"] []
 F_plus : Fun K "plus" "plus" YJ a.f_plus a.d_plus
 m_plus : mg "plus" = some (.ref a.f_plus)
 b_plus : Binds K a.d_plus ["one", "other"] []
 F_minus : Fun K "minus" "minus" s_minus a.f_minus a.d_minus
 m_minus : mg "minus" = some (.ref a.f_minus)
 b_minus : Binds K a.d_minus ["one", "other"] []
 F_not_above : Fun K "not_above" "not_above" Qw a.f_not_above a.d_not_above
 m_not_above : mg "not_above" = some (.ref a.f_not_above)
 b_not_above : Binds K a.d_not_above ["form", "number"] []
 F_times : Fun K "times" "times" Y0 a.f_times a.d_times
 m_times : mg "times" = some (.ref a.f_times)
 b_times : Binds K a.d_times ["one", "other"] []
 F_scaled : Fun K "scaled" "scaled" Jw a.f_scaled a.d_scaled
 m_scaled : mg "scaled" = some (.ref a.f_scaled)
 b_scaled : Binds K a.d_scaled ["form", "by"] []
 F_not_below : Fun K "not_below" "not_below" Qv a.f_not_below a.d_not_below
 m_not_below : mg "not_below" = some (.ref a.f_not_below)
 b_not_below : Binds K a.d_not_below ["form", "number"] []
 F_side_rows : Fun K "side_rows" "side_rows" Qk a.f_side_rows a.d_side_rows
 m_side_rows : mg "side_rows" = some (.ref a.f_side_rows)
 b_side_rows : Binds K a.d_side_rows ["form", "side"] []
 F_added_times : Fun K "added_times" "added_times" xz a.f_added_times a.d_added_times
 m_added_times : mg "added_times" = some (.ref a.f_added_times)
 b_added_times : Binds K a.d_added_times ["one", "other", "by"] []
 F_cap_row : Fun K "cap_row" "cap_row" wz a.f_cap_row a.d_cap_row
 m_cap_row : mg "cap_row" = some (.ref a.f_cap_row)
 b_cap_row : Binds K a.d_cap_row ["form", "own", "span"] []
 F_bend_rows : Fun K "bend_rows" "bend_rows" vj a.f_bend_rows a.d_bend_rows
 m_bend_rows : mg "bend_rows" = some (.ref a.f_bend_rows)
 b_bend_rows : Binds K a.d_bend_rows ["state", "form", "own", "span"] []
 F_rows_by : Fun K "rows_by" "rows_by" wW a.f_rows_by a.d_rows_by
 m_rows_by : mg "rows_by" = some (.ref a.f_rows_by)
 b_rows_by : Binds K a.d_rows_by ["net", "case", "forms", "widths"] []
 F_variable_count : Fun K "variable_count" "variable_count" wq a.f_variable_count a.d_variable_count
 m_variable_count : mg "variable_count" = some (.ref a.f_variable_count)
 b_variable_count : Binds K a.d_variable_count ["many", "case"] []
 F_variables_in : Fun K "variables_in" "variables_in" yY a.f_variables_in a.d_variables_in
 m_variables_in : mg "variables_in" = some (.ref a.f_variables_in)
 b_variables_in : Binds K a.d_variables_in ["many", "case"] []
 F_lone_form : Fun K "lone_form" "lone_form" Qy a.f_lone_form a.d_lone_form
 m_lone_form : mg "lone_form" = some (.ref a.f_lone_form)
 b_lone_form : Binds K a.d_lone_form ["number", "many"] []
 F_even_form : Fun K "even_form" "even_form" QK a.f_even_form a.d_even_form
 m_even_form : mg "even_form" = some (.ref a.f_even_form)
 b_even_form : Binds K a.d_even_form ["constant", "many"] []
 F_terms_form : Fun K "terms_form" "terms_form" j9 a.f_terms_form a.d_terms_form
 m_terms_form : mg "terms_form" = some (.ref a.f_terms_form)
 b_terms_form : Binds K a.d_terms_form ["constant", "terms", "found", "count"] []
 F_bend_form : Fun K "bend_form" "bend_form" vV a.f_bend_form a.d_bend_form
 m_bend_form : mg "bend_form" = some (.ref a.f_bend_form)
 b_bend_form : Binds K a.d_bend_form ["state", "variable", "bent_form", "count"] []
 F_forms_in : Fun K "forms_in" "forms_in" jK a.f_forms_in a.d_forms_in
 m_forms_in : mg "forms_in" = some (.ref a.f_forms_in)
 b_forms_in : Binds K a.d_forms_in ["net", "case"] []
 F_Box_told : Fun K "told" "Box.told" Zy a.f_Box_told a.d_Box_told
 t_Box_told : Meth K a.c_Box "told" a.f_Box_told
 b_Box_told : Binds K a.d_Box_told ["self"] []
 F_turned : Fun K "turned" "turned" Jv a.f_turned a.d_turned
 m_turned : mg "turned" = some (.ref a.f_turned)
 b_turned : Binds K a.d_turned ["pair", "share"] []
 F_sum_span : Fun K "sum_span" "sum_span" wj a.f_sum_span a.d_sum_span
 m_sum_span : mg "sum_span" = some (.ref a.f_sum_span)
 b_sum_span : Binds K a.d_sum_span ["constant", "terms", "found"] []
 F_bent : Fun K "bent" "bent" s_bent a.f_bent a.d_bent
 m_bent : mg "bent" = some (.ref a.f_bent)
 b_bent : Binds K a.d_bent ["one"] []
 F_bend_span : Fun K "bend_span" "bend_span" QV a.f_bend_span a.d_bend_span
 m_bend_span : mg "bend_span" = some (.ref a.f_bend_span)
 b_bend_span : Binds K a.d_bend_span ["span"] []
 F_spans : Fun K "spans" "spans" Y1 a.f_spans a.d_spans
 m_spans : mg "spans" = some (.ref a.f_spans)
 b_spans : Binds K a.d_spans ["net", "box"] []
 F_rows_in : Fun K "rows_in" "rows_in" Yz a.f_rows_in a.d_rows_in
 m_rows_in : mg "rows_in" = some (.ref a.f_rows_in)
 b_rows_in : Binds K a.d_rows_in ["net", "box", "case"] []
 F_law_sum : Fun K "_law_sum" "_law_sum" Yj a.f_law_sum a.d_law_sum
 m_law_sum : mg "_law_sum" = some (.ref a.f_law_sum)
 b_law_sum : Binds K a.d_law_sum ["_law_one", "_law_other"] []
 F_law_sides : Fun K "_law_sides" "_law_sides" vK a.f_law_sides a.d_law_sides
 m_law_sides : mg "_law_sides" = some (.ref a.f_law_sides)
 b_law_sides : Binds K a.d_law_sides ["_law_script", "_law_start", "_law_many_here"] []
 F_law_many : Fun K "_law_many" "_law_many" Zj a.f_law_many a.d_law_many
 m_law_many : mg "_law_many" = some (.ref a.f_law_many)
 b_law_many : Binds K a.d_law_many ["_law_one", "_law_other"] []
 F_law_mix : Fun K "_law_mix" "_law_mix" x8 a.f_law_mix a.d_law_mix
 m_law_mix : mg "_law_mix" = some (.ref a.f_law_mix)
 b_law_mix : Binds K a.d_law_mix ["_law_rows_here", "_law_prices", "_law_many_here"] []
 F_law_spoiled : Fun K "_law_spoiled" "_law_spoiled" qX a.f_law_spoiled a.d_law_spoiled
 m_law_spoiled : mg "_law_spoiled" = some (.ref a.f_law_spoiled)
 b_law_spoiled : Binds K a.d_law_spoiled ["_law_number", "_law_terms", "_law_bound", "_law_prices"] []
 F_over_one_bottom : Fun K "over_one_bottom" "over_one_bottom" yx a.f_over_one_bottom a.d_over_one_bottom
 m_over_one_bottom : mg "over_one_bottom" = some (.ref a.f_over_one_bottom)
 b_over_one_bottom : Binds K a.d_over_one_bottom ["several"] []
 F_ratio : Fun K "ratio" "ratio" s_ratio a.f_ratio a.d_ratio
 m_ratio : mg "ratio" = some (.ref a.f_ratio)
 b_ratio : Binds K a.d_ratio ["top", "bottom"] []
 F_over : Fun K "over" "over" s_over a.f_over a.d_over
 m_over : mg "over" = some (.ref a.f_over)
 b_over : Binds K a.d_over ["one", "other"] []
 F_mixed : Fun K "mixed" "mixed" xW a.f_mixed a.d_mixed
 m_mixed : mg "mixed" = some (.ref a.f_mixed)
 b_mixed : Binds K a.d_mixed ["rows", "prices", "many"] []
 F_are_prices : Fun K "are_prices" "are_prices" vZ a.f_are_prices a.d_are_prices
 m_are_prices : mg "are_prices" = some (.ref a.f_are_prices)
 b_are_prices : Binds K a.d_are_prices ["thing", "count"] []
 F_right_leaf : Fun K "right_leaf" "right_leaf" yQ a.f_right_leaf a.d_right_leaf
 m_right_leaf : mg "right_leaf" = some (.ref a.f_right_leaf)
 b_right_leaf : Binds K a.d_right_leaf ["net", "widths", "saying", "prices", "case"] []
 F_right_in : Fun K "right_in" "right_in" wx a.f_right_in a.d_right_in
 m_right_in : mg "right_in" = some (.ref a.f_right_in)
 b_right_in : Binds K a.d_right_in ["net", "widths", "saying", "tree", "case"] []
 F_all_open : Fun K "all_open" "all_open" Zv a.f_all_open a.d_all_open
 m_all_open : mg "all_open" = some (.ref a.f_all_open)
 b_all_open : Binds K a.d_all_open ["net"] []
 F_right_tree : Fun K "right_tree" "right_tree" xV a.f_right_tree a.d_right_tree
 m_right_tree : mg "right_tree" = some (.ref a.f_right_tree)
 b_right_tree : Binds K a.d_right_tree ["net", "box", "saying", "tree"] []
 F_law_price : Fun K "_law_price" "_law_price" QZ a.f_law_price a.d_law_price
 m_law_price : mg "_law_price" = some (.ref a.f_law_price)
 b_law_price : Binds K a.d_law_price ["_law_number"] []
 F_form_of : Fun K "form_of" "form_of" Yx a.f_form_of a.d_form_of
 m_form_of : mg "form_of" = some (.ref a.f_form_of)
 b_form_of : Binds K a.d_form_of ["net", "case", "terms"] []
 F_law_no_ratio : Fun K "_law_no_ratio" "_law_no_ratio" jx a.f_law_no_ratio a.d_law_no_ratio
 m_law_no_ratio : mg "_law_no_ratio" = some (.ref a.f_law_no_ratio)
 b_law_no_ratio : Binds K a.d_law_no_ratio ["_law_thing"] []
 F_law_leaf : Fun K "_law_leaf" "_law_leaf" jv a.f_law_leaf a.d_law_leaf
 m_law_leaf : mg "_law_leaf" = some (.ref a.f_law_leaf)
 b_law_leaf : Binds K a.d_law_leaf ["_law_net_here", "_law_box", "_law_saying", "_law_case", "_law_prices"] []
 F_law : Fun K "law" "law" s_law a.f_law a.d_law
 m_law : mg "law" = some (.ref a.f_law)
 b_law : Binds K a.d_law ["_law_script"] []
 m_len : mg "len" = none
 m_range : mg "range" = none
 m_enumerate : mg "enumerate" = none
 m_abs : mg "abs" = none
 m_divmod : mg "divmod" = none
 m_list : mg "list" = none
 m_min : mg "min" = none
 m_int : mg "int" = none
 m_isinstance : mg "isinstance" = none
 m_bool : mg "bool" = none
 m_tuple : mg "tuple" = none
 m_set : mg "set" = none
 m_str : mg "str" = none
 m_zip : mg "zip" = none
 m_all : mg "all" = none
 m_any : mg "any" = none
 C_Box : Cls K a.c_Box
 m_Box : mg "Box" = some (.ref a.c_Box)
 n_Box_sides : Jz K a.c_Box "sides"
 C_Net : Cls K a.c_Net
 m_Net : mg "Net" = some (.ref a.c_Net)
 n_Net_many : Jz K a.c_Net "many"
 n_Net_units : Jz K a.c_Net "units"
 n_Net_outs : Jz K a.c_Net "outs"
 m_MOST_BENDS : mg "MOST_BENDS" = some (.int 20 a.t_MOST_BENDS)
 m_MOST_UNITS : mg "MOST_UNITS" = some (.int 80 a.t_MOST_UNITS)
 m_MOST_OUTS : mg "MOST_OUTS" = some (.int 12 a.t_MOST_OUTS)
 m_MOST_INS : mg "MOST_INS" = some (.int 6 a.t_MOST_INS)
 m_MOST_SIDES : mg "MOST_SIDES" = some (.int 6 a.t_MOST_SIDES)
 m_MINUS_ONE : mg "MINUS_ONE" = some (.ref a.g_MINUS_ONE)
 s_MINUS_ONE : ∀ H : Hp, SqT K H a.g_MINUS_ONE [.int (-1), .int 1]
 m_NOUGHT : mg "NOUGHT" = some (.ref a.g_NOUGHT)
 s_NOUGHT : ∀ H : Hp, SqT K H a.g_NOUGHT [.int 0, .int 1]
 m_ONE : mg "ONE" = some (.ref a.g_ONE)
 s_ONE : ∀ H : Hp, SqT K H a.g_ONE [.int 1, .int 1]
section
variable {P : Program} {w : World} {K : Fg9} {mg : Str → Option Value} {base : Heap} {a : Adr}
def spGcd : Sp := fun vs H Q _ => ∃ x y : Int, vs = [.int x, .int y] ∧ 0 ≤ x ∧ 0 ≤ y ∧ Q (.int (Int.gcd x y : Nat)) H
theorem ZK (T : Txt K mg a) : FnOk P w K mg base CX0 1 a.f_common a.d_common ["one", "other"] spGcd := by
 refine T.F_common.ok sc_common (fun vs H Q E h => ?_) (fun cdv A outer s H vs Q E hr h => ?_)
 ·obtain ⟨x, y, rfl, _⟩ := h
  rfl
 obtain ⟨x0, y0, rfl, h1, h2, q⟩ := h
 refine ⟨_, (qW (ps_while PassesOwn.never (zJ op_ne (pv 1) qk (zX _))
    (qW (zk (i := 2) sc_common.nd rfl (Or.inl rfl) (pe_op v5 (pv 0) (pv 1)))
   (qW (zk (i := 0) sc_common.nd rfl (Or.inl rfl) (pv 1))
   (qV (zk (i := 1) sc_common.nd rfl (Or.inl rfl) (pv 2))))))
   (qV (zw (pv 0)))), ?_⟩
 refine while_by (fun σ H' => H' = H ∧ ∃ (x y : Int) (r : Option V), σ = [some (.int x), some (.int y), r] ∧ 0 ≤ x ∧ 0 ≤ y ∧ Int.gcd x y = Int.gcd x0 y0)
  (fun σ _ => match σ with | [_, some (.int y), _] => y.toNat | _ => 0) ⟨rfl, x0, y0, none, rfl, h1, h2, rfl⟩ ?_ ?_
 ·rintro σ H' ⟨rfl, x, y, r, rfl, hx, hy, hg⟩
  refine ⟨_, rfl, rfl, _, rfl, ?_⟩
  by_cases e : y = 0
  ·subst e
   refine iteNS rfl ?_
   refine ⟨_, rfl, ?_⟩
   rw [← hg, gcd_end hx] at q
   exact q
  ·refine iteNP (fun z => e (V.int.inj z)) ?_
   refine ⟨_, rfl, _, rfl, _, _, rfl, rfl, (by omega : (0 : Int) < y), _, rfl, _, rfl, ?_⟩
   refine ⟨⟨rfl, y, x % y, _, rfl, hy, Int.emod_nonneg _ e, gcd_step.trans hg⟩, ?_⟩
   have := Int.emod_lt_of_pos x (show 0 < y by omega)
   show (x % y).toNat < y.toNat
   have := Int.emod_nonneg x e
   omega
 ·rintro σ H' Q1 Q2 hq ⟨v, e, hs, k, ek, q1⟩
  exact ⟨v, e, hs, k, ek, hq _ _ q1⟩
def spBinR (K : Fg9) (f g : Int → Int → Int → Int → Int) : Sp := fun vs H Q _ => ∃ (p r : Addr) (x y u v : Int), vs = [.ref p, .ref r] ∧ SqT K H p (T2 x y) ∧ SqT K H r (T2 u v) ∧ IsR x y ∧ IsR u v ∧ Sm 4000 x ∧ Sm 4000 y ∧ Sm 4000 u ∧ Sm 4000 v ∧ RetT H Q (T2 (nt (f x y u v) (g x y u v)) (nb (f x y u v) (g x y u v)))
theorem mul_ne {y v : Int} (h1 : 0 < y) (h2 : 0 < v) : y * v ≠ 0 := by
 have := Int.mul_pos h1 h2
 omega
theorem cdivB {n : Nat} {t j : Int} (h0 : j ≠ 0) (h : Sm n j) (hn : n ≤ 8999 := by decide) : CDivB t j := ⟨h0, Nat.lt_of_lt_of_le ((h.mono hn).log2 (by decide)) (by decide)⟩
theorem Sm.fdiv {n : Nat} {x g : Int} (h : Sm n x) (d : g ∣ x) (h0 : g ≠ 0) : Sm n (x.fdiv g) := by
 obtain ⟨k, e⟩ := d
 subst e
 rw [Int.mul_fdiv_cancel_left k h0]
 refine h.le ?_
 rw [Int.natAbs_mul]
 exact Nat.le_mul_of_pos_left _ (by omega)
theorem RetT.mono {H H' : Hp} {Q : VK} {xs : List V} (h : RetT H Q xs) (g : Same H H') : RetT H' Q xs := fun p H2 s e => h p H2 (g.trans s) e
theorem divB {t b : Int} (hb : b ≠ 0) (h : Sm 8000 b) : CDivB t (sg t b) := cdivB (sg_ne hb) (h.le (by
 rw [sg_abs]
 exact Nat.le_of_dvd (by omega) (Int.natAbs_dvd_natAbs.mpr (Int.gcd_dvd_right t b))))
abbrev cb_plus (P w K mg base) (a : Adr) (cdv A outer s H E) := (cxOf CX0 P w K mg base ["one", "other", "by", "top", "rest"] "plus" (qQ YJ) a.f_plus cdv A outer s H E).nox
theorem ok_plusR (T : Txt K mg a) : FnOk P w K mg base CX0 2 a.f_plus a.d_plus ["one", "other"] (spBinR K (fun x y u v => x * v + u * y) (fun _ y _ v => y * v)) := by
 refine T.F_plus.ok sc_plus (fun vs H Q E h => ?_) (fun cdv A outer s H vs Q E hr h => ?_)
 ·obtain ⟨_, _, _, _, _, _, rfl, _⟩ := h
  rfl
 obtain ⟨p, r, x, y, u, v, rfl, hp, hq, R1, R2, sx, sy, su, sv, q⟩ := h
 have hy := R1.pos
 have hv := R2.pos
 have yne : y ≠ 0 := by omega
 have vne : v ≠ 0 := by omega
 have sgd : Sm 4000 ((Int.gcd y v : Nat) : Int) := sv.gcd_right vne
 have gne : ((Int.gcd y v : Nat) : Int) ≠ 0 := by
  have := Int.gcd_pos_of_ne_zero_left v yne
  omega
 have gy : ((Int.gcd y v : Nat) : Int) ∣ y := Int.gcd_dvd_left y v
 have gv : ((Int.gcd y v : Nat) : Int) ∣ v := Int.gcd_dvd_right y v
 have h0 : PS (cb_plus P w K mg base a cdv A outer s H E) (bS YJ 0) _ := (zk (i := 2) sc_plus.nd rfl (Or.inl rfl) (qK (ZK T) (hr.mono (by decide)) rfl T.m_common T.F_common.kp T.b_common .nil pass0 (pa_c (pe_ix qY (pv 0) qk (fun _ _ => rfl)) (pa_c (pe_ix qY (pv 1) qk (fun _ _ => rfl)) qj)) (he := qz rfl _ _) (hpl := qZ rfl)))
 have h1 : PS (cb_plus P w K mg base a cdv A outer s H E) (bS YJ 1) _ := (zk (i := 3) sc_plus.nd rfl (Or.inl rfl) (pe_op yj (pe_op jY (pe_ix qY (pv 0) qk (fun _ _ => rfl)) (pe_op yz (pe_ix qY (pv 1) qk (fun _ _ => rfl)) (pv 2))) (pe_op jY (pe_ix qY (pv 1) qk (fun _ _ => rfl)) (pe_op yz (pe_ix qY (pv 0) qk (fun _ _ => rfl)) (pv 2)))))
 have h2 : PS (cb_plus P w K mg base a cdv A outer s H E) (bS YJ 2) _ := (zk (i := 4) sc_plus.nd rfl (Or.inl rfl) (qK (ZK T) (hr.mono (by decide)) rfl T.m_common T.F_common.kp T.b_common .nil pass0 (pa_c (zq (Z6) rfl T.m_abs boot_abs (pa_c (pv 3) qj) (he := qz rfl _ _) (hpl := qZ rfl)) (pa_c (pv 2) qj)) (he := qz rfl _ _) (hpl := qZ rfl)))
 have h3 : PS (cb_plus P w K mg base a cdv A outer s H E) (bS YJ 3) _ := (zw (yq (pa_c (pe_op yz (pv 3) (pv 4)) (pa_c (pe_op jY (pe_op yz (pe_ix qY (pv 0) qk (fun _ _ => rfl)) (pv 2)) (pe_op yz (pe_ix qY (pv 1) qk (fun _ _ => rfl)) (pv 4))) qj))))
 refine body4 (by rfl) h0 h1 h2 h3 ?_
 intros
 clear h0 h1 h2 h3
 refine ⟨_, rfl, _, _, _, _, rfl, rfl, hp, rfl, _, rfl, _, _, _, _, rfl, rfl, hq, rfl, _, _, rfl, by omega, by omega, ?_⟩
 dsimp only
 generalize hg : ((Int.gcd y v : Nat) : Int) = g at *
 refine ⟨_, rfl, _, _, _, _, rfl, rfl, hp, rfl, _, rfl, _, _, _, _, rfl, rfl, hq, rfl, _, rfl, _, _, rfl, rfl, cdivB gne sgd, _, _, rfl, rfl, mulOk sx (sv.fdiv gv gne), ?_⟩
 refine ⟨_, rfl, _, _, _, _, rfl, rfl, hq, rfl, _, rfl, _, _, _, _, rfl, rfl, hp, rfl, _, rfl, _, _, rfl, rfl, cdivB gne sgd, _, _, rfl, rfl, mulOk su (sy.fdiv gy gne), _, _, rfl, rfl, ?_⟩
 dsimp only
 generalize ht : x * v.fdiv g + u * y.fdiv g = t at *
 have gnn : 0 ≤ g := by omega
 refine ⟨_, rfl, _, rfl, _, rfl, _, _, rfl, abs_nn _, gnn, ?_⟩
 dsimp only
 rw [V7]
 have srd : Sm 4000 ((Int.gcd t g : Nat) : Int) := sgd.gcd_right gne
 have rne : ((Int.gcd t g : Nat) : Int) ≠ 0 := by
  have := Int.gcd_pos_of_ne_zero_right t gne
  omega
 have rv : ((Int.gcd t g : Nat) : Int) ∣ v := Int.dvd_trans (Int.gcd_dvd_right t g) gv
 generalize hrr : ((Int.gcd t g : Nat) : Int) = d at *
 refine ⟨_, rfl, _, rfl, _, _, rfl, rfl, cdivB rne srd, _, rfl, _, _, _, _, rfl, rfl, hp, rfl, _, rfl, _, _, rfl, rfl, cdivB gne sgd, ?_⟩
 refine ⟨_, rfl, _, _, _, _, rfl, rfl, hq, rfl, _, rfl, _, _, rfl, rfl, cdivB rne srd, _, _, rfl, rfl, mulOk (sy.fdiv gy gne) (sv.fdiv rv rne), y9, fun p' hp' => ?_⟩
 have k := plus_way R1 R2 hg.symm ht.symm hrr.symm
 have n := n_of (mul_ne hy hv) k.1 k.2
 rw [← n.1, ← n.2] at q
 exact q.new hp'
abbrev cb_times (P w K mg base) (a : Adr) (cdv A outer s H E) := (cxOf CX0 P w K mg base ["one", "other", "by", "across"] "times" (qQ Y0) a.f_times cdv A outer s H E).nox
theorem ok_timesR (T : Txt K mg a) : FnOk P w K mg base CX0 2 a.f_times a.d_times ["one", "other"] (spBinR K (fun x _ u _ => x * u) (fun _ y _ v => y * v)) := by
 refine T.F_times.ok sc_times (fun vs H Q E h => ?_) (fun cdv A outer s H vs Q E hr h => ?_)
 ·obtain ⟨_, _, _, _, _, _, rfl, _⟩ := h
  rfl
 obtain ⟨p, r, x, y, u, v, rfl, hp, hq, R1, R2, sx, sy, su, sv, q⟩ := h
 have hy := R1.pos
 have hv := R2.pos
 have yne : y ≠ 0 := by omega
 have vne : v ≠ 0 := by omega
 have s1 : Sm 4000 ((Int.gcd x v : Nat) : Int) := sv.gcd_right vne
 have s2 : Sm 4000 ((Int.gcd u y : Nat) : Int) := sy.gcd_right yne
 have n1 : ((Int.gcd x v : Nat) : Int) ≠ 0 := by
  have := Int.gcd_pos_of_ne_zero_right x vne
  omega
 have n2 : ((Int.gcd u y : Nat) : Int) ≠ 0 := by
  have := Int.gcd_pos_of_ne_zero_right u yne
  omega
 have d1 : ((Int.gcd x v : Nat) : Int) ∣ x := Int.gcd_dvd_left x v
 have d2 : ((Int.gcd x v : Nat) : Int) ∣ v := Int.gcd_dvd_right x v
 have d3 : ((Int.gcd u y : Nat) : Int) ∣ u := Int.gcd_dvd_left u y
 have d4 : ((Int.gcd u y : Nat) : Int) ∣ y := Int.gcd_dvd_right u y
 have h0 : PS (cb_times P w K mg base a cdv A outer s H E) (bS Y0 0) _ := (zk (i := 2) sc_times.nd rfl (Or.inl rfl) (qK (ZK T) (hr.mono (by decide)) rfl T.m_common T.F_common.kp T.b_common .nil pass0 (pa_c (zq (Z6) rfl T.m_abs boot_abs (pa_c (pe_ix qY (pv 0) qk (fun _ _ => rfl)) qj) (he := qz rfl _ _) (hpl := qZ rfl)) (pa_c (pe_ix qY (pv 1) qk (fun _ _ => rfl)) qj)) (he := qz rfl _ _) (hpl := qZ rfl)))
 have h1 : PS (cb_times P w K mg base a cdv A outer s H E) (bS Y0 1) _ := (zk (i := 3) sc_times.nd rfl (Or.inl rfl) (qK (ZK T) (hr.mono (by decide)) rfl T.m_common T.F_common.kp T.b_common .nil pass0 (pa_c (zq (Z6) rfl T.m_abs boot_abs (pa_c (pe_ix qY (pv 1) qk (fun _ _ => rfl)) qj) (he := qz rfl _ _) (hpl := qZ rfl)) (pa_c (pe_ix qY (pv 0) qk (fun _ _ => rfl)) qj)) (he := qz rfl _ _) (hpl := qZ rfl)))
 have h2 : PS (cb_times P w K mg base a cdv A outer s H E) (bS Y0 2) _ := (zw (yq (pa_c (pe_op jY (pe_op yz (pe_ix qY (pv 0) qk (fun _ _ => rfl)) (pv 2)) (pe_op yz (pe_ix qY (pv 1) qk (fun _ _ => rfl)) (pv 3))) (pa_c (pe_op jY (pe_op yz (pe_ix qY (pv 0) qk (fun _ _ => rfl)) (pv 3)) (pe_op yz (pe_ix qY (pv 1) qk (fun _ _ => rfl)) (pv 2))) qj))))
 refine body3 (by rfl) h0 h1 h2 ?_
 intros
 clear h0 h1 h2
 refine ⟨_, rfl, _, _, _, _, rfl, rfl, hp, rfl, _, rfl, _, rfl, _, _, _, _, rfl, rfl, hq, rfl, _, _, rfl, abs_nn _, by omega, ?_⟩
 dsimp only
 rw [V7]
 generalize hg : ((Int.gcd x v : Nat) : Int) = g at *
 refine ⟨_, rfl, _, _, _, _, rfl, rfl, hq, rfl, _, rfl, _, rfl, _, _, _, _, rfl, rfl, hp, rfl, _, _, rfl, abs_nn _, by omega, ?_⟩
 dsimp only
 rw [V7]
 generalize hk : ((Int.gcd u y : Nat) : Int) = k at *
 refine ⟨_, rfl, _, _, _, _, rfl, rfl, hp, rfl, _, rfl, _, _, rfl, rfl, cdivB n1 s1, _, rfl, _, _, _, _, rfl, rfl, hq, rfl, _, rfl, _, _, rfl, rfl, cdivB n2 s2, _, _, rfl, rfl, mulOk (sx.fdiv d1 n1) (su.fdiv d3 n2), ?_⟩
 refine ⟨_, rfl, _, _, _, _, rfl, rfl, hp, rfl, _, rfl, _, _, rfl, rfl, cdivB n2 s2, _, rfl, _, _, _, _, rfl, rfl, hq, rfl, _, rfl, _, _, rfl, rfl, cdivB n1 s1, _, _, rfl, rfl, mulOk (sy.fdiv d4 n2) (sv.fdiv d2 n1), y9, fun p' hp' => ?_⟩
 have w := times_way R1 R2 hg.symm hk.symm
 have n := n_of (mul_ne hy hv) w.1 w.2
 rw [← n.1, ← n.2] at q
 exact q.new hp'
abbrev TQ (q : Rat) : List V := T2 q.num q.den
def spBinQ (K : Fg9) (f : Rat → Rat → Rat) : Sp := fun vs H Q _ => ∃ (p r : Addr) (x y : Rat), vs = [.ref p, .ref r] ∧ SqT K H p (TQ x) ∧ SqT K H r (TQ y) ∧ SmQ 4000 x ∧ SmQ 4000 y ∧ RetT H Q (TQ (f x y))
def IsQ (K : Fg9) (H : Hp) (v : V) (q : Rat) : Prop := ∃ p, v = .ref p ∧ SqT K H p (TQ q)
def RL (K : Fg9) (H : Hp) (vs : List V) (qs : List Rat) : Prop := Paired (IsQ K H) vs qs
theorem IsQ.mono {K : Fg9} {H H' : Hp} {v : V} {q : Rat} (h : IsQ K H v q) (g : Same H H') : IsQ K H' v q := by
 obtain ⟨p, e, s⟩ := h
 exact ⟨p, e, g.tup s⟩
theorem RL.mono {K : Fg9} {H H' : Hp} {vs : List V} {qs : List Rat} (h : RL K H vs qs) (g : Same H H') : RL K H' vs qs := Paired.mapP h fun _ _ q => q.mono g
theorem RL.length {K : Fg9} {H : Hp} {vs : List V} {qs : List Rat} (h : RL K H vs qs) : vs.length = qs.length := Paired.length h
theorem RL.get {K : Fg9} {H : Hp} : ∀ {vs : List V} {qs : List Rat} {i : Nat} {v : V}, RL K H vs qs → vs[i]? = some v → ∃ q, qs[i]? = some q ∧ IsQ K H v q
 | _, _, _, _, .nil, e => by simp at e
 | v0 :: _, q0 :: _, 0, v, .cons h _, e => by
  have e' : v0 = v := by simpa using e
  subst e'
  exact ⟨_, rfl, h⟩
 | _ :: _, _ :: _, i + 1, v, .cons _ t, e => by
  obtain ⟨q, h1, h2⟩ := RL.get (i := i) (v := v) t (by simpa using e)
  exact ⟨q, by simpa using h1, h2⟩
theorem RL.snoc {K : Fg9} {H : Hp} {vs : List V} {qs : List Rat} {v : V} {q : Rat} (h : RL K H vs qs) (k : IsQ K H v q) : RL K H (vs ++ [v]) (qs ++ [q]) := Paired.snoc h k
theorem RL.take {K : Fg9} {H : Hp} : ∀ {vs : List V} {qs : List Rat} (n : Nat), RL K H vs qs → RL K H (vs.take n) (qs.take n)
 | _, _, 0, _ => by rw [List.take_zero, List.take_zero]; exact .nil
 | _, _, _ + 1, .nil => .nil
 | _, _, n + 1, .cons h t => .cons h (RL.take n t)
theorem RL.drop {K : Fg9} {H : Hp} : ∀ {vs : List V} {qs : List Rat} (n : Nat), RL K H vs qs → RL K H (vs.drop n) (qs.drop n)
 | _, _, 0, h => h
 | _, _, _ + 1, .nil => .nil
 | _, _, n + 1, .cons _ t => RL.drop n t
theorem zY {α : Type} {xs : List α} {i : Nat} {x : α} (h : xs[i]? = some x) : xs.take (i + 1) = xs.take i ++ [x] := by
 rw [List.take_succ, h]; rfl
def RetL (K : Fg9) (H : Hp) (Q : VK) (qs : List Rat) : Prop := ∀ p H' ys, H p = none → Same H H' → H' p = some (.lst ys) → RL K H' ys qs → Q (.ref p) H'
theorem _root_.L2.Same.laid {H H' : Hp} {p : Addr} (g : Same H H') (hn : H p = none) (o : HO) : Same H (upd H' p o) := fun b u q => by
 rw [y7 (zK q hn)]
 exact g _ _ q
theorem zQ {H H' : Hp} {p : Addr} (g : Same H H') (h : H' p = none) : H p = none := by
 cases e : H p with
 | none => rfl
 | some o => rw [g _ _ e] at h; cases h
theorem at0 {x : V} {r : List V} : atI (x :: r) 0 = some x := by
 unfold atI ixN
 rw [if_pos (Int.le_refl _), if_pos (by rw [List.length_cons]; omega)]
 rfl
theorem atN {vs : List V} {n : Nat} {x : V} (h : vs[n]? = some x) : atI vs (n : Int) = some x := by
 have hn := (List.getElem?_eq_some_iff.mp h).1
 unfold atI ixN
 rw [if_pos (by omega), if_pos (by omega)]
 show vs[((n : Int)).toNat]? = some x
 rw [Int.toNat_natCast]
 exact h
theorem cutHi {vs : List V} {n : Nat} (h : n ≤ vs.length) : cutV vs none (some (n : Int)) = vs.take n := by
 unfold cutV
 rw [HT.sIx_nat, HT.sIx_none, Nat.min_eq_left h]
 rfl
theorem ok_plus (T : Txt K mg a) : FnOk P w K mg base CX0 2 a.f_plus a.d_plus ["one", "other"] (spBinQ K (· + ·)) := (ok_plusR T).imp fun vs H Q E h => by
 obtain ⟨p, r, x, y, e, hp, hr, sx, sy, q⟩ := h
 refine ⟨p, r, x.num, x.den, y.num, y.den, e, hp, hr, Q4 x, Q4 y, sx.1, sx.2, sy.1, sy.2, ?_⟩
 rw [(q_plus x y).1, (q_plus x y).2]
 exact q
theorem YX (T : Txt K mg a) : FnOk P w K mg base CX0 2 a.f_times a.d_times ["one", "other"] (spBinQ K (· * ·)) := (ok_timesR T).imp fun vs H Q E h => by
 obtain ⟨p, r, x, y, e, hp, hr, sx, sy, q⟩ := h
 refine ⟨p, r, x.num, x.den, y.num, y.den, e, hp, hr, Q4 x, Q4 y, sx.1, sx.2, sy.1, sy.2, ?_⟩
 rw [(q_times x y).1, (q_times x y).2]
 exact q
theorem SmQ.negq {n : Nat} {q : Rat} (h : SmQ n q) : SmQ n (-q) := ⟨h.1.neg, h.2⟩
theorem ok_minus (T : Txt K mg a) : FnOk P w K mg base CX0 3 a.f_minus a.d_minus ["one", "other"] (spBinQ K (· - ·)) := by
 refine T.F_minus.ok sc_minus (fun vs H Q E h => ?_) (fun cdv A outer s H vs Q E hr h => ?_)
 ·obtain ⟨_, _, _, _, rfl, _⟩ := h
  rfl
 obtain ⟨p, r, x, y, rfl, hp, hq, sx, sy, q⟩ := h
 refine ⟨_, (qV (zw (qK (ok_plus T) (hr.mono (by decide)) rfl T.m_plus T.F_plus.kp T.b_plus .nil pass0 (pa_c (pv 0) (pa_c (yq (pa_c (pe_un Z7 (pe_ix qY (pv 1) qk (fun _ _ => rfl))) (pa_c (pe_ix qY (pv 1) qk (fun _ _ => rfl)) qj))) qj)) (he := qz rfl _ _) (hpl := qZ rfl)))), ?_⟩
 refine ⟨_, rfl, _, rfl, _, _, _, _, rfl, rfl, hq, rfl, _, rfl, _, rfl, _, _, _, _, rfl, rfl, hq, rfl, y9, fun t ht => ?_⟩
 have g := qy ht (.tup (T2 (-y.num) y.den))
 refine ⟨p, t, x, -y, rfl, g.tup hp, SqT.of qv, sx, SmQ.negq sy, ?_⟩
 dsimp only
 rw [← Rat.sub_eq_add_neg]
 exact RetT.mono q g
theorem wv {α β : Type} {F : α → β → Prop} : ∀ {vs : List α} {qs : List β} {i : Nat} {v : α}, Paired F vs qs → vs[i]? = some v → ∃ q, qs[i]? = some q ∧ F v q
 | _, _, _, _, .nil, e => by simp at e
 | v0 :: _, q0 :: _, 0, v, .cons h _, e => by
  have e' : v0 = v := by simpa using e
  subst e'
  exact ⟨_, rfl, h⟩
 | _ :: _, _ :: _, i + 1, v, .cons _ t, e => by
  obtain ⟨q, h1, h2⟩ := wv (i := i) (v := v) t (by simpa using e)
  exact ⟨q, by simpa using h1, h2⟩
theorem ZX {α β : Type} {F : α → β → Prop} : ∀ {vs ws : List α} {qs rs : List β}, Paired F vs qs → Paired F ws rs → Paired F (vs ++ ws) (qs ++ rs)
 | _, _, _, _, .nil, k => k
 | _, _, _, _, .cons h t, k => .cons h (ZX t k)
theorem nil_get {α : Type} {j : Nat} {x : α} {p : Prop} (h : ([] : List α)[j]? = some x) : p := by simp at h
theorem paired_take {α β : Type} {F : α → β → Prop} : ∀ {vs : List α} {qs : List β} (n : Nat), Paired F vs qs → Paired F (vs.take n) (qs.take n)
 | _, _, 0, _ => by rw [List.take_zero, List.take_zero]; exact .nil
 | _, _, _ + 1, .nil => .nil
 | _, _, n + 1, .cons h t => .cons h (paired_take n t)
def Wh (K : Fg9) (H : Hp) (x : V) (b : Bool) : Prop := (IsI K H x "int" false ∧ b = false) ∨ (IsI K H x "int" true ∧ IsI K H x "bool" (!b))
theorem Wh.int {K : Fg9} {H : Hp} (i : Int) : Wh K H (.int i) true := .inr ⟨.intInt i, .intBool i⟩
theorem _root_.L2.IsI.mono {K : Fg9} {H H' : Hp} {x : V} {t : String} {b : Bool} (g : Same H H') (h : IsI K H x t b) : IsI K H' x t b := by
 cases h with
 | intInt i => exact .intInt i
 | intBool i => exact .intBool i
 | blInt i => exact .blInt i
 | blBool i => exact .blBool i
 | nonInt => exact .nonInt
 | strInt i => exact .strInt i
 | strStr i => exact .strStr i
 | tupTup h => exact .tupTup (g.tup h)
 | tupInt h => exact .tupInt (g.tup h)
 | lstList h => exact .lstList (g.seq h)
 | lstInt h => exact .lstInt (g.seq h)
 | dictInt h => exact .dictInt (g _ _ h)
theorem Wh.mono {K : Fg9} {H H' : Hp} {x : V} {b : Bool} (g : Same H H') (h : Wh K H x b) : Wh K H' x b := h.imp (fun z => ⟨z.1.mono g, z.2⟩) fun z => ⟨z.1.mono g, z.2.mono g⟩
def spWholeA (K : Fg9) : Sp := fun vs H Q _ => ∃ x b, vs = [x] ∧ Wh K H x b ∧ Q (.bl b) H
theorem ok_is_whole (T : Txt K mg a) : FnOk P w K mg base CX0 1 a.f_is_whole a.d_is_whole ["thing"] (spWholeA K) := by
 refine T.F_is_whole.ok sc_is_whole (fun vs H Q E h => ?_) (fun cdv A outer s H vs Q E hr h => ?_)
 ·obtain ⟨x, b, rfl, _⟩ := h
  rfl
 obtain ⟨x, b, rfl, h, q⟩ := h
 refine ⟨_, (qV (zw (pe_and (zq (wX) rfl T.m_isinstance boot_isinstance (pa_c (pv 0) (pa_c (vX (v := .ty "int") rfl T.m_int boot_int rfl) qj)) (he := qz rfl _ _) (hpl := qZ rfl)) (pe_one (pe_not (zq (wX) rfl T.m_isinstance boot_isinstance (pa_c (pv 0) (pa_c (vX (v := .ty "bool") rfl T.m_bool boot_bool rfl) qj)) (he := qz rfl _ _) (hpl := qZ rfl))))))), ?_⟩
 rcases h with ⟨h1, rfl⟩ | ⟨h1, h2⟩
 ·exact ⟨_, rfl, _, _, _, rfl, h1, _, rfl, iteF q⟩
 ·refine ⟨_, rfl, _, _, _, rfl, h1, _, rfl, iteT ⟨_, rfl, _, _, _, rfl, h2, _, rfl, ?_⟩⟩
  rw [Bool.not_not]
  exact q
def spWhole : Sp := fun vs H Q _ => ∃ i, vs = [.int i] ∧ Q (.bl true) H
theorem _root_.L2.IsL.mono {K : Fg9} {H H' : Hp} {x : V} {t : String} {b : Bool} (g : Same H H') (h : IsL K H x t b) : IsL K H' x t b := by
 cases h with
 | old h => exact .old (h.mono g)
 | lstTup h => exact .lstTup (g.seq h)
 | tupList h => exact .tupList (g.tup h)
 | intList i => exact .intList i
 | intTup i => exact .intTup i
theorem _root_.L2.IsA.mono {K : Fg9} {H H' : Hp} {x : V} {t : String} {b : Bool} (g : Same H H') (h : IsA K H x t b) : IsA K H' x t b := by
 cases h with
 | old h => exact .old (h.mono g)
 | blTup b => exact .blTup b
 | blList b => exact .blList b
 | nonTup => exact .nonTup
 | nonList => exact .nonList
 | strTup z => exact .strTup z
 | strList z => exact .strList z
 | dictTup h => exact .dictTup (g _ _ h)
 | dictList h => exact .dictList (g _ _ h)
inductive NR (K : Fg9) (H : Hp) : V → Prop where
 | no {x : V} (h : IsA K H x "tuple" false) : NR K H x
 | len {p : Addr} {xs : List V} (h : SqT K H p xs) (n : xs.length ≠ 2) : NR K H (.ref p)
 | fst {p : Addr} {u v : V} (h : SqT K H p [u, v]) (k : Wh K H u false) : NR K H (.ref p)
 | snd {p : Addr} {u v : V} (h : SqT K H p [u, v]) (k : Wh K H u true) (k2 : Wh K H v false) : NR K H (.ref p)
 | low {p : Addr} {x y : Int} (h : SqT K H p (T2 x y)) (k : y < 1) : NR K H (.ref p)
 | part {p : Addr} {x y : Int} (h : SqT K H p (T2 x y)) (k : 1 ≤ y) (g : Int.gcd x y ≠ 1) : NR K H (.ref p)
def spIsA (K : Fg9) : Sp := fun vs H Q _ => ∃ x, vs = [x] ∧ ((NR K H x ∧ Q (.bl false) H) ∨ ∃ (p : Addr) (q : Rat), x = .ref p ∧ SqT K H p (TQ q) ∧ Q (.bl true) H)
theorem ok_is_ratio (T : Txt K mg a) : FnOk P w K mg base CX0 2 a.f_is_ratio a.d_is_ratio ["thing"] (spIsA K) := by
 refine T.F_is_ratio.ok sc_is_ratio (fun vs H Q E h => ?_) (fun cdv A outer s H vs Q E hr h => ?_)
 ·obtain ⟨_, rfl, _⟩ := h
  rfl
 obtain ⟨x, rfl, h⟩ := h
 refine ⟨_, (qW (ps_if (PW.pt (pw_or (jQ (yX (zq (JJ) rfl T.m_isinstance boot_isinstance (pa_c (pv 0) (pa_c (vX (v := .ty "tuple") rfl T.m_tuple boot_tuple rfl) qj)) (he := qz rfl _ _) (hpl := qZ rfl)))) (xv (zJ op_ne (zq (zZ) rfl T.m_len boot_len (pa_c (pv 0) qj) (he := qz rfl _ _) (hpl := qZ rfl)) qk (zX _)))))
    (qV (zw pe_bl))
    zW)
   (qW (ps_if (PW.pt (pw_or (jQ (yX (qK (ok_is_whole T) (hr.mono (by decide)) rfl T.m_is_whole T.F_is_whole.kp T.b_is_whole .nil pass0 (pa_c (pe_ix qY (pv 0) qk (fun _ _ => rfl)) qj) (he := qz rfl _ _) (hpl := qZ rfl)))) (pw_or (jQ (yX (qK (ok_is_whole T) (hr.mono (by decide)) rfl T.m_is_whole T.F_is_whole.kp T.b_is_whole .nil pass0 (pa_c (pe_ix qY (pv 0) qk (fun _ _ => rfl)) qj) (he := qz rfl _ _) (hpl := qZ rfl)))) (xv (zJ op_lt (pe_ix qY (pv 0) qk (fun _ _ => rfl)) qk (zX _))))))
    (qV (zw pe_bl))
    zW)
   (qV (zw (Q6 op_eq (qK (ZK T) (hr.mono (by decide)) rfl T.m_common T.F_common.kp T.b_common .nil pass0 (pa_c (zq (Z6) rfl T.m_abs boot_abs (pa_c (pe_ix qY (pv 0) qk (fun _ _ => rfl)) qj) (he := qz rfl _ _) (hpl := qZ rfl)) (pa_c (pe_ix qY (pv 0) qk (fun _ _ => rfl)) qj)) (he := qz rfl _ _) (hpl := qZ rfl)) qk (zX _)))))), ?_⟩
 have tup : ∀ {p : Addr} {xs : List V}, SqT K H p xs → IsA K H (.ref p) "tuple" true := fun h => .old (.old (.tupTup h))
 rcases h with ⟨nr, q⟩ | ⟨p, z, rfl, hp, q⟩
 ·cases nr with
  | no h => exact ⟨_, rfl, _, _, _, rfl, h, _, rfl, iteT q⟩
  | @len p xs h n =>
   refine ⟨_, rfl, _, _, _, rfl, tup h, _, rfl, iteF ⟨_, rfl, _, _, rfl, .inr h, rfl, _, rfl, iteNP (fun z => n (by have := V.int.inj z; omega)) q⟩⟩
  | fst h k =>
   refine ⟨_, rfl, _, _, _, rfl, tup h, _, rfl, iteF ⟨_, rfl, _, _, rfl, .inr h, rfl, _, rfl, iteF ?_⟩⟩
   refine ⟨_, rfl, _, _, _, _, rfl, rfl, h, rfl, _, _, rfl, k, _, rfl, iteT q⟩
  | snd h k k2 =>
   refine ⟨_, rfl, _, _, _, rfl, tup h, _, rfl, iteF ⟨_, rfl, _, _, rfl, .inr h, rfl, _, rfl, iteF ?_⟩⟩
   refine ⟨_, rfl, _, _, _, _, rfl, rfl, h, rfl, _, _, rfl, k, _, rfl, iteF ⟨_, rfl, _, _, _, _, rfl, rfl, h, rfl, _, _, rfl, k2, _, rfl, iteT q⟩⟩
  | low h k =>
   refine ⟨_, rfl, _, _, _, rfl, tup h, _, rfl, iteF ⟨_, rfl, _, _, rfl, .inr h, rfl, _, rfl, iteF ?_⟩⟩
   refine ⟨_, rfl, _, _, _, _, rfl, rfl, h, rfl, _, _, rfl, .int _, _, rfl, iteF ⟨_, rfl, _, _, _, _, rfl, rfl, h, rfl, _, _, rfl, .int _, _, rfl, iteF ⟨_, rfl, _, _, _, _, rfl, rfl, h, rfl, _, _, rfl, rfl, _, rfl, iteP k q⟩⟩⟩
  | @part p x y h k g =>
   refine ⟨_, rfl, _, _, _, rfl, tup h, _, rfl, iteF ⟨_, rfl, _, _, rfl, .inr h, rfl, _, rfl, iteF ?_⟩⟩
   refine ⟨_, rfl, _, _, _, _, rfl, rfl, h, rfl, _, _, rfl, .int _, _, rfl, iteF ⟨_, rfl, _, _, _, _, rfl, rfl, h, rfl, _, _, rfl, .int _, _, rfl, iteF ⟨_, rfl, _, _, _, _, rfl, rfl, h, rfl, _, _, rfl, rfl, _, rfl, iteN (by omega) ?_⟩⟩⟩
   refine ⟨_, rfl, _, _, _, _, rfl, rfl, h, rfl, _, rfl, _, rfl, _, _, _, _, rfl, rfl, h, rfl, _, _, rfl, abs_nn _, by omega, rfl, ?_⟩
   dsimp only
   have e : decide (V.int ((Int.gcd (if x < 0 then -x else x) y : Nat) : Int) = V.int 1) = false := decide_eq_false fun z => g (by
    have z := V.int.inj z
    have e2 : Int.gcd (if x < 0 then -x else x) y = Int.gcd x y := by split <;> simp [Int.neg_gcd]
    rw [e2] at z
    omega)
   rw [e]
   exact q
 ·have R := Q4 z
  have hy := R.pos
  refine ⟨_, rfl, _, _, _, rfl, tup hp, _, rfl, iteF ⟨_, rfl, _, _, rfl, .inr hp, rfl, _, rfl, iteF ?_⟩⟩
  refine ⟨_, rfl, _, _, _, _, rfl, rfl, hp, rfl, _, _, rfl, .int _, _, rfl, iteF ⟨_, rfl, _, _, _, _, rfl, rfl, hp, rfl, _, _, rfl, .int _, _, rfl, iteF ⟨_, rfl, _, _, _, _, rfl, rfl, hp, rfl, _, _, rfl, rfl, _, rfl, iteN (by omega) ?_⟩⟩⟩
  refine ⟨_, rfl, _, _, _, _, rfl, rfl, hp, rfl, _, rfl, _, rfl, _, _, _, _, rfl, rfl, hp, rfl, _, _, rfl, abs_nn _, by omega, rfl, ?_⟩
  dsimp only
  have e : Int.gcd (if z.num < 0 then -z.num else z.num) (z.den : Int) = 1 := by
   have g := R.low
   split <;> simp [Int.neg_gcd, g]
  rw [e]
  exact q
theorem Y6 (T : Txt K mg a) : FnOk P w K mg base CX0 1 a.f_is_whole a.d_is_whole ["thing"] spWhole :=
 (ok_is_whole T).imp fun vs H Q E h => by
  obtain ⟨i, rfl, q⟩ := h
  exact ⟨_, _, rfl, .int i, q⟩
def spIsQ (K : Fg9) : Sp := fun vs H Q _ => ∃ (p : Addr) (x : Rat), vs = [.ref p] ∧ SqT K H p (TQ x) ∧ Q (.bl true) H
theorem Y7 (T : Txt K mg a) : FnOk P w K mg base CX0 2 a.f_is_ratio a.d_is_ratio ["thing"] (spIsQ K) :=
 (ok_is_ratio T).imp fun vs H Q E h => by
  obtain ⟨p, x, rfl, hp, q⟩ := h
  exact ⟨_, rfl, .inr ⟨p, x, rfl, hp, q⟩⟩
def RetS (K : Fg9) (H : Hp) (Q : VK) (xs : List V) : Prop := ∀ p H', Same H H' → SqT K H' p xs → Q (.ref p) H'
def spLessQ (K : Fg9) : Sp := fun vs H Q _ => ∃ (p r : Addr) (x y : Rat), vs = [.ref p, .ref r] ∧ SqT K H p (TQ x) ∧ SqT K H r (TQ y) ∧ SmQ 9000 x ∧ SmQ 9000 y ∧ Q (.bl (decide (x < y))) H
theorem J5 (T : Txt K mg a) : FnOk P w K mg base CX0 1 a.f_less a.d_less ["one", "other"] (spLessQ K) := by
 refine T.F_less.ok sc_less (fun vs H Q E h => ?_) (fun cdv A outer s H vs Q E hr h => ?_)
 ·obtain ⟨_, _, _, _, rfl, _⟩ := h
  rfl
 obtain ⟨p, r, x, y, rfl, hp, hq, sx, sy, q⟩ := h
 refine ⟨_, (qV (zw (Q6 op_lt (pe_op jY (pe_ix qY (pv 0) qk (fun _ _ => rfl)) (pe_ix qY (pv 1) qk (fun _ _ => rfl))) (pe_op jY (pe_ix qY (pv 1) qk (fun _ _ => rfl)) (pe_ix qY (pv 0) qk (fun _ _ => rfl))) (zX _)))), ?_⟩
 rw [← q_less] at q
 exact ⟨_, rfl, _, _, _, _, rfl, rfl, hp, rfl, _, rfl, _, _, _, _, rfl, rfl, hq, rfl, _, _, rfl, rfl, mulOk sx.1 sy.2, _, rfl, _, _, _, _, rfl, rfl, hq, rfl, _, rfl, _, _, _, _, rfl, rfl, hp, rfl, _, _, rfl, rfl, mulOk sy.1 sx.2, _, _, rfl, rfl, q⟩
def spPlain (K : Fg9) : Sp := fun vs H Q _ => ∃ (p : Addr) (x : Rat), vs = [.ref p] ∧ SqT K H p (TQ x) ∧ RetT H Q (TQ x)
theorem ok_plain (T : Txt K mg a) : FnOk P w K mg base CX0 1 a.f_plain a.d_plain ["one"] (spPlain K) := by
 refine T.F_plain.ok sc_plain (fun vs H Q E h => ?_) (fun cdv A outer s H vs Q E hr h => ?_)
 ·obtain ⟨_, _, rfl, _⟩ := h
  rfl
 obtain ⟨p, x, rfl, hp, q⟩ := h
 refine ⟨_, (qV (zw (yq (pa_c (jy (Yw) rfl T.m_int boot_int (pa_c (pe_ix qY (pv 0) qk (fun _ _ => rfl)) qj) (he := qz rfl _ _) (hpl := qZ rfl)) (pa_c (jy (Yw) rfl T.m_int boot_int (pa_c (pe_ix qY (pv 0) qk (fun _ _ => rfl)) qj) (he := qz rfl _ _) (hpl := qZ rfl)) qj))))), ?_⟩
 exact ⟨_, rfl, _, _, _, _, rfl, rfl, hp, rfl, .inl ⟨_, rfl, _, rfl, _, _, _, _, rfl, rfl, hp, rfl, .inl ⟨_, rfl, y9, fun p' hp' => q.new hp'⟩⟩⟩
def Qj (K : Fg9) (H : Hp) (v : V) (s : Rat × Rat) : Prop := ∃ p pl ph, v = .ref p ∧ SqT K H p [.ref pl, .ref ph] ∧ SqT K H pl (TQ s.1) ∧ SqT K H ph (TQ s.2)
theorem Qj.mono {K : Fg9} {H H' : Hp} {v : V} {s : Rat × Rat} (h : Qj K H v s) (g : Same H H') : Qj K H' v s := by
 obtain ⟨p, pl, ph, e, h1, h2, h3⟩ := h
 exact ⟨p, pl, ph, e, g.tup h1, g.tup h2, g.tup h3⟩
def SL (K : Fg9) (H : Hp) (vs : List V) (ss : List (Rat × Rat)) : Prop := Paired (Qj K H) vs ss
theorem SL.mono {K : Fg9} {H H' : Hp} {vs : List V} {ss : List (Rat × Rat)} (h : SL K H vs ss) (g : Same H H') : SL K H' vs ss := Paired.mapP h fun _ _ q => q.mono g
theorem SL.length {K : Fg9} {H : Hp} {vs : List V} {ss : List (Rat × Rat)} (h : SL K H vs ss) : vs.length = ss.length := Paired.length h
theorem SL.get {K : Fg9} {H : Hp} {vs : List V} {ss : List (Rat × Rat)} {i : Nat} {v : V} (h : SL K H vs ss) (e : vs[i]? = some v) : ∃ s, ss[i]? = some s ∧ Qj K H v s := wv h e
theorem SL.snoc {K : Fg9} {H : Hp} {vs : List V} {ss : List (Rat × Rat)} {v : V} {s : Rat × Rat} (h : SL K H vs ss) (k : Qj K H v s) : SL K H (vs ++ [v]) (ss ++ [s]) := Paired.snoc h k
theorem SqT.upd_lst {K : Fg9} {H : Hp} {b t : Addr} {xs ys : List V} {o : HO} (h : SqT K H b xs) (e : H t = some (.lst ys)) : SqT K (upd H t o) b xs := by
 rcases h with (h | ⟨u, h⟩) | h
 ·exact .inl (.inl (by rw [y7 (ne_of h e (by intro z; cases z))]; exact h))
 ·exact .inl (.inr ⟨u, by rw [y7 (ne_of h e (by intro z; cases z))]; exact h⟩)
 ·exact .inr h
theorem SqT.upd_ins {K : Fg9} {H : Hp} {b t C dx : Addr} {xs : List V} {fs : List (Str × V)} {o : HO} (h : SqT K H b xs) (e : H t = some (.ins C dx fs)) : SqT K (upd H t o) b xs := by
 rcases h with (h | ⟨u, h⟩) | h
 ·exact .inl (.inl (by rw [y7 (ne_of h e (by intro z; cases z))]; exact h))
 ·exact .inl (.inr ⟨u, by rw [y7 (ne_of h e (by intro z; cases z))]; exact h⟩)
 ·exact .inr h
theorem SL.upd_ins {K : Fg9} {H : Hp} {t C dx : Addr} {vs : List V} {ss : List (Rat × Rat)} {fs : List (Str × V)} {o : HO} (h : SL K H vs ss) (e : H t = some (.ins C dx fs)) : SL K (upd H t o) vs ss :=
 Paired.mapP h fun _ _ ⟨p, pl, ph, e0, h1, h2, h3⟩ => ⟨p, pl, ph, e0, SqT.upd_ins h1 e, SqT.upd_ins h2 e, SqT.upd_ins h3 e⟩
theorem SL.upd_lst {K : Fg9} {H : Hp} {t : Addr} {vs ys : List V} {ss : List (Rat × Rat)} {o : HO} (h : SL K H vs ss) (e : H t = some (.lst ys)) : SL K (upd H t o) vs ss :=
 Paired.mapP h fun _ _ ⟨p, pl, ph, e0, h1, h2, h3⟩ => ⟨p, pl, ph, e0, SqT.upd_lst h1 e, SqT.upd_lst h2 e, SqT.upd_lst h3 e⟩
theorem RL.upd_lst {K : Fg9} {H : Hp} {t : Addr} {vs ys : List V} {qs : List Rat} {o : HO} (h : RL K H vs qs) (e : H t = some (.lst ys)) : RL K (upd H t o) vs qs := Paired.mapP h fun _ _ ⟨p, e1, s⟩ => ⟨p, e1, SqT.upd_lst s e⟩
def RetSide (K : Fg9) (H : Hp) (Q : VK) (s : Rat × Rat) : Prop := ∀ p H', Same H H' → Qj K H' (.ref p) s → Q (.ref p) H'
def spSide (K : Fg9) : Sp := fun vs H Q _ => ∃ (v : V) (s : Rat × Rat), vs = [v] ∧ Qj K H v s ∧ s.1 ≤ s.2 ∧ SmQ 9000 s.1 ∧ SmQ 9000 s.2 ∧ RetSide K H Q s
abbrev Q9 (P w K mg base) (a : Adr) (cdv A outer s H E) := (cxOf CX0 P w K mg base ["side"] "checked_side" (qQ j6) a.f_checked_side cdv A outer s H E).nox
theorem ok_checked_side (T : Txt K mg a) : FnOk P w K mg base CX0 3 a.f_checked_side a.d_checked_side ["side"] (spSide K) := by
 refine T.F_checked_side.ok sc_checked_side (fun vs H Q E h => ?_) (fun cdv A outer s H vs Q E hr h => ?_)
 ·obtain ⟨_, _, rfl, _⟩ := h
  rfl
 obtain ⟨v, sd, rfl, ⟨p, pl, ph, rfl, hp, h1, h2⟩, le, m1, m2, q⟩ := h
 have h0 : PS (Q9 P w K mg base a cdv A outer s H E) (bS j6 0) _ := (ps_if (PW.pt (pw_or (jQ (yX (zq (wX) rfl T.m_isinstance boot_isinstance (pa_c (pv 0) (pa_c (vX (v := .ty "tuple") rfl T.m_tuple boot_tuple rfl) qj)) (he := qz rfl _ _) (hpl := qZ rfl)))) (xv (zJ op_ne (zq (zZ) rfl T.m_len boot_len (pa_c (pv 0) qj) (he := qz rfl _ _) (hpl := qZ rfl)) qk (zX _)))))
    (qV jw)
    zW)
 have h1 : PS (Q9 P w K mg base a cdv A outer s H E) (bS j6 1) _ := (ps_if (PW.pt (pw_or (jQ (yX (qK (Y7 T) (hr.mono (by decide)) rfl T.m_is_ratio T.F_is_ratio.kp T.b_is_ratio .nil pass0 (pa_c (pe_ix qY (pv 0) qk (fun _ _ => rfl)) qj) (he := qz rfl _ _) (hpl := qZ rfl)))) (xv (jQ (yX (qK (Y7 T) (hr.mono (by decide)) rfl T.m_is_ratio T.F_is_ratio.kp T.b_is_ratio .nil pass0 (pa_c (pe_ix qY (pv 0) qk (fun _ _ => rfl)) qj) (he := qz rfl _ _) (hpl := qZ rfl)))))))
    (qV jw)
    zW)
 have h2 : PS (Q9 P w K mg base a cdv A outer s H E) (bS j6 2) _ := (ps_if (yX (qK (J5 T) (hr.mono (by decide)) rfl T.m_less T.F_less.kp T.b_less .nil pass0 (pa_c (pe_ix qY (pv 0) qk (fun _ _ => rfl)) (pa_c (pe_ix qY (pv 0) qk (fun _ _ => rfl)) qj)) (he := qz rfl _ _) (hpl := qZ rfl)))
    (qV jw)
    zW)
 have h3 : PS (Q9 P w K mg base a cdv A outer s H E) (bS j6 3) _ := (zw (yq (pa_c (qK (ok_plain T) (hr.mono (by decide)) rfl T.m_plain T.F_plain.kp T.b_plain .nil pass0 (pa_c (pe_ix qY (pv 0) qk (fun _ _ => rfl)) qj) (he := qz rfl _ _) (hpl := qZ rfl)) (pa_c (qK (ok_plain T) (hr.mono (by decide)) rfl T.m_plain T.F_plain.kp T.b_plain .nil pass0 (pa_c (pe_ix qY (pv 0) qk (fun _ _ => rfl)) qj) (he := qz rfl _ _) (hpl := qZ rfl)) qj))))
 refine body4 (by rfl) h0 h1 h2 h3 ?_
 intros
 clear h0 h1 h2 h3
 refine ⟨_, rfl, _, _, _, rfl, IsI.tupTup hp, _, rfl, iteF ⟨_, rfl, _, _, rfl, .inr hp, rfl, _, rfl, iteF ?_⟩⟩
 refine ⟨_, rfl, _, _, _, _, rfl, rfl, hp, rfl, pl, _, rfl, h1, _, rfl, iteF ⟨_, rfl, _, _, _, _, rfl, rfl, hp, rfl, ph, _, rfl, h2, _, rfl, iteF ?_⟩⟩
 refine ⟨_, rfl, _, _, _, _, rfl, rfl, hp, rfl, _, rfl, _, _, _, _, rfl, rfl, hp, rfl, ph, pl, _, _, rfl, h2, h1, m2, m1, _, rfl, iteN (Rat.not_lt.mpr le) ?_⟩
 refine ⟨_, rfl, _, _, _, _, rfl, rfl, hp, rfl, pl, _, rfl, h1, fun p1 H1 g1 e1 => ?_⟩
 refine ⟨_, rfl, _, _, _, _, rfl, rfl, g1.tup hp, rfl, ph, _, rfl, g1.tup h2, fun p2 H2 g2 e2 => ⟨y9, fun t ht => ?_⟩⟩
 have g3 := qy ht (.tup [.ref p1, .ref p2])
 exact q t _ (g1.trans (g2.trans g3)) ⟨t, p1, p2, rfl, SqT.of qv, SqT.of (g3 _ _ (g2 _ _ e1)), SqT.of (g3 _ _ e2)⟩
def BoxAt (C : Addr) (H : Hp) (p l : Addr) : Prop := ∃ dx, H p = some (.ins C dx [("sides", .ref l)])
theorem BoxAt.mono {C : Addr} {H H' : Hp} {p l : Addr} (h : BoxAt C H p l) (g : Same H H') : BoxAt C H' p l := by
 obtain ⟨dx, e⟩ := h
 exact ⟨dx, g _ _ e⟩
def spInit (K : Fg9) (C : Addr) : Sp := fun vs H Q _ => ∃ (x dx l : Addr) (v1 : List V) (ss : List (Rat × Rat)), vs = [.ref x, .ref l] ∧ H x = some (.ins C dx []) ∧ SqL K H l v1 ∧ SL K H v1 ss ∧ 1 ≤ ss.length ∧ ss.length ≤ 6 ∧ (∀ s ∈ ss, s.1 ≤ s.2 ∧ SmQ 9000 s.1 ∧ SmQ 9000 s.2) ∧ ∀ m v2 H', (∀ b u, b ≠ x → H b = some u → H' b = some u) → H m = none → BoxAt C H' x m → H' m = some (.lst v2) → SL K H' v2 ss → Q .non H'
theorem ok_Box_init (T : Txt K mg a) : FnOk P w K mg base CX0 4 a.f_Box_init a.d_Box_init ["self", "sides"] (spInit K a.c_Box) := by
 refine T.F_Box_init.ok sc_Box_init (fun vs H Q E h => ?_) (fun cdv A outer s H vs Q E hr h => ?_)
 ·obtain ⟨_, _, _, _, _, rfl, _⟩ := h
  rfl
 obtain ⟨x, dx, l, v1, ss, rfl, hx, hl, r1, lo, hi, sz, q⟩ := h
 refine ⟨_, (qW (ps_if (PW.pt (pw_or (jQ (yX (zq (wX) rfl T.m_isinstance boot_isinstance (pa_c (pv 1) (pa_c (vX (v := .ty "list") rfl T.m_list boot_list rfl) qj)) (he := qz rfl _ _) (hpl := qZ rfl)))) (pw_or (zJ op_lt (zq (zZ) rfl T.m_len boot_len (pa_c (pv 1) qj) (he := qz rfl _ _) (hpl := qZ rfl)) qk (zX _)) (xv (zJ op_gt (zq (zZ) rfl T.m_len boot_len (pa_c (pv 1) qj) (he := qz rfl _ _) (hpl := qZ rfl)) (yZ (v := .int 6) rfl T.m_MOST_SIDES ⟨_, rfl⟩) (zX _))))))
    (qV jw)
    zW)
   (qV (ps_fld (pv 0) (wK (N := ["side"]) (ix := [none]) ⟨rfl, rfl, rfl, rfl, trivial, rfl, trivial⟩ rfl (jV (pv 1)) (fun _ => (zx (i := 0) (show (["side"] : List Str).Nodup by decide +kernel) rfl (Or.inl rfl))) (fun _ σ => wV rfl σ) (fun _ => jk) (fun _ => (qK (ok_checked_side T) (hr.mono (by decide)) rfl T.m_checked_side T.F_checked_side.kp T.b_checked_side .nil pass0 (pa_c (pv 0) qj) (he := qz rfl _ _) (hpl := qZ rfl)))) rfl))), ?_⟩
 have l1 := r1.length
 refine ⟨_, rfl, _, _, _, rfl, IsI.lstList hl, _, rfl, iteF ⟨_, rfl, _, _, rfl, .inl hl, _, _, rfl, rfl, _, rfl, iteN (by omega) ⟨_, rfl, _, _, rfl, .inl hl, _, _, rfl, rfl, _, rfl, iteN (by omega) ?_⟩⟩⟩
 refine ⟨_, rfl, l, rfl, ⟨_, hl⟩, jq (n := ss.length) (fun i ys H' => Same H H' ∧ SL K H' ys (ss.take i)) ⟨Same.refl _, .nil⟩ (zj (by omega)) ?_ ?_ ?_⟩
 ·rintro ys H' ⟨g, r⟩
  refine ⟨⟨v1, g.seq hl, by omega⟩, fun D hD => ?_⟩
  rw [List.take_of_length_le (Nat.le_refl _)] at r
  have g2 := qy hD (.lst ys)
  have hx2 := (g.trans g2) _ _ hx
  have ne : D ≠ x := Ne.symm (zK (g _ _ hx) hD)
  refine ⟨_, rfl, x, _, dx, [], rfl, hx2, T.C_Box, T.n_Box_sides, by decide, ?_⟩
  exact q D ys _ (fun b u hb e => by rw [y7 hb]; exact (g.trans g2) _ _ e) (zQ g hD) ⟨dx, qv⟩ (by rw [y7 ne]; exact qv) (SL.upd_ins (r.mono g2) hx2)
 ·rintro i ys H' hi' ⟨g, r⟩
  exact ⟨v1, _, g.seq hl, gE9 (by omega)⟩
 ·rintro i m' ys H' c y H2 hi' ⟨g, r⟩ ⟨rfl, y1⟩ nx _
  obtain ⟨sd, es, hs⟩ := r1.get (y1 _ (g.seq hl))
  obtain ⟨k1, k2, k3⟩ := sz sd (List.mem_of_getElem? es)
  refine Or.inl ⟨rfl, _, rfl, y, sd, rfl, hs.mono g, k1, k2, k3, fun p3 H3 g3 e3 => nx _ _ ⟨g.trans g3, ?_⟩⟩
  rw [zY es]
  exact (r.mono g3).snoc e3
def spTold (K : Fg9) (C : Addr) : Sp := fun vs H Q _ => ∃ (p l : Addr) (v : List V), vs = [.ref p] ∧ BoxAt C H p l ∧ SqL K H l v ∧ ∀ q, H q = none → Q (.ref q) (upd H q (.lst v))
theorem ok_Box_told (T : Txt K mg a) : FnOk P w K mg base CX0 1 a.f_Box_told a.d_Box_told ["self"] (spTold K a.c_Box) := by
 refine T.F_Box_told.ok sc_Box_told (fun vs H Q E h => ?_) (fun cdv A outer s H vs Q E hr h => ?_)
 ·obtain ⟨_, _, _, rfl, _⟩ := h
  rfl
 obtain ⟨p, l, v, rfl, ⟨dx, hp⟩, hl, q⟩ := h
 refine ⟨_, (qV (zw (jy (Yq) rfl T.m_list boot_list (pa_c (JY (pv 0) rfl) qj) (he := qz rfl _ _) (hpl := qZ rfl)))), ?_⟩
 exact ⟨_, rfl, p, _, dx, _, _, rfl, hp, T.C_Box, T.n_Box_sides, rfl, l, v, rfl, .inl hl, q⟩
inductive Un where
 | sum (c : Rat) (ts : List (Nat × Rat))
 | bend (p : Nat)
def TermAt (K : Fg9) (H : Hp) (v : V) (x : Nat × Rat) : Prop := ∃ t r, v = .ref t ∧ SqT K H t [.int (x.1 : Int), .ref r] ∧ SqT K H r (TQ x.2)
theorem TermAt.mono {K : Fg9} {H H' : Hp} {v : V} {x : Nat × Rat} (h : TermAt K H v x) (g : Same H H') : TermAt K H' v x := by
 obtain ⟨t, r, e, h1, h2⟩ := h
 exact ⟨t, r, e, g.tup h1, g.tup h2⟩
def TL (K : Fg9) (H : Hp) (vs : List V) (ts : List (Nat × Rat)) : Prop := Paired (TermAt K H) vs ts
theorem TL.mono {K : Fg9} {H H' : Hp} {vs : List V} {ts : List (Nat × Rat)} (h : TL K H vs ts) (g : Same H H') : TL K H' vs ts := Paired.mapP h fun _ _ q => q.mono g
theorem TL.length {K : Fg9} {H : Hp} {vs : List V} {ts : List (Nat × Rat)} (h : TL K H vs ts) : vs.length = ts.length := Paired.length h
theorem TL.get {K : Fg9} {H : Hp} {vs : List V} {ts : List (Nat × Rat)} {i : Nat} {v : V} (h : TL K H vs ts) (e : vs[i]? = some v) : ∃ t, ts[i]? = some t ∧ TermAt K H v t := wv h e
def UnAt (b : Bool) (K : Fg9) (H : Hp) (v : V) : Un → Prop
 | .sum c ts => ∃ t pc pt vs, v = .ref t ∧ SqT K H t [.str "sum", .ref pc, .ref pt] ∧ SqT K H pc (TQ c) ∧ (if b then SqT K H pt vs else SqL K H pt vs) ∧ TL K H vs ts
 | .bend p => ∃ t, v = .ref t ∧ SqT K H t [.str "bend", .int (p : Int)]
theorem UnAt.mono {b : Bool} {K : Fg9} {H H' : Hp} {v : V} {u : Un} (h : UnAt b K H v u) (g : Same H H') : UnAt b K H' v u := by
 cases u with
 | sum c ts =>
  obtain ⟨t, pc, pt, vs, e, h1, h2, h3, h4⟩ := h
  refine ⟨t, pc, pt, vs, e, g.tup h1, g.tup h2, ?_, h4.mono g⟩
  cases b with
  | true => exact g.tup h3
  | false => exact g.seq h3
 | bend p =>
  obtain ⟨t, e, h1⟩ := h
  exact ⟨t, e, g.tup h1⟩
def UL (b : Bool) (K : Fg9) (H : Hp) (vs : List V) (us : List Un) : Prop := Paired (UnAt b K H) vs us
theorem UL.mono {b : Bool} {K : Fg9} {H H' : Hp} {vs : List V} {us : List Un} (h : UL b K H vs us) (g : Same H H') : UL b K H' vs us := Paired.mapP h fun _ _ q => q.mono g
theorem UL.length {b : Bool} {K : Fg9} {H : Hp} {vs : List V} {us : List Un} (h : UL b K H vs us) : vs.length = us.length := Paired.length h
theorem UL.get {b : Bool} {K : Fg9} {H : Hp} {vs : List V} {us : List Un} {i : Nat} {v : V} (h : UL b K H vs us) (e : vs[i]? = some v) : ∃ u, us[i]? = some u ∧ UnAt b K H v u := wv h e
theorem UL.snoc {b : Bool} {K : Fg9} {H : Hp} {vs : List V} {us : List Un} {v : V} {u : Un} (h : UL b K H vs us) (k : UnAt b K H v u) : UL b K H (vs ++ [v]) (us ++ [u]) := Paired.snoc h k
def UnF (lf : Addr) (K : Fg9) (H : Hp) (v : V) : Un → Prop
 | .sum c ts => ∃ t pc pt vs, v = .ref t ∧ SqT K H t [.str "sum", .ref pc, .ref pt] ∧ SqT K H pc (TQ c) ∧ H pt = some (.lst vs) ∧ pt ≠ lf ∧ TL K H vs ts
 | .bend p => ∃ t, v = .ref t ∧ SqT K H t [.str "bend", .int (p : Int)]
theorem UnF.mono {lf : Addr} {K : Fg9} {H H' : Hp} {v : V} {u : Un} (h : UnF lf K H v u) (g : Same H H') : UnF lf K H' v u := by
 cases u with
 | sum c ts =>
  obtain ⟨t, pc, pt, vs, e, h1, h2, h3, n, h4⟩ := h
  exact ⟨t, pc, pt, vs, e, g.tup h1, g.tup h2, g _ _ h3, n, h4.mono g⟩
 | bend p =>
  obtain ⟨t, e, h1⟩ := h
  exact ⟨t, e, g.tup h1⟩
theorem UnF.un {lf : Addr} {K : Fg9} {H : Hp} {v : V} {u : Un} (h : UnF lf K H v u) : UnAt false K H v u := by
 cases u with
 | sum c ts =>
  obtain ⟨t, pc, pt, vs, e, h1, h2, h3, n, h4⟩ := h
  exact ⟨t, pc, pt, vs, e, h1, h2, SqL.of h3, h4⟩
 | bend p => exact h
theorem UnF.upd {lf : Addr} {K : Fg9} {H : Hp} {v : V} {u : Un} {ys : List V} {o : HO} (h : UnF lf K H v u) (e : H lf = some (.lst ys)) : UnF lf K (upd H lf o) v u := by
 cases u with
 | sum c ts =>
  obtain ⟨t, pc, pt, vs, e0, h1, h2, h3, n, h4⟩ := h
  exact ⟨t, pc, pt, vs, e0, SqT.upd_lst h1 e, SqT.upd_lst h2 e, by rw [y7 n]; exact h3, n, Paired.mapP h4 fun _ _ ⟨t, r, e1, k1, k2⟩ => ⟨t, r, e1, SqT.upd_lst k1 e, SqT.upd_lst k2 e⟩⟩
 | bend p =>
  obtain ⟨t, e0, h1⟩ := h
  exact ⟨t, e0, SqT.upd_lst h1 e⟩
def UF (lf : Addr) (K : Fg9) (H : Hp) (vs : List V) (us : List Un) : Prop := Paired (UnF lf K H) vs us
theorem UF.mono {lf : Addr} {K : Fg9} {H H' : Hp} {vs : List V} {us : List Un} (h : UF lf K H vs us) (g : Same H H') : UF lf K H' vs us := Paired.mapP h fun _ _ q => q.mono g
theorem UF.un {lf : Addr} {K : Fg9} {H : Hp} {vs : List V} {us : List Un} (h : UF lf K H vs us) : UL false K H vs us := Paired.mapP h fun _ _ q => q.un
theorem UF.upd {lf : Addr} {K : Fg9} {H : Hp} {vs : List V} {us : List Un} {ys : List V} {o : HO} (h : UF lf K H vs us) (e : H lf = some (.lst ys)) : UF lf K (upd H lf o) vs us := Paired.mapP h fun _ _ q => q.upd e
theorem UF.length {lf : Addr} {K : Fg9} {H : Hp} {vs : List V} {us : List Un} (h : UF lf K H vs us) : vs.length = us.length := Paired.length h
theorem UF.get {lf : Addr} {K : Fg9} {H : Hp} {vs : List V} {us : List Un} {i : Nat} {v : V} (h : UF lf K H vs us) (e : vs[i]? = some v) : ∃ u, us[i]? = some u ∧ UnF lf K H v u := wv h e
theorem UF.snoc {lf : Addr} {K : Fg9} {H : Hp} {vs : List V} {us : List Un} {v : V} {u : Un} (h : UF lf K H vs us) (k : UnF lf K H v u) : UF lf K H (vs ++ [v]) (us ++ [u]) := Paired.snoc h k
def UnN (H0 : Hp) (K : Fg9) (H : Hp) (v : V) (u : Un) : Prop := ∀ lf o, H0 lf = some o → UnF lf K H v u
def WfU (e : Nat) : Un → Prop
 | .sum _ ts => (∀ x ∈ ts, x.1 < e) ∧ (ts.map (·.1)).Nodup ∧ ts.length ≤ 100
 | .bend p => p < e
def isB : Un → Bool
 | .sum _ _ => false
 | .bend _ => true
def WfN (many : Nat) (us : List Un) : Prop := ∀ (k : Nat) (u : Un), us[k]? = some u → WfU (many + k) u
def RetBy (H : Hp) (Q : VK) (P : Hp → V → Prop) : Prop := ∀ p H', Same H H' → P H' (.ref p) → Q (.ref p) H'
def spPlace : Sp := fun vs H Q _ => ∃ p e : Nat, vs = [.int (p : Int), .int (e : Int)] ∧ p < e ∧ Q (.int (p : Int)) H
theorem ZV (T : Txt K mg a) : FnOk P w K mg base CX0 2 a.f_checked_place a.d_checked_place ["place", "end"] spPlace := by
 refine T.F_checked_place.ok sc_checked_place (fun vs H Q E h => ?_) (fun cdv A outer s H vs Q E hr h => ?_)
 ·obtain ⟨_, _, rfl, _⟩ := h
  rfl
 obtain ⟨p, e, rfl, lt, q⟩ := h
 refine ⟨_, (qW (ps_if (PW.pt (pw_or (jQ (yX (qK (Y6 T) (hr.mono (by decide)) rfl T.m_is_whole T.F_is_whole.kp T.b_is_whole .nil pass0 (pa_c (pv 0) qj) (he := qz rfl _ _) (hpl := qZ rfl)))) (pw_or (zJ op_lt (pv 0) qk (zX _)) (xv (zJ op_ge (pv 0) (pv 1) (zX _))))))
    (qV jw)
    zW)
   (qV (zw (jy (Yw) rfl T.m_int boot_int (pa_c (pv 0) qj) (he := qz rfl _ _) (hpl := qZ rfl))))), ?_⟩
 refine ⟨_, rfl, _, rfl, _, rfl, iteF ⟨_, rfl, _, _, rfl, rfl, _, rfl, iteN (by omega) ⟨_, rfl, _, rfl, _, _, rfl, rfl, _, rfl, iteN (by omega) ?_⟩⟩⟩
 exact ⟨_, rfl, .inl ⟨_, rfl, q⟩⟩
def spTerm (K : Fg9) : Sp := fun vs H Q _ => ∃ (v : V) (x : Nat × Rat) (e : Nat), vs = [v, .int (e : Int)] ∧ TermAt K H v x ∧ x.1 < e ∧ RetBy H Q fun H' v => TermAt K H' v x
theorem ok_checked_term (T : Txt K mg a) : FnOk P w K mg base CX0 3 a.f_checked_term a.d_checked_term ["term", "end"] (spTerm K) := by
 refine T.F_checked_term.ok sc_checked_term (fun vs H Q E h => ?_) (fun cdv A outer s H vs Q E hr h => ?_)
 ·obtain ⟨_, _, _, rfl, _⟩ := h
  rfl
 obtain ⟨v, x, e, rfl, ⟨t, r, rfl, ht, hr'⟩, lt, q⟩ := h
 refine ⟨_, (qW (ps_if (PW.pt (pw_or (jQ (yX (zq (wX) rfl T.m_isinstance boot_isinstance (pa_c (pv 0) (pa_c (vX (v := .ty "tuple") rfl T.m_tuple boot_tuple rfl) qj)) (he := qz rfl _ _) (hpl := qZ rfl)))) (xv (zJ op_ne (zq (zZ) rfl T.m_len boot_len (pa_c (pv 0) qj) (he := qz rfl _ _) (hpl := qZ rfl)) qk (zX _)))))
    (qV jw)
    zW)
   (qW (ps_if (jQ (yX (qK (Y7 T) (hr.mono (by decide)) rfl T.m_is_ratio T.F_is_ratio.kp T.b_is_ratio .nil pass0 (pa_c (pe_ix qY (pv 0) qk (fun _ _ => rfl)) qj) (he := qz rfl _ _) (hpl := qZ rfl))))
    (qV jw)
    zW)
   (qV (zw (yq (pa_c (qK (ZV T) (hr.mono (by decide)) rfl T.m_checked_place T.F_checked_place.kp T.b_checked_place .nil pass0 (pa_c (pe_ix qY (pv 0) qk (fun _ _ => rfl)) (pa_c (pv 1) qj)) (he := qz rfl _ _) (hpl := qZ rfl)) (pa_c (qK (ok_plain T) (hr.mono (by decide)) rfl T.m_plain T.F_plain.kp T.b_plain .nil pass0 (pa_c (pe_ix qY (pv 0) qk (fun _ _ => rfl)) qj) (he := qz rfl _ _) (hpl := qZ rfl)) qj))))))), ?_⟩
 refine ⟨_, rfl, _, _, _, rfl, IsI.tupTup ht, _, rfl, iteF ⟨_, rfl, _, _, rfl, .inr ht, rfl, _, rfl, iteF ?_⟩⟩
 refine ⟨_, rfl, _, _, _, _, rfl, rfl, ht, rfl, r, _, rfl, hr', _, rfl, iteF ?_⟩
 refine ⟨_, rfl, _, _, _, _, rfl, rfl, ht, rfl, _, rfl, x.1, e, rfl, lt, _, rfl, _, _, _, _, rfl, rfl, ht, rfl, r, _, rfl, hr', fun p1 H1 g1 e1 => ⟨y9, fun t2 h2 => ?_⟩⟩
 have g2 := qy h2 (.tup [.int (x.1 : Int), .ref p1])
 exact q t2 _ (g1.trans g2) ⟨t2, p1, rfl, SqT.of qv, SqT.of (g2 _ _ e1)⟩
theorem nodup_int : ∀ {ns : List Nat}, ns.Nodup → (ns.map fun n : Nat => (n : Int)).Nodup
 | [], _ => List.nodup_nil
 | n :: ns, h => by
  rw [List.map_cons, List.nodup_cons]
  rw [List.nodup_cons] at h
  refine ⟨fun z => ?_, nodup_int h.2⟩
  obtain ⟨m, hm, e⟩ := List.mem_map.mp z
  have e : m = n := by omega
  exact h.1 (e ▸ hm)
def spSum (K : Fg9) : Sp := fun vs H Q _ => ∃ (pc pt : Addr) (vt : List V) (c : Rat) (ts : List (Nat × Rat)) (e : Nat), vs = [.ref pc, .ref pt, .int (e : Int)] ∧ SqT K H pc (TQ c) ∧ SqL K H pt vt ∧ TL K H vt ts ∧ WfU e (.sum c ts) ∧ RetBy H Q fun H' v => UnAt true K H' v (.sum c ts)
abbrev xX (P w K mg base) (a : Adr) (cdv A outer s H E) := (cxOf CX0 P w K mg base ["constant", "terms", "end", "found"] "checked_sum" (qQ j8) a.f_checked_sum cdv A outer s H E).nox
set_option maxHeartbeats 0 in
theorem ok_checked_sum (T : Txt K mg a) : FnOk P w K mg base CX0 4 a.f_checked_sum a.d_checked_sum ["constant", "terms", "end"] (spSum K) := by
 refine T.F_checked_sum.ok sc_checked_sum (fun vs H Q E h => ?_) (fun cdv A outer s H vs Q E hr h => ?_)
 ·obtain ⟨_, _, _, _, _, _, rfl, _⟩ := h
  rfl
 obtain ⟨pc, pt, vt, c, ts, e, rfl, hc, ht, rt, ⟨wp, nd, l100⟩, q⟩ := h
 have h0 : PS (xX P w K mg base a cdv A outer s H E) (bS j8 0) _ := (ps_if (jQ (yX (qK (Y7 T) (hr.mono (by decide)) rfl T.m_is_ratio T.F_is_ratio.kp T.b_is_ratio .nil pass0 (pa_c (pv 0) qj) (he := qz rfl _ _) (hpl := qZ rfl))))
    (qV jw)
    zW)
 have h1 : PS (xX P w K mg base a cdv A outer s H E) (bS j8 1) _ := (ps_if (jQ (yX (zq (wX) rfl T.m_isinstance boot_isinstance (pa_c (pv 1) (pa_c (vX (v := .ty "list") rfl T.m_list boot_list rfl) qj)) (he := qz rfl _ _) (hpl := qZ rfl))))
    (qV jw)
    zW)
 have h2 : PS (xX P w K mg base a cdv A outer s H E) (bS j8 2) _ := (kW (i := 3) sc_checked_sum.nd rfl (Or.inl rfl) (N := ["term", "end"]) (ix := [none, some 2]) ⟨rfl, rfl, rfl, rfl, ⟨rfl, trivial⟩, rfl, ⟨⟨rfl, Or.inr (Or.inl rfl), Z3 rfl, rfl, Or.inl rfl⟩, trivial⟩⟩ rfl (jV (pv 1)) (fun _ => (zx (i := 0) (show (["term", "end"] : List Str).Nodup by decide +kernel) rfl (Or.inl rfl))) (fun _ σ => wV rfl σ) (fun _ => jk) (fun _ => (qK (ok_checked_term T) (hr.mono (by decide)) rfl T.m_checked_term T.F_checked_term.kp T.b_checked_term .nil pass0 (pa_c (pv 0) (pa_c (pv 1) qj)) (he := qz rfl _ _) (hpl := qZ rfl))))
 have h3 : PS (xX P w K mg base a cdv A outer s H E) (bS j8 3) _ := (ps_if (zJ op_ne (zq (call_len_setV) rfl T.m_len boot_len (pa_c (jy (call_set_ints rfl) rfl T.m_set boot_set (pa_c (wK (N := ["place", "share"]) (ix := [none, none]) ⟨rfl, rfl, rfl, rfl, trivial, rfl, trivial⟩ rfl (jV (pv 3)) (fun _ => (jW rfl (zy (zx (i := 0) (show (["place", "share"] : List Str).Nodup by decide +kernel) rfl (Or.inl rfl)) (zy (zx (i := 1) (show (["place", "share"] : List Str).Nodup by decide +kernel) rfl (Or.inl rfl)) yK)))) (fun _ σ => V5 rfl rfl (by decide) σ) (fun _ => jk) (fun _ => (pv 0))) qj) (he := qz rfl _ _) (hpl := qZ rfl)) qj) (he := qz rfl _ _) (hpl := qZ rfl)) (zq (zZ) rfl T.m_len boot_len (pa_c (pv 3) qj) (he := qz rfl _ _) (hpl := qZ rfl)) (zX _))
    (qV jw)
    zW)
 have h4 : PS (xX P w K mg base a cdv A outer s H E) (bS j8 4) _ := (zw (yq (pa_c v6 (pa_c (qK (ok_plain T) (hr.mono (by decide)) rfl T.m_plain T.F_plain.kp T.b_plain .nil pass0 (pa_c (pv 0) qj) (he := qz rfl _ _) (hpl := qZ rfl)) (pa_c (jy (call_tuple_of) rfl T.m_tuple boot_tuple (pa_c (pv 3) qj) (he := qz rfl _ _) (hpl := qZ rfl)) qj)))))
 refine body5 (by rfl) h0 h1 h2 h3 h4 ?_
 intros
 clear h0 h1 h2 h3 h4
 have lt := rt.length
 refine ⟨_, rfl, pc, _, rfl, hc, _, rfl, iteF ?_⟩
 refine ⟨_, rfl, _, _, _, rfl, IsI.lstList ht, _, rfl, iteF ?_⟩
 refine ⟨_, rfl, pt, rfl, ⟨_, ht⟩, jq (n := ts.length) (fun i ys H' => Same H H' ∧ TL K H' ys (ts.take i)) ⟨Same.refl _, .nil⟩ (zj (by omega)) ?_ ?_ ?_⟩
 case refine_2 =>
  rintro i ys H' hi ⟨g, _⟩
  exact ⟨_, _, g.seq ht, gE9 (by omega)⟩
 case refine_3 =>
  rintro i m' ys H' cc x H2 hi ⟨g, r⟩ ⟨rfl, y1⟩ nx _
  obtain ⟨x0, ex, hx⟩ := rt.get (y1 _ (g.seq ht))
  refine Or.inl ⟨rfl, _, rfl, _, rfl, x, x0, e, rfl, hx.mono g, wp x0 (List.mem_of_getElem? ex), fun p3 H3 g3 e3 => nx _ _ ⟨g.trans g3, ?_⟩⟩
  rw [zY ex]
  exact Paired.snoc (r.mono g3) e3
 rintro vf H1 ⟨g1, r1⟩
 rw [List.take_of_length_le (Nat.le_refl _)] at r1
 refine ⟨⟨_, g1.seq ht, by omega⟩, fun lf hlf => ?_⟩
 have g2 := qy hlf (.lst vf)
 have ef := qv (H := H1) (a := lf) (o := .lst vf)
 have r1 := r1.mono g2
 have gA := g1.trans g2
 generalize upd H1 lf (.lst vf) = H2 at *
 clear g1 g2 hlf
 have lvf := TL.length r1
 refine ⟨_, rfl, lf, rfl, ⟨_, SqL.of ef⟩, jq (n := ts.length) (fun i ys H' => H' = H2 ∧ ys = ((ts.take i).map fun x => V.int (x.1 : Int))) ⟨rfl, rfl⟩ (zj (by omega)) ?_ ?_ ?_⟩
 case refine_2 =>
  rintro i ys H' hi ⟨rfl, _⟩
  exact ⟨_, _, SqL.of ef, gE9 (by omega)⟩
 case refine_3 =>
  rintro i m' ys H' cc x H3 hi ⟨rfl, rfl⟩ ⟨rfl, y1⟩ nx _
  obtain ⟨x0, ex, tt, rr, rfl, h1, h2⟩ := TL.get r1 (y1 _ (SqL.of ef))
  refine ⟨tt, _, rfl, h1, rfl, _, _, rfl, _, _, rfl, rfl, Or.inl ⟨rfl, _, rfl, nx _ _ ⟨rfl, ?_⟩⟩⟩
  rw [zY ex, List.map_append]
  rfl
 rintro ys H3 ⟨rfl, rfl⟩
 rw [List.take_of_length_le (Nat.le_refl _)]
 refine ⟨⟨_, SqL.of ef, by omega⟩, fun lp hlp => ?_⟩
 have g3 := qy hlp (.lst (ts.map fun x => V.int (x.1 : Int)))
 have ep := qv (H := H3) (a := lp) (o := .lst (ts.map fun x => V.int (x.1 : Int)))
 have em : (ts.map fun x => V.int (x.1 : Int)) = ((ts.map (·.1)).map fun n : Nat => (n : Int)).map V.int := by rw [List.map_map, List.map_map]; rfl
 rw [em] at ep g3 ⊢
 generalize upd H3 lp (.lst (((ts.map (·.1)).map fun n : Nat => (n : Int)).map V.int)) = H4 at *
 refine ⟨lp, _, rfl, SqL.of ep, by rw [List.length_map, List.length_map]; omega, nodup_int nd, fun ls S hls => ?_⟩
 have g4 := qy hls (.set S ((ts.map (·.1)).map fun n : Nat => (n : Int)).length)
 have gB := gA.trans (g3.trans g4)
 have ef4 := (g3.trans g4) _ _ ef
 refine ⟨ls, _, _, rfl, qv, by rw [List.length_map, List.length_map]; omega, _, rfl, _, _, rfl, .inl (SqL.of ef4), rfl, _, rfl, iteNS (congrArg V.int (by rw [List.length_map, List.length_map]; omega)) ?_⟩
 have r4 := r1.mono (g3.trans g4)
 have hc4 := gB.tup hc
 generalize upd H4 ls (.set S ((ts.map (·.1)).map fun n : Nat => (n : Int)).length) = H5 at *
 refine ⟨_, rfl, pc, _, rfl, hc4, fun p1 H6 g6 e6 => ?_⟩
 refine ⟨_, rfl, lf, vf, rfl, .inl ⟨SqL.of (g6 _ _ ef4), fun lt2 hlt2 => ⟨(show 3 ≤ sizeLine by decide), fun t3 h3 => ?_⟩⟩⟩
 have g7 := qy hlt2 (.tup vf)
 have g8 := qy h3 (.tup [.str "sum", .ref p1, .ref lt2])
 have g78 := g7.trans g8
 exact q t3 _ (gB.trans (g6.trans g78)) ⟨t3, p1, lt2, vf, rfl, SqT.of qv, SqT.of (g78 _ _ e6), SqT.of (g8 _ _ qv), TL.mono r4 (g6.trans g78)⟩
def spUnit (K : Fg9) : Sp := fun vs H Q _ => ∃ (v : V) (u : Un) (e : Nat), vs = [v, .int (e : Int)] ∧ UnAt false K H v u ∧ WfU e u ∧ RetBy H Q fun H' v => UnAt true K H' v u
abbrev Q8 (P w K mg base) (a : Adr) (cdv A outer s H E) := (cxOf CX0 P w K mg base ["unit", "end"] "checked_unit" (qQ j3) a.f_checked_unit cdv A outer s H E).nox
theorem ok_checked_unit (T : Txt K mg a) : FnOk P w K mg base CX0 5 a.f_checked_unit a.d_checked_unit ["unit", "end"] (spUnit K) := by
 refine T.F_checked_unit.ok sc_checked_unit (fun vs H Q E h => ?_) (fun cdv A outer s H vs Q E hr h => ?_)
 ·obtain ⟨_, _, _, rfl, _⟩ := h
  rfl
 obtain ⟨v, u, e, rfl, hu, wf, q⟩ := h
 have h0 : PS (Q8 P w K mg base a cdv A outer s H E) (bS j3 0) _ := (ps_if (PW.pt (pw_or (jQ (yX (zq (wX) rfl T.m_isinstance boot_isinstance (pa_c (pv 0) (pa_c (vX (v := .ty "tuple") rfl T.m_tuple boot_tuple rfl) qj)) (he := qz rfl _ _) (hpl := qZ rfl)))) (pw_or (zJ op_eq (zq (zZ) rfl T.m_len boot_len (pa_c (pv 0) qj) (he := qz rfl _ _) (hpl := qZ rfl)) qk (zX _)) (xv (jQ (yX (zq (wX) rfl T.m_isinstance boot_isinstance (pa_c (pe_ix qY (pv 0) qk (fun _ _ => rfl)) (pa_c (vX (v := .ty "str") rfl T.m_str boot_str rfl) qj)) (he := qz rfl _ _) (hpl := qZ rfl))))))))
    (qV jw)
    zW)
 have h1 : PS (Q8 P w K mg base a cdv A outer s H E) (bS j3 1) _ := (ps_if (PW.pt (pw_and (zJ op_eq (pe_ix qY (pv 0) qk (fun _ _ => rfl)) v6 (zX _)) (J4 (zJ op_eq (zq (zZ) rfl T.m_len boot_len (pa_c (pv 0) qj) (he := qz rfl _ _) (hpl := qZ rfl)) qk (zX _)))))
    (qV (zw (qK (ok_checked_sum T) (hr.mono (by decide)) rfl T.m_checked_sum T.F_checked_sum.kp T.b_checked_sum .nil pass0 (pa_c (pe_ix qY (pv 0) qk (fun _ _ => rfl)) (pa_c (pe_ix qY (pv 0) qk (fun _ _ => rfl)) (pa_c (pv 1) qj))) (he := qz rfl _ _) (hpl := qZ rfl))))
    zW)
 have h2 : PS (Q8 P w K mg base a cdv A outer s H E) (bS j3 2) _ := (ps_if (PW.pt (pw_and (zJ op_eq (pe_ix qY (pv 0) qk (fun _ _ => rfl)) v6 (zX _)) (J4 (zJ op_eq (zq (zZ) rfl T.m_len boot_len (pa_c (pv 0) qj) (he := qz rfl _ _) (hpl := qZ rfl)) qk (zX _)))))
    (qV (zw (yq (pa_c v6 (pa_c (qK (ZV T) (hr.mono (by decide)) rfl T.m_checked_place T.F_checked_place.kp T.b_checked_place .nil pass0 (pa_c (pe_ix qY (pv 0) qk (fun _ _ => rfl)) (pa_c (pv 1) qj)) (he := qz rfl _ _) (hpl := qZ rfl)) qj)))))
    zW)
 have h3 : PS (Q8 P w K mg base a cdv A outer s H E) (bS j3 3) _ := jw
 refine body4 (by rfl) h0 h1 h2 h3 ?_
 intros
 clear h0 h1 h2 h3
 cases u with
 | sum c ts =>
  obtain ⟨t, pc, pt, vs, rfl, h1, h2, h3, h4⟩ := hu
  refine ⟨_, rfl, _, _, _, rfl, IsI.tupTup h1, _, rfl, iteF ⟨_, rfl, _, _, rfl, .inr h1, rfl, _, rfl, iteF ⟨_, rfl, _, _, _, _, rfl, rfl, h1, rfl, _, _, _, rfl, IsI.strStr _, _, rfl, iteF ?_⟩⟩⟩
  refine ⟨_, rfl, _, _, _, _, rfl, rfl, h1, rfl, rfl, _, rfl, iteP rfl ⟨_, rfl, _, _, rfl, .inr h1, rfl, _, rfl, iteP rfl ?_⟩⟩
  exact ⟨_, rfl, _, _, _, _, rfl, rfl, h1, rfl, _, rfl, _, _, _, _, rfl, rfl, h1, rfl, _, rfl, pc, pt, vs, c, ts, e, rfl, h2, h3, h4, wf, q⟩
 | bend p =>
  obtain ⟨t, rfl, h1⟩ := hu
  refine ⟨_, rfl, _, _, _, rfl, IsI.tupTup h1, _, rfl, iteF ⟨_, rfl, _, _, rfl, .inr h1, rfl, _, rfl, iteF ⟨_, rfl, _, _, _, _, rfl, rfl, h1, rfl, _, _, _, rfl, IsI.strStr _, _, rfl, iteF ?_⟩⟩⟩
  refine ⟨_, rfl, _, _, _, _, rfl, rfl, h1, rfl, rfl, _, rfl, iteN (by decide) (iteF ?_)⟩
  refine ⟨_, rfl, _, _, _, _, rfl, rfl, h1, rfl, rfl, _, rfl, iteP rfl ⟨_, rfl, _, _, rfl, .inr h1, rfl, _, rfl, iteP rfl ?_⟩⟩
  refine ⟨_, rfl, _, _, _, _, rfl, rfl, h1, rfl, _, rfl, p, e, rfl, wf, y9, fun t2 h2 => ?_⟩
  exact q t2 _ (qy h2 _) ⟨t2, rfl, SqT.of qv⟩
def NetOk (many : Nat) (us : List Un) (outs : List Nat) : Prop := WfN many us ∧ us.length ≤ 80 ∧ (us.filter isB).length ≤ 20 ∧ 1 ≤ many ∧ many ≤ 6 ∧ 1 ≤ outs.length ∧ outs.length ≤ 12 ∧ ∀ o ∈ outs, o < many + us.length
def spUnits (K : Fg9) : Sp := fun vs H Q _ => ∃ (l : Addr) (many : Nat) (vu : List V) (us : List Un), vs = [.ref l, .int (many : Int)] ∧ SqL K H l vu ∧ UL false K H vu us ∧ WfN many us ∧ us.length ≤ 80 ∧ (us.filter isB).length ≤ 20 ∧ ∀ p H' vk, H p = none → Same H H' → H' p = some (.lst vk) → UL true K H' vk us → Q (.ref p) H'
theorem kind_at {b : Bool} {K : Fg9} {H : Hp} {v : V} {u : Un} (h : UnAt b K H v u) : ∃ t ys, v = .ref t ∧ SqT K H t (.str (if isB u then "bend" else "sum") :: ys) := by
 cases u with
 | sum c ts =>
  obtain ⟨t, pc, pt, vs, rfl, h1, _⟩ := h
  exact ⟨t, _, rfl, h1⟩
 | bend p =>
  obtain ⟨t, rfl, h1⟩ := h
  exact ⟨t, _, rfl, h1⟩
theorem filter_snoc {α : Type} (p : α → Bool) (xs : List α) (x : α) : (xs ++ [x]).filter p = xs.filter p ++ (if p x then [x] else []) := by
 rw [List.filter_append]
 cases h : p x <;> simp [h]
abbrev Q5 (P w K mg base) (a : Adr) (cdv A outer s H E) := (cxOf CX0 P w K mg base ["units", "many", "found"] "checked_units" (qQ yJ) a.f_checked_units cdv A outer s H E).nox
set_option maxHeartbeats 0 in
theorem ok_checked_units (T : Txt K mg a) : FnOk P w K mg base CX0 6 a.f_checked_units a.d_checked_units ["units", "many"] (spUnits K) := by
 refine T.F_checked_units.ok Jk (fun vs H Q E h => ?_) (fun cdv A outer s H vs Q E hr h => ?_)
 ·obtain ⟨_, _, _, _, rfl, _⟩ := h
  rfl
 obtain ⟨l, many, vu, us, rfl, hl, ru, wf, l80, b20, q⟩ := h
 have h0 : PS (Q5 P w K mg base a cdv A outer s H E) (bS yJ 0) _ := (ps_if (PW.pt (pw_or (jQ (yX (zq (wX) rfl T.m_isinstance boot_isinstance (pa_c (pv 0) (pa_c (vX (v := .ty "list") rfl T.m_list boot_list rfl) qj)) (he := qz rfl _ _) (hpl := qZ rfl)))) (xv (zJ op_gt (zq (zZ) rfl T.m_len boot_len (pa_c (pv 0) qj) (he := qz rfl _ _) (hpl := qZ rfl)) (yZ (v := .int 80) rfl T.m_MOST_UNITS ⟨_, rfl⟩) (zX _)))))
    (qV jw)
    zW)
 have h1 : PS (Q5 P w K mg base a cdv A outer s H E) (bS yJ 1) _ := (kW (i := 2) Jk.nd rfl (Or.inl rfl) (N := ["k", "unit", "many"]) (ix := [none, none, some 1]) ⟨rfl, rfl, rfl, rfl, ⟨rfl, trivial⟩, rfl, ⟨⟨rfl, Or.inr (Or.inl rfl), Z3 rfl, rfl, Or.inl rfl⟩, trivial⟩⟩ rfl (pi_enum rfl T.m_enumerate (pa_c (pv 0) qj)) (fun _ => (jW rfl (zy (zx (i := 0) (show (["k", "unit", "many"] : List Str).Nodup by decide +kernel) rfl (Or.inl rfl)) (zy (zx (i := 1) (show (["k", "unit", "many"] : List Str).Nodup by decide +kernel) rfl (Or.inl rfl)) yK)))) (fun _ σ => V5 rfl rfl (by decide) σ) (fun _ => jk) (fun _ => (qK (ok_checked_unit T) (hr.mono (by decide)) rfl T.m_checked_unit T.F_checked_unit.kp T.b_checked_unit .nil pass0 (pa_c (pv 1) (pa_c (pe_op yj (pv 2) (pv 0)) qj)) (he := qz rfl _ _) (hpl := qZ rfl))))
 have h2 : PS (Q5 P w K mg base a cdv A outer s H E) (bS yJ 2) _ := (ps_if (zJ op_gt (zq (zZ) rfl T.m_len boot_len (pa_c (wK (N := ["unit"]) (ix := [none]) ⟨rfl, rfl, rfl, rfl, trivial, rfl, trivial⟩ rfl (jV (pv 2)) (fun _ => (zx (i := 0) (show (["unit"] : List Str).Nodup by decide +kernel) rfl (Or.inl rfl))) (fun _ σ => wV rfl σ) (fun _ => (pif_one (zJ op_eq (pe_ix qY (pv 0) qk (fun _ _ => rfl)) v6 (zX _)))) (fun _ => (pv 0))) qj) (he := qz rfl _ _) (hpl := qZ rfl)) (yZ (v := .int 20) rfl T.m_MOST_BENDS ⟨_, rfl⟩) (zX _))
    (qV jw)
    zW)
 have h3 : PS (Q5 P w K mg base a cdv A outer s H E) (bS yJ 3) _ := (zw (pv 2))
 refine body4 (by rfl) h0 h1 h2 h3 ?_
 intros
 clear h0 h1 h2 h3
 have lu := ru.length
 refine ⟨_, rfl, _, _, _, rfl, IsI.lstList hl, _, rfl, iteF ⟨_, rfl, _, _, rfl, .inl hl, _, _, rfl, rfl, _, rfl, iteN (by omega) ?_⟩⟩
 refine ⟨_, rfl, l, rfl, ⟨_, hl⟩, jq (n := us.length) (fun i ys H' => Same H H' ∧ UL true K H' ys (us.take i)) ⟨Same.refl _, .nil⟩ (zj (by omega)) ?_ ?_ ?_⟩
 case refine_2 =>
  rintro i ys H' hi ⟨g, _⟩
  exact ⟨_, _, g.seq hl, gE9 (by omega)⟩
 case refine_3 =>
  rintro i m' ys H' cc x H2 hi ⟨g, r⟩ ⟨p, x2, hp, rfl, rfl, y1⟩ nx _
  obtain ⟨u0, eu, hu⟩ := ru.get (y1 _ (g.seq hl))
  have g2 := qy hp (.tup [.int (i : Int), x2])
  refine ⟨p, _, rfl, SqT.of qv, rfl, _, _, rfl, _, _, rfl, rfl, Or.inl ⟨rfl, _, rfl, _, rfl, _, rfl, _, _, rfl, rfl, x2, u0, many + i, congrArg (fun z => [x2, V.int z]) (show (many : Int) + (i : Int) = ((many + i : Nat) : Int) by omega), hu.mono (g.trans g2), wf i u0 eu, fun p3 H3 g3 e3 => nx _ _ ⟨g.trans (g2.trans g3), ?_⟩⟩⟩
  rw [zY eu]
  exact UL.snoc (r.mono (g2.trans g3)) e3
 rintro vk H1 ⟨g1, r1⟩
 rw [List.take_of_length_le (Nat.le_refl _)] at r1
 refine ⟨⟨_, g1.seq hl, by omega⟩, fun lf hlf => ?_⟩
 have nlf : H lf = none := zQ g1 hlf
 have g2 := qy hlf (.lst vk)
 have ef := qv (H := H1) (a := lf) (o := .lst vk)
 have r1 := r1.mono g2
 have gA := g1.trans g2
 generalize upd H1 lf (.lst vk) = H2 at *
 clear g1 g2 hlf
 have lvk := UL.length r1
 refine ⟨_, rfl, lf, rfl, ⟨_, SqL.of ef⟩, jq (n := us.length) (fun i ys H' => H' = H2 ∧ ys.length = ((us.take i).filter isB).length) ⟨rfl, rfl⟩ (zj (by omega)) ?_ ?_ ?_⟩
 case refine_2 =>
  rintro i ys H' hi ⟨rfl, _⟩
  exact ⟨_, _, SqL.of ef, gE9 (by omega)⟩
 case refine_3 =>
  rintro i m' ys H' cc x H3 hi ⟨rfl, ly⟩ ⟨rfl, y1⟩ nx sk
  obtain ⟨u0, eu, hu⟩ := UL.get r1 (y1 _ (SqL.of ef))
  obtain ⟨t, zs, rfl, ht⟩ := kind_at hu
  refine ⟨_, rfl, _, _, _, _, rfl, rfl, ht, at0, rfl, _, rfl, ?_⟩
  have es : us.take (i + 1) = us.take i ++ [u0] := zY eu
  cases hb : isB u0 with
  | true =>
   refine Or.inl ⟨by rfl, _, rfl, nx _ _ ⟨rfl, ?_⟩⟩
   rw [es, filter_snoc, hb, List.length_append, List.length_append, ly]
   rfl
  | false =>
   refine Or.inr ⟨by rfl, sk _ ⟨rfl, ?_⟩⟩
   rw [es, filter_snoc, hb, List.length_append, ly]
   rfl
 rintro ys H3 ⟨rfl, ly⟩
 rw [List.take_of_length_le (Nat.le_refl _)] at ly
 refine ⟨⟨_, SqL.of ef, by omega⟩, fun lb hlb => ?_⟩
 refine ⟨_, _, rfl, .inl (SqL.of qv), _, _, rfl, rfl, _, rfl, iteN (by rw [ly]; omega) ?_⟩
 have g3 := qy hlb (.lst ys)
 exact ⟨_, rfl, q lf _ vk nlf (gA.trans g3) (g3 _ _ ef) (r1.mono g3)⟩
def outV (outs : List Nat) : List V := outs.map fun n : Nat => V.int (n : Int)
theorem out_at {outs : List Nat} {i : Nat} {x : V} (h : (outV outs)[i]? = some x) : ∃ n : Nat, outs[i]? = some n ∧ x = .int (n : Int) := by
 unfold outV at h
 rw [List.getElem?_map] at h
 cases e : outs[i]? with
 | none => rw [e] at h; cases h
 | some z => rw [e] at h; exact ⟨z, rfl, (Option.some.inj h).symm⟩
def spOuts (K : Fg9) : Sp := fun vs H Q _ => ∃ (l : Addr) (e : Nat) (outs : List Nat), vs = [.ref l, .int (e : Int)] ∧ SqL K H l (outV outs) ∧ (∀ o ∈ outs, o < e) ∧ 1 ≤ outs.length ∧ outs.length ≤ 12 ∧ ∀ p, H p = none → Q (.ref p) (upd H p (.lst (outV outs)))
theorem ok_checked_outs (T : Txt K mg a) : FnOk P w K mg base CX0 3 a.f_checked_outs a.d_checked_outs ["outs", "end"] (spOuts K) := by
 refine T.F_checked_outs.ok sc_checked_outs (fun vs H Q E h => ?_) (fun cdv A outer s H vs Q E hr h => ?_)
 ·obtain ⟨_, _, _, rfl, _⟩ := h
  rfl
 obtain ⟨l, e, outs, rfl, hl, lt, l1, l12, q⟩ := h
 refine ⟨_, (qW (ps_if (PW.pt (pw_or (jQ (yX (zq (wX) rfl T.m_isinstance boot_isinstance (pa_c (pv 0) (pa_c (vX (v := .ty "list") rfl T.m_list boot_list rfl) qj)) (he := qz rfl _ _) (hpl := qZ rfl)))) (pw_or (zJ op_lt (zq (zZ) rfl T.m_len boot_len (pa_c (pv 0) qj) (he := qz rfl _ _) (hpl := qZ rfl)) qk (zX _)) (xv (zJ op_gt (zq (zZ) rfl T.m_len boot_len (pa_c (pv 0) qj) (he := qz rfl _ _) (hpl := qZ rfl)) (yZ (v := .int 12) rfl T.m_MOST_OUTS ⟨_, rfl⟩) (zX _))))))
    (qV jw)
    zW)
   (qV (zw (wK (N := ["place", "end"]) (ix := [none, some 1]) ⟨rfl, rfl, rfl, rfl, ⟨rfl, trivial⟩, rfl, ⟨⟨rfl, Or.inr (Or.inl rfl), Z3 rfl, rfl, Or.inl rfl⟩, trivial⟩⟩ rfl (jV (pv 0)) (fun _ => (zx (i := 0) (show (["place", "end"] : List Str).Nodup by decide +kernel) rfl (Or.inl rfl))) (fun _ σ => wV rfl σ) (fun _ => jk) (fun _ => (qK (ZV T) (hr.mono (by decide)) rfl T.m_checked_place T.F_checked_place.kp T.b_checked_place .nil pass0 (pa_c (pv 0) (pa_c (pv 1) qj)) (he := qz rfl _ _) (hpl := qZ rfl))))))), ?_⟩
 have lo : (outV outs).length = outs.length := by unfold outV; rw [List.length_map]
 refine ⟨_, rfl, _, _, _, rfl, IsI.lstList hl, _, rfl, iteF ⟨_, rfl, _, _, rfl, .inl hl, _, _, rfl, rfl, _, rfl, iteN (by omega) ⟨_, rfl, _, _, rfl, .inl hl, _, _, rfl, rfl, _, rfl, iteN (by omega) ?_⟩⟩⟩
 refine ⟨_, rfl, l, rfl, ⟨_, hl⟩, jq (n := outs.length) (fun i ys H' => H' = H ∧ ys = outV (outs.take i)) ⟨rfl, rfl⟩ (zj (by omega)) ?_ ?_ ?_⟩
 ·rintro ys H' ⟨rfl, rfl⟩
  rw [List.take_of_length_le (Nat.le_refl _)]
  exact ⟨⟨_, hl, by omega⟩, fun D hD => q D hD⟩
 ·rintro i ys H' hi ⟨rfl, _⟩
  exact ⟨_, _, hl, gE9 (by omega)⟩
 ·rintro i m' ys H' cc x H2 hi ⟨rfl, rfl⟩ ⟨rfl, y1⟩ nx _
  obtain ⟨o, eo, rfl⟩ := out_at (y1 _ hl)
  refine Or.inl ⟨rfl, _, rfl, _, rfl, o, e, rfl, lt o (List.mem_of_getElem? eo), nx _ _ ⟨rfl, ?_⟩⟩
  rw [zY eo]
  unfold outV
  rw [List.map_append]
  rfl
def NetAt (C : Addr) (H : Hp) (p lu lo : Addr) (many : Nat) : Prop := ∃ dx, H p = some (.ins C dx [("many", .int (many : Int)), ("units", .ref lu), ("outs", .ref lo)])
theorem NetAt.mono {C : Addr} {H H' : Hp} {p lu lo : Addr} {many : Nat} (h : NetAt C H p lu lo many) (g : Same H H') : NetAt C H' p lu lo many := by
 obtain ⟨dx, e⟩ := h
 exact ⟨dx, g _ _ e⟩
theorem UL.upd_ins {K : Fg9} {H : Hp} {t C dx : Addr} {vs : List V} {us : List Un} {fs : List (Str × V)} {o : HO} (h : UL true K H vs us) (e : H t = some (.ins C dx fs)) : UL true K (upd H t o) vs us :=
 Paired.mapP h fun v u hu => by
  cases u with
  | sum c ts =>
   obtain ⟨t', pc, pt, vs, e0, h1, h2, h3, h4⟩ := hu
   exact ⟨t', pc, pt, vs, e0, SqT.upd_ins h1 e, SqT.upd_ins h2 e, SqT.upd_ins h3 e, Paired.mapP h4 fun _ _ ⟨t, r, e1, k1, k2⟩ => ⟨t, r, e1, SqT.upd_ins k1 e, SqT.upd_ins k2 e⟩⟩
  | bend p =>
   obtain ⟨t', e0, h1⟩ := hu
   exact ⟨t', e0, SqT.upd_ins h1 e⟩
theorem SqL.upd_ins {K : Fg9} {H : Hp} {b t C dx : Addr} {xs : List V} {fs : List (Str × V)} {o : HO} (h : SqL K H b xs) (e : H t = some (.ins C dx fs)) : SqL K (upd H t o) b xs := by
 rcases h with (h | ⟨u, h⟩) | h
 ·exact .inl (.inl (by rw [y7 (ne_of h e (by intro z; cases z))]; exact h))
 ·exact .inl (.inr ⟨u, by rw [y7 (ne_of h e (by intro z; cases z))]; exact h⟩)
 ·exact .inr h
def spNetInit (K : Fg9) (C : Addr) : Sp := fun vs H Q _ => ∃ (x dx l m : Addr) (many : Nat) (vu : List V) (us : List Un) (outs : List Nat), vs = [.ref x, .int (many : Int), .ref l, .ref m] ∧ H x = some (.ins C dx []) ∧ SqL K H l vu ∧ UL false K H vu us ∧ SqL K H m (outV outs) ∧ NetOk many us outs ∧ ∀ lu lo vk H', (∀ b u, b ≠ x → H b = some u → H' b = some u) → H lu = none → H lo = none → NetAt C H' x lu lo many → H' lu = some (.lst vk) → H' lo = some (.lst (outV outs)) → UL true K H' vk us → Q .non H'
abbrev Jq (P w K mg base) (a : Adr) (cdv A outer s H E) := (cxOf CX0 P w K mg base ["self", "many", "units", "outs"] "Net.__init__" (qQ wk) a.f_Net_init cdv A outer s H E).nox
set_option maxHeartbeats 0 in
theorem ok_Net_init (T : Txt K mg a) : FnOk P w K mg base CX0 7 a.f_Net_init a.d_Net_init ["self", "many", "units", "outs"] (spNetInit K a.c_Net) := by
 refine T.F_Net_init.ok sc_Net_init (fun vs H Q E h => ?_) (fun cdv A outer s H vs Q E hr h => ?_)
 ·obtain ⟨_, _, _, _, _, _, _, _, rfl, _⟩ := h
  rfl
 obtain ⟨x, dx, l, m, many, vu, us, outs, rfl, hx, hl, ru, hm, ⟨wf, l80, b20, m1, m6, o1, o12, ol⟩, q⟩ := h
 have h0 : PS (Jq P w K mg base a cdv A outer s H E) (bS wk 0) _ := (ps_if (PW.pt (pw_or (jQ (yX (qK (Y6 T) (hr.mono (by decide)) rfl T.m_is_whole T.F_is_whole.kp T.b_is_whole .nil pass0 (pa_c (pv 1) qj) (he := qz rfl _ _) (hpl := qZ rfl)))) (pw_or (zJ op_lt (pv 1) qk (zX _)) (xv (zJ op_gt (pv 1) (yZ (v := .int 6) rfl T.m_MOST_INS ⟨_, rfl⟩) (zX _))))))
    (qV jw)
    zW)
 have h1 : PS (Jq P w K mg base a cdv A outer s H E) (bS wk 1) _ := (ps_fld (pv 0) (jy (Yw) rfl T.m_int boot_int (pa_c (pv 1) qj) (he := qz rfl _ _) (hpl := qZ rfl)) rfl)
 have h2 : PS (Jq P w K mg base a cdv A outer s H E) (bS wk 2) _ := (ps_fld (pv 0) (qK (ok_checked_units T) (hr.mono (by decide)) rfl T.m_checked_units T.F_checked_units.kp T.b_checked_units .nil pass0 (pa_c (pv 2) (pa_c (JY (pv 0) rfl) qj)) (he := qz rfl _ _) (hpl := qZ rfl)) rfl)
 have h3 : PS (Jq P w K mg base a cdv A outer s H E) (bS wk 3) _ := (ps_fld (pv 0) (qK (ok_checked_outs T) (hr.mono (by decide)) rfl T.m_checked_outs T.F_checked_outs.kp T.b_checked_outs .nil pass0 (pa_c (pv 3) (pa_c (pe_op yj (JY (pv 0) rfl) (zq (zZ) rfl T.m_len boot_len (pa_c (JY (pv 0) rfl) qj) (he := qz rfl _ _) (hpl := qZ rfl))) qj)) (he := qz rfl _ _) (hpl := qZ rfl)) rfl)
 refine body4 (by rfl) h0 h1 h2 h3 ?_
 intros
 clear h0 h1 h2 h3
 refine ⟨_, rfl, _, rfl, _, rfl, iteF ⟨_, rfl, _, _, rfl, rfl, _, rfl, iteN (by omega) ⟨_, rfl, _, _, rfl, rfl, _, rfl, iteN (by omega) ?_⟩⟩⟩
 refine ⟨_, rfl, .inl ⟨_, rfl, _, rfl, x, _, dx, [], rfl, hx, T.C_Net, T.n_Net_many, by decide, ?_⟩⟩
 have hx1 : upd H x (.ins a.c_Net dx (putF "many" (.int (many : Int)) [])) x = some (.ins a.c_Net dx [("many", .int (many : Int))]) := qv
 have but1 : ∀ b u, b ≠ x → H b = some u → upd H x (.ins a.c_Net dx (putF "many" (.int (many : Int)) [])) b = some u := fun b u hb e => by rw [y7 hb]; exact e
 have hl1 := SqL.upd_ins (o := .ins a.c_Net dx (putF "many" (.int (many : Int)) [])) hl hx
 have hm1 := SqL.upd_ins (o := .ins a.c_Net dx (putF "many" (.int (many : Int)) [])) hm hx
 have ru1 : UL false K (upd H x (.ins a.c_Net dx (putF "many" (.int (many : Int)) []))) vu us := Paired.mapP ru fun v u hu => by
  cases u with
  | sum c ts =>
   obtain ⟨t', pc, pt, vs, e0, h1, h2, h3, h4⟩ := hu
   exact ⟨t', pc, pt, vs, e0, SqT.upd_ins h1 hx, SqT.upd_ins h2 hx, SqL.upd_ins h3 hx, Paired.mapP h4 fun _ _ ⟨t, r, e1, k1, k2⟩ => ⟨t, r, e1, SqT.upd_ins k1 hx, SqT.upd_ins k2 hx⟩⟩
  | bend p =>
   obtain ⟨t', e0, h1⟩ := hu
   exact ⟨t', e0, SqT.upd_ins h1 hx⟩
 have none1 : ∀ b, upd H x (.ins a.c_Net dx (putF "many" (.int (many : Int)) [])) b = none → H b = none := fun b e => by
  by_cases hb : b = x
  ·rw [hb, qv] at e; cases e
  ·rw [y7 hb] at e; exact e
 generalize upd H x (.ins a.c_Net dx (putF "many" (.int (many : Int)) [])) = H1 at *
 refine ⟨_, rfl, _, rfl, x, _, dx, _, _, rfl, hx1, T.C_Net, T.n_Net_many, rfl, l, many, vu, us, rfl, hl1, ru1, wf, l80, b20, fun lu H2 vk nlu g2 eu rk => ?_⟩
 have hx2 := g2 _ _ hx1
 refine ⟨_, rfl, x, _, dx, _, rfl, hx2, T.C_Net, T.n_Net_units, (show 1 < 1000 by decide), ?_⟩
 have nux : lu ≠ x := Ne.symm (zK hx1 nlu)
 have hx3 : upd H2 x (.ins a.c_Net dx (putF "units" (.ref lu) [("many", .int (many : Int))])) x = some (.ins a.c_Net dx [("many", .int (many : Int)), ("units", .ref lu)]) := qv
 have but3 : ∀ b u, b ≠ x → H b = some u → upd H2 x (.ins a.c_Net dx (putF "units" (.ref lu) [("many", .int (many : Int))])) b = some u := fun b u hb e => by rw [y7 hb]; exact g2 _ _ (but1 b u hb e)
 have eu3 : upd H2 x (.ins a.c_Net dx (putF "units" (.ref lu) [("many", .int (many : Int))])) lu = some (.lst vk) := by rw [y7 nux]; exact eu
 have rk3 := UL.upd_ins (o := .ins a.c_Net dx (putF "units" (.ref lu) [("many", .int (many : Int))])) rk hx2
 have hm3 := SqL.upd_ins (o := .ins a.c_Net dx (putF "units" (.ref lu) [("many", .int (many : Int))])) (g2.seq hm1) hx2
 have none3 : ∀ b, upd H2 x (.ins a.c_Net dx (putF "units" (.ref lu) [("many", .int (many : Int))])) b = none → H b = none := fun b e => by
  by_cases hb : b = x
  ·rw [hb, qv] at e; cases e
  ·rw [y7 hb] at e; exact none1 b (zQ g2 e)
 have nlu0 := none1 lu nlu
 generalize upd H2 x (.ins a.c_Net dx (putF "units" (.ref lu) [("many", .int (many : Int))])) = H3 at *
 clear but1 none1 hl1 hm1 ru1 g2 eu rk hx1 hx2
 have lvk := UL.length rk3
 refine ⟨_, rfl, _, rfl, x, _, dx, _, _, rfl, hx3, T.C_Net, T.n_Net_many, rfl, _, rfl, x, _, dx, _, _, rfl, hx3, T.C_Net, T.n_Net_units, rfl, _, _, rfl, .inl (SqL.of eu3), _, _, rfl, rfl, m, many + us.length, outs, congrArg (fun z => [V.ref m, V.int z]) (show (many : Int) + (vk.length : Int) = ((many + us.length : Nat) : Int) by omega), hm3, ol, o1, o12, fun lo hlo => ?_⟩
 have g4 := qy hlo (.lst (outV outs))
 have hx4 := g4 _ _ hx3
 have nox : lo ≠ x := Ne.symm (zK hx3 hlo)
 refine ⟨_, rfl, x, _, dx, _, rfl, hx4, T.C_Net, T.n_Net_outs, (show 2 < 1000 by decide), ?_⟩
 refine q lu lo vk _ (fun b u hb e => by rw [y7 hb]; exact g4 _ _ (but3 b u hb e)) nlu0 (none3 lo hlo) ⟨dx, qv⟩ (by rw [y7 nux]; exact g4 _ _ eu3) (by rw [y7 nox]; exact qv) (UL.upd_ins (UL.mono rk3 g4) hx4)
def spToldU (K : Fg9) : Sp := fun vs H Q _ => ∃ (v : V) (u : Un), vs = [v] ∧ UnAt true K H v u ∧ RetBy H Q fun H' v => UnN H K H' v u
theorem ok_told_unit (T : Txt K mg a) : FnOk P w K mg base CX0 1 a.f_told_unit a.d_told_unit ["unit"] (spToldU K) := by
 refine T.F_told_unit.ok sc_told_unit (fun vs H Q E h => ?_) (fun cdv A outer s H vs Q E hr h => ?_)
 ·obtain ⟨_, _, rfl, _⟩ := h
  rfl
 obtain ⟨v, u, rfl, hu, q⟩ := h
 refine ⟨_, (qW (ps_if (zJ op_eq (pe_ix qY (pv 0) qk (fun _ _ => rfl)) v6 (zX _))
    (qV (zw (yq (pa_c v6 (pa_c (pe_ix qY (pv 0) qk (fun _ _ => rfl)) (pa_c (jy (Yq) rfl T.m_list boot_list (pa_c (pe_ix qY (pv 0) qk (fun _ _ => rfl)) qj) (he := qz rfl _ _) (hpl := qZ rfl)) qj))))))
    zW)
   (qV (zw (pv 0)))), ?_⟩
 cases u with
 | sum c ts =>
  obtain ⟨t, pc, pt, vs, rfl, h1, h2, h3, h4⟩ := hu
  refine ⟨_, rfl, _, _, _, _, rfl, rfl, h1, rfl, rfl, _, rfl, iteP rfl ?_⟩
  refine ⟨_, rfl, _, _, _, _, rfl, rfl, h1, rfl, _, rfl, _, _, _, _, rfl, rfl, h1, rfl, pt, vs, rfl, .inr h3, fun l2 hl2 => ⟨(show 3 ≤ sizeLine by decide), fun t2 ht2 => ?_⟩⟩
  have g1 := qy hl2 (.lst vs)
  have g2 := qy ht2 (.tup [.str "sum", .ref pc, .ref l2])
  have g := g1.trans g2
  exact q t2 _ g fun lf o e => ⟨t2, pc, l2, vs, rfl, SqT.of qv, g.tup h2, g2 _ _ qv, Ne.symm (zK e hl2), h4.mono g⟩
 | bend p =>
  obtain ⟨t, rfl, h1⟩ := hu
  refine ⟨_, rfl, _, _, _, _, rfl, rfl, h1, rfl, rfl, _, rfl, iteN (by decide) ?_⟩
  exact ⟨_, rfl, q t H (Same.refl _) fun lf o e => ⟨t, rfl, h1⟩⟩
def spNetTold (K : Fg9) (C : Addr) : Sp := fun vs H Q _ => ∃ (p lu lo : Addr) (many : Nat) (vk : List V) (us : List Un) (outs : List Nat), vs = [.ref p] ∧ NetAt C H p lu lo many ∧ SqL K H lu vk ∧ UL true K H vk us ∧ us.length ≤ 80 ∧ SqL K H lo (outV outs) ∧ ∀ t l2 o2 vu H', Same H H' → SqT K H' t [.int (many : Int), .ref l2, .ref o2] → H l2 = none → H' l2 = some (.lst vu) → (∀ lf o, H lf = some o → UF lf K H' vu us) → H o2 = none → H' o2 = some (.lst (outV outs)) → Q (.ref t) H'
theorem QY (T : Txt K mg a) : FnOk P w K mg base CX0 2 a.f_Net_told a.d_Net_told ["self"] (spNetTold K a.c_Net) := by
 refine T.F_Net_told.ok sc_Net_told (fun vs H Q E h => ?_) (fun cdv A outer s H vs Q E hr h => ?_)
 ·obtain ⟨_, _, _, _, _, _, _, rfl, _⟩ := h
  rfl
 obtain ⟨p, lu, lo, many, vk, us, outs, rfl, ⟨dx, hp⟩, hu, rk, l80, ho, q⟩ := h
 refine ⟨_, (qV (zw (yq (pa_c (JY (pv 0) rfl) (pa_c (wK (N := ["unit"]) (ix := [none]) ⟨rfl, rfl, rfl, rfl, trivial, rfl, trivial⟩ rfl (jV (JY (pv 0) rfl)) (fun _ => (zx (i := 0) (show (["unit"] : List Str).Nodup by decide +kernel) rfl (Or.inl rfl))) (fun _ σ => wV rfl σ) (fun _ => jk) (fun _ => (qK (ok_told_unit T) (hr.mono (by decide)) rfl T.m_told_unit T.F_told_unit.kp T.b_told_unit .nil pass0 (pa_c (pv 0) qj) (he := qz rfl _ _) (hpl := qZ rfl)))) (pa_c (jy (Yq) rfl T.m_list boot_list (pa_c (JY (pv 0) rfl) qj) (he := qz rfl _ _) (hpl := qZ rfl)) qj)))))), ?_⟩
 have lk := rk.length
 refine ⟨_, rfl, p, _, dx, _, _, rfl, hp, T.C_Net, T.n_Net_many, rfl, _, rfl, p, _, dx, _, _, rfl, hp, T.C_Net, T.n_Net_units, rfl, lu, rfl, ⟨_, hu⟩, jq (n := us.length) (fun i ys H' => Same H H' ∧ ∀ lf o, H lf = some o → UF lf K H' ys (us.take i)) ⟨Same.refl _, fun lf o e => .nil⟩ (zj (by omega)) ?_ ?_ ?_⟩
 ·rintro ys H1 ⟨g1, r1⟩
  rw [List.take_of_length_le (Nat.le_refl _)] at r1
  refine ⟨⟨_, g1.seq hu, by omega⟩, fun l2 hl2 => ?_⟩
  have g2 := qy hl2 (.lst ys)
  have gA := g1.trans g2
  refine ⟨_, rfl, p, _, dx, _, _, rfl, gA _ _ hp, T.C_Net, T.n_Net_outs, rfl, lo, _, rfl, .inl (gA.seq ho), fun o2 ho2 => ⟨(show 3 ≤ sizeLine by decide), fun t ht => ?_⟩⟩
  have g3 := qy ho2 (.lst (outV outs))
  have g4 := qy ht (.tup [.int (many : Int), .ref l2, .ref o2])
  have g34 := g3.trans g4
  exact q t l2 o2 ys _ (gA.trans g34) (SqT.of qv) (zQ g1 hl2) (g34 _ _ qv) (fun lf o e => (r1 lf o e).mono (g2.trans g34)) (zQ gA ho2) (g4 _ _ qv)
 ·rintro i ys H' hi ⟨g, _⟩
  exact ⟨_, _, g.seq hu, gE9 (by omega)⟩
 ·rintro i m' ys H' cc x H2 hi ⟨g, r⟩ ⟨rfl, y1⟩ nx _
  obtain ⟨u0, eu, h0⟩ := rk.get (y1 _ (g.seq hu))
  refine Or.inl ⟨rfl, _, rfl, x, u0, rfl, h0.mono g, fun p3 H3 g3 e3 => nx _ _ ⟨g.trans g3, fun lf o e => ?_⟩⟩
  rw [zY eu]
  exact UF.snoc ((r lf o e).mono g3) (e3 lf o (g _ _ e))
def turnQ (e : Rat × Rat) (q : Rat) : Rat × Rat := if q < 0 then (e.2, e.1) else e
def spStep (sp : List (Rat × Rat)) (acc : Rat × Rat) (x : Nat × Rat) : Rat × Rat := (acc.1 + x.2 * (turnQ (sp.getD x.1 (0, 0)) x.2).1, acc.2 + x.2 * (turnQ (sp.getD x.1 (0, 0)) x.2).2)
def sumSp (sp : List (Rat × Rat)) (c : Rat) (ts : List (Nat × Rat)) : Rat × Rat := ts.foldl (spStep sp) (c, c)
def spanU (sp : List (Rat × Rat)) : Un → Rat × Rat
 | .sum c ts => sumSp sp c ts
 | .bend p => (bentQ (sp.getD p (0, 0)).1, bentQ (sp.getD p (0, 0)).2)
def spanN (ss : List (Rat × Rat)) (us : List Un) : List (Rat × Rat) := us.foldl (fun sp u => sp ++ [spanU sp u]) ss
theorem spanN_snoc (ss : List (Rat × Rat)) (us : List Un) (u : Un) : spanN ss (us ++ [u]) = spanN ss us ++ [spanU (spanN ss us) u] := by unfold spanN; rw [List.foldl_append]; rfl
theorem spanN_len : ∀ (us : List Un) (ss : List (Rat × Rat)), (spanN ss us).length = ss.length + us.length
 | [], ss => by simp [spanN]
 | u :: us, ss => by
  have k := spanN_len us (ss ++ [spanU ss u])
  unfold spanN at k ⊢
  rw [List.foldl_cons, k, List.length_append, List.length_singleton, List.length_cons]
  omega
def Bs (d b : Nat) (s : Rat × Rat) : Prop := Bq d b s.1 ∧ Bq d b s.2
def ShrU : Un → Prop
 | .sum c ts => Shr c ∧ (∀ x ∈ ts, Shr x.2) ∧ ts.length ≤ 3
 | .bend _ => True
theorem Z4 {α : Type} {xs : List α} {i : Nat} {x : α} (d : α) (h : xs[i]? = some x) : xs.getD i d = x := by simp [List.getD, h]
theorem Bs.getD {d b : Nat} {sp : List (Rat × Rat)} (h : ∀ s ∈ sp, Bs d b s) (i : Nat) : Bs d b (sp.getD i (0, 0)) := by
 cases e : sp[i]? with
 | none => rw [show sp.getD i (0, 0) = (0, 0) by simp [List.getD, e]]; exact ⟨Bq.zero d b, Bq.zero d b⟩
 | some s => rw [Z4 _ e]; exact h s (List.mem_of_getElem? e)
theorem Bs.turn {d b : Nat} {s : Rat × Rat} (h : Bs d b s) (q : Rat) : Bs d b (turnQ s q) := by
 unfold turnQ
 split
 ·exact ⟨h.2, h.1⟩
 ·exact h
theorem sumSp_sz {d b : Nat} {sp : List (Rat × Rat)} (h : ∀ s ∈ sp, Bs d b s) {c : Rat} (hc : Shr c) : ∀ (ts : List (Nat × Rat)), (∀ x ∈ ts, Shr x.2) → ∀ i, Bs (d + 1) (b + 64 + i) ((ts.take i).foldl (spStep sp) (c, c))
 | ts, _, 0 => by
  rw [List.take_zero]
  exact ⟨hc.mono (by omega) (by omega), hc.mono (by omega) (by omega)⟩
 | ts, ht, i + 1 => by
  have ih := sumSp_sz h hc ts ht i
  cases e : ts[i]? with
  | none =>
   rw [List.take_succ, e]
   show Bs _ _ ((ts.take i ++ []).foldl _ _)
   rw [List.append_nil]
   exact ⟨ih.1.mono (by omega) (by omega), ih.2.mono (by omega) (by omega)⟩
  | some x =>
   rw [zY e, List.foldl_append]
   show Bs _ _ (spStep sp _ x)
   have k := (Bs.getD h x.1).turn x.2
   have hx := ht x (List.mem_of_getElem? e)
   exact ⟨ih.1.add ((Bq.mul hx k.1).mono (by omega) (by omega)), ih.2.add ((Bq.mul hx k.2).mono (by omega) (by omega))⟩
theorem spanU_sz {d b : Nat} {sp : List (Rat × Rat)} (h : ∀ s ∈ sp, Bs d b s) {u : Un} (hu : ShrU u) : Bs (d + 1) (b + 67) (spanU sp u) := by
 cases u with
 | sum c ts =>
  have k := sumSp_sz h hu.1 ts hu.2.1 ts.length
  rw [List.take_length] at k
  have l := hu.2.2
  exact ⟨k.1.mono (by omega) (by omega), k.2.mono (by omega) (by omega)⟩
 | bend p =>
  have k := Bs.getD h p
  exact ⟨k.1.bent.mono (by omega) (by omega), k.2.bent.mono (by omega) (by omega)⟩
theorem spanN_sz {ss : List (Rat × Rat)} (h : ∀ s ∈ ss, Bs 2 70 s) (us : List Un) (hu : ∀ u ∈ us, ShrU u) : ∀ i, ∀ s ∈ spanN ss (us.take i), Bs (2 + i) (70 + 67 * i) s
 | 0 => by rw [List.take_zero]; exact h
 | i + 1 => by
  have ih := spanN_sz h us hu i
  intro s hs
  cases e : us[i]? with
  | none =>
   rw [List.take_succ, e] at hs
   have hs : s ∈ spanN ss (us.take i ++ []) := hs
   rw [List.append_nil] at hs
   exact ⟨(ih s hs).1.mono (by omega) (by omega), (ih s hs).2.mono (by omega) (by omega)⟩
  | some u =>
   rw [zY e, spanN_snoc] at hs
   rcases List.mem_append.mp hs with z | z
   ·exact ⟨(ih s z).1.mono (by omega) (by omega), (ih s z).2.mono (by omega) (by omega)⟩
   ·rw [List.mem_singleton.mp z]
    have k := spanU_sz ih (hu u (List.mem_of_getElem? e))
    exact ⟨k.1.mono (by omega) (by omega), k.2.mono (by omega) (by omega)⟩
theorem SL.getD {K : Fg9} {H : Hp} {vs : List V} {ss : List (Rat × Rat)} {i : Nat} (h : SL K H vs ss) (hi : i < ss.length) : ∃ v, vs[i]? = some v ∧ Qj K H v (ss.getD i (0, 0)) := by
 have l := h.length
 obtain ⟨v, hv⟩ : ∃ v, vs[i]? = some v := ⟨_, gE9 (by omega)⟩
 obtain ⟨s, es, hs⟩ := h.get hv
 exact ⟨v, hv, by rw [Z4 _ es]; exact hs⟩
def spBent (K : Fg9) : Sp := fun vs H Q _ => ∃ (p : Addr) (x : Rat), vs = [.ref p] ∧ SqT K H p (TQ x) ∧ SmQ 9000 x ∧ RetS K H Q (TQ (bentQ x))
theorem sm0 : SmQ 9000 (0 : Rat) := ⟨by unfold Sm; exact Nat.pow_pos (by decide), by unfold Sm; exact Nat.one_lt_two_pow (by decide)⟩
theorem ok_bent (T : Txt K mg a) : FnOk P w K mg base CX0 2 a.f_bent a.d_bent ["one"] (spBent K) := by
 refine T.F_bent.ok sc_bent (fun vs H Q E h => ?_) (fun cdv A outer s H vs Q E hr h => ?_)
 ·obtain ⟨_, _, rfl, _⟩ := h
  rfl
 obtain ⟨p, x, rfl, hp, sx, q⟩ := h
 refine ⟨_, (qV (zw (pe_ifExp (yX (qK (J5 T) (hr.mono (by decide)) rfl T.m_less T.F_less.kp T.b_less .nil pass0 (pa_c (yZ (v := .ref a.g_NOUGHT) rfl T.m_NOUGHT rfl) (pa_c (pv 0) qj)) (he := qz rfl _ _) (hpl := qZ rfl))) (pv 0) (yZ (v := .ref a.g_NOUGHT) rfl T.m_NOUGHT rfl)))), ?_⟩
 have n0 : ∀ H : Hp, SqT K H a.g_NOUGHT (TQ 0) := T.s_NOUGHT
 refine ⟨_, rfl, a.g_NOUGHT, p, 0, x, rfl, n0 _, hp, sm0, sx, _, rfl, iteD (fun k => ?_) (fun k => ?_)⟩
 ·exact ⟨_, rfl, q p H (Same.refl _) (by unfold bentQ; rw [if_pos k]; exact hp)⟩
 ·exact q a.g_NOUGHT H (Same.refl _) (by unfold bentQ; rw [if_neg k]; exact n0 _)
def spTurned (K : Fg9) : Sp := fun vs H Q _ => ∃ (v : V) (r : Addr) (e : Rat × Rat) (x : Rat), vs = [v, .ref r] ∧ Qj K H v e ∧ SqT K H r (TQ x) ∧ SmQ 9000 x ∧ RetSide K H Q (turnQ e x)
theorem ok_turned (T : Txt K mg a) : FnOk P w K mg base CX0 2 a.f_turned a.d_turned ["pair", "share"] (spTurned K) := by
 refine T.F_turned.ok sc_turned (fun vs H Q E h => ?_) (fun cdv A outer s H vs Q E hr h => ?_)
 ·obtain ⟨_, _, _, _, rfl, _⟩ := h
  rfl
 obtain ⟨v, r, e, x, rfl, ⟨p, pl, ph, rfl, hp, h1, h2⟩, hx, sx, q⟩ := h
 refine ⟨_, (qV (zw (pe_ifExp (yX (qK (J5 T) (hr.mono (by decide)) rfl T.m_less T.F_less.kp T.b_less .nil pass0 (pa_c (pv 1) (pa_c (yZ (v := .ref a.g_NOUGHT) rfl T.m_NOUGHT rfl) qj)) (he := qz rfl _ _) (hpl := qZ rfl))) (yq (pa_c (pe_ix qY (pv 0) qk (fun _ _ => rfl)) (pa_c (pe_ix qY (pv 0) qk (fun _ _ => rfl)) qj))) (pv 0)))), ?_⟩
 have n0 : ∀ H : Hp, SqT K H a.g_NOUGHT (TQ 0) := T.s_NOUGHT
 refine ⟨_, rfl, r, a.g_NOUGHT, x, 0, rfl, hx, n0 _, sx, sm0, _, rfl, iteD (fun k => ?_) (fun k => ?_)⟩
 ·refine ⟨_, rfl, _, _, _, _, rfl, rfl, hp, rfl, _, rfl, _, _, _, _, rfl, rfl, hp, rfl, y9, fun t ht => ?_⟩
  have g := qy ht (.tup [.ref ph, .ref pl])
  exact q t _ g (by unfold turnQ; rw [if_pos k]; exact ⟨t, ph, pl, rfl, SqT.of qv, g.tup h2, g.tup h1⟩)
 ·exact ⟨_, rfl, q p H (Same.refl _) (by unfold turnQ; rw [if_neg k]; exact ⟨p, pl, ph, rfl, hp, h1, h2⟩)⟩
def spSumSpan (K : Fg9) : Sp := fun vs H Q _ => ∃ (pc pt lf : Addr) (vt vf : List V) (c : Rat) (ts : List (Nat × Rat)) (sp : List (Rat × Rat)) (d b : Nat), vs = [.ref pc, .ref pt, .ref lf] ∧ SqT K H pc (TQ c) ∧ SqL K H pt vt ∧ TL K H vt ts ∧ SqL K H lf vf ∧ SL K H vf sp ∧ (∀ x ∈ ts, x.1 < sp.length) ∧ ShrU (.sum c ts) ∧ (∀ s ∈ sp, Bs d b s) ∧ d ≤ 14 ∧ b ≤ 1000 ∧ RetSide K H Q (sumSp sp c ts)
theorem Bq.s4 {d b : Nat} {q : Rat} (h : Bq d b q) (hd : d ≤ 20) (hb : b ≤ 2000) : SmQ 4000 q := h.sm.mono (by omega)
theorem Bq.s9 {d b : Nat} {q : Rat} (h : Bq d b q) (hd : d ≤ 20) (hb : b ≤ 2000) : SmQ 9000 q := h.sm.mono (by omega)
abbrev J6 (P w K mg base) (a : Adr) (cdv A outer s H E) := (cxOf CX0 P w K mg base ["constant", "terms", "found", "low", "high", "place", "share", "ends"] "sum_span" (qQ wj) a.f_sum_span cdv A outer s H E).nox
set_option maxHeartbeats 0 in
theorem ok_sum_span (T : Txt K mg a) : FnOk P w K mg base CX0 3 a.f_sum_span a.d_sum_span ["constant", "terms", "found"] (spSumSpan K) := by
 refine T.F_sum_span.ok kv (fun vs H Q E h => ?_) (fun cdv A outer s H vs Q E hr h => ?_)
 ·obtain ⟨_, _, _, _, _, _, _, _, _, _, rfl, _⟩ := h
  rfl
 obtain ⟨pc, pt, lf, vt, vf, c, ts, sp, d, b, rfl, hc, ht, rt, hf, rf, wf, ⟨sc, st, l3⟩, sz, d14, b1000, q⟩ := h
 have h0 : PS (J6 P w K mg base a cdv A outer s H E) (bS wj 0) _ := (zk (i := 3) kv.nd rfl (Or.inl rfl) (pv 0))
 have h1 : PS (J6 P w K mg base a cdv A outer s H E) (bS wj 1) _ := (zk (i := 4) kv.nd rfl (Or.inl rfl) (pv 0))
 have h2 : PS (J6 P w K mg base a cdv A outer s H E) (bS wj 2) _ := (kj PassesOwn.never rfl (jV (pv 1)) (jW rfl (zy (zx (i := 5) kv.nd rfl (Or.inl rfl)) (zy (zx (i := 6) kv.nd rfl (Or.inl rfl)) yK)))
    (qW (zk (i := 7) kv.nd rfl (Or.inl rfl) (qK (ok_turned T) (hr.mono (by decide)) rfl T.m_turned T.F_turned.kp T.b_turned .nil pass0 (pa_c (pe_ix yk (pv 2) (pv 5) (fun _ _ => rfl)) (pa_c (pv 6) qj)) (he := qz rfl _ _) (hpl := qZ rfl)))
   (qW (zk (i := 3) kv.nd rfl (Or.inl rfl) (qK (ok_plus T) (hr.mono (by decide)) rfl T.m_plus T.F_plus.kp T.b_plus .nil pass0 (pa_c (pv 3) (pa_c (qK (YX T) (hr.mono (by decide)) rfl T.m_times T.F_times.kp T.b_times .nil pass0 (pa_c (pv 6) (pa_c (pe_ix qY (pv 7) qk (fun _ _ => rfl)) qj)) (he := qz rfl _ _) (hpl := qZ rfl)) qj)) (he := qz rfl _ _) (hpl := qZ rfl)))
   (qV (zk (i := 4) kv.nd rfl (Or.inl rfl) (qK (ok_plus T) (hr.mono (by decide)) rfl T.m_plus T.F_plus.kp T.b_plus .nil pass0 (pa_c (pv 4) (pa_c (qK (YX T) (hr.mono (by decide)) rfl T.m_times T.F_times.kp T.b_times .nil pass0 (pa_c (pv 6) (pa_c (pe_ix qY (pv 7) qk (fun _ _ => rfl)) qj)) (he := qz rfl _ _) (hpl := qZ rfl)) qj)) (he := qz rfl _ _) (hpl := qZ rfl)))))))
 have h3 : PS (J6 P w K mg base a cdv A outer s H E) (bS wj 3) _ := (zw (yq (pa_c (pv 3) (pa_c (pv 4) qj))))
 refine body4 (by rfl) h0 h1 h2 h3 ?_
 intros
 clear h0 h1 h2 h3
 have lt := rt.length
 refine ⟨_, rfl, ?_⟩
 refine ⟨_, rfl, ?_⟩
 refine ⟨_, rfl, pt, rfl, ⟨_, ht⟩, vy (n := ts.length) (fun i σ H' => Same H H' ∧ ∃ p1 p2 u5 u6 u7, σ = [some (.ref pc), some (.ref pt), some (.ref lf), some (.ref p1), some (.ref p2), u5, u6, u7] ∧ SqT K H' p1 (TQ ((ts.take i).foldl (spStep sp) (c, c)).1) ∧ SqT K H' p2 (TQ ((ts.take i).foldl (spStep sp) (c, c)).2))
  ⟨Same.refl _, pc, pc, _, _, _, rfl, hc, hc⟩ ?_ ?_ ?_⟩
 ·rintro σ H' ⟨g, p1, p2, u5, u6, u7, rfl, h1, h2⟩
  refine ⟨⟨_, g.seq ht, by omega⟩, ?_⟩
  rw [List.take_of_length_le (Nat.le_refl _)] at h1 h2
  refine ⟨_, rfl, _, rfl, y9, fun t hn => ?_⟩
  have g2 := qy hn (.tup [.ref p1, .ref p2])
  exact q t _ (g.trans g2) ⟨t, p1, p2, rfl, SqT.of qv, g2.tup h1, g2.tup h2⟩
 ·rintro i σ H' hi ⟨g, _⟩
  exact ⟨_, _, g.seq ht, gE9 (by omega)⟩
 ·rintro i σ H0 x H' hi ⟨g, p1, p2, u5, u6, u7, rfl, h1, h2⟩ ⟨rfl, y1⟩
  obtain ⟨x0, ex, tt, r, rfl, k1, k2⟩ := rt.get (y1 _ (g.seq ht))
  have k1 := g.tup k1
  have k2 := g.tup k2
  have hx := wf x0 (List.mem_of_getElem? ex)
  have sx : Shr x0.2 := st x0 (List.mem_of_getElem? ex)
  obtain ⟨ve, ev, he⟩ := rf.getD hx
  have szE := (Bs.getD sz x0.1).turn x0.2
  have szA := sumSp_sz sz sc ts st i
  rw [zY ex, List.foldl_append]
  show _
  refine ⟨tt, _, rfl, k1, rfl, _, _, rfl, _, _, rfl, rfl, ?_⟩
  refine ⟨_, rfl, _, rfl, lf, _, _, _, rfl, rfl, g.seq hf, atN ev, _, rfl, ve, r, _, x0.2, rfl, he.mono g, k2, sx.s9 (by decide) (by decide), fun pe H1 g1 se => ?_⟩
  obtain ⟨_, pl, ph, eqE, hE, eL, eH⟩ := se
  cases eqE
  refine ⟨_, rfl, _, rfl, _, rfl, _, _, _, _, rfl, rfl, hE, rfl, r, pl, x0.2, _, rfl, g1.tup k2, eL, sx.s4 (by decide) (by decide), szE.1.s4 (by omega) (by omega), fun p4 H4 g4 e4 => ?_⟩
  refine ⟨p1, p4, _, _, rfl, (g1.trans g4).tup h1, SqT.of e4, szA.1.s4 (by omega) (by omega), (Bq.mul sx szE.1).s4 (by omega) (by omega), fun p5 H5 g5 e5 => ?_⟩
  have g45 := g4.trans g5
  refine ⟨_, rfl, _, rfl, _, rfl, _, _, _, _, rfl, rfl, g45.tup hE, rfl, r, ph, x0.2, _, rfl, (g1.trans g45).tup k2, g45.tup eH, sx.s4 (by decide) (by decide), szE.2.s4 (by omega) (by omega), fun p6 H6 g6 e6 => ?_⟩
  refine ⟨p2, p6, _, _, rfl, (g1.trans (g45.trans g6)).tup h2, SqT.of e6, szA.2.s4 (by omega) (by omega), (Bq.mul sx szE.2).s4 (by omega) (by omega), fun p7 H7 g7 e7 => ?_⟩
  exact ⟨g.trans (g1.trans (g45.trans (g6.trans g7))), p5, p7, _, _, _, rfl, SqT.of ((g6.trans g7) _ _ e5), SqT.of e7⟩
def spBendSpan (K : Fg9) : Sp := fun vs H Q _ => ∃ (v : V) (e : Rat × Rat), vs = [v] ∧ Qj K H v e ∧ SmQ 9000 e.1 ∧ SmQ 9000 e.2 ∧ RetSide K H Q (bentQ e.1, bentQ e.2)
theorem ok_bend_span (T : Txt K mg a) : FnOk P w K mg base CX0 3 a.f_bend_span a.d_bend_span ["span"] (spBendSpan K) := by
 refine T.F_bend_span.ok sc_bend_span (fun vs H Q E h => ?_) (fun cdv A outer s H vs Q E hr h => ?_)
 ·obtain ⟨_, _, rfl, _⟩ := h
  rfl
 obtain ⟨v, e, rfl, ⟨p, pl, ph, rfl, hp, h1, h2⟩, s1, s2, q⟩ := h
 refine ⟨_, (qV (zw (yq (pa_c (qK (ok_bent T) (hr.mono (by decide)) rfl T.m_bent T.F_bent.kp T.b_bent .nil pass0 (pa_c (pe_ix qY (pv 0) qk (fun _ _ => rfl)) qj) (he := qz rfl _ _) (hpl := qZ rfl)) (pa_c (qK (ok_bent T) (hr.mono (by decide)) rfl T.m_bent T.F_bent.kp T.b_bent .nil pass0 (pa_c (pe_ix qY (pv 0) qk (fun _ _ => rfl)) qj) (he := qz rfl _ _) (hpl := qZ rfl)) qj))))), ?_⟩
 refine ⟨_, rfl, _, _, _, _, rfl, rfl, hp, rfl, pl, _, rfl, h1, s1, fun p1 H1 g1 k1 => ?_⟩
 refine ⟨_, rfl, _, _, _, _, rfl, rfl, g1.tup hp, rfl, ph, _, rfl, g1.tup h2, s2, fun p2 H2 g2 k2 => ⟨y9, fun t ht => ?_⟩⟩
 have g3 := qy ht (.tup [.ref p1, .ref p2])
 exact q t _ (g1.trans (g2.trans g3)) ⟨t, p1, p2, rfl, SqT.of qv, (g2.trans g3).tup k1, g3.tup k2⟩
def Jj (K : Fg9) (a : Adr) (H : Hp) (pn pb : Addr) (many : Nat) (us : List Un) (outs : List Nat) (ss : List (Rat × Rat)) : Prop :=
 ∃ lu lo mB vk vB, NetAt a.c_Net H pn lu lo many ∧ SqL K H lu vk ∧ UL true K H vk us ∧ SqL K H lo (outV outs) ∧ BoxAt a.c_Box H pb mB ∧ SqL K H mB vB ∧ SL K H vB ss
theorem Jj.mono {K : Fg9} {a : Adr} {H H' : Hp} {pn pb : Addr} {many : Nat} {us : List Un} {outs : List Nat} {ss : List (Rat × Rat)} (h : Jj K a H pn pb many us outs ss) (g : Same H H') : Jj K a H' pn pb many us outs ss := by
 obtain ⟨lu, lo, mB, vk, vB, h1, h2, h3, h4, h5, h6, h7⟩ := h
 exact ⟨lu, lo, mB, vk, vB, h1.mono g, g.seq h2, h3.mono g, g.seq h4, h5.mono g, g.seq h6, h7.mono g⟩
def spSpans (K : Fg9) (a : Adr) : Sp := fun vs H Q _ => ∃ (pn pb : Addr) (many : Nat) (us : List Un) (outs : List Nat) (ss : List (Rat × Rat)), vs = [.ref pn, .ref pb] ∧ Jj K a H pn pb many us outs ss ∧ WfN many us ∧ us.length ≤ 12 ∧ (∀ u ∈ us, ShrU u) ∧ ss.length = many ∧ (∀ s ∈ ss, Bs 2 70 s) ∧ many ≤ 6 ∧ ∀ p H' vr, H p = none → Same H H' → H' p = some (.lst vr) → SL K H' vr (spanN ss us) → Q (.ref p) H'
abbrev cb_spans (P w K mg base) (a : Adr) (cdv A outer s H E) := (cxOf CX0 P w K mg base ["net", "box", "found", "unit"] "spans" (qQ Y1) a.f_spans cdv A outer s H E).nox
set_option maxHeartbeats 0 in
theorem ok_spans (T : Txt K mg a) : FnOk P w K mg base CX0 4 a.f_spans a.d_spans ["net", "box"] (spSpans K a) := by
 refine T.F_spans.ok sc_spans (fun vs H Q E h => ?_) (fun cdv A outer s H vs Q E hr h => ?_)
 ·obtain ⟨_, _, _, _, _, _, rfl, _⟩ := h
  rfl
 obtain ⟨pn, pb, many, us, outs, ss, rfl, ⟨lu, lo, mB, vk, vB, hN, hu, rk, ho, hB, hb, rB⟩, wf, l12, shr, lss, sz, m6, q⟩ := h
 have h0 : PS (cb_spans P w K mg base a cdv A outer s H E) (bS Y1 0) _ := (zk (i := 2) sc_spans.nd rfl (Or.inl rfl) (Z0 (pv 1) T.C_Box T.t_Box_told (ok_Box_told T) (hr.mono (by decide)) T.b_Box_told .nil pass0))
 have h1 : PS (cb_spans P w K mg base a cdv A outer s H E) (bS Y1 1) _ := (kj PassesOwn.never rfl (jV (pe_ix qY (Z0 (pv 0) T.C_Net T.t_Net_told (QY T) (hr.mono (by decide)) T.b_Net_told .nil pass0) qk (fun _ _ => rfl))) (zx (i := 3) sc_spans.nd rfl (Or.inl rfl))
    (qV (ps_if (zJ op_eq (pe_ix qY (pv 3) qk (fun _ _ => rfl)) v6 (zX _))
    (qV (xY (pe_bm PySem.F.plainAttrs_list PySem.F.slot_list_append PySem.F.type_list_append kx (pv 2) (pa_c (qK (ok_sum_span T) (hr.mono (by decide)) rfl T.m_sum_span T.F_sum_span.kp T.b_sum_span .nil pass0 (pa_c (pe_ix qY (pv 3) qk (fun _ _ => rfl)) (pa_c (pe_ix qY (pv 3) qk (fun _ _ => rfl)) (pa_c (pv 2) qj))) (he := qz rfl _ _) (hpl := qZ rfl)) qj) (hs := qz rfl _ _) (hplain := qZ rfl))))
    (qV (xY (pe_bm PySem.F.plainAttrs_list PySem.F.slot_list_append PySem.F.type_list_append kx (pv 2) (pa_c (qK (ok_bend_span T) (hr.mono (by decide)) rfl T.m_bend_span T.F_bend_span.kp T.b_bend_span .nil pass0 (pa_c (pe_ix yk (pv 2) (pe_ix qY (pv 3) qk (fun _ _ => rfl)) (fun _ _ => rfl)) qj) (he := qz rfl _ _) (hpl := qZ rfl)) qj) (hs := qz rfl _ _) (hplain := qZ rfl)))))))
 have h2 : PS (cb_spans P w K mg base a cdv A outer s H E) (bS Y1 2) _ := (zw (pv 2))
 refine body3 (by rfl) h0 h1 h2 ?_
 intros
 clear h0 h1 h2
 obtain ⟨dB, hB'⟩ := id hB
 refine ⟨_, rfl, pb, dB, _, rfl, hB', rfl, pb, mB, vB, rfl, hB, hb, fun lf hlf => ?_⟩
 have g1 := qy hlf (.lst vB)
 have ef := qv (H := H) (a := lf) (o := .lst vB)
 have hN := hN.mono g1
 have hu := g1.seq hu
 have rk := rk.mono g1
 have ho := g1.seq ho
 have rB := rB.mono g1
 generalize upd H lf (.lst vB) = H1 at *
 obtain ⟨dN, hN'⟩ := id hN
 refine ⟨_, rfl, pn, dN, _, rfl, hN', rfl, pn, lu, lo, many, vk, us, outs, rfl, hN, hu, rk, by omega, ho, fun t l2 o2 vu H2 g2 ht nl2 e2 ru no2 eo2 => ?_⟩
 have ruF := ru lf _ ef
 have lvu := UF.length ruF
 have ne : l2 ≠ lf := Ne.symm (zK ef nl2)
 refine ⟨t, _, _, _, rfl, rfl, ht, rfl, l2, rfl, ⟨_, SqL.of e2⟩, vy (n := us.length) (fun i σ H' => Same H H' ∧ H' l2 = some (.lst vu) ∧ UF lf K H' vu us ∧ ∃ (vr : List V) (u3 : Option V), σ = [some (.ref pn), some (.ref pb), some (.ref lf), u3] ∧ H' lf = some (.lst vr) ∧ SL K H' vr (spanN ss (us.take i)))
  ⟨g1.trans g2, e2, ruF, vB, _, rfl, g2 _ _ ef, rB.mono g2⟩ ?_ ?_ ?_⟩
 ·rintro σ H' ⟨g, k2, kF, vr, u3, rfl, er, rS⟩
  refine ⟨⟨_, SqL.of k2, by omega⟩, ?_⟩
  rw [List.take_of_length_le (Nat.le_refl _)] at rS
  exact ⟨_, rfl, q lf H' vr hlf g er rS⟩
 ·rintro i σ H' hi ⟨g, k2, _⟩
  exact ⟨_, _, SqL.of k2, gE9 (by omega)⟩
 ·rintro i σ H0 x H' hi ⟨g, k2, kF, vr, u3, rfl, er, rS⟩ ⟨rfl, y1⟩
  obtain ⟨u, eu, hU⟩ := kF.get (y1 _ (SqL.of k2))
  have wu := wf i u eu
  have su := shr u (List.mem_of_getElem? eu)
  have szN := spanN_sz sz us shr i
  have lsp : (spanN ss (us.take i)).length = many + i := by rw [spanN_len, List.length_take]; omega
  have lvr := rS.length
  have fin : ∀ (p : Addr) (H3 : Hp), Same H' H3 → Qj K H3 (.ref p) (spanU (spanN ss (us.take i)) u) → Same H (upd H3 lf (.lst (vr ++ [.ref p]))) ∧ upd H3 lf (.lst (vr ++ [.ref p])) l2 = some (.lst vu) ∧ UF lf K (upd H3 lf (.lst (vr ++ [.ref p]))) vu us ∧ upd H3 lf (.lst (vr ++ [.ref p])) lf = some (.lst (vr ++ [.ref p])) ∧ SL K (upd H3 lf (.lst (vr ++ [.ref p]))) (vr ++ [.ref p]) (spanN ss (us.take (i + 1))) := fun p H3 g3 hp => by
   have er3 := g3 _ _ er
   refine ⟨(g.trans g3).laid hlf _, by rw [y7 ne]; exact g3 _ _ k2, UF.upd (kF.mono g3) er3, qv, ?_⟩
   rw [zY eu, spanN_snoc]
   exact SL.upd_lst ((rS.mono g3).snoc hp) er3
  cases u with
  | sum c ts =>
   obtain ⟨t3, pc, pt, vs, rfl, h1, h2, h3, n3, h4⟩ := hU
   refine ⟨_, rfl, _, _, _, _, rfl, rfl, h1, rfl, rfl, _, rfl, iteP rfl ?_⟩
   refine ⟨_, rfl, .inl ⟨rfl, _, SqL.of er⟩, _, rfl, _, _, _, _, rfl, rfl, h1, rfl, _, rfl, _, _, _, _, rfl, rfl, h1, rfl, _, rfl, pc, pt, lf, vs, vr, c, ts, _, 2 + i, 70 + 67 * i, rfl, h2, SqL.of h3, h4, SqL.of er, rS, fun x hx => by rw [lsp]; exact wu.1 x hx, su, szN, by omega, by omega, fun p H3 g3 hp => ?_⟩
   obtain ⟨f1, f2, f3, f4, f5⟩ := fin p H3 g3 hp
   exact ⟨lf, vr, _, rfl, rfl, g3 _ _ er, zj (by omega), f1, f2, f3, _, _, rfl, f4, f5⟩
  | bend p0 =>
   obtain ⟨t3, rfl, h1⟩ := hU
   have hp0 : p0 < (spanN ss (us.take i)).length := by rw [lsp]; exact wu
   obtain ⟨ve, ev, he⟩ := rS.getD hp0
   have szE := Bs.getD szN p0
   refine ⟨_, rfl, _, _, _, _, rfl, rfl, h1, rfl, rfl, _, rfl, iteN (by decide) ?_⟩
   refine ⟨_, rfl, .inl ⟨rfl, _, SqL.of er⟩, _, rfl, _, rfl, _, _, _, _, rfl, rfl, h1, rfl, lf, _, _, _, rfl, rfl, SqL.of er, atN ev, ve, _, rfl, he, szE.1.s9 (by omega) (by omega), szE.2.s9 (by omega) (by omega), fun p H3 g3 hp => ?_⟩
   obtain ⟨f1, f2, f3, f4, f5⟩ := fin p H3 g3 hp
   exact ⟨lf, vr, _, rfl, rfl, g3 _ _ er, zj (by omega), f1, f2, f3, _, _, rfl, f4, f5⟩
def evenF (c : Rat) (n : Nat) : List Rat := c :: List.replicate n 0
def loneF (k n : Nat) : List Rat := 0 :: (List.range n).map fun j => if j = k then 1 else 0
def addT (f g : List Rat) (s : Rat) : List Rat := (f.zip g).map fun p => p.1 + p.2 * s
theorem evenF_len (c : Rat) (n : Nat) : (evenF c n).length = n + 1 := by unfold evenF; rw [List.length_cons, List.length_replicate]
theorem loneF_len (k n : Nat) : (loneF k n).length = n + 1 := by unfold loneF; rw [List.length_cons, List.length_map, List.length_range]
theorem addT_len (f g : List Rat) (s : Rat) : (addT f g s).length = min f.length g.length := by unfold addT; rw [List.length_map, List.length_zip]
theorem YV {α : Type} (x : α) : ∀ n : Nat, (List.replicate n [x]).flatten = List.replicate n x
 | 0 => rfl
 | n + 1 => by rw [List.replicate_succ, List.replicate_succ, List.flatten_cons, YV x n]; rfl
theorem RL.rep {K : Fg9} {H : Hp} {v : V} {q : Rat} (h : IsQ K H v q) : ∀ n : Nat, RL K H (List.replicate n v) (List.replicate n q)
 | 0 => .nil
 | n + 1 => .cons h (RL.rep h n)
def spEven (K : Fg9) : Sp := fun vs H Q _ => ∃ (p : Addr) (c : Rat) (n : Nat), vs = [.ref p, .int (n : Int)] ∧ SqT K H p (TQ c) ∧ n ≤ 40 ∧ RetL K H Q (evenF c n)
theorem V3 (T : Txt K mg a) : FnOk P w K mg base CX0 1 a.f_even_form a.d_even_form ["constant", "many"] (spEven K) := by
 refine T.F_even_form.ok sc_even_form (fun vs H Q E h => ?_) (fun cdv A outer s H vs Q E hr h => ?_)
 ·obtain ⟨_, _, _, rfl, _⟩ := h
  rfl
 obtain ⟨p, c, n, rfl, hp, n40, q⟩ := h
 have n0 : ∀ H : Hp, SqT K H a.g_NOUGHT (TQ 0) := T.s_NOUGHT
 refine ⟨_, (qV (zw (pe_op Y4 (j7 (pa_c (pv 0) qj)) (pe_op op_rep (j7 (pa_c (yZ (v := .ref a.g_NOUGHT) rfl T.m_NOUGHT rfl) qj)) (pv 1))))), ?_⟩
 refine ⟨_, rfl, (show 1 ≤ sizeLine by decide), fun l1 h1 => ⟨(show 1 ≤ sizeLine by decide), fun l2 h2 => ?_⟩⟩
 have g1 := qy h1 (.lst [.ref p])
 have g2 := qy h2 (.lst [.ref a.g_NOUGHT])
 refine ⟨_, rfl, l2, (n : Int), _, rfl, rfl, qv, by omega, by omega, ?_, fun l3 h3 => ?_⟩
 ·show 1 * (n : Int).toNat ≤ sizeLine
  have := zj (n := (n : Int).toNat) (by omega)
  omega
 rw [YV] at *
 have g3 := qy h3 (.lst (List.replicate (n : Int).toNat (.ref a.g_NOUGHT)))
 refine ⟨l1, l3, _, _, rfl, rfl, g3 _ _ (g2 _ _ qv), qv, ?_, fun l4 h4 => ?_⟩
 ·rw [List.length_replicate, List.length_singleton]
  have := zj (n := 1 + (n : Int).toNat) (by omega)
  omega
 have g := g1.trans (g2.trans g3)
 refine q l4 _ _ (zQ g h4) (g.laid (zQ g h4) _) qv ?_
 have gA := g.laid (zQ g h4) (.lst ([.ref p] ++ List.replicate (n : Int).toNat (.ref a.g_NOUGHT)))
 exact .cons ⟨p, rfl, gA.tup hp⟩ (RL.rep ⟨_, rfl, n0 _⟩ n)
def spLone (K : Fg9) : Sp := fun vs H Q _ => ∃ (k n : Nat), vs = [.int (k : Int), .int (n : Int)] ∧ n ≤ 40 ∧ RetL K H Q (loneF k n)
set_option maxHeartbeats 0 in
theorem ok_lone_form (T : Txt K mg a) : FnOk P w K mg base CX0 1 a.f_lone_form a.d_lone_form ["number", "many"] (spLone K) := by
 refine T.F_lone_form.ok sc_lone_form (fun vs H Q E h => ?_) (fun cdv A outer s H vs Q E hr h => ?_)
 ·obtain ⟨_, _, rfl, _⟩ := h
  rfl
 obtain ⟨k, n, rfl, n40, q⟩ := h
 have n0 : ∀ H : Hp, SqT K H a.g_NOUGHT (TQ 0) := T.s_NOUGHT
 have n1 : ∀ H : Hp, SqT K H a.g_ONE (TQ 1) := T.s_ONE
 refine ⟨_, (qV (zw (pe_op Y4 (j7 (pa_c (yZ (v := .ref a.g_NOUGHT) rfl T.m_NOUGHT rfl) qj)) (wK (N := ["k", "number"]) (ix := [none, some 0]) ⟨rfl, rfl, rfl, rfl, ⟨rfl, trivial⟩, rfl, ⟨⟨rfl, Or.inr (Or.inl rfl), Z3 rfl, rfl, Or.inl rfl⟩, trivial⟩⟩ rfl (xj rfl T.m_range (pa_c (pv 1) qj)) (fun _ => (zx (i := 0) (show (["k", "number"] : List Str).Nodup by decide +kernel) rfl (Or.inl rfl))) (fun _ σ => wV rfl σ) (fun _ => jk) (fun _ => (pe_ifExp (zJ op_eq (pv 0) (pv 1) (zX _)) (yZ (v := .ref a.g_ONE) rfl T.m_ONE rfl) (yZ (v := .ref a.g_NOUGHT) rfl T.m_NOUGHT rfl))))))), ?_⟩
 refine ⟨(show 1 ≤ sizeLine by decide), fun l1 h1 => ?_⟩
 have g1 := qy h1 (.lst [.ref a.g_NOUGHT])
 have e1 := qv (H := H) (a := l1) (o := .lst [.ref a.g_NOUGHT])
 generalize upd H l1 (.lst [.ref a.g_NOUGHT]) = H1 at *
 refine ⟨_, rfl, (n : Int), rfl, by omega, by omega, jq (n := n) (fun i ys H' => H' = H1 ∧ RL K H1 ys ((List.range i).map fun j => if j = k then 1 else 0)) ⟨rfl, .nil⟩ (zj (by omega)) ?_ ?_ ?_⟩
 case refine_2 =>
  rintro i ys H' hi _
  show i < (n : Int).toNat
  omega
 case refine_3 =>
  rintro i m' ys H' c x H5 hi ⟨rfl, r⟩ ⟨rfl, rfl⟩ nx _
  refine Or.inl ⟨rfl, _, rfl, _, rfl, rfl, _, rfl, iteD (fun z => nx _ _ ⟨rfl, ?_⟩) (fun z => nx _ _ ⟨rfl, ?_⟩)⟩
  ·have z : (0 : Int) + (i : Int) = (k : Int) := V.int.inj z
   rw [List.range_succ, List.map_append, List.map_singleton, if_pos (by omega)]
   exact r.snoc ⟨_, rfl, n1 _⟩
  ·have z : ¬ i = k := fun y => z (congrArg V.int (by omega))
   rw [List.range_succ, List.map_append, List.map_singleton, if_neg z]
   exact r.snoc ⟨_, rfl, n0 _⟩
 rintro ys H2 ⟨rfl, r⟩
 refine ⟨by show (n : Int).toNat ≤ n; omega, fun l2 h2 => ?_⟩
 have g2 := qy h2 (.lst ys)
 have lys := r.length
 rw [List.length_map, List.length_range] at lys
 refine ⟨l1, l2, _, _, rfl, rfl, g2 _ _ e1, qv, ?_, fun l4 h4 => ?_⟩
 ·have := zj (n := 1 + n) (by omega)
  rw [List.length_singleton]
  omega
 have g := g1.trans g2
 have g4 := qy h4 (.lst ([.ref a.g_NOUGHT] ++ ys))
 exact q l4 _ _ (zQ g h4) (g.trans g4) qv (.cons ⟨_, rfl, n0 _⟩ (r.mono (g2.trans g4)))
def spAddT (K : Fg9) : Sp := fun vs H Q _ => ∃ (l m r : Addr) (v1 v2 : List V) (f g : List Rat) (s : Rat), vs = [.ref l, .ref m, .ref r] ∧ SqL K H l v1 ∧ RL K H v1 f ∧ SqL K H m v2 ∧ RL K H v2 g ∧ SqT K H r (TQ s) ∧ f.length ≤ 60 ∧ f.length = g.length ∧ (∀ x ∈ f, SmQ 4000 x) ∧ (∀ y ∈ g, SmQ 4000 y ∧ SmQ 4000 (y * s)) ∧ SmQ 4000 s ∧ RetL K H Q (addT f g s)
set_option maxHeartbeats 0 in
theorem xQ (T : Txt K mg a) : FnOk P w K mg base CX0 3 a.f_added_times a.d_added_times ["one", "other", "by"] (spAddT K) := by
 refine T.F_added_times.ok sc_added_times (fun vs H Q E h => ?_) (fun cdv A outer s H vs Q E hr h => ?_)
 ·obtain ⟨_, _, _, _, _, _, _, _, rfl, _⟩ := h
  rfl
 obtain ⟨l, m, r, v1, v2, f, g, sh, rfl, hl, r1, hm, r2, hr', l60, lfg, s1, s2, s3, q⟩ := h
 refine ⟨_, (qV (zw (wK (N := ["part", "more", "by"]) (ix := [none, none, some 2]) ⟨rfl, rfl, rfl, rfl, ⟨rfl, trivial⟩, rfl, ⟨⟨rfl, Or.inr (Or.inl rfl), Z3 rfl, rfl, Or.inl rfl⟩, trivial⟩⟩ rfl (pi_zip rfl T.m_zip (pa_c (pv 0) (pa_c (pv 1) qj))) (fun _ => (jW rfl (zy (zx (i := 0) (show (["part", "more", "by"] : List Str).Nodup by decide +kernel) rfl (Or.inl rfl)) (zy (zx (i := 1) (show (["part", "more", "by"] : List Str).Nodup by decide +kernel) rfl (Or.inl rfl)) yK)))) (fun _ σ => V5 rfl rfl (by decide) σ) (fun _ => jk) (fun _ => (pe_ifExp (zJ op_eq (pe_ix qY (pv 1) qk (fun _ _ => rfl)) qk (zX _)) (pv 0) (qK (ok_plus T) (hr.mono (by decide)) rfl T.m_plus T.F_plus.kp T.b_plus .nil pass0 (pa_c (pv 0) (pa_c (qK (YX T) (hr.mono (by decide)) rfl T.m_times T.F_times.kp T.b_times .nil pass0 (pa_c (pv 1) (pa_c (pv 2) qj)) (he := qz rfl _ _) (hpl := qZ rfl)) qj)) (he := qz rfl _ _) (hpl := qZ rfl))))))), ?_⟩
 have lv1 := r1.length
 have lv2 := r2.length
 refine ⟨_, rfl, _, rfl, l, m, rfl, ⟨_, hl⟩, ⟨_, hm⟩, jq (n := f.length) (fun i ys H' => Same H H' ∧ RL K H' ys ((addT f g sh).take i)) ⟨Same.refl _, .nil⟩ (zj (by omega)) ?_ ?_ ?_⟩
 case refine_2 =>
  rintro i ys H' hi ⟨gg, _⟩
  exact ⟨_, _, _, _, gg.seq hl, gg.seq hm, gE9 (by omega), gE9 (by omega)⟩
 case refine_3 =>
  rintro i m' ys H' c x H5 hi ⟨gg, rr⟩ ⟨p, x1, x2, hp, rfl, rfl, y1, y2⟩ nx _
  obtain ⟨qa, ea, pa, rfl, ha⟩ := RL.get r1 (y1 _ (gg.seq hl))
  obtain ⟨qb, eb, pb, rfl, hb⟩ := RL.get r2 (y2 _ (gg.seq hm))
  have j := qy hp (.tup [.ref pa, .ref pb])
  have gj := gg.trans j
  have ez : (addT f g sh)[i]? = some (qa + qb * sh) := by
   have ez0 : (f.zip g)[i]? = some (qa, qb) := by rw [List.getElem?_zip_eq_some]; exact ⟨ea, eb⟩
   unfold addT
   rw [List.getElem?_map, ez0]
   rfl
  have mb := s2 qb (List.mem_of_getElem? eb)
  refine ⟨p, _, rfl, SqT.of qv, rfl, _, _, rfl, _, _, rfl, rfl, Or.inl ⟨rfl, ?_⟩⟩
  refine ⟨_, rfl, _, _, _, _, rfl, rfl, gj.tup hb, rfl, rfl, _, rfl, iteD (fun z => ⟨_, rfl, nx _ _ ⟨gj, ?_⟩⟩) (fun _ => ?_)⟩
  ·have z : qb.num = 0 := V.int.inj z
   have z : qb = 0 := Rat.num_eq_zero.mp z
   rw [zY ez, z, Rat.zero_mul, Rat.add_zero]
   exact (rr.mono j).snoc ⟨pa, rfl, gj.tup ha⟩
  ·refine ⟨_, rfl, _, rfl, _, rfl, pb, r, qb, sh, rfl, gj.tup hb, gj.tup hr', mb.1, s3, fun p3 H3 g3 e3 => ?_⟩
   refine ⟨pa, p3, qa, _, rfl, (gj.trans g3).tup ha, SqT.of e3, s1 qa (List.mem_of_getElem? ea), mb.2, fun p4 H4 g4 e4 => nx _ _ ⟨gj.trans (g3.trans g4), ?_⟩⟩
   rw [zY ez]
   exact (rr.mono (j.trans (g3.trans g4))).snoc ⟨p4, rfl, SqT.of e4⟩
 rintro ys H2 ⟨g2, r⟩
 rw [List.take_of_length_le (by rw [addT_len]; omega)] at r
 refine ⟨⟨_, _, g2.seq hl, g2.seq hm, by omega⟩, fun l2 h2 => ?_⟩
 exact q l2 _ _ (zQ g2 h2) (g2.laid (zQ g2 h2) _) qv (r.mono (qy h2 _))
def FormAt (K : Fg9) (H : Hp) (v : V) (f : List Rat) : Prop := ∃ l ws, v = .ref l ∧ SqL K H l ws ∧ RL K H ws f
def FL (K : Fg9) (H : Hp) (vs : List V) (fs : List (List Rat)) : Prop := Paired (FormAt K H) vs fs
theorem FL.mono {K : Fg9} {H H' : Hp} {vs : List V} {fs : List (List Rat)} (h : FL K H vs fs) (g : Same H H') : FL K H' vs fs := Paired.mapP h fun _ _ ⟨l, ws, e, h1, h2⟩ => ⟨l, ws, e, g.seq h1, h2.mono g⟩
theorem FL.length {K : Fg9} {H : Hp} {vs : List V} {fs : List (List Rat)} (h : FL K H vs fs) : vs.length = fs.length := Paired.length h
theorem FL.get {K : Fg9} {H : Hp} {vs : List V} {fs : List (List Rat)} {i : Nat} {v : V} (h : FL K H vs fs) (e : vs[i]? = some v) : ∃ f, fs[i]? = some f ∧ FormAt K H v f := wv h e
theorem FL.getD {K : Fg9} {H : Hp} {vs : List V} {fs : List (List Rat)} {i : Nat} (h : FL K H vs fs) (hi : i < fs.length) : ∃ l ws, vs[i]? = some (.ref l) ∧ SqL K H l ws ∧ RL K H ws (fs.getD i []) := by
 have l := h.length
 obtain ⟨v, hv⟩ : ∃ v, vs[i]? = some v := ⟨_, gE9 (by omega)⟩
 obtain ⟨q, eq, l, ws, rfl, h1, h2⟩ := h.get hv
 exact ⟨l, ws, hv, h1, by rw [Z4 _ eq]; exact h2⟩
def Fine (n d b : Nat) (f : List Rat) : Prop := f.length = n + 1 ∧ ∀ q ∈ f, Bq d b q
theorem Fine.mono {n d b d' b' : Nat} {f : List Rat} (h : Fine n d b f) (hd : d ≤ d') (hb : b ≤ b') : Fine n d' b' f := ⟨h.1, fun q hq => (h.2 q hq).mono hd hb⟩
theorem Bq.one (d b : Nat) : Bq d b 1 := ⟨Nat.one_dvd _, by show (1 : Int).natAbs ≤ 2 ^ b * 1; rw [Nat.mul_one]; exact Nat.one_le_two_pow⟩
theorem fine_even {c : Rat} {n d b : Nat} (h : Bq d b c) : Fine n d b (evenF c n) := ⟨evenF_len c n, fun q hq => by
 rcases List.mem_cons.mp hq with z | z
 ·rw [z]; exact h
 ·rw [List.eq_of_mem_replicate z]; exact Bq.zero d b⟩
theorem fine_lone {k n d b : Nat} : Fine n d b (loneF k n) := ⟨loneF_len k n, fun q hq => by
 rcases List.mem_cons.mp hq with z | z
 ·rw [z]; exact Bq.zero d b
 ·obtain ⟨j, _, rfl⟩ := List.mem_map.mp z
  split
  ·exact Bq.one d b
  ·exact Bq.zero d b⟩
theorem fine_addT {n d b e : Nat} {f g : List Rat} {s : Rat} (hf : Fine n (d + 1) e f) (hg : Fine n d b g) (hs : Shr s) (he : b + 63 ≤ e) : Fine n (d + 1) (e + 1) (addT f g s) := by
 refine ⟨by rw [addT_len, hf.1, hg.1, Nat.min_self], fun q hq => ?_⟩
 obtain ⟨⟨x, y⟩, hp, rfl⟩ := List.mem_map.mp hq
 have hx := hf.2 x (List.of_mem_zip hp).1
 have hy := hg.2 y (List.of_mem_zip hp).2
 exact Bq.add hx ((Bq.mul hy hs).mono (Nat.le_refl _) he)
def YQ (c : Rat) (ts : List (Nat × Rat)) (fs : List (List Rat)) (n : Nat) : List Rat := ts.foldl (fun f x => addT f (fs.getD x.1 []) x.2) (evenF c n)
theorem fine_part {n d b : Nat} {fs : List (List Rat)} {c : Rat} (h : ∀ f ∈ fs, Fine n d b f) (hc : Shr c) (ts : List (Nat × Rat)) (ht : ∀ x ∈ ts, x.1 < fs.length ∧ Shr x.2) : ∀ i, Fine n (d + 1) (b + 63 + i) ((ts.take i).foldl (fun f x => addT f (fs.getD x.1 []) x.2) (evenF c n))
 | 0 => by
  rw [List.take_zero]
  exact fine_even (Bq.mono hc (by omega) (by omega))
 | i + 1 => by
  have ih := fine_part h hc ts ht i
  cases e : ts[i]? with
  | none =>
   rw [List.take_succ, e]
   show Fine _ _ _ ((ts.take i ++ []).foldl _ _)
   rw [List.append_nil]
   exact ih.mono (Nat.le_refl _) (by omega)
  | some x =>
   rw [zY e, List.foldl_append]
   have hx := ht x (List.mem_of_getElem? e)
   have hg : Fine n d b (fs.getD x.1 []) := by
    have e2 : fs[x.1]? = some fs[x.1] := gE9 hx.1
    rw [Z4 _ e2]
    exact h _ (List.mem_of_getElem? e2)
   exact fine_addT ih hg hx.2 (Nat.le_add_right _ _)
theorem fine_terms {n d b : Nat} {fs : List (List Rat)} {c : Rat} {ts : List (Nat × Rat)} (h : ∀ f ∈ fs, Fine n d b f) (hc : ShrU (.sum c ts)) (ht : ∀ x ∈ ts, x.1 < fs.length) : Fine n (d + 1) (b + 67) (YQ c ts fs n) := by
 have k := fine_part h hc.1 ts (fun x hx => ⟨ht x hx, hc.2.1 x hx⟩) ts.length
 rw [List.take_length] at k
 have := hc.2.2
 exact k.mono (Nat.le_refl _) (by omega)
def spTermsF (K : Fg9) : Sp := fun vs H Q _ => ∃ (pc pt lf : Addr) (vt vf : List V) (c : Rat) (ts : List (Nat × Rat)) (fs : List (List Rat)) (n d b : Nat), vs = [.ref pc, .ref pt, .ref lf, .int (n : Int)] ∧ SqT K H pc (TQ c) ∧ SqL K H pt vt ∧ TL K H vt ts ∧ SqL K H lf vf ∧ FL K H vf fs ∧ (∀ x ∈ ts, x.1 < fs.length) ∧ ShrU (.sum c ts) ∧ (∀ f ∈ fs, Fine n d b f) ∧ d ≤ 14 ∧ b ≤ 1000 ∧ n ≤ 40 ∧ RetL K H Q (YQ c ts fs n)
abbrev xk (P w K mg base) (a : Adr) (cdv A outer s H E) := (cxOf CX0 P w K mg base ["constant", "terms", "found", "count", "form", "place", "share"] "terms_form" (qQ j9) a.f_terms_form cdv A outer s H E).nox
set_option maxHeartbeats 0 in
theorem ok_terms_form (T : Txt K mg a) : FnOk P w K mg base CX0 4 a.f_terms_form a.d_terms_form ["constant", "terms", "found", "count"] (spTermsF K) := by
 refine T.F_terms_form.ok jJ (fun vs H Q E h => ?_) (fun cdv A outer s H vs Q E hr h => ?_)
 ·obtain ⟨_, _, _, _, _, _, _, _, _, _, _, rfl, _⟩ := h
  rfl
 obtain ⟨pc, pt, lf, vt, vf, c, ts, fs, n, d, b, rfl, hc, ht, rt, hf, rf, wf, su, fine, d14, b1, n40, q⟩ := h
 obtain ⟨sc, st, l3⟩ := id su
 have lt := rt.length
 have h0 : PS (xk P w K mg base a cdv A outer s H E) (bS j9 0) _ := (zk (i := 4) jJ.nd rfl (Or.inl rfl) (qK (V3 T) (hr.mono (by decide)) rfl T.m_even_form T.F_even_form.kp T.b_even_form .nil pass0 (pa_c (pv 0) (pa_c (pv 3) qj)) (he := qz rfl _ _) (hpl := qZ rfl)))
 have h1 : PS (xk P w K mg base a cdv A outer s H E) (bS j9 1) _ := (kj PassesOwn.never rfl (jV (pv 1)) (jW rfl (zy (zx (i := 5) jJ.nd rfl (Or.inl rfl)) (zy (zx (i := 6) jJ.nd rfl (Or.inl rfl)) yK)))
    (qV (zk (i := 4) jJ.nd rfl (Or.inl rfl) (qK (xQ T) (hr.mono (by decide)) rfl T.m_added_times T.F_added_times.kp T.b_added_times .nil pass0 (pa_c (pv 4) (pa_c (pe_ix yk (pv 2) (pv 5) (fun _ _ => rfl)) (pa_c (pv 6) qj))) (he := qz rfl _ _) (hpl := qZ rfl)))))
 have h2 : PS (xk P w K mg base a cdv A outer s H E) (bS j9 2) _ := (zw (pv 4))
 refine body3 (by rfl) h0 h1 h2 ?_
 intros
 clear h0 h1 h2
 refine ⟨_, rfl, _, rfl, pc, c, n, rfl, hc, n40, fun p1 H1 v1 np1 g1 e1 r1 => ?_⟩
 refine ⟨_, rfl, pt, rfl, ⟨_, g1.seq ht⟩, vy (n := ts.length) (fun i σ H' => Same H H' ∧ ∃ (p2 : Addr) (v2 : List V) (u5 u6 : Option V), σ = [some (.ref pc), some (.ref pt), some (.ref lf), some (.int (n : Int)), some (.ref p2), u5, u6] ∧ H p2 = none ∧ H' p2 = some (.lst v2) ∧ RL K H' v2 ((ts.take i).foldl (fun f x => addT f (fs.getD x.1 []) x.2) (evenF c n)))
  ⟨g1, p1, v1, _, _, rfl, np1, e1, r1⟩ ?_ ?_ ?_⟩
 ·rintro σ H' ⟨g, p2, v2, u5, u6, rfl, np, e2, r2⟩
  refine ⟨⟨_, g.seq ht, by omega⟩, ?_⟩
  rw [List.take_of_length_le (Nat.le_refl _)] at r2
  exact ⟨_, rfl, q p2 H' v2 np g e2 r2⟩
 ·rintro i σ H' hi ⟨g, _⟩
  exact ⟨_, _, g.seq ht, gE9 (by omega)⟩
 ·rintro i σ H0 x H' hi ⟨g, p2, v2, u5, u6, rfl, np, e2, r2⟩ ⟨rfl, y1⟩
  obtain ⟨x0, ex, tt, r, rfl, k1, k2⟩ := rt.get (y1 _ (g.seq ht))
  have hx := wf x0 (List.mem_of_getElem? ex)
  have sx : Shr x0.2 := st x0 (List.mem_of_getElem? ex)
  obtain ⟨lg, wg, ev, hg, rg⟩ := rf.getD hx
  have hfin := fine_part fine sc ts (fun x hx => ⟨wf x hx, st x hx⟩) i
  have hfg : Fine n d b (fs.getD x0.1 []) := by
   have e2 : fs[x0.1]? = some fs[x0.1] := gE9 hx
   rw [Z4 _ e2]
   exact fine _ (List.mem_of_getElem? e2)
  rw [zY ex, List.foldl_append]
  show _
  refine ⟨tt, _, rfl, g.tup k1, rfl, _, _, rfl, _, _, rfl, rfl, ?_⟩
  refine ⟨_, rfl, _, rfl, _, rfl, lf, _, _, _, rfl, rfl, g.seq hf, atN ev, _, rfl, p2, lg, r, v2, wg, _, _, x0.2, rfl, SqL.of e2, r2, g.seq hg, rg.mono g, g.tup k2, by rw [hfin.1]; omega, by rw [hfin.1, hfg.1], fun z hz => (hfin.2 z hz).s4 (by omega) (by omega), fun z hz => ⟨(hfg.2 z hz).s4 (by omega) (by omega), (Bq.mul (hfg.2 z hz) sx).s4 (by omega) (by omega)⟩, (show Bq 1 63 x0.2 from sx).s4 (by omega) (by omega), fun p3 H3 v3 np3 g3 e3 r3 => ?_⟩
  exact ⟨g.trans g3, p3, v3, _, _, rfl, zQ g np3, e3, r3⟩
inductive Sta where
 | on
 | off
 | opn
def Sta.s : Sta → Str
 | .on => "on"
 | .off => "off"
 | .opn => "open"
def Sta.o : Sta → Bool
 | .opn => true
 | _ => false
def staV (cs : List Sta) : List V := cs.map fun x => V.str x.s
def opens (cs : List Sta) : Nat := (cs.filter Sta.o).length
theorem opens_snoc (cs : List Sta) (x : Sta) : opens (cs ++ [x]) = opens cs + (if x.o then 1 else 0) := by
 unfold opens
 rw [List.filter_append, List.length_append]
 cases x <;> rfl
theorem opens_le (cs : List Sta) : opens cs ≤ cs.length := List.length_filter_le _ _
theorem sta_at {cs : List Sta} {i : Nat} {v : V} (h : (staV cs)[i]? = some v) : ∃ x, cs[i]? = some x ∧ v = .str x.s := by
 unfold staV at h
 rw [List.getElem?_map] at h
 cases e : cs[i]? with
 | none => rw [e] at h; cases h
 | some z => rw [e] at h; exact ⟨z, rfl, (Option.some.inj h).symm⟩
theorem staV_len (cs : List Sta) : (staV cs).length = cs.length := by unfold staV; rw [List.length_map]
theorem opens_count : ∀ cs : List Sta, ((cs.map Sta.s).countP fun y => y == ("open" : Str)) = opens cs
 | [] => rfl
 | x :: cs => by
  have ih := opens_count cs
  rw [List.map_cons, List.countP_cons, ih]
  cases x <;> rfl
def spCount (K : Fg9) : Sp := fun vs H Q _ => ∃ (many : Nat) (lc : Addr) (cs : List Sta), vs = [.int (many : Int), .ref lc] ∧ SqL K H lc (staV cs) ∧ Q (.int ((many + opens cs : Nat) : Int)) H
theorem Z1 (T : Txt K mg a) : FnOk P w K mg base CX0 1 a.f_variable_count a.d_variable_count ["many", "case"] (spCount K) := by
 refine T.F_variable_count.ok sc_variable_count (fun vs H Q E h => ?_) (fun cdv A outer s H vs Q E hr h => ?_)
 ·obtain ⟨_, _, _, rfl, _⟩ := h
  rfl
 obtain ⟨many, lc, cs, rfl, hc, q⟩ := h
 refine ⟨_, (qV (zw (pe_op yj (pv 0) (pe_bm PySem.F.plainAttrs_list PySem.F.slot_list_count PySem.F.type_list_count mt_count (pv 1) (pa_c v6 qj) (hs := qz rfl _ _) (hplain := qZ rfl))))), ?_⟩
 have e : staV cs = (cs.map Sta.s).map V.str := by unfold staV; rw [List.map_map]; rfl
 rw [e] at hc
 refine ⟨_, rfl, _, rfl, .inl ⟨rfl, _, hc⟩, lc, cs.map Sta.s, "open", rfl, rfl, hc, _, _, rfl, rfl, ?_⟩
 rw [opens_count]
 dsimp only
 rw [show (many : Int) + (opens cs : Int) = ((many + opens cs : Nat) : Int) by omega]
 exact q
def varV : Nat → List Sta → List V
 | _, [] => []
 | o, x :: cs => (if x.o then V.int (o : Int) else V.non) :: varV (if x.o then o + 1 else o) cs
theorem varV_snoc (x : Sta) : ∀ (cs : List Sta) (o : Nat), varV o (cs ++ [x]) = varV o cs ++ [if x.o then V.int ((o + opens cs : Nat) : Int) else V.non]
 | [], o => by
  show varV o [x] = _
  cases x <;> rfl
 | y :: cs, o => by
  rw [List.cons_append]
  unfold varV
  rw [varV_snoc x cs]
  rw [List.cons_append]
  have e : (if y.o then o + 1 else o) + opens cs = o + opens (y :: cs) := by
   cases y <;> simp [opens, Sta.o, List.filter] <;> omega
  rw [e]
theorem varV_len : ∀ (cs : List Sta) (o : Nat), (varV o cs).length = cs.length
 | [], _ => rfl
 | x :: cs, o => by unfold varV; rw [List.length_cons, List.length_cons, varV_len cs]
theorem varV_at : ∀ (cs : List Sta) (o b : Nat) (x : Sta), cs[b]? = some x → (varV o cs)[b]? = some (if x.o then V.int ((o + opens (cs.take b) : Nat) : Int) else V.non)
 | [], _, _, _, h => by simp at h
 | y :: cs, o, 0, x, h => by
  have h : y = x := by simpa using h
  subst h
  unfold varV
  rfl
 | y :: cs, o, b + 1, x, h => by
  unfold varV
  rw [List.getElem?_cons_succ, varV_at cs _ b x (by simpa using h), List.take_succ_cons]
  have e : (if y.o then o + 1 else o) + opens (cs.take b) = o + opens (y :: cs.take b) := by
   cases y <;> simp [opens, Sta.o, List.filter] <;> omega
  rw [e]
def spVars (K : Fg9) : Sp := fun vs H Q _ => ∃ (many : Nat) (lc : Addr) (cs : List Sta), vs = [.int (many : Int), .ref lc] ∧ SqL K H lc (staV cs) ∧ cs.length ≤ 30 ∧ ∀ p H', H p = none → Same H H' → H' p = some (.lst (varV many cs)) → Q (.ref p) H'
abbrev Q7 (P w K mg base) (a : Adr) (cdv A outer s H E) := (cxOf CX0 P w K mg base ["many", "case", "found", "behind", "state"] "variables_in" (qQ yY) a.f_variables_in cdv A outer s H E).nox
set_option maxHeartbeats 0 in
theorem ok_variables_in (T : Txt K mg a) : FnOk P w K mg base CX0 1 a.f_variables_in a.d_variables_in ["many", "case"] (spVars K) := by
 refine T.F_variables_in.ok x5 (fun vs H Q E h => ?_) (fun cdv A outer s H vs Q E hr h => ?_)
 ·obtain ⟨_, _, _, rfl, _⟩ := h
  rfl
 obtain ⟨many, lc, cs, rfl, hc, l30, q⟩ := h
 have lsc := staV_len cs
 have h0 : PS (Q7 P w K mg base a cdv A outer s H E) (bS yY 0) _ := (zk (i := 2) x5.nd rfl (Or.inl rfl) (j7 qj))
 have h1 : PS (Q7 P w K mg base a cdv A outer s H E) (bS yY 1) _ := (zk (i := 3) x5.nd rfl (Or.inl rfl) (pv 0))
 have h2 : PS (Q7 P w K mg base a cdv A outer s H E) (bS yY 2) _ := (kj PassesOwn.never rfl (jV (pv 1)) (zx (i := 4) x5.nd rfl (Or.inl rfl))
    (qW (xY (pe_bm PySem.F.plainAttrs_list PySem.F.slot_list_append PySem.F.type_list_append kx (pv 2) (pa_c (pe_ifExp (zJ op_eq (pv 4) v6 (zX _)) (pv 3) pe_non) qj) (hs := qz rfl _ _) (hplain := qZ rfl)))
   (qV (ps_if (zJ op_eq (pv 4) v6 (zX _))
    (qV (zk (i := 3) x5.nd rfl (Or.inl rfl) (pe_op yj (pv 3) qk)))
    zW))))
 have h3 : PS (Q7 P w K mg base a cdv A outer s H E) (bS yY 3) _ := (zw (pv 2))
 refine body4 (by rfl) h0 h1 h2 h3 ?_
 intros
 clear h0 h1 h2 h3
 refine ⟨(by decide), fun lf hlf => ?_⟩
 have g0 := qy hlf (.lst [])
 refine ⟨_, rfl, ?_⟩
 refine ⟨_, rfl, lc, rfl, ⟨_, g0.seq hc⟩, vy (n := cs.length) (fun i σ H' => Same H H' ∧ ∃ u4 : Option V, σ = [some (.int (many : Int)), some (.ref lc), some (.ref lf), some (.int ((many + opens (cs.take i) : Nat) : Int)), u4] ∧ H' lf = some (.lst (varV many (cs.take i))))
  ⟨g0, _, rfl, qv⟩ ?_ ?_ ?_⟩
 ·rintro σ H' ⟨g, u4, rfl, ef⟩
  refine ⟨⟨_, g.seq hc, by omega⟩, ?_⟩
  rw [List.take_of_length_le (Nat.le_refl _)] at ef
  exact ⟨_, rfl, q lf H' hlf g ef⟩
 ·rintro i σ H' hi ⟨g, _⟩
  exact ⟨_, _, g.seq hc, gE9 (by omega)⟩
 ·rintro i σ H0 x H' hi ⟨g, u4, rfl, ef⟩ ⟨rfl, y1⟩
  obtain ⟨z, ez, rfl⟩ := sta_at (y1 _ (g.seq hc))
  have es : cs.take (i + 1) = cs.take i ++ [z] := zY ez
  have lv := varV_len (cs.take i) many
  rw [List.length_take] at lv
  have eo := opens_snoc (cs.take i) z
  have ev := varV_snoc z (cs.take i) many
  refine ⟨_, rfl, .inl ⟨rfl, _, SqL.of ef⟩, _, rfl, rfl, _, rfl, ?_⟩
  rw [es, ev, eo]
  cases z with
  | opn =>
   refine iteP rfl ⟨_, rfl, lf, _, _, rfl, rfl, ef, zj (by omega), _, rfl, rfl, _, rfl, iteP rfl ⟨_, rfl, _, _, rfl, rfl, ?_⟩⟩
   refine ⟨g.laid hlf _, some (.str Sta.opn.s), ?_, qv⟩
   show [_, _, _, some (V.int (((many + opens (cs.take i) : Nat) : Int) + 1)), _] = _
   rw [show ((many + opens (cs.take i) : Nat) : Int) + 1 = ((many + (opens (cs.take i) + 1) : Nat) : Int) by omega]
   rfl
  | on =>
   exact iteN (by decide) ⟨lf, _, _, rfl, rfl, ef, zj (by omega), _, rfl, rfl, _, rfl, iteN (by decide) ⟨g.laid hlf _, _, rfl, qv⟩⟩
  | off =>
   exact iteN (by decide) ⟨lf, _, _, rfl, rfl, ef, zj (by omega), _, rfl, rfl, _, rfl, iteN (by decide) ⟨g.laid hlf _, _, rfl, qv⟩⟩
def bendF (x : Sta) (o : Nat) (f : List Rat) (n : Nat) : List Rat := match x with
 | .on => f
 | .off => evenF 0 n
 | .opn => loneF o n
def spBendF (K : Fg9) : Sp := fun vs H Q _ => ∃ (x : Sta) (v : V) (o : Nat) (lf : Addr) (vf : List V) (f : List Rat) (n : Nat), vs = [.str x.s, v, .ref lf, .int (n : Int)] ∧ (x.o = true → v = .int (o : Int)) ∧ SqL K H lf vf ∧ RL K H vf f ∧ n ≤ 40 ∧ RetL K H Q (bendF x o f n)
abbrev Vx (P w K mg base) (a : Adr) (cdv A outer s H E) := (cxOf CX0 P w K mg base ["state", "variable", "bent_form", "count"] "bend_form" (qQ vV) a.f_bend_form cdv A outer s H E).nox
set_option maxHeartbeats 0 in
theorem ok_bend_form (T : Txt K mg a) : FnOk P w K mg base CX0 2 a.f_bend_form a.d_bend_form ["state", "variable", "bent_form", "count"] (spBendF K) := by
 refine T.F_bend_form.ok sc_bend_form (fun vs H Q E h => ?_) (fun cdv A outer s H vs Q E hr h => ?_)
 ·obtain ⟨_, _, _, _, _, _, _, rfl, _⟩ := h
  rfl
 obtain ⟨x, v, o, lf, vf, f, n, rfl, hv, hf, rf, n40, q⟩ := h
 have n0 : ∀ H : Hp, SqT K H a.g_NOUGHT (TQ 0) := T.s_NOUGHT
 have h0 : PS (Vx P w K mg base a cdv A outer s H E) (bS vV 0) _ := (ps_if (zJ op_eq (pv 0) v6 (zX _))
    (qV (zw (jy (Yq) rfl T.m_list boot_list (pa_c (pv 2) qj) (he := qz rfl _ _) (hpl := qZ rfl))))
    zW)
 have h1 : PS (Vx P w K mg base a cdv A outer s H E) (bS vV 1) _ := (ps_if (zJ op_eq (pv 0) v6 (zX _))
    (qV (zw (qK (V3 T) (hr.mono (by decide)) rfl T.m_even_form T.F_even_form.kp T.b_even_form .nil pass0 (pa_c (yZ (v := .ref a.g_NOUGHT) rfl T.m_NOUGHT rfl) (pa_c (pv 3) qj)) (he := qz rfl _ _) (hpl := qZ rfl))))
    zW)
 have h2 : PS (Vx P w K mg base a cdv A outer s H E) (bS vV 2) _ := (zw (qK (ok_lone_form T) (hr.mono (by decide)) rfl T.m_lone_form T.F_lone_form.kp T.b_lone_form .nil pass0 (pa_c (pv 1) (pa_c (pv 3) qj)) (he := qz rfl _ _) (hpl := qZ rfl)))
 refine body3 (by rfl) h0 h1 h2 ?_
 intros
 clear h0 h1 h2
 cases x with
 | on =>
  refine ⟨_, rfl, rfl, _, rfl, iteP rfl ⟨_, rfl, lf, vf, rfl, .inl hf, fun p hp => ?_⟩⟩
  exact q p _ vf hp (qy hp _) qv (rf.mono (qy hp _))
 | off =>
  refine ⟨_, rfl, rfl, _, rfl, iteN (by decide) ⟨_, rfl, rfl, _, rfl, iteP rfl ?_⟩⟩
  exact ⟨_, rfl, a.g_NOUGHT, 0, n, rfl, n0 _, n40, q⟩
 | opn =>
  refine ⟨_, rfl, rfl, _, rfl, iteN (by decide) ⟨_, rfl, rfl, _, rfl, iteN (by decide) ?_⟩⟩
  cases hv rfl
  exact ⟨_, rfl, _, rfl, o, n, rfl, n40, q⟩
def stepF (many n : Nat) (cs : List Sta) (st : List (List Rat) × Nat) (u : Un) : List (List Rat) × Nat := match u with
 | .sum c ts => (st.1 ++ [YQ c ts st.1 n], st.2)
 | .bend p => (st.1 ++ [bendF (cs.getD st.2 .off) (many + opens (cs.take st.2)) (st.1.getD p []) n], st.2 + 1)
def runF (many n : Nat) (cs : List Sta) (us : List Un) : List (List Rat) × Nat := us.foldl (stepF many n cs) ((List.range many).map fun k => loneF k n, 0)
theorem runF_snoc (many n : Nat) (cs : List Sta) (us : List Un) (u : Un) : runF many n cs (us ++ [u]) = stepF many n cs (runF many n cs us) u := by unfold runF; rw [List.foldl_append]; rfl
theorem ZZ {many n : Nat} {cs : List Sta} {us : List Un} (wf : WfN many us) (sh : ∀ u ∈ us, ShrU u) : ∀ i, i ≤ us.length → (runF many n cs (us.take i)).1.length = many + i ∧ (runF many n cs (us.take i)).2 = ((us.take i).filter isB).length ∧ ∀ f ∈ (runF many n cs (us.take i)).1, Fine n i (67 * i) f
 | 0, _ => by
  rw [List.take_zero]
  refine ⟨by show ((List.range many).map _).length = _; rw [List.length_map, List.length_range]; rfl, rfl, fun f hf => ?_⟩
  obtain ⟨k, _, rfl⟩ := List.mem_map.mp hf
  exact fine_lone
 | i + 1, hi => by
  obtain ⟨h1, h2, h3⟩ := ZZ (n := n) (cs := cs) wf sh i (by omega)
  have e : us[i]? = some us[i] := gE9 (by omega)
  have wu := wf i _ e
  have su := sh _ (List.mem_of_getElem? e)
  rw [zY e, runF_snoc, List.filter_append, List.length_append, ← h2]
  generalize runF many n cs (us.take i) = st at *
  revert wu su
  cases us[i] with
  | sum c ts =>
   intro wu su
   refine ⟨by show (st.1 ++ [_]).length = _; rw [List.length_append, h1]; rfl, rfl, fun f hf => ?_⟩
   rcases List.mem_append.mp hf with z | z
   ·exact (h3 f z).mono (by omega) (by omega)
   ·rw [List.mem_singleton.mp z]
    exact (fine_terms h3 su fun x hx => by rw [h1]; exact wu.1 x hx).mono (Nat.le_refl _) (by omega)
  | bend p =>
   intro wu su
   refine ⟨by show (st.1 ++ [_]).length = _; rw [List.length_append, h1]; rfl, rfl, fun f hf => ?_⟩
   rcases List.mem_append.mp hf with z | z
   ·exact (h3 f z).mono (by omega) (by omega)
   ·rw [List.mem_singleton.mp z]
    unfold bendF
    cases cs.getD st.2 .off with
    | on =>
     have wu : p < many + i := wu
     have e2 : st.1[p]? = some st.1[p] := gE9 (by omega)
     show Fine _ _ _ (st.1.getD p [])
     rw [Z4 _ e2]
     exact (h3 _ (List.mem_of_getElem? e2)).mono (by omega) (by omega)
    | off => exact fine_even (Bq.zero _ _)
    | opn => exact fine_lone
theorem bends_lt {us : List Un} {i : Nat} {p : Nat} (e : us[i]? = some (.bend p)) : ((us.take i).filter isB).length < (us.filter isB).length := by
 have h : us = us.take i ++ (.bend p :: us.drop (i + 1)) := by
  have hi := (List.getElem?_eq_some_iff.mp e).1
  have e2 := (List.getElem?_eq_some_iff.mp e).2
  rw [← e2]
  simp
 conv => rhs; rw [h]
 rw [List.filter_append, List.length_append, List.filter_cons_of_pos rfl, List.length_cons]
 omega
def FB (B : Addr → Prop) (K : Fg9) (H : Hp) (vs : List V) (fs : List (List Rat)) : Prop := Paired (fun v f => ∃ l ws, v = .ref l ∧ H l = some (.lst ws) ∧ B l ∧ RL K H ws f) vs fs
theorem FB.mono {B : Addr → Prop} {K : Fg9} {H H' : Hp} {vs : List V} {fs : List (List Rat)} (h : FB B K H vs fs) (g : Same H H') : FB B K H' vs fs := Paired.mapP h fun _ _ ⟨l, ws, e, h1, b, h2⟩ => ⟨l, ws, e, g _ _ h1, b, h2.mono g⟩
theorem FB.imp {B B' : Addr → Prop} {K : Fg9} {H : Hp} {vs : List V} {fs : List (List Rat)} (h : FB B K H vs fs) (i : ∀ l ws, B l → H l = some (.lst ws) → B' l) : FB B' K H vs fs := Paired.mapP h fun _ _ ⟨l, ws, e, h1, b, h2⟩ => ⟨l, ws, e, h1, i _ _ b h1, h2⟩
theorem FB.fl {B : Addr → Prop} {K : Fg9} {H : Hp} {vs : List V} {fs : List (List Rat)} (h : FB B K H vs fs) : FL K H vs fs := Paired.mapP h fun _ _ ⟨l, ws, e, h1, b, h2⟩ => ⟨l, ws, e, SqL.of h1, h2⟩
theorem FB.at {B : Addr → Prop} {K : Fg9} {H : Hp} {vs : List V} {fs : List (List Rat)} {p : Addr} {ys : List V} {o : HO} (h : FB B K H vs fs) (n : ∀ l, B l → l ≠ p) (e : H p = some (.lst ys)) : FB B K (upd H p o) vs fs := Paired.mapP h fun _ _ ⟨l, ws, e0, h1, b, h2⟩ => ⟨l, ws, e0, by rw [y7 (n _ b)]; exact h1, b, RL.upd_lst h2 e⟩
theorem FB.length {B : Addr → Prop} {K : Fg9} {H : Hp} {vs : List V} {fs : List (List Rat)} (h : FB B K H vs fs) : vs.length = fs.length := Paired.length h
theorem FB.get {B : Addr → Prop} {K : Fg9} {H : Hp} {vs : List V} {fs : List (List Rat)} {i : Nat} {v : V} (h : FB B K H vs fs) (e : vs[i]? = some v) : ∃ f, fs[i]? = some f ∧ ∃ l ws, v = .ref l ∧ H l = some (.lst ws) ∧ B l ∧ RL K H ws f := wv h e
theorem FB.snoc {B : Addr → Prop} {K : Fg9} {H : Hp} {vs : List V} {fs : List (List Rat)} {l : Addr} {ws : List V} {f : List Rat} (h : FB B K H vs fs) (e : H l = some (.lst ws)) (b : B l) (r : RL K H ws f) : FB B K H (vs ++ [.ref l]) (fs ++ [f]) := Paired.snoc h ⟨l, ws, rfl, e, b, r⟩
theorem FB.new {B : Addr → Prop} {K : Fg9} {H : Hp} {vs : List V} {fs : List (List Rat)} {l : Addr} (h : FB B K H vs fs) (nd : vs.Nodup) (n : H l = none) : (vs ++ [V.ref l]).Nodup := by
 rw [List.nodup_append]
 refine ⟨nd, by simp, fun x hx y hy e => ?_⟩
 rw [List.mem_singleton.mp hy] at e
 subst e
 obtain ⟨i, hi, ei⟩ := List.getElem_of_mem hx
 obtain ⟨_, _, l', ws, e', h1, _⟩ := FB.get h (List.getElem?_eq_some_iff.mpr ⟨hi, ei⟩)
 cases e'
 rw [n] at h1
 cases h1
def NetT (K : Fg9) (a : Adr) (H : Hp) (pn : Addr) (many : Nat) (us : List Un) : Prop := ∃ lu lo vk outs, NetAt a.c_Net H pn lu lo many ∧ SqL K H lu vk ∧ UL true K H vk us ∧ SqL K H lo (outV outs)
theorem NetT.mono {K : Fg9} {a : Adr} {H H' : Hp} {pn : Addr} {many : Nat} {us : List Un} (h : NetT K a H pn many us) (g : Same H H') : NetT K a H' pn many us := by
 obtain ⟨lu, lo, vk, outs, h1, h2, h3, h4⟩ := h
 exact ⟨lu, lo, vk, outs, h1.mono g, g.seq h2, h3.mono g, g.seq h4⟩
def NetC (many : Nat) (us : List Un) (cs : List Sta) : Prop := WfN many us ∧ us.length ≤ 12 ∧ (∀ u ∈ us, ShrU u) ∧ many ≤ 6 ∧ (us.filter isB).length = cs.length
def RetF (K : Fg9) (H : Hp) (Q : VK) (fs : List (List Rat)) : Prop := ∀ lf vf H', H lf = none → Same H H' → H' lf = some (.lst vf) → FB (fun l => H l = none ∧ l ≠ lf) K H' vf fs → vf.Nodup → Q (.ref lf) H'
def spForms (K : Fg9) (a : Adr) : Sp := fun vs H Q _ => ∃ (pn lc : Addr) (many : Nat) (us : List Un) (cs : List Sta), vs = [.ref pn, .ref lc] ∧ NetT K a H pn many us ∧ SqL K H lc (staV cs) ∧ NetC many us cs ∧ RetF K H Q (runF many (many + opens cs) cs us).1
abbrev xJ (P w K mg base) (a : Adr) (cdv A outer s H E) := (cxOf CX0 P w K mg base ["net", "case", "told", "count", "variables", "found", "bends", "unit"] "forms_in" (qQ jK) a.f_forms_in cdv A outer s H E).nox
set_option maxHeartbeats 0 in
theorem ok_forms_in (T : Txt K mg a) : FnOk P w K mg base CX0 5 a.f_forms_in a.d_forms_in ["net", "case"] (spForms K a) := by
 refine T.F_forms_in.ok kQ (fun vs H Q E h => ?_) (fun cdv A outer s H vs Q E hr h => ?_)
 ·obtain ⟨_, _, _, _, _, rfl, _⟩ := h
  rfl
 obtain ⟨pn, lc, many, us, cs, rfl, ⟨lu, lo, vk, outs, hNa, hu, rk, ho⟩, hc, ⟨wf, l12, sh, m6, lcs⟩, q⟩ := h
 obtain ⟨dx, hN⟩ := id hNa
 have h0 : PS (xJ P w K mg base a cdv A outer s H E) (bS jK 0) _ := (zk (i := 2) kQ.nd rfl (Or.inl rfl) (Z0 (pv 0) T.C_Net T.t_Net_told (QY T) (hr.mono (by decide)) T.b_Net_told .nil pass0))
 have h1 : PS (xJ P w K mg base a cdv A outer s H E) (bS jK 1) _ := (zk (i := 3) kQ.nd rfl (Or.inr rfl) (qK (Z1 T) (hr.mono (by decide)) rfl T.m_variable_count T.F_variable_count.kp T.b_variable_count .nil pass0 (pa_c (pe_ix qY (pv 2) qk (fun _ _ => rfl)) (pa_c (pv 1) qj)) (he := qz rfl _ _) (hpl := qZ rfl)))
 have h2 : PS (xJ P w K mg base a cdv A outer s H E) (bS jK 2) _ := (zk (i := 4) kQ.nd rfl (Or.inl rfl) (qK (ok_variables_in T) (hr.mono (by decide)) rfl T.m_variables_in T.F_variables_in.kp T.b_variables_in .nil pass0 (pa_c (pe_ix qY (pv 2) qk (fun _ _ => rfl)) (pa_c (pv 1) qj)) (he := qz rfl _ _) (hpl := qZ rfl)))
 have h3 : PS (xJ P w K mg base a cdv A outer s H E) (bS jK 3) _ := (kW (i := 5) kQ.nd rfl (Or.inl rfl) (N := ["place", "count"]) (ix := [none, some 3]) ⟨rfl, rfl, rfl, rfl, ⟨rfl, trivial⟩, rfl, ⟨⟨rfl, Or.inr (Or.inl rfl), Z3 rfl, rfl, Or.inl rfl⟩, trivial⟩⟩ rfl (xj rfl T.m_range (pa_c (pe_ix qY (pv 2) qk (fun _ _ => rfl)) qj)) (fun _ => (zx (i := 0) (show (["place", "count"] : List Str).Nodup by decide +kernel) rfl (Or.inl rfl))) (fun _ σ => wV rfl σ) (fun _ => jk) (fun _ => (qK (ok_lone_form T) (hr.mono (by decide)) rfl T.m_lone_form T.F_lone_form.kp T.b_lone_form .nil pass0 (pa_c (pv 0) (pa_c (pv 1) qj)) (he := qz rfl _ _) (hpl := qZ rfl))))
 have h4 : PS (xJ P w K mg base a cdv A outer s H E) (bS jK 4) _ := (zk (i := 6) kQ.nd rfl (Or.inl rfl) qk)
 have h5 : PS (xJ P w K mg base a cdv A outer s H E) (bS jK 5) _ := (kj PassesOwn.never rfl (jV (pe_ix qY (pv 2) qk (fun _ _ => rfl))) (zx (i := 7) kQ.nd rfl (Or.inl rfl))
    (qV (ps_if (zJ op_eq (pe_ix qY (pv 7) qk (fun _ _ => rfl)) v6 (zX _))
    (qV (xY (pe_bm PySem.F.plainAttrs_list PySem.F.slot_list_append PySem.F.type_list_append kx (pv 5) (pa_c (qK (ok_terms_form T) (hr.mono (by decide)) rfl T.m_terms_form T.F_terms_form.kp T.b_terms_form .nil pass0 (pa_c (pe_ix qY (pv 7) qk (fun _ _ => rfl)) (pa_c (pe_ix qY (pv 7) qk (fun _ _ => rfl)) (pa_c (pv 5) (pa_c (pv 3) qj)))) (he := qz rfl _ _) (hpl := qZ rfl)) qj) (hs := qz rfl _ _) (hplain := qZ rfl))))
    (qW (xY (pe_bm PySem.F.plainAttrs_list PySem.F.slot_list_append PySem.F.type_list_append kx (pv 5) (pa_c (qK (ok_bend_form T) (hr.mono (by decide)) rfl T.m_bend_form T.F_bend_form.kp T.b_bend_form .nil pass0 (pa_c (pe_ix yk (pv 1) (pv 6) (fun _ _ => rfl)) (pa_c (pe_ix yk (pv 4) (pv 6) (fun _ _ => rfl)) (pa_c (pe_ix yk (pv 5) (pe_ix qY (pv 7) qk (fun _ _ => rfl)) (fun _ _ => rfl)) (pa_c (pv 3) qj)))) (he := qz rfl _ _) (hpl := qZ rfl)) qj) (hs := qz rfl _ _) (hplain := qZ rfl)))
   (qV (zk (i := 6) kQ.nd rfl (Or.inl rfl) (pe_op yj (pv 6) qk)))))))
 have h6 : PS (xJ P w K mg base a cdv A outer s H E) (bS jK 6) _ := (zw (pv 5))
 refine body7 (by rfl) h0 h1 h2 h3 h4 h5 h6 ?_
 intros
 clear h0 h1 h2 h3 h4 h5 h6
 have lsc := staV_len cs
 have oc := opens_le cs
 have lfil : (us.filter isB).length ≤ us.length := List.length_filter_le _ _
 refine ⟨_, rfl, pn, dx, _, rfl, hN, rfl, pn, lu, lo, many, vk, us, outs, rfl, hNa, hu, rk, by omega, ho, fun t l2 o2 vu H1 g1 ht nl2 e2 ru2 _ _ => ?_⟩
 have rU : UL false K H1 vu us := (ru2 pn _ hN).un
 refine ⟨_, rfl, _, _, _, _, rfl, rfl, ht, rfl, _, rfl, many, lc, cs, rfl, g1.seq hc, ?_⟩
 refine ⟨_, rfl, _, _, _, _, rfl, rfl, ht, rfl, _, rfl, many, lc, cs, rfl, g1.seq hc, by omega, fun lv H2 nlv g2 ev => ?_⟩
 have ht := g2.tup ht
 have e2 := g2 _ _ e2
 have rU := rU.mono g2
 have lvu := rU.length
 have g2 := g1.trans g2
 clear g1 nl2
 generalize hn : many + opens cs = n at *
 have n40 : n ≤ 40 := by omega
 refine ⟨_, rfl, _, _, _, _, rfl, rfl, ht, rfl, (many : Int), rfl, by omega, by omega, jq (n := many) (fun i ys H' => Same H2 H' ∧ FB (fun l => H l = none) K H' ys ((List.range i).map fun k => loneF k n) ∧ ys.Nodup) ⟨Same.refl _, .nil, List.nodup_nil⟩ (zj (by omega)) ?_ ?_ ?_⟩
 case refine_2 =>
  rintro i ys H' hi _
  show i < (many : Int).toNat
  omega
 case refine_3 =>
  rintro i m' ys H' c x H5 hi ⟨g, r, nd⟩ ⟨rfl, rfl⟩ nx _
  refine Or.inl ⟨rfl, _, rfl, _, rfl, i, n, congrArg (fun z => [V.int z, V.int (n : Int)]) (show (0 : Int) + (i : Int) = (i : Int) by omega), n40, fun p H6 w6 np6 g6 e6 r6 => nx _ _ ⟨g.trans g6, ?_, FB.new r nd np6⟩⟩
  rw [List.range_succ, List.map_append]
  exact FB.snoc (r.mono g6) e6 (zQ (g2.trans g) np6) r6
 rintro vf H3 ⟨g3, r3, nd3⟩
 refine ⟨by show (many : Int).toNat ≤ many; omega, fun lf hlf => ?_⟩
 have j := qy hlf (.lst vf)
 have r4 : FB (fun l => H l = none ∧ l ≠ lf) K H3 vf ((List.range many).map fun k => loneF k n) := FB.imp r3 fun l ws b e => ⟨b, zK e hlf⟩
 have r4 := FB.mono r4 j
 have ef := qv (H := H3) (a := lf) (o := .lst vf)
 have nlf : H lf = none := zQ (g2.trans g3) hlf
 have ht := g3.tup ht
 have e2 := g3 _ _ e2
 have rU := rU.mono g3
 have ev := g3 _ _ ev
 have gB := g2.trans g3
 generalize hH4 : upd H3 lf (.lst vf) = H4 at *
 clear hH4 r3 g2 g3
 have nf : ∀ l, (H l = none ∧ l ≠ lf) → l ≠ lf := fun _ h => h.2
 refine ⟨_, rfl, _, _, _, _, rfl, rfl, j.tup ht, rfl, l2, rfl, ⟨_, SqL.of (j _ _ e2)⟩, vy (n := us.length) (fun i σ H' => Same H3 H' ∧ ∃ (vf : List V) (u7 : Option V), σ = [some (.ref pn), some (.ref lc), some (.ref t), some (.int (n : Int)), some (.ref lv), some (.ref lf), some (.int ((runF many n cs (us.take i)).2 : Int)), u7] ∧ H' lf = some (.lst vf) ∧ FB (fun l => H l = none ∧ l ≠ lf) K H' vf (runF many n cs (us.take i)).1 ∧ vf.Nodup)
  ⟨j, vf, _, rfl, ef, r4, nd3⟩ ?_ ?_ ?_⟩
 ·rintro σ H' ⟨g, vf, u7, rfl, ef, rf, nd⟩
  refine ⟨⟨_, SqL.of (g _ _ e2), by omega⟩, ?_⟩
  rw [List.take_of_length_le (Nat.le_refl _)] at rf
  exact ⟨_, rfl, q lf vf H' nlf (gB.trans g) ef rf nd⟩
 ·rintro i σ H' hi ⟨g, _⟩
  exact ⟨_, _, SqL.of (g _ _ e2), gE9 (by omega)⟩
 ·rintro i σ H0 x H' hi ⟨g, vf, u7, rfl, ef, rf, nd⟩ ⟨rfl, y1⟩
  obtain ⟨u, eu, hU⟩ := rU.get (y1 _ (SqL.of (g _ _ e2)))
  have hU := hU.mono g
  obtain ⟨f1, f2, f3⟩ := ZZ (n := n) (cs := cs) wf sh i (Nat.le_of_lt hi)
  have lvf := FB.length rf
  have es : us.take (i + 1) = us.take i ++ [u] := zY eu
  have wu := wf i u eu
  have su := sh u (List.mem_of_getElem? eu)
  rw [es, runF_snoc]
  cases u with
  | sum c ts =>
   obtain ⟨tt, pc, pt, vt, rfl, h1, h2, h3, h4⟩ := hU
   refine ⟨_, rfl, _, _, _, _, rfl, rfl, h1, rfl, rfl, _, rfl, iteP rfl ?_⟩
   refine ⟨_, rfl, .inl ⟨rfl, _, SqL.of ef⟩, _, rfl, _, _, _, _, rfl, rfl, h1, rfl, _, rfl, _, _, _, _, rfl, rfl, h1, rfl, _, rfl, _, rfl, pc, pt, lf, vt, vf, c, ts, _, n, i, 67 * i, rfl, h2, h3, h4, SqL.of ef, rf.fl, fun x hx => by rw [f1]; exact wu.1 x hx, su, f3, by omega, by omega, n40, fun p H6 w6 np6 g6 e6 r6 => ?_⟩
   have ef6 := g6 _ _ ef
   refine ⟨lf, vf, _, rfl, rfl, ef6, zj (by omega), ?_⟩
   refine ⟨(g.trans g6).laid hlf _, vf ++ [.ref p], _, rfl, qv, ?_, FB.new rf nd np6⟩
   exact FB.at (FB.snoc (rf.mono g6) e6 ⟨zQ (gB.trans g) np6, Ne.symm (zK ef np6)⟩ r6) nf ef6
  | bend p =>
   obtain ⟨tt, rfl, h1⟩ := hU
   have wu : p < many + i := wu
   have hb := bends_lt eu
   obtain ⟨x, ex⟩ : ∃ x, cs[(runF many n cs (us.take i)).2]? = some x := ⟨_, gE9 (by omega)⟩
   have exv : (staV cs)[(runF many n cs (us.take i)).2]? = some (.str x.s) := by unfold staV; rw [List.getElem?_map, ex]; rfl
   have evv := varV_at cs many _ x ex
   obtain ⟨lg, wg, eg, hg, rg⟩ := rf.fl.getD (i := p) (by omega)
   refine ⟨_, rfl, _, _, _, _, rfl, rfl, h1, rfl, rfl, _, rfl, iteN (by decide) ?_⟩
   refine ⟨_, rfl, .inl ⟨rfl, _, SqL.of ef⟩, _, rfl, _, rfl, lc, _, _, _, rfl, rfl, (gB.trans g).seq hc, atN exv, _, rfl, _, rfl, lv, _, _, _, rfl, rfl, SqL.of (g _ _ ev), atN evv, _, rfl, _, rfl, _, _, _, _, rfl, rfl, h1, rfl, lf, _, _, _, rfl, rfl, SqL.of ef, atN eg, _, rfl, x, _, many + opens (cs.take (runF many n cs (us.take i)).2), lg, wg, _, n, rfl, fun z => by rw [if_pos z], hg, rg, n40, fun pp H6 w6 np6 g6 e6 r6 => ?_⟩
   have ef6 := g6 _ _ ef
   refine ⟨lf, vf, _, rfl, rfl, ef6, zj (by omega), ?_⟩
   refine ⟨_, rfl, _, _, rfl, rfl, ?_⟩
   refine ⟨(g.trans g6).laid hlf _, vf ++ [.ref pp], some (.ref tt), rfl, qv, ?_, FB.new rf nd np6⟩
   unfold stepF
   rw [Z4 _ ex]
   exact FB.at (FB.snoc (rf.mono g6) e6 ⟨zQ (gB.trans g) np6, Ne.symm (zK ef np6)⟩ r6) nf ef6
theorem cut1 {vs : List V} : cutV vs (some 1) none = vs.drop 1 := by
 unfold cutV
 rw [show (some (1 : Int)) = some ((1 : Nat) : Int) from rfl, HT.sIx_nat, HT.sIx_none]
 by_cases h : 1 ≤ vs.length
 ·rw [Nat.min_eq_left h, List.take_of_length_le (by rw [List.length_drop]; omega)]
 ·have e : vs = [] := List.length_eq_zero_iff.mp (by omega)
  subst e
  rfl
abbrev Rw := List Rat × Rat
def notA (f : List Rat) (q : Rat) : Rw := (f.drop 1, q - f.getD 0 0)
def notB (f : List Rat) (q : Rat) : Rw := ((f.drop 1).map (· * (-1)), f.getD 0 0 - q)
def capR (f own : List Rat) (s : Rat × Rat) : Rw :=
 if s.1 < 0 then (if 0 < s.2 then notA (addT (own.map (· * (s.2 - s.1))) f (0 - s.2)) (0 - s.2 * s.1) else notA own 0) else notA (addT own f (-1)) 0
def bendR (x : Sta) (f own : List Rat) (s : Rat × Rat) : List Rw := match x with
 | .on => [notB f 0]
 | .off => [notA f 0]
 | .opn => [notB own 0, notA (addT f own (-1)) 0, capR f own s]
def sideR (f : List Rat) (s : Rat × Rat) : List Rw := [notA f s.2, notB f s.1]
def RowB (B : Addr → Prop) (K : Fg9) (H : Hp) (v : V) (r : Rw) : Prop := ∃ t l ws p, v = .ref t ∧ SqT K H t [.ref l, .ref p] ∧ H l = some (.lst ws) ∧ B l ∧ RL K H ws r.1 ∧ SqT K H p (TQ r.2)
theorem RowB.mono {B : Addr → Prop} {K : Fg9} {H H' : Hp} {v : V} {r : Rw} (h : RowB B K H v r) (g : Same H H') : RowB B K H' v r := by
 obtain ⟨t, l, ws, p, e, h1, h2, b, h3, h4⟩ := h
 exact ⟨t, l, ws, p, e, g.tup h1, g _ _ h2, b, h3.mono g, g.tup h4⟩
theorem RowB.imp {B B' : Addr → Prop} {K : Fg9} {H : Hp} {v : V} {r : Rw} (h : RowB B K H v r) (i : ∀ l ws, B l → H l = some (.lst ws) → B' l) : RowB B' K H v r := by
 obtain ⟨t, l, ws, p, e, h1, h2, b, h3, h4⟩ := h
 exact ⟨t, l, ws, p, e, h1, h2, i _ _ b h2, h3, h4⟩
theorem RowB.at {B : Addr → Prop} {K : Fg9} {H : Hp} {v : V} {r : Rw} {q : Addr} {ys : List V} {o : HO} (h : RowB B K H v r) (n : ∀ l, B l → l ≠ q) (e : H q = some (.lst ys)) : RowB B K (upd H q o) v r := by
 obtain ⟨t, l, ws, p, e0, h1, h2, b, h3, h4⟩ := h
 exact ⟨t, l, ws, p, e0, SqT.upd_lst h1 e, by rw [y7 (n _ b)]; exact h2, b, RL.upd_lst h3 e, SqT.upd_lst h4 e⟩
def RB (B : Addr → Prop) (K : Fg9) (H : Hp) (vs : List V) (rs : List Rw) : Prop := Paired (RowB B K H) vs rs
theorem RB.mono {B : Addr → Prop} {K : Fg9} {H H' : Hp} {vs : List V} {rs : List Rw} (h : RB B K H vs rs) (g : Same H H') : RB B K H' vs rs := Paired.mapP h fun _ _ q => q.mono g
theorem RB.imp {B B' : Addr → Prop} {K : Fg9} {H : Hp} {vs : List V} {rs : List Rw} (h : RB B K H vs rs) (i : ∀ l ws, B l → H l = some (.lst ws) → B' l) : RB B' K H vs rs := Paired.mapP h fun _ _ q => q.imp i
theorem RB.at {B : Addr → Prop} {K : Fg9} {H : Hp} {vs : List V} {rs : List Rw} {q : Addr} {ys : List V} {o : HO} (h : RB B K H vs rs) (n : ∀ l, B l → l ≠ q) (e : H q = some (.lst ys)) : RB B K (upd H q o) vs rs := Paired.mapP h fun _ _ r => r.at n e
theorem RB.length {B : Addr → Prop} {K : Fg9} {H : Hp} {vs : List V} {rs : List Rw} (h : RB B K H vs rs) : vs.length = rs.length := Paired.length h
theorem RB.app {B : Addr → Prop} {K : Fg9} {H : Hp} {vs ws : List V} {rs qs : List Rw} (h : RB B K H vs rs) (k : RB B K H ws qs) : RB B K H (vs ++ ws) (rs ++ qs) := ZX h k
def RetRow (K : Fg9) (H : Hp) (Q : VK) (r : Rw) : Prop := ∀ t H', Same H H' → RowB (fun l => H l = none) K H' (.ref t) r → Q (.ref t) H'
theorem RetRow.mono {K : Fg9} {H H' : Hp} {Q : VK} {r : Rw} (h : RetRow K H Q r) (g : Same H H') : RetRow K H' Q r := fun t H2 g2 hr => h t H2 (g.trans g2) (hr.imp fun _ _ b _ => zQ g b)
def RetRows (K : Fg9) (H : Hp) (Q : VK) (rs : List Rw) : Prop := ∀ l H' vs, H l = none → Same H H' → H' l = some (.lst vs) → RB (fun m => H m = none ∧ m ≠ l) K H' vs rs → Q (.ref l) H'
theorem Bq.s4r {d b : Nat} {q : Rat} (h : Bq d b q) (hd : d ≤ 30) (hb : b ≤ 2500) : SmQ 4000 q := h.sm.mono (by omega)
theorem Bq.sub {d b : Nat} {x y : Rat} (h : Bq d b x) (k : Bq d b y) : Bq d (b + 1) (x - y) := by
 rw [Rat.sub_eq_add_neg]
 exact h.add k.neg
theorem RL.head {K : Fg9} {H : Hp} {vs : List V} {f : List Rat} (h : RL K H vs f) (n : 1 ≤ f.length) : ∃ p, atI vs 0 = some (.ref p) ∧ SqT K H p (TQ (f.getD 0 0)) := by
 cases h with
 | nil => simp at n
 | cons h t =>
  obtain ⟨p, rfl, hp⟩ := h
  exact ⟨p, at0, hp⟩
theorem Yv {f : List Rat} (n : 1 ≤ f.length) : f.getD 0 0 ∈ f := by
 cases f with
 | nil => simp at n
 | cons x f => exact List.mem_cons_self ..
def spScaled (K : Fg9) : Sp := fun vs H Q _ => ∃ (l b : Addr) (v1 : List V) (as : List Rat) (k : Rat), vs = [.ref l, .ref b] ∧ SqL K H l v1 ∧ RL K H v1 as ∧ SqT K H b (TQ k) ∧ (∀ q ∈ as, SmQ 4000 q) ∧ SmQ 4000 k ∧ as.length < 1000 ∧ RetL K H Q (as.map (· * k))
theorem ok_scaled (T : Txt K mg a) : FnOk P w K mg base CX0 3 a.f_scaled a.d_scaled ["form", "by"] (spScaled K) := by
 refine T.F_scaled.ok sc_scaled (fun vs H Q E h => ?_) (fun cdv A outer s H vs Q E hr h => ?_)
 ·obtain ⟨_, _, _, _, _, rfl, _⟩ := h
  rfl
 obtain ⟨l, b, v1, as, k, rfl, hl, r1, hb, s1, sk, small, q⟩ := h
 refine ⟨_, (qV (zw (wK (N := ["part", "by"]) (ix := [none, some 1]) ⟨rfl, rfl, rfl, rfl, ⟨rfl, trivial⟩, rfl, ⟨⟨rfl, Or.inr (Or.inl rfl), Z3 rfl, rfl, Or.inl rfl⟩, trivial⟩⟩ rfl (jV (pv 0)) (fun _ => (zx (i := 0) (show (["part", "by"] : List Str).Nodup by decide +kernel) rfl (Or.inl rfl))) (fun _ σ => wV rfl σ) (fun _ => jk) (fun _ => (qK (YX T) (hr.mono (by decide)) rfl T.m_times T.F_times.kp T.b_times .nil pass0 (pa_c (pv 0) (pa_c (pv 1) qj)) (he := qz rfl _ _) (hpl := qZ rfl)))))), ?_⟩
 have l1 := r1.length
 refine ⟨_, rfl, l, rfl, ⟨_, hl⟩, jq (n := as.length) (fun i ys H' => Same H H' ∧ RL K H' ys ((as.map (· * k)).take i)) ⟨Same.refl _, .nil⟩ (zj (Nat.le_of_lt small)) ?_ ?_ ?_⟩
 ·rintro ys H' ⟨g, r⟩
  refine ⟨⟨v1, g.seq hl, by omega⟩, fun D hD => ?_⟩
  rw [List.take_of_length_le (by rw [List.length_map]; exact Nat.le_refl _)] at r
  exact q D _ ys (zQ g hD) (g.laid (zQ g hD) _) qv (r.mono (qy hD _))
 ·rintro i ys H' hi ⟨g, r⟩
  exact ⟨v1, _, g.seq hl, gE9 (by omega)⟩
 ·rintro i m' ys H' c x H2 hi ⟨g, r⟩ ⟨rfl, y1⟩ nx _
  obtain ⟨qa, ea, pa, rfl, ha⟩ := r1.get (y1 _ (g.seq hl))
  have ez : (as.map (· * k))[i]? = some (qa * k) := by rw [List.getElem?_map, ea]; rfl
  refine Or.inl ⟨rfl, _, rfl, _, rfl, pa, b, qa, k, rfl, g.tup ha, g.tup hb, s1 qa (List.mem_of_getElem? ea), sk, fun p3 H3 g4 e3 => nx _ _ ⟨g.trans g4, ?_⟩⟩
  rw [zY ez]
  exact (r.mono g4).snoc ⟨p3, rfl, SqT.of e3⟩
def spNotR (K : Fg9) (f : List Rat → Rat → Rw) : Sp := fun vs H Q _ => ∃ (l r : Addr) (ws : List V) (fm : List Rat) (q : Rat), vs = [.ref l, .ref r] ∧ SqL K H l ws ∧ RL K H ws fm ∧ SqT K H r (TQ q) ∧ 1 ≤ fm.length ∧ fm.length ≤ 60 ∧ (∀ x ∈ fm, SmQ 4000 x) ∧ SmQ 4000 q ∧ RetRow K H Q (f fm q)
theorem Q3 (T : Txt K mg a) : FnOk P w K mg base CX0 4 a.f_not_above a.d_not_above ["form", "number"] (spNotR K notA) := by
 refine T.F_not_above.ok sc_not_above (fun vs H Q E h => ?_) (fun cdv A outer s H vs Q E hr h => ?_)
 ·obtain ⟨_, _, _, _, _, rfl, _⟩ := h
  rfl
 obtain ⟨l, r, ws, fm, x, rfl, hl, rf, hx, n1, n60, sf, sx, q⟩ := h
 refine ⟨_, (qV (zw (yq (pa_c (vx wZ (pv 0) (vJ qk) kY) (pa_c (qK (ok_minus T) (hr.mono (by decide)) rfl T.m_minus T.F_minus.kp T.b_minus .nil pass0 (pa_c (pv 1) (pa_c (pe_ix yk (pv 0) qk (fun _ _ => rfl)) qj)) (he := qz rfl _ _) (hpl := qZ rfl)) qj))))), ?_⟩
 obtain ⟨p0, e0, h0⟩ := rf.head n1
 refine ⟨_, rfl, _, rfl, _, _, rfl, hl, fun l1 h1 => ?_⟩
 rw [cut1]
 have g1 := qy h1 (.lst (ws.drop 1))
 refine ⟨_, rfl, _, rfl, l, _, _, _, rfl, rfl, g1.seq hl, e0, r, p0, x, _, rfl, g1.tup hx, g1.tup h0, sx, sf _ (Yv n1), fun p2 H2 g2 e2 => ⟨y9, fun t ht => ?_⟩⟩
 have g3 := qy ht (.tup [.ref l1, .ref p2])
 have gA := g1.trans (g2.trans g3)
 exact q t _ gA ⟨t, l1, ws.drop 1, p2, rfl, SqT.of qv, (g2.trans g3) _ _ qv, h1, (rf.drop 1).mono gA, SqT.of (g3 _ _ e2)⟩
theorem V1 (T : Txt K mg a) : FnOk P w K mg base CX0 4 a.f_not_below a.d_not_below ["form", "number"] (spNotR K notB) := by
 refine T.F_not_below.ok sc_not_below (fun vs H Q E h => ?_) (fun cdv A outer s H vs Q E hr h => ?_)
 ·obtain ⟨_, _, _, _, _, rfl, _⟩ := h
  rfl
 obtain ⟨l, r, ws, fm, x, rfl, hl, rf, hx, n1, n60, sf, sx, q⟩ := h
 refine ⟨_, (qV (zw (yq (pa_c (qK (ok_scaled T) (hr.mono (by decide)) rfl T.m_scaled T.F_scaled.kp T.b_scaled .nil pass0 (pa_c (vx wZ (pv 0) (vJ qk) kY) (pa_c (yZ (v := .ref a.g_MINUS_ONE) rfl T.m_MINUS_ONE rfl) qj)) (he := qz rfl _ _) (hpl := qZ rfl)) (pa_c (qK (ok_minus T) (hr.mono (by decide)) rfl T.m_minus T.F_minus.kp T.b_minus .nil pass0 (pa_c (pe_ix yk (pv 0) qk (fun _ _ => rfl)) (pa_c (pv 1) qj)) (he := qz rfl _ _) (hpl := qZ rfl)) qj))))), ?_⟩
 obtain ⟨p0, e0, h0⟩ := rf.head n1
 have m1 : ∀ H : Hp, SqT K H a.g_MINUS_ONE (TQ (-1)) := T.s_MINUS_ONE
 refine ⟨_, rfl, _, rfl, _, _, rfl, hl, fun l1 h1 => ?_⟩
 rw [cut1]
 have g1 := qy h1 (.lst (ws.drop 1))
 refine ⟨l1, a.g_MINUS_ONE, _, fm.drop 1, -1, rfl, SqL.of qv, (rf.drop 1).mono g1, m1 _, fun z hz => sf z (List.mem_of_mem_drop hz), ⟨by unfold Sm; exact Nat.one_lt_two_pow (by decide), by unfold Sm; exact Nat.one_lt_two_pow (by decide)⟩, by rw [List.length_drop]; omega, fun p1 H1 w1 np1 k1 e1 r1 => ?_⟩
 have gk := g1.trans k1
 refine ⟨_, rfl, l, _, _, _, rfl, rfl, gk.seq hl, e0, _, rfl, p0, r, _, x, rfl, gk.tup h0, gk.tup hx, sf _ (Yv n1), sx, fun p2 H2 g2 e2 => ⟨y9, fun t ht => ?_⟩⟩
 have g3 := qy ht (.tup [.ref p1, .ref p2])
 have gA := gk.trans (g2.trans g3)
 exact q t _ gA ⟨t, p1, w1, p2, rfl, SqT.of qv, (g2.trans g3) _ _ e1, zQ g1 np1, r1.mono (g2.trans g3), SqT.of (g3 _ _ e2)⟩
def F14 (n : Nat) (f : List Rat) : Prop := Fine n 14 1000 f
theorem F14.s4 {n : Nat} {f : List Rat} (h : F14 n f) : ∀ x ∈ f, SmQ 4000 x := fun x hx => (h.2 x hx).s4r (by decide) (by decide)
theorem sm_mone : SmQ 4000 (-1 : Rat) := ⟨by unfold Sm; exact Nat.one_lt_two_pow (by decide), by unfold Sm; exact Nat.one_lt_two_pow (by decide)⟩
theorem sm04 : SmQ 4000 (0 : Rat) := ⟨by unfold Sm; exact Nat.pow_pos (by decide), by unfold Sm; exact Nat.one_lt_two_pow (by decide)⟩
theorem YW {n d b : Nat} {f g : List Rat} {s : Rat} (hf : f.length = n + 1) (hg : g.length = n + 1) (sf : ∀ x ∈ f, Bq d b x) (sg : ∀ x ∈ g, Bq d b (x * s)) : (addT f g s).length = n + 1 ∧ ∀ q ∈ addT f g s, Bq d (b + 1) q := by
 refine ⟨by rw [addT_len, hf, hg, Nat.min_self], fun q hq => ?_⟩
 obtain ⟨⟨x, y⟩, hp, rfl⟩ := List.mem_map.mp hq
 exact Bq.add (sf x (List.of_mem_zip hp).1) (sg y (List.of_mem_zip hp).2)
theorem F14.down {n : Nat} {f : List Rat} (h : F14 n f) : ∀ x ∈ f, Bq 14 1000 (x * (-1)) := fun x hx => by
 rw [show x * (-1) = -x by grind]
 exact (h.2 x hx).neg
def spCap (K : Fg9) : Sp := fun vs H Q _ => ∃ (l m : Addr) (v : V) (w1 w2 : List V) (f own : List Rat) (s : Rat × Rat) (n : Nat), vs = [.ref l, .ref m, v] ∧ SqL K H l w1 ∧ RL K H w1 f ∧ SqL K H m w2 ∧ RL K H w2 own ∧ Qj K H v s ∧ F14 n f ∧ F14 n own ∧ Bs 14 1000 s ∧ n ≤ 40 ∧ RetRow K H Q (capR f own s)
abbrev ZW (P w K mg base) (a : Adr) (cdv A outer s H E) := (cxOf CX0 P w K mg base ["form", "own", "span", "low", "high", "leaned"] "cap_row" (qQ wz) a.f_cap_row cdv A outer s H E).nox
set_option maxHeartbeats 0 in
theorem ok_cap_row (T : Txt K mg a) : FnOk P w K mg base CX0 5 a.f_cap_row a.d_cap_row ["form", "own", "span"] (spCap K) := by
 refine T.F_cap_row.ok JV (fun vs H Q E h => ?_) (fun cdv A outer s H vs Q E hr h => ?_)
 ·obtain ⟨_, _, _, _, _, _, _, _, _, rfl, _⟩ := h
  rfl
 obtain ⟨l, m, v, w1, w2, f, own, sd, n, rfl, hl, rf, hm, ro, ⟨p, pl, ph, rfl, hp, h1, h2⟩, ff, fo, sz, n40, q⟩ := h
 have n0 : ∀ H : Hp, SqT K H a.g_NOUGHT (TQ 0) := T.s_NOUGHT
 have m1 : ∀ H : Hp, SqT K H a.g_MINUS_ONE (TQ (-1)) := T.s_MINUS_ONE
 have h0 : PS (ZW P w K mg base a cdv A outer s H E) (bS wz 0) _ := (zk (i := 3) JV.nd rfl (Or.inl rfl) (pe_ix qY (pv 2) qk (fun _ _ => rfl)))
 have h1 : PS (ZW P w K mg base a cdv A outer s H E) (bS wz 1) _ := (zk (i := 4) JV.nd rfl (Or.inl rfl) (pe_ix qY (pv 2) qk (fun _ _ => rfl)))
 have h2 : PS (ZW P w K mg base a cdv A outer s H E) (bS wz 2) _ := (ps_if (jQ (yX (qK (J5 T) (hr.mono (by decide)) rfl T.m_less T.F_less.kp T.b_less .nil pass0 (pa_c (pv 3) (pa_c (yZ (v := .ref a.g_NOUGHT) rfl T.m_NOUGHT rfl) qj)) (he := qz rfl _ _) (hpl := qZ rfl))))
    (qV (zw (qK (Q3 T) (hr.mono (by decide)) rfl T.m_not_above T.F_not_above.kp T.b_not_above .nil pass0 (pa_c (qK (xQ T) (hr.mono (by decide)) rfl T.m_added_times T.F_added_times.kp T.b_added_times .nil pass0 (pa_c (pv 1) (pa_c (pv 0) (pa_c (yZ (v := .ref a.g_MINUS_ONE) rfl T.m_MINUS_ONE rfl) qj))) (he := qz rfl _ _) (hpl := qZ rfl)) (pa_c (yZ (v := .ref a.g_NOUGHT) rfl T.m_NOUGHT rfl) qj)) (he := qz rfl _ _) (hpl := qZ rfl))))
    zW)
 have h3 : PS (ZW P w K mg base a cdv A outer s H E) (bS wz 3) _ := (ps_if (jQ (yX (qK (J5 T) (hr.mono (by decide)) rfl T.m_less T.F_less.kp T.b_less .nil pass0 (pa_c (yZ (v := .ref a.g_NOUGHT) rfl T.m_NOUGHT rfl) (pa_c (pv 4) qj)) (he := qz rfl _ _) (hpl := qZ rfl))))
    (qV (zw (qK (Q3 T) (hr.mono (by decide)) rfl T.m_not_above T.F_not_above.kp T.b_not_above .nil pass0 (pa_c (pv 1) (pa_c (yZ (v := .ref a.g_NOUGHT) rfl T.m_NOUGHT rfl) qj)) (he := qz rfl _ _) (hpl := qZ rfl))))
    zW)
 have h4 : PS (ZW P w K mg base a cdv A outer s H E) (bS wz 4) _ := (zk (i := 5) JV.nd rfl (Or.inl rfl) (qK (xQ T) (hr.mono (by decide)) rfl T.m_added_times T.F_added_times.kp T.b_added_times .nil pass0 (pa_c (qK (ok_scaled T) (hr.mono (by decide)) rfl T.m_scaled T.F_scaled.kp T.b_scaled .nil pass0 (pa_c (pv 1) (pa_c (qK (ok_minus T) (hr.mono (by decide)) rfl T.m_minus T.F_minus.kp T.b_minus .nil pass0 (pa_c (pv 4) (pa_c (pv 3) qj)) (he := qz rfl _ _) (hpl := qZ rfl)) qj)) (he := qz rfl _ _) (hpl := qZ rfl)) (pa_c (pv 0) (pa_c (qK (ok_minus T) (hr.mono (by decide)) rfl T.m_minus T.F_minus.kp T.b_minus .nil pass0 (pa_c (yZ (v := .ref a.g_NOUGHT) rfl T.m_NOUGHT rfl) (pa_c (pv 4) qj)) (he := qz rfl _ _) (hpl := qZ rfl)) qj))) (he := qz rfl _ _) (hpl := qZ rfl)))
 have h5 : PS (ZW P w K mg base a cdv A outer s H E) (bS wz 5) _ := (zw (qK (Q3 T) (hr.mono (by decide)) rfl T.m_not_above T.F_not_above.kp T.b_not_above .nil pass0 (pa_c (pv 5) (pa_c (qK (ok_minus T) (hr.mono (by decide)) rfl T.m_minus T.F_minus.kp T.b_minus .nil pass0 (pa_c (yZ (v := .ref a.g_NOUGHT) rfl T.m_NOUGHT rfl) (pa_c (qK (YX T) (hr.mono (by decide)) rfl T.m_times T.F_times.kp T.b_times .nil pass0 (pa_c (pv 4) (pa_c (pv 3) qj)) (he := qz rfl _ _) (hpl := qZ rfl)) qj)) (he := qz rfl _ _) (hpl := qZ rfl)) qj)) (he := qz rfl _ _) (hpl := qZ rfl)))
 refine body6 (by rfl) h0 h1 h2 h3 h4 h5 ?_
 intros
 clear h0 h1 h2 h3 h4 h5
 have lf := ff.1
 have lo := fo.1
 have s9 : ∀ {x : Rat}, Bq 14 1000 x → SmQ 9000 x := fun h => h.s9 (by decide) (by decide)
 have s4 : ∀ {x : Rat}, Bq 14 1000 x → SmQ 4000 x := fun h => h.s4 (by decide) (by decide)
 refine ⟨_, rfl, _, _, _, _, rfl, rfl, hp, rfl, _, rfl, _, _, _, _, rfl, rfl, hp, rfl, ?_⟩
 refine ⟨_, rfl, pl, a.g_NOUGHT, _, 0, rfl, h1, n0 _, s9 sz.1, sm0, _, rfl, ?_⟩
 unfold capR at q
 by_cases c1 : sd.1 < 0
 ·rw [if_pos c1] at q
  refine iteNS c1 ⟨_, rfl, a.g_NOUGHT, ph, 0, _, rfl, n0 _, h2, sm0, s9 sz.2, _, rfl, ?_⟩
  by_cases c2 : 0 < sd.2
  ·rw [if_pos c2] at q
   refine iteNS c2 ?_
   have bw : Bq 14 1001 (sd.2 - sd.1) := sz.2.sub sz.1
   have bh : Bq 14 1001 (0 - sd.2) := (Bq.zero 14 1000).sub sz.2
   have so : ∀ x ∈ own.map (· * (sd.2 - sd.1)), Bq 28 2001 x := fun x hx => by
    obtain ⟨y, hy, rfl⟩ := List.mem_map.mp hx
    exact (fo.2 y hy).mul bw
   have sg : ∀ x ∈ f, Bq 28 2001 (x * (0 - sd.2)) := fun x hx => (ff.2 x hx).mul bh
   refine ⟨_, rfl, _, rfl, _, rfl, ph, pl, _, _, rfl, h2, h1, s4 sz.2, s4 sz.1, fun p3 H3 g3 e3 => ?_⟩
   refine ⟨m, p3, w2, own, _, rfl, g3.seq hm, ro.mono g3, SqT.of e3, fo.s4, bw.s4r (by decide) (by decide), by omega, fun l4 H4 w4 _ g4 e4 r4 => ?_⟩
   have g34 := g3.trans g4
   refine ⟨_, rfl, _, rfl, a.g_NOUGHT, ph, 0, _, rfl, n0 _, g34.tup h2, sm04, s4 sz.2, fun p5 H5 g5 e5 => ?_⟩
   have g35 := g34.trans g5
   obtain ⟨la, ba⟩ := YW (by rw [List.length_map]; exact lo) lf so sg
   refine ⟨l4, l, p5, w4, w1, _, f, _, rfl, SqL.of (g5 _ _ e4), r4.mono g5, g35.seq hl, rf.mono g35, SqT.of e5, by rw [List.length_map]; omega, by rw [List.length_map, lo, lf], fun x hx => (so x hx).s4r (by decide) (by decide), fun x hx => ⟨ff.s4 x hx, (sg x hx).s4r (by decide) (by decide)⟩, bh.s4r (by decide) (by decide), fun l6 H6 w6 _ g6 e6 r6 => ?_⟩
   have g36 := g35.trans g6
   refine ⟨_, rfl, _, rfl, _, rfl, ph, pl, _, _, rfl, g36.tup h2, g36.tup h1, s4 sz.2, s4 sz.1, fun p7 H7 g7 e7 => ?_⟩
   refine ⟨a.g_NOUGHT, p7, 0, _, rfl, n0 _, SqT.of e7, sm04, (sz.2.mul sz.1).s4r (by decide) (by decide), fun p8 H8 g8 e8 => ?_⟩
   have g78 := g7.trans g8
   exact ⟨l6, p8, w6, addT (own.map (· * (sd.2 - sd.1))) f (0 - sd.2), 0 - sd.2 * sd.1, rfl, SqL.of (g78 _ _ e6), r6.mono g78, SqT.of e8, by omega, by omega, fun x hx => (ba x hx).s4r (by decide) (by decide), ((Bq.zero 28 2000).sub (sz.2.mul sz.1)).s4r (by decide) (by decide), RetRow.mono q (g36.trans g78)⟩
  ·rw [if_neg c2] at q
   refine iteNP c2 ?_
   exact ⟨_, rfl, m, a.g_NOUGHT, w2, own, 0, rfl, hm, ro, n0 _, by omega, by omega, fo.s4, sm04, q⟩
 ·rw [if_neg c1] at q
  refine iteNP c1 ?_
  refine ⟨_, rfl, _, rfl, m, l, a.g_MINUS_ONE, w2, w1, own, f, -1, rfl, hm, ro, hl, rf, m1 _, by omega, by omega, fo.s4, fun x hx => ⟨ff.s4 x hx, s4 (ff.down x hx)⟩, sm_mone, fun l6 H6 w6 _ g6 e6 r6 => ?_⟩
  obtain ⟨la, ba⟩ := YW lo lf fo.2 ff.down
  exact ⟨l6, a.g_NOUGHT, w6, _, 0, rfl, SqL.of e6, r6, n0 _, by omega, by omega, fun x hx => (ba x hx).s4r (by decide) (by decide), sm04, RetRow.mono q g6⟩
def spBendR (K : Fg9) : Sp := fun vs H Q _ => ∃ (x : Sta) (l m : Addr) (v : V) (w1 w2 : List V) (f own : List Rat) (s : Rat × Rat) (n : Nat), vs = [.str x.s, .ref l, .ref m, v] ∧ SqL K H l w1 ∧ RL K H w1 f ∧ SqL K H m w2 ∧ RL K H w2 own ∧ Qj K H v s ∧ F14 n f ∧ F14 n own ∧ Bs 14 1000 s ∧ n ≤ 40 ∧ RetRows K H Q (bendR x f own s)
theorem RowB.next {B : Addr → Prop} {K : Fg9} {H0 H H' : Hp} {v : V} {r : Rw} (h : RowB (fun l => H l = none) K H' v r) (g : Same H0 H) : RowB (fun l => H0 l = none) K H' v r := h.imp fun _ _ b _ => zQ g b
abbrev Y9 (P w K mg base) (a : Adr) (cdv A outer s H E) := (cxOf CX0 P w K mg base ["state", "form", "own", "span", "under"] "bend_rows" (qQ vj) a.f_bend_rows cdv A outer s H E).nox
set_option maxHeartbeats 0 in
theorem ok_bend_rows (T : Txt K mg a) : FnOk P w K mg base CX0 6 a.f_bend_rows a.d_bend_rows ["state", "form", "own", "span"] (spBendR K) := by
 refine T.F_bend_rows.ok sc_bend_rows (fun vs H Q E h => ?_) (fun cdv A outer s H vs Q E hr h => ?_)
 ·obtain ⟨_, _, _, _, _, _, _, _, _, _, rfl, _⟩ := h
  rfl
 obtain ⟨x, l, m, v, w1, w2, f, own, sd, n, rfl, hl, rf, hm, ro, hs, ff, fo, sz, n40, q⟩ := h
 have n0 : ∀ H : Hp, SqT K H a.g_NOUGHT (TQ 0) := T.s_NOUGHT
 have m1 : ∀ H : Hp, SqT K H a.g_MINUS_ONE (TQ (-1)) := T.s_MINUS_ONE
 have h0 : PS (Y9 P w K mg base a cdv A outer s H E) (bS vj 0) _ := (ps_if (zJ op_eq (pv 0) v6 (zX _))
    (qV (zw (j7 (pa_c (qK (V1 T) (hr.mono (by decide)) rfl T.m_not_below T.F_not_below.kp T.b_not_below .nil pass0 (pa_c (pv 1) (pa_c (yZ (v := .ref a.g_NOUGHT) rfl T.m_NOUGHT rfl) qj)) (he := qz rfl _ _) (hpl := qZ rfl)) qj))))
    zW)
 have h1 : PS (Y9 P w K mg base a cdv A outer s H E) (bS vj 1) _ := (ps_if (zJ op_eq (pv 0) v6 (zX _))
    (qV (zw (j7 (pa_c (qK (Q3 T) (hr.mono (by decide)) rfl T.m_not_above T.F_not_above.kp T.b_not_above .nil pass0 (pa_c (pv 1) (pa_c (yZ (v := .ref a.g_NOUGHT) rfl T.m_NOUGHT rfl) qj)) (he := qz rfl _ _) (hpl := qZ rfl)) qj))))
    zW)
 have h2 : PS (Y9 P w K mg base a cdv A outer s H E) (bS vj 2) _ := (zk (i := 4) sc_bend_rows.nd rfl (Or.inl rfl) (qK (xQ T) (hr.mono (by decide)) rfl T.m_added_times T.F_added_times.kp T.b_added_times .nil pass0 (pa_c (pv 1) (pa_c (pv 2) (pa_c (yZ (v := .ref a.g_MINUS_ONE) rfl T.m_MINUS_ONE rfl) qj))) (he := qz rfl _ _) (hpl := qZ rfl)))
 have h3 : PS (Y9 P w K mg base a cdv A outer s H E) (bS vj 3) _ := (zw (j7 (pa_c (qK (V1 T) (hr.mono (by decide)) rfl T.m_not_below T.F_not_below.kp T.b_not_below .nil pass0 (pa_c (pv 2) (pa_c (yZ (v := .ref a.g_NOUGHT) rfl T.m_NOUGHT rfl) qj)) (he := qz rfl _ _) (hpl := qZ rfl)) (pa_c (qK (Q3 T) (hr.mono (by decide)) rfl T.m_not_above T.F_not_above.kp T.b_not_above .nil pass0 (pa_c (pv 4) (pa_c (yZ (v := .ref a.g_NOUGHT) rfl T.m_NOUGHT rfl) qj)) (he := qz rfl _ _) (hpl := qZ rfl)) (pa_c (qK (ok_cap_row T) (hr.mono (by decide)) rfl T.m_cap_row T.F_cap_row.kp T.b_cap_row .nil pass0 (pa_c (pv 1) (pa_c (pv 2) (pa_c (pv 3) qj))) (he := qz rfl _ _) (hpl := qZ rfl)) qj)))))
 refine body4 (by rfl) h0 h1 h2 h3 ?_
 intros
 clear h0 h1 h2 h3
 have lf := ff.1
 have lo := fo.1
 have s4 : ∀ {x : Rat}, Bq 14 1000 x → SmQ 4000 x := fun h => h.s4 (by decide) (by decide)
 have fin : ∀ {H1 : Hp} {t : Addr} {r : Rw}, Same H H1 → RowB (fun l => H l = none) K H1 (.ref t) r → ∀ D, H1 D = none → RB (fun m => H m = none ∧ m ≠ D) K (upd H1 D (.lst [.ref t])) [.ref t] [r] := fun {H1 t r} g hr D hD =>
  .cons ((hr.imp fun l ws b e => ⟨b, zK e hD⟩).mono (qy hD _)) .nil
 cases x with
 | on =>
  refine ⟨_, rfl, rfl, _, rfl, iteP rfl ?_⟩
  refine ⟨_, rfl, l, a.g_NOUGHT, w1, f, 0, rfl, hl, rf, n0 _, by omega, by omega, ff.s4, sm04, fun t H1 g1 hr => ⟨(show 1 ≤ sizeLine by decide), fun D hD => ?_⟩⟩
  exact q D _ _ (zQ g1 hD) (g1.laid (zQ g1 hD) _) qv (fin g1 hr D hD)
 | off =>
  refine ⟨_, rfl, rfl, _, rfl, iteN (by decide) ⟨_, rfl, rfl, _, rfl, iteP rfl ?_⟩⟩
  refine ⟨_, rfl, l, a.g_NOUGHT, w1, f, 0, rfl, hl, rf, n0 _, by omega, by omega, ff.s4, sm04, fun t H1 g1 hr => ⟨(show 1 ≤ sizeLine by decide), fun D hD => ?_⟩⟩
  exact q D _ _ (zQ g1 hD) (g1.laid (zQ g1 hD) _) qv (fin g1 hr D hD)
 | opn =>
  refine ⟨_, rfl, rfl, _, rfl, iteN (by decide) ⟨_, rfl, rfl, _, rfl, iteN (by decide) ?_⟩⟩
  refine ⟨_, rfl, _, rfl, l, m, a.g_MINUS_ONE, w1, w2, f, own, -1, rfl, hl, rf, hm, ro, m1 _, by omega, by omega, ff.s4, fun x hx => ⟨fo.s4 x hx, s4 (fo.down x hx)⟩, sm_mone, fun l6 H6 w6 _ g6 e6 r6 => ?_⟩
  obtain ⟨la, ba⟩ := YW lf lo ff.2 fo.down
  refine ⟨_, rfl, m, a.g_NOUGHT, w2, own, 0, rfl, g6.seq hm, ro.mono g6, n0 _, by omega, by omega, fo.s4, sm04, fun t1 H1 g1 hr1 => ?_⟩
  refine ⟨_, rfl, l6, a.g_NOUGHT, w6, _, 0, rfl, SqL.of (g1 _ _ e6), r6.mono g1, n0 _, by omega, by omega, fun x hx => (ba x hx).s4r (by decide) (by decide), sm04, fun t2 H2 g2 hr2 => ?_⟩
  have g12 := g6.trans (g1.trans g2)
  refine ⟨_, rfl, _, rfl, _, rfl, l, m, v, w1, w2, f, own, sd, n, rfl, g12.seq hl, rf.mono g12, g12.seq hm, ro.mono g12, hs.mono g12, ff, fo, sz, n40, fun t3 H3 g3 hr3 => ⟨(show 3 ≤ sizeLine by decide), fun D hD => ?_⟩⟩
  have gA := g12.trans g3
  have j := qy hD (.lst [.ref t1, .ref t2, .ref t3])
  have k1 := (RowB.next (B := fun _ => True) hr1 g6).mono (g2.trans g3)
  have k2 := (RowB.next (B := fun _ => True) hr2 (g6.trans g1)).mono g3
  have k3 := RowB.next (B := fun _ => True) hr3 g12
  refine q D _ _ (zQ gA hD) (gA.trans j) qv (.cons ((k1.imp fun l ws b e => ⟨b, zK e hD⟩).mono j) (.cons ((k2.imp fun l ws b e => ⟨b, zK e hD⟩).mono j) (.cons ((k3.imp fun l ws b e => ⟨b, zK e hD⟩).mono j) .nil)))
def spSideR (K : Fg9) : Sp := fun vs H Q _ => ∃ (l : Addr) (v : V) (w1 : List V) (f : List Rat) (s : Rat × Rat) (n : Nat), vs = [.ref l, v] ∧ SqL K H l w1 ∧ RL K H w1 f ∧ Qj K H v s ∧ F14 n f ∧ Bs 14 1000 s ∧ n ≤ 40 ∧ RetRows K H Q (sideR f s)
set_option maxHeartbeats 0 in
theorem ok_side_rows (T : Txt K mg a) : FnOk P w K mg base CX0 5 a.f_side_rows a.d_side_rows ["form", "side"] (spSideR K) := by
 refine T.F_side_rows.ok sc_side_rows (fun vs H Q E h => ?_) (fun cdv A outer s H vs Q E hr h => ?_)
 ·obtain ⟨_, _, _, _, _, _, rfl, _⟩ := h
  rfl
 obtain ⟨l, v, w1, f, sd, n, rfl, hl, rf, ⟨p, pl, ph, rfl, hp, h1, h2⟩, ff, sz, n40, q⟩ := h
 have s4 : ∀ {x : Rat}, Bq 14 1000 x → SmQ 4000 x := fun h => h.s4 (by decide) (by decide)
 have lf := ff.1
 refine ⟨_, (qV (zw (j7 (pa_c (qK (Q3 T) (hr.mono (by decide)) rfl T.m_not_above T.F_not_above.kp T.b_not_above .nil pass0 (pa_c (pv 0) (pa_c (pe_ix qY (pv 1) qk (fun _ _ => rfl)) qj)) (he := qz rfl _ _) (hpl := qZ rfl)) (pa_c (qK (V1 T) (hr.mono (by decide)) rfl T.m_not_below T.F_not_below.kp T.b_not_below .nil pass0 (pa_c (pv 0) (pa_c (pe_ix qY (pv 1) qk (fun _ _ => rfl)) qj)) (he := qz rfl _ _) (hpl := qZ rfl)) qj))))), ?_⟩
 refine ⟨_, rfl, _, rfl, _, _, _, _, rfl, rfl, hp, rfl, l, ph, w1, f, _, rfl, hl, rf, h2, by omega, by omega, ff.s4, s4 sz.2, fun t1 H1 g1 hr1 => ?_⟩
 refine ⟨_, rfl, _, rfl, _, _, _, _, rfl, rfl, g1.tup hp, rfl, l, pl, w1, f, _, rfl, g1.seq hl, rf.mono g1, g1.tup h1, by omega, by omega, ff.s4, s4 sz.1, fun t2 H2 g2 hr2 => ⟨y9, fun D hD => ?_⟩⟩
 have gA := g1.trans g2
 have j := qy hD (.lst [.ref t1, .ref t2])
 have k2 := RowB.next (B := fun _ => True) hr2 g1
 exact q D _ _ (zQ gA hD) (gA.trans j) qv (.cons (((hr1.mono g2).imp fun l ws b e => ⟨b, zK e hD⟩).mono j) (.cons ((k2.imp fun l ws b e => ⟨b, zK e hD⟩).mono j) .nil))
def bendP (many : Nat) : List Un → List Nat
 | [] => []
 | u :: us => if isB u then many :: bendP (many + 1) us else bendP (many + 1) us
theorem ZY (u : Un) : ∀ (us : List Un) (many : Nat), bendP many (us ++ [u]) = bendP many us ++ (if isB u then [many + us.length] else [])
 | [], many => by
  show bendP many [u] = _
  cases h : isB u <;> simp [bendP, h]
 | v :: us, many => by
  rw [List.cons_append]
  unfold bendP
  rw [ZY u us (many + 1), List.length_cons, show many + 1 + us.length = many + (us.length + 1) by omega]
  cases isB v <;> simp
def bendT : List Un → List Nat
 | [] => []
 | .bend p :: us => p :: bendT us
 | .sum _ _ :: us => bendT us
theorem YY (u : Un) : ∀ us : List Un, bendT (us ++ [u]) = bendT us ++ (match u with | .bend p => [p] | .sum _ _ => [])
 | [] => by cases u <;> rfl
 | .bend p :: us => by rw [List.cons_append]; unfold bendT; rw [YY u us]; rfl
 | .sum c ts :: us => by rw [List.cons_append]; unfold bendT; rw [YY u us]
theorem bendT_lt {many : Nat} : ∀ {us : List Un}, WfN many us → ∀ p ∈ bendT us, p < many + us.length := by
 intro us wf
 have key : ∀ i, i ≤ us.length → ∀ p ∈ bendT (us.take i), p < many + us.length := by
  intro i
  induction i with
  | zero => intro _ p hp; rw [List.take_zero] at hp; cases hp
  | succ i ih =>
   intro hi p hp
   have e : us[i]? = some us[i] := gE9 (by omega)
   rw [zY e, YY] at hp
   rcases List.mem_append.mp hp with z | z
   ·exact ih (by omega) p z
   ·have w := wf i _ e
    revert z w
    cases us[i] with
    | sum c ts => intro z; cases z
    | bend p0 =>
     intro z w
     have ep := List.mem_singleton.mp z
     have w : p0 < many + i := w
     omega
 have := key us.length (Nat.le_refl _)
 rw [List.take_of_length_le (Nat.le_refl _)] at this
 exact this
def NetU (K : Fg9) (a : Adr) (H : Hp) (pn : Addr) (many : Nat) (us : List Un) : Prop := ∃ lu lo vk, NetAt a.c_Net H pn lu lo many ∧ SqL K H lu vk ∧ UL true K H vk us
def RetN (H : Hp) (Q : VK) (xs : List V) : Prop := ∀ p H', H p = none → Same H H' → H' p = some (.lst xs) → Q (.ref p) H'
def spBends (K : Fg9) (a : Adr) : Sp := fun vs H Q _ => ∃ (pn : Addr) (many : Nat) (us : List Un), vs = [.ref pn] ∧ NetU K a H pn many us ∧ us.length ≤ 24 ∧ RetN H Q (outV (bendP many us))
set_option maxHeartbeats 0 in
theorem ok_Net_bends (T : Txt K mg a) : FnOk P w K mg base CX0 1 a.f_Net_bends a.d_Net_bends ["self"] (spBends K a) := by
 refine T.F_Net_bends.ok sc_Net_bends (fun vs H Q E h => ?_) (fun cdv A outer s H vs Q E hr h => ?_)
 ·obtain ⟨_, _, _, rfl, _⟩ := h
  rfl
 obtain ⟨pn, many, us, rfl, ⟨lu, lo, vk, ⟨dx, hN⟩, hu, rk⟩, l24, q⟩ := h
 refine ⟨_, (qV (zw (wK (N := ["k", "unit", "self"]) (ix := [none, none, some 0]) ⟨rfl, rfl, rfl, rfl, ⟨rfl, trivial⟩, rfl, ⟨⟨rfl, Or.inr (Or.inl rfl), Z3 rfl, rfl, Or.inl rfl⟩, trivial⟩⟩ rfl (pi_enum rfl T.m_enumerate (pa_c (JY (pv 0) rfl) qj)) (fun _ => (jW rfl (zy (zx (i := 0) (show (["k", "unit", "self"] : List Str).Nodup by decide +kernel) rfl (Or.inl rfl)) (zy (zx (i := 1) (show (["k", "unit", "self"] : List Str).Nodup by decide +kernel) rfl (Or.inl rfl)) yK)))) (fun _ σ => V5 rfl rfl (by decide) σ) (fun _ => (pif_one (zJ op_eq (pe_ix qY (pv 1) qk (fun _ _ => rfl)) v6 (zX _)))) (fun _ => (pe_op yj (JY (pv 2) rfl) (pv 0)))))), ?_⟩
 have lvk := rk.length
 refine ⟨_, rfl, pn, _, dx, _, _, rfl, hN, T.C_Net, T.n_Net_units, rfl, lu, rfl, ⟨_, hu⟩, jq (n := us.length) (fun i ys H' => Same H H' ∧ ys = outV (bendP many (us.take i))) ⟨Same.refl _, rfl⟩ (zj (by omega)) ?_ ?_ ?_⟩
 case refine_2 =>
  rintro i ys H' hi ⟨g, _⟩
  exact ⟨_, _, g.seq hu, gE9 (by omega)⟩
 case refine_3 =>
  rintro i m' ys H' cc x H3 hi ⟨g, rfl⟩ ⟨p, x2, hp, rfl, rfl, y1⟩ nx sk
  obtain ⟨u0, eu, hU⟩ := UL.get rk (y1 _ (g.seq hu))
  obtain ⟨t, zs, rfl, ht⟩ := kind_at hU
  have g2 := qy hp (.tup [.int (i : Int), .ref t])
  have gg := g.trans g2
  refine ⟨p, _, rfl, SqT.of qv, rfl, _, _, rfl, _, _, rfl, rfl, ?_⟩
  refine ⟨_, rfl, _, _, _, _, rfl, rfl, gg.tup ht, at0, rfl, _, rfl, ?_⟩
  have es : us.take (i + 1) = us.take i ++ [u0] := zY eu
  have li : (us.take i).length = i := by rw [List.length_take]; omega
  cases hb : isB u0 with
  | true =>
   refine Or.inl ⟨by rfl, _, rfl, pn, _, dx, _, _, rfl, gg _ _ hN, T.C_Net, T.n_Net_many, rfl, _, rfl, _, _, rfl, rfl, nx _ _ ⟨gg, ?_⟩⟩
   rw [es, ZY, hb, li]
   unfold outV
   rw [List.map_append]
   show _ ++ [V.int ((many : Int) + (i : Int))] = _ ++ [V.int ((many + i : Nat) : Int)]
   rw [show (many : Int) + (i : Int) = ((many + i : Nat) : Int) by omega]
  | false =>
   refine Or.inr ⟨by rfl, sk _ ⟨gg, ?_⟩⟩
   rw [es, ZY, hb]
   simp
 rintro ys H3 ⟨g3, rfl⟩
 rw [List.take_of_length_le (Nat.le_refl _)]
 refine ⟨⟨_, g3.seq hu, by omega⟩, fun lb hlb => ?_⟩
 exact q lb _ (zQ g3 hlb) (g3.laid (zQ g3 hlb) _) qv
theorem bendT_fil : ∀ us : List Un, (bendT us).length = (us.filter isB).length
 | [] => rfl
 | .bend p :: us => by unfold bendT; rw [List.length_cons, bendT_fil us]; rfl
 | .sum c ts :: us => by unfold bendT; rw [bendT_fil us]; rfl
theorem Yy : ∀ (us : List Un) (many : Nat), (bendP many us).length = (us.filter isB).length
 | [], _ => rfl
 | .bend p :: us, many => by unfold bendP; rw [show isB (.bend p) = true from rfl, if_pos rfl, List.length_cons, Yy us]; rfl
 | .sum c ts :: us, many => by unfold bendP; rw [show isB (.sum c ts) = false from rfl, if_neg Bool.false_ne_true, Yy us]; rfl
theorem bendP_lt : ∀ (us : List Un) (many : Nat), ∀ p ∈ bendP many us, p < many + us.length
 | [], _, p, h => by cases h
 | u :: us, many, p, h => by
  unfold bendP at h
  have ih := bendP_lt us (many + 1)
  rw [List.length_cons]
  cases e : isB u with
  | true =>
   rw [e, if_pos rfl] at h
   rcases List.mem_cons.mp h with z | z
   ·omega
   ·have := ih p z
    omega
  | false =>
   rw [e, if_neg Bool.false_ne_true] at h
   have := ih p h
   omega
def spBentPl (K : Fg9) (a : Adr) : Sp := fun vs H Q _ => ∃ (pn : Addr) (many : Nat) (us : List Un), vs = [.ref pn] ∧ NetT K a H pn many us ∧ us.length ≤ 24 ∧ RetN H Q (outV (bendT us))
set_option maxHeartbeats 0 in
theorem ok_bent_places (T : Txt K mg a) : FnOk P w K mg base CX0 3 a.f_bent_places a.d_bent_places ["net"] (spBentPl K a) := by
 refine T.F_bent_places.ok sc_bent_places (fun vs H Q E h => ?_) (fun cdv A outer s H vs Q E hr h => ?_)
 ·obtain ⟨_, _, _, rfl, _⟩ := h
  rfl
 obtain ⟨pn, many, us, rfl, ⟨lu, lo, vk, outs, hNa, hu, rk, ho⟩, l24, q⟩ := h
 obtain ⟨dx, hN⟩ := id hNa
 refine ⟨_, (qV (zw (wK (N := ["unit"]) (ix := [none]) ⟨rfl, rfl, rfl, rfl, trivial, rfl, trivial⟩ rfl (jV (pe_ix qY (Z0 (pv 0) T.C_Net T.t_Net_told (QY T) (hr.mono (by decide)) T.b_Net_told .nil pass0) qk (fun _ _ => rfl))) (fun _ => (zx (i := 0) (show (["unit"] : List Str).Nodup by decide +kernel) rfl (Or.inl rfl))) (fun _ σ => wV rfl σ) (fun _ => (pif_one (zJ op_eq (pe_ix qY (pv 0) qk (fun _ _ => rfl)) v6 (zX _)))) (fun _ => (pe_ix qY (pv 0) qk (fun _ _ => rfl)))))), ?_⟩
 refine ⟨_, rfl, pn, dx, _, rfl, hN, rfl, pn, lu, lo, many, vk, us, outs, rfl, hNa, hu, rk, by omega, ho, fun t l2 o2 vu H1 g1 ht nl2 e2 ru2 _ _ => ?_⟩
 have rU : UL false K H1 vu us := (ru2 pn _ hN).un
 have lvu := rU.length
 refine ⟨_, _, _, _, rfl, rfl, ht, rfl, l2, rfl, ⟨_, SqL.of e2⟩, jq (n := us.length) (fun i ys H' => H' = H1 ∧ ys = outV (bendT (us.take i))) ⟨rfl, rfl⟩ (zj (by omega)) ?_ ?_ ?_⟩
 case refine_2 =>
  rintro i ys H' hi ⟨rfl, _⟩
  exact ⟨_, _, SqL.of e2, gE9 (by omega)⟩
 case refine_3 =>
  rintro i m' ys H' cc x H3 hi ⟨rfl, rfl⟩ ⟨rfl, y1⟩ nx sk
  obtain ⟨u0, eu, hU⟩ := UL.get rU (y1 _ (SqL.of e2))
  have es : us.take (i + 1) = us.take i ++ [u0] := zY eu
  cases u0 with
  | bend p =>
   obtain ⟨t, rfl, ht⟩ := hU
   refine ⟨_, rfl, _, _, _, _, rfl, rfl, ht, at0, rfl, _, rfl, ?_⟩
   refine Or.inl ⟨by rfl, _, rfl, _, _, _, _, rfl, rfl, ht, rfl, nx _ _ ⟨rfl, ?_⟩⟩
   rw [es, YY]
   unfold outV
   rw [List.map_append]
   rfl
  | sum c ts =>
   obtain ⟨t, pc, pt, vt, rfl, ht, _⟩ := hU
   refine ⟨_, rfl, _, _, _, _, rfl, rfl, ht, at0, rfl, _, rfl, ?_⟩
   refine Or.inr ⟨by rfl, sk _ ⟨rfl, ?_⟩⟩
   rw [es, YY]
   simp
 rintro ys H3 ⟨rfl, rfl⟩
 rw [List.take_of_length_le (Nat.le_refl _)]
 refine ⟨⟨_, SqL.of e2, by omega⟩, fun lb hlb => ?_⟩
 exact q lb _ (zQ g1 hlb) (g1.laid (zQ g1 hlb) _) qv
def sidesN (fs : List (List Rat)) (sp : List (Rat × Rat)) (n : Nat) : List Rw := (List.range n).flatMap fun k => sideR (fs.getD k []) (sp.getD k (0, 0))
def bendsN (fs : List (List Rat)) (sp : List (Rat × Rat)) (ks : List (Sta × Nat × Nat)) : List Rw := ks.flatMap fun x => bendR x.1 (fs.getD x.2.1 []) (fs.getD x.2.2 []) (sp.getD x.2.1 (0, 0))
def xw (many : Nat) (us : List Un) (cs : List Sta) : List (Sta × Nat × Nat) := cs.zip ((bendT us).zip (bendP many us))
def rowsN (many : Nat) (us : List Un) (cs : List Sta) (fs : List (List Rat)) (sp : List (Rat × Rat)) : List Rw := sidesN fs sp many ++ bendsN fs sp (xw many us cs)
theorem sidesN_succ (fs : List (List Rat)) (sp : List (Rat × Rat)) (n : Nat) : sidesN fs sp (n + 1) = sidesN fs sp n ++ sideR (fs.getD n []) (sp.getD n (0, 0)) := by
 unfold sidesN
 rw [List.range_succ, List.flatMap_append]
 simp
theorem Z8 (fs : List (List Rat)) (sp : List (Rat × Rat)) : ∀ n, (sidesN fs sp n).length = 2 * n
 | 0 => rfl
 | n + 1 => by rw [sidesN_succ, List.length_append, Z8 fs sp n]; show 2 * n + 2 = _; omega
theorem bendsN_snoc (fs : List (List Rat)) (sp : List (Rat × Rat)) (ks : List (Sta × Nat × Nat)) (x : Sta × Nat × Nat) : bendsN fs sp (ks ++ [x]) = bendsN fs sp ks ++ bendR x.1 (fs.getD x.2.1 []) (fs.getD x.2.2 []) (sp.getD x.2.1 (0, 0)) := by
 unfold bendsN
 rw [List.flatMap_append]
 simp
theorem bendR_len (x : Sta) (f own : List Rat) (s : Rat × Rat) : (bendR x f own s).length ≤ 3 := by cases x <;> simp [bendR]
theorem Vk (fs : List (List Rat)) (sp : List (Rat × Rat)) : ∀ ks : List (Sta × Nat × Nat), (bendsN fs sp ks).length ≤ 3 * ks.length
 | [] => Nat.le_refl _
 | x :: ks => by
  have ih := Vk fs sp ks
  have h := bendR_len x.1 (fs.getD x.2.1 []) (fs.getD x.2.2 []) (sp.getD x.2.1 (0, 0))
  show (bendR x.1 _ _ _ ++ bendsN fs sp ks).length ≤ _
  rw [List.length_append, List.length_cons]
  omega
def RowsIn (K : Fg9) (a : Adr) (H : Hp) (pn lc lf lw : Addr) (vf vw : List V) (many : Nat) (us : List Un) (cs : List Sta) (fs : List (List Rat)) (sp : List (Rat × Rat)) (n : Nat) : Prop := NetT K a H pn many us ∧ SqL K H lc (staV cs) ∧ SqL K H lf vf ∧ FL K H vf fs ∧ SqL K H lw vw ∧ SL K H vw sp ∧ NetC many us cs ∧ fs.length = many + us.length ∧ sp.length = many + us.length ∧ (∀ f ∈ fs, F14 n f) ∧ (∀ s ∈ sp, Bs 14 1000 s) ∧ n ≤ 40
def spRowsBy (K : Fg9) (a : Adr) : Sp := fun vs H Q _ => ∃ (pn lc lf lw : Addr) (vf vw : List V) (many : Nat) (us : List Un) (cs : List Sta) (fs : List (List Rat)) (sp : List (Rat × Rat)) (n : Nat), vs = [.ref pn, .ref lc, .ref lf, .ref lw] ∧ RowsIn K a H pn lc lf lw vf vw many us cs fs sp n ∧ RetRows K H Q (rowsN many us cs fs sp)
theorem V6 {α : Type} {xs : List α} {i : Nat} {d : α} {p : α → Prop} (hi : i < xs.length) (h : ∀ x ∈ xs, p x) : p (xs.getD i d) := by
 have e : xs[i]? = some xs[i] := gE9 hi
 rw [Z4 _ e]
 exact h _ (List.mem_of_getElem? e)
abbrev Vq (P w K mg base) (a : Adr) (cdv A outer s H E) := (cxOf CX0 P w K mg base ["net", "case", "forms", "widths", "rows", "place", "state", "own"] "rows_by" (qQ wW) a.f_rows_by cdv A outer s H E).nox
set_option maxHeartbeats 0 in
theorem ok_rows_by (T : Txt K mg a) : FnOk P w K mg base CX0 7 a.f_rows_by a.d_rows_by ["net", "case", "forms", "widths"] (spRowsBy K a) := by
 refine T.F_rows_by.ok Z9 (fun vs H Q E h => ?_) (fun cdv A outer s H vs Q E hr h => ?_)
 ·obtain ⟨_, _, _, _, _, _, _, _, _, _, _, _, rfl, _⟩ := h
  rfl
 obtain ⟨pn, lc, lf, lw, vf, vw, many, us, cs, fs, sp, n, rfl, ⟨NT, hc, hf, rf, hw, rw', NC, lfs, lsp, ffs, szs, n40⟩, q⟩ := h
 have h0 : PS (Vq P w K mg base a cdv A outer s H E) (bS wW 0) _ := (zk (i := 4) Z9.nd rfl (Or.inl rfl) (j7 qj))
 have h1 : PS (Vq P w K mg base a cdv A outer s H E) (bS wW 1) _ := (kj PassesOwn.never rfl (xj rfl T.m_range (pa_c (pe_ix qY (Z0 (pv 0) T.C_Net T.t_Net_told (QY T) (hr.mono (by decide)) T.b_Net_told .nil pass0) qk (fun _ _ => rfl)) qj)) (zx (i := 5) Z9.nd rfl (Or.inl rfl))
    (qV (xY (pe_bm PySem.F.plainAttrs_list PySem.F.slot_list_extend PySem.F.type_list_extend mt_extend (pv 4) (pa_c (qK (ok_side_rows T) (hr.mono (by decide)) rfl T.m_side_rows T.F_side_rows.kp T.b_side_rows .nil pass0 (pa_c (pe_ix yk (pv 2) (pv 5) (fun _ _ => rfl)) (pa_c (pe_ix yk (pv 3) (pv 5) (fun _ _ => rfl)) qj)) (he := qz rfl _ _) (hpl := qZ rfl)) qj) (hs := qz rfl _ _) (hplain := qZ rfl)))))
 have h2 : PS (Vq P w K mg base a cdv A outer s H E) (bS wW 2) _ := (kj PassesOwn.never rfl (pi_zip3 rfl T.m_zip (pa_c (pv 1) (pa_c (qK (ok_bent_places T) (hr.mono (by decide)) rfl T.m_bent_places T.F_bent_places.kp T.b_bent_places .nil pass0 (pa_c (pv 0) qj) (he := qz rfl _ _) (hpl := qZ rfl)) (pa_c (Z0 (pv 0) T.C_Net T.t_Net_bends (ok_Net_bends T) (hr.mono (by decide)) T.b_Net_bends .nil pass0) qj)))) (jW rfl (zy (zx (i := 6) Z9.nd rfl (Or.inl rfl)) (zy (zx (i := 5) Z9.nd rfl (Or.inl rfl)) (zy (zx (i := 7) Z9.nd rfl (Or.inl rfl)) yK))))
    (qV (xY (pe_bm PySem.F.plainAttrs_list PySem.F.slot_list_extend PySem.F.type_list_extend mt_extend (pv 4) (pa_c (qK (ok_bend_rows T) (hr.mono (by decide)) rfl T.m_bend_rows T.F_bend_rows.kp T.b_bend_rows .nil pass0 (pa_c (pv 6) (pa_c (pe_ix yk (pv 2) (pv 5) (fun _ _ => rfl)) (pa_c (pe_ix yk (pv 2) (pv 7) (fun _ _ => rfl)) (pa_c (pe_ix yk (pv 3) (pv 5) (fun _ _ => rfl)) qj)))) (he := qz rfl _ _) (hpl := qZ rfl)) qj) (hs := qz rfl _ _) (hplain := qZ rfl)))))
 have h3 : PS (Vq P w K mg base a cdv A outer s H E) (bS wW 3) _ := (zw (pv 4))
 refine body4 (by rfl) h0 h1 h2 h3 ?_
 intros
 clear h0 h1 h2 h3
 obtain ⟨wf, l12, shr, m6, lcs⟩ := id NC
 have lT := bendT_fil us
 have lP := Yy us many
 have lfil : (us.filter isB).length ≤ us.length := List.length_filter_le _ _
 refine ⟨(by decide), fun lr hlr => ?_⟩
 have g0 := qy hlr (.lst [])
 obtain ⟨lu, lo, vk, outs, hNa, hu, rk, ho⟩ := NT.mono g0
 obtain ⟨dx, hN⟩ := id hNa
 refine ⟨_, rfl, pn, dx, _, rfl, hN, rfl, pn, lu, lo, many, vk, us, outs, rfl, hNa, hu, rk, by omega, ho, fun t l2 o2 vu H1 g1 ht _ _ _ _ _ => ?_⟩
 have g01 := g0.trans g1
 have er1 := g1 _ _ (qv (H := H) (a := lr) (o := .lst []))
 generalize upd H lr (.lst []) = H0 at *
 clear hN hNa hu rk ho
 have nr : ∀ l, (H l = none ∧ l ≠ lr) → l ≠ lr := fun _ h => h.2
 refine ⟨_, _, _, _, rfl, rfl, ht, rfl, (many : Int), rfl, by omega, by omega, vy (n := many) (fun i σ H' => Same H H' ∧ ∃ (vr : List V) (u5 u6 u7 u8 : Option V), σ = [some (.ref pn), some (.ref lc), some (.ref lf), some (.ref lw), some (.ref lr), u5, u6, u7] ∧ u8 = u8 ∧ H' lr = some (.lst vr) ∧ RB (fun m => H m = none ∧ m ≠ lr) K H' vr (sidesN fs sp i))
  ⟨g01, [], _, _, _, none, rfl, rfl, er1, .nil⟩ ?_ ?_ ?_⟩
 case refine_2 =>
  rintro i σ H' hi _
  show i < (many : Int).toNat
  omega
 case refine_3 =>
  rintro i σ H0' x H' hi ⟨g, vr, u5, u6, u7, u8, rfl, _, er, rr⟩ ⟨rfl, rfl⟩
  obtain ⟨lg, wg, eg, hg, rg⟩ := FL.getD (rf.mono g) (i := i) (by omega)
  obtain ⟨vs, evs, hs⟩ := SL.getD (rw'.mono g) (i := i) (by omega)
  have lrr := RB.length rr
  rw [Z8] at lrr
  have eI : ∀ {xs : List V} {v : V}, xs[i]? = some v → atI xs (0 + (i : Int)) = some v := fun e => by rw [Int.zero_add]; exact atN e
  refine ⟨_, rfl, .inl ⟨rfl, _, SqL.of er⟩, _, rfl, _, rfl, lf, _, _, _, rfl, rfl, g.seq hf, eI eg, _, rfl, _, rfl, lw, _, _, _, rfl, rfl, g.seq hw, eI evs, lg, vs, wg, _, _, n, rfl, hg, rg, hs, V6 (by omega) ffs, V6 (by omega) szs, n40, fun l3 H3 w3 n3 g3 e3 r3 => ?_⟩
  have er3 := g3 _ _ er
  have l3w := RB.length r3
  have l3w : w3.length = 2 := l3w
  refine ⟨lr, l3, vr, w3, rfl, rfl, er3, e3, by have := zj (n := vr.length + w3.length) (by omega); omega, ?_⟩
  refine ⟨(g.trans g3).laid hlr _, vr ++ w3, _, _, _, none, rfl, rfl, qv, ?_⟩
  rw [sidesN_succ]
  exact RB.at (RB.app (rr.mono g3) (r3.imp fun m ws b e => ⟨zQ g b.1, Ne.symm (zK er b.1)⟩)) nr er3
 rintro σ H2 ⟨g2, vr, u5, u6, u7, u8, rfl, _, er, rr⟩
 refine ⟨Nat.le_refl _, ?_⟩
 clear g01 g0 g1 er1 ht
 refine ⟨_, rfl, _, rfl, pn, many, us, rfl, NT.mono g2, by omega, fun l3 H3 n3 g3 e3 => ?_⟩
 have g23 := g2.trans g3
 obtain ⟨lu, lo, vk, outs, hNa, hu, rk, ho⟩ := NT.mono g23
 obtain ⟨dx, hN⟩ := id hNa
 refine ⟨_, rfl, pn, dx, _, rfl, hN, rfl, pn, many, us, rfl, ⟨lu, lo, vk, hNa, hu, rk⟩, by omega, fun l4 H4 n4 g4 e4 => ?_⟩
 have g24 := g23.trans g4
 have g34 := g3.trans g4
 have lO3 : (outV (bendT us)).length = (bendT us).length := by unfold outV; rw [List.length_map]
 have lO4 : (outV (bendP many us)).length = (bendP many us).length := by unfold outV; rw [List.length_map]
 have lsc := staV_len cs
 have n3r : l3 ≠ lr := Ne.symm (zK er n3)
 have n4r : l4 ≠ lr := Ne.symm (zK (g3 _ _ er) n4)
 have lB : (xw many us cs).length = cs.length := by
  unfold xw
  rw [List.length_zip, List.length_zip]
  omega
 refine ⟨lc, l3, l4, rfl, ⟨_, g24.seq hc⟩, ⟨_, SqL.of (g4 _ _ e3)⟩, ⟨_, SqL.of e4⟩, vy (n := cs.length) (fun i σ H' => Same H H' ∧ H' l3 = some (.lst (outV (bendT us))) ∧ H' l4 = some (.lst (outV (bendP many us))) ∧ ∃ (vr : List V) (u5 u6 u7 u8 : Option V), σ = [some (.ref pn), some (.ref lc), some (.ref lf), some (.ref lw), some (.ref lr), u5, u6, u7] ∧ u8 = u8 ∧ H' lr = some (.lst vr) ∧ RB (fun m => H m = none ∧ m ≠ lr) K H' vr (sidesN fs sp many ++ bendsN fs sp ((xw many us cs).take i)))
  ⟨g24, g4 _ _ e3, e4, vr, _, _, _, none, rfl, rfl, g34 _ _ er, by rw [List.take_zero]; show RB _ _ _ _ (_ ++ []); rw [List.append_nil]; exact rr.mono g34⟩ ?_ ?_ ?_⟩
 case refine_1 =>
  rintro σ H' ⟨g, k3, k4, vr, u5, u6, u7, u8, rfl, _, er, rr⟩
  rw [List.take_of_length_le (by omega)] at rr
  exact ⟨⟨_, _, _, g.seq hc, SqL.of k3, SqL.of k4, by omega⟩, _, rfl, q lr H' vr hlr g er rr⟩
 case refine_2 =>
  rintro i σ H' hi ⟨g, k3, k4, _⟩
  exact ⟨_, _, _, _, _, _, g.seq hc, SqL.of k3, SqL.of k4, gE9 (by omega), gE9 (by omega), gE9 (by omega)⟩
 rintro i σ H0' x H' hi ⟨g, k3, k4, vr, u5, u6, u7, u8, rfl, _, er, rr⟩ ⟨pp, x1, x2, x3, hpp, rfl, rfl, y1, y2, y3⟩
 obtain ⟨st, est, rfl⟩ := sta_at (y1 _ (g.seq hc))
 obtain ⟨p, ep, rfl⟩ := out_at (y2 _ (SqL.of k3))
 obtain ⟨o, eo, rfl⟩ := out_at (y3 _ (SqL.of k4))
 have hp := bendT_lt wf p (List.mem_of_getElem? ep)
 have ho' := bendP_lt us many o (List.mem_of_getElem? eo)
 have j := qy hpp (.tup [.str st.s, .int (p : Int), .int (o : Int)])
 have gj := g.trans j
 have eB : (xw many us cs)[i]? = some (st, p, o) := by
  unfold xw
  rw [List.getElem?_zip_eq_some]
  exact ⟨est, by rw [List.getElem?_zip_eq_some]; exact ⟨ep, eo⟩⟩
 obtain ⟨lg, wg, eg, hg, rg⟩ := FL.getD (rf.mono gj) (i := p) (by omega)
 obtain ⟨lh, wh, eh, hh, rh⟩ := FL.getD (rf.mono gj) (i := o) (by omega)
 obtain ⟨vs, evs, hs⟩ := SL.getD (rw'.mono gj) (i := p) (by omega)
 have er' := j _ _ er
 have lrr := RB.length rr
 have lbn := Vk fs sp ((xw many us cs).take i)
 rw [List.length_append, Z8] at lrr
 rw [List.length_take] at lbn
 refine ⟨pp, _, rfl, SqT.of qv, rfl, _, _, rfl, _, _, rfl, _, _, rfl, rfl, ?_⟩
 refine ⟨_, rfl, .inl ⟨rfl, _, SqL.of er'⟩, _, rfl, _, rfl, _, rfl, lf, _, _, _, rfl, rfl, gj.seq hf, atN eg, _, rfl, _, rfl, lf, _, _, _, rfl, rfl, gj.seq hf, atN eh, _, rfl, _, rfl, lw, _, _, _, rfl, rfl, gj.seq hw, atN evs, st, lg, lh, vs, wg, wh, _, _, _, n, rfl, hg, rg, hh, rh, hs, V6 (by omega) ffs, V6 (by omega) ffs, V6 (by omega) szs, n40, fun l5 H5 w5 n5 g5 e5 r5 => ?_⟩
 have er5 := g5 _ _ er'
 have l5w := RB.length r5
 have l5b := bendR_len st (fs.getD p []) (fs.getD o []) (sp.getD p (0, 0))
 have j5 := j.trans g5
 refine ⟨lr, l5, vr, w5, rfl, rfl, er5, e5, by have := zj (n := vr.length + w5.length) (by omega); omega, ?_⟩
 refine ⟨(g.trans j5).laid hlr _, by rw [y7 n3r]; exact j5 _ _ k3, by rw [y7 n4r]; exact j5 _ _ k4, vr ++ w5, _, _, _, none, rfl, rfl, qv, ?_⟩
 rw [zY eB, bendsN_snoc, ← List.append_assoc]
 exact RB.at (RB.app (rr.mono j5) (r5.imp fun m ws b e => ⟨zQ gj b.1, Ne.symm (zK er' b.1)⟩)) nr er5
def RowsC (K : Fg9) (a : Adr) (H : Hp) (pn pb lc : Addr) (many : Nat) (us : List Un) (outs : List Nat) (ss : List (Rat × Rat)) (cs : List Sta) : Prop := Jj K a H pn pb many us outs ss ∧ SqL K H lc (staV cs) ∧ NetC many us cs ∧ ss.length = many ∧ ∀ s ∈ ss, Bs 2 70 s
def rowsC (many : Nat) (us : List Un) (ss : List (Rat × Rat)) (cs : List Sta) : List Rw := rowsN many us cs (runF many (many + opens cs) cs us).1 (spanN ss us)
def spRows (K : Fg9) (a : Adr) : Sp := fun vs H Q _ => ∃ (pn pb lc : Addr) (many : Nat) (us : List Un) (outs : List Nat) (ss : List (Rat × Rat)) (cs : List Sta), vs = [.ref pn, .ref pb, .ref lc] ∧ RowsC K a H pn pb lc many us outs ss cs ∧ RetRows K H Q (rowsC many us ss cs)
theorem JW {many : Nat} {us : List Un} {ss : List (Rat × Rat)} {cs : List Sta} (NC : NetC many us cs) (lss : ss.length = many) (sz : ∀ s ∈ ss, Bs 2 70 s) :
  (runF many (many + opens cs) cs us).1.length = many + us.length ∧ (spanN ss us).length = many + us.length ∧ (∀ f ∈ (runF many (many + opens cs) cs us).1, F14 (many + opens cs) f) ∧ (∀ s ∈ spanN ss us, Bs 14 1000 s) ∧ many + opens cs ≤ 40 := by
 obtain ⟨wf, l12, shr, m6, lcs⟩ := NC
 have oc := opens_le cs
 have lfil : (us.filter isB).length ≤ us.length := List.length_filter_le _ _
 obtain ⟨f1, f2, f3⟩ := ZZ (n := many + opens cs) (cs := cs) wf shr us.length (Nat.le_refl _)
 rw [List.take_of_length_le (Nat.le_refl _)] at f1 f2 f3
 have k := spanN_sz sz us shr us.length
 rw [List.take_of_length_le (Nat.le_refl _)] at k
 exact ⟨f1, by rw [spanN_len, lss], fun f hf => (f3 f hf).mono (by omega) (by omega), fun s hs => ⟨(k s hs).1.mono (by omega) (by omega), (k s hs).2.mono (by omega) (by omega)⟩, by omega⟩
theorem Jj.net {K : Fg9} {a : Adr} {H : Hp} {pn pb : Addr} {many : Nat} {us : List Un} {outs : List Nat} {ss : List (Rat × Rat)} (h : Jj K a H pn pb many us outs ss) : NetT K a H pn many us := by
 obtain ⟨lu, lo, mB, vk, vB, h1, h2, h3, h4, h5, h6, h7⟩ := h
 exact ⟨lu, lo, vk, outs, h1, h2, h3, h4⟩
set_option maxHeartbeats 0 in
theorem ok_rows_in (T : Txt K mg a) : FnOk P w K mg base CX0 8 a.f_rows_in a.d_rows_in ["net", "box", "case"] (spRows K a) := by
 refine T.F_rows_in.ok sc_rows_in (fun vs H Q E h => ?_) (fun cdv A outer s H vs Q E hr h => ?_)
 ·obtain ⟨_, _, _, _, _, _, _, _, rfl, _⟩ := h
  rfl
 obtain ⟨pn, pb, lc, many, us, outs, ss, cs, rfl, ⟨NB, hc, NC, lss, sz⟩, q⟩ := h
 obtain ⟨f1, f2, f3, f4, f5⟩ := JW NC lss sz
 refine ⟨_, (qV (zw (qK (ok_rows_by T) (hr.mono (by decide)) rfl T.m_rows_by T.F_rows_by.kp T.b_rows_by .nil pass0 (pa_c (pv 0) (pa_c (pv 2) (pa_c (qK (ok_forms_in T) (hr.mono (by decide)) rfl T.m_forms_in T.F_forms_in.kp T.b_forms_in .nil pass0 (pa_c (pv 0) (pa_c (pv 2) qj)) (he := qz rfl _ _) (hpl := qZ rfl)) (pa_c (qK (ok_spans T) (hr.mono (by decide)) rfl T.m_spans T.F_spans.kp T.b_spans .nil pass0 (pa_c (pv 0) (pa_c (pv 1) qj)) (he := qz rfl _ _) (hpl := qZ rfl)) qj)))) (he := qz rfl _ _) (hpl := qZ rfl)))), ?_⟩
 refine ⟨_, rfl, _, rfl, _, rfl, _, rfl, pn, lc, many, us, cs, rfl, NB.net, hc, NC, fun lf vf H1 nlf g1 ef rf nd => ?_⟩
 refine ⟨_, rfl, _, rfl, pn, pb, many, us, outs, ss, rfl, NB.mono g1, NC.1, NC.2.1, NC.2.2.1, lss, sz, NC.2.2.2.1, fun lw H2 vw nlw g2 ew rw' => ?_⟩
 have g := g1.trans g2
 refine ⟨pn, lc, lf, lw, vf, vw, many, us, cs, _, _, _, rfl, ⟨(NB.mono g).net, g.seq hc, SqL.of (g2 _ _ ef), rf.fl.mono g2, SqL.of ew, rw', NC, f1, f2, f3, f4, f5⟩, fun l H' vs nl g3 e3 r3 => ?_⟩
 exact q l H' vs (zQ g nl) (g.trans g3) e3 (r3.imp fun m ws b _ => ⟨zQ g b.1, b.2⟩)
def spRatio : Sp := fun vs H Q _ => ∃ t b : Int, vs = [.int t, .int b] ∧ b ≠ 0 ∧ Sm 8000 b ∧ RetT H Q (T2 (nt t b) (nb t b))
theorem ok_ratio (T : Txt K mg a) : FnOk P w K mg base CX0 2 a.f_ratio a.d_ratio ["top", "bottom"] spRatio := by
 refine T.F_ratio.ok sc_ratio (fun vs H Q E h => ?_) (fun cdv A outer s H vs Q E hr h => ?_)
 ·obtain ⟨x, y, rfl, _⟩ := h
  rfl
 obtain ⟨t, b, rfl, hb, hs, q⟩ := h
 refine ⟨_, (qW (ps_if (PW.pt (pw_or (jQ (yX (qK (Y6 T) (hr.mono (by decide)) rfl T.m_is_whole T.F_is_whole.kp T.b_is_whole .nil pass0 (pa_c (pv 0) qj) (he := qz rfl _ _) (hpl := qZ rfl)))) (pw_or (jQ (yX (qK (Y6 T) (hr.mono (by decide)) rfl T.m_is_whole T.F_is_whole.kp T.b_is_whole .nil pass0 (pa_c (pv 1) qj) (he := qz rfl _ _) (hpl := qZ rfl)))) (xv (zJ op_eq (pv 1) qk (zX _))))))
    (qV jw)
    zW)
   (qW (zk (i := 2) sc_ratio.nd rfl (Or.inl rfl) (qK (ZK T) (hr.mono (by decide)) rfl T.m_common T.F_common.kp T.b_common .nil pass0 (pa_c (zq (Z6) rfl T.m_abs boot_abs (pa_c (pv 0) qj) (he := qz rfl _ _) (hpl := qZ rfl)) (pa_c (zq (Z6) rfl T.m_abs boot_abs (pa_c (pv 1) qj) (he := qz rfl _ _) (hpl := qZ rfl)) qj)) (he := qz rfl _ _) (hpl := qZ rfl)))
   (qW (ps_if (zJ op_lt (pv 1) qk (zX _))
    (qV (zk (i := 2) sc_ratio.nd rfl (Or.inl rfl) (pe_un Z7 (pv 2))))
    zW)
   (qV (zw (yq (pa_c (pe_op yz (pv 0) (pv 2)) (pa_c (pe_op yz (pv 1) (pv 2)) qj)))))))), ?_⟩
 refine ⟨_, rfl, _, rfl, _, rfl, iteF ⟨_, rfl, _, rfl, _, rfl, iteF ⟨_, rfl, rfl, _, rfl, iteN (fun z => hb (V.int.inj z)) ?_⟩⟩⟩
 refine ⟨_, rfl, _, rfl, _, rfl, _, rfl, _, _, rfl, abs_nn _, abs_nn _, ?_⟩
 refine ⟨_, rfl, _, _, rfl, rfl, _, rfl, ?_⟩
 try dsimp only
 rw [abs_gcd]
 have d1 := divB (t := t) hb hs
 refine iteD (fun c => ?_) (fun c => ?_)
 ·have e : -((Int.gcd t b : Nat) : Int) = sg t b := by unfold sg; rw [if_pos c]
  refine ⟨_, rfl, _, rfl, ?_⟩
  try dsimp only
  rw [e]
  exact ⟨_, rfl, _, rfl, _, _, rfl, rfl, d1, _, rfl, _, rfl, _, _, rfl, rfl, d1, y9, fun p hp => q.new hp⟩
 ·have e : ((Int.gcd t b : Nat) : Int) = sg t b := by unfold sg; rw [if_neg c]
  try dsimp only
  rw [e]
  exact ⟨_, rfl, _, rfl, _, _, rfl, rfl, d1, _, rfl, _, rfl, _, _, rfl, rfl, d1, y9, fun p hp => q.new hp⟩
theorem rat_num (q : Rat) : (q.num : Rat) = q * ((q.den : Int) : Rat) := by
 have h := Rat.num_divInt_den q
 have d : ((q.den : Int) : Rat) ≠ 0 := by
  intro z
  have := Rat.intCast_inj.mp (show ((q.den : Int) : Rat) = ((0 : Int) : Rat) from z)
  exact Z5 q this
 have e : Rat.divInt q.num q.den = (q.num : Rat) / ((q.den : Int) : Rat) := Rat.divInt_eq_div _ _
 rw [e] at h
 have k : (q.num : Rat) = (q.num : Rat) / ((q.den : Int) : Rat) * ((q.den : Int) : Rat) := (Rat.div_mul_cancel d).symm
 rw [h] at k
 exact k
theorem top_rat {t u : Int} {v : Rat} (hu : u ≠ 0) (h : (t : Rat) = v * (u : Rat)) : nt t u = v.num ∧ nb t u = (v.den : Int) := by
 have e := n_rat (t := t) hu
 have d : (u : Rat) ≠ 0 := by
  intro z
  exact hu (Rat.intCast_inj.mp (show (u : Rat) = ((0 : Int) : Rat) from z))
 have e2 : Rat.divInt t u = v := by rw [Rat.divInt_eq_div, h, Rat.mul_div_cancel d]
 rw [e2] at e
 exact e
theorem first_rat {u : Int} {c : Rat} (hd : (c.den : Int) ∣ u) : ((c.num * u.fdiv (c.den : Int) : Int) : Rat) = c * (u : Rat) := by
 obtain ⟨k, e⟩ := hd
 have e2 : u.fdiv (c.den : Int) = k := by rw [e]; exact Int.mul_fdiv_cancel_left k (Z5 c)
 rw [e2, Rat.intCast_mul, rat_num c, e, Rat.intCast_mul]
 grind
theorem rat_one {L : Int} (h : 0 < L) : (Rat.divInt 1 L).num = 1 ∧ ((Rat.divInt 1 L).den : Int) = L := rat_of ⟨h, by rw [Int.gcd_comm]; simp⟩
theorem d0_lt (d : Nat) : D0 ^ d < 2 ^ (37 * d + 1) := by
 refine Nat.lt_of_le_of_lt (Nat.pow_le_pow_left (show D0 ≤ 2 ^ 37 by decide) d) ?_
 rw [← Nat.pow_mul]
 exact Nat.pow_lt_pow_right (by decide) (Nat.lt_succ_self _)
theorem d0_pos (d : Nat) : 0 < D0 ^ d := Nat.pow_pos (by decide)
def spOver1 (K : Fg9) : Sp := fun vs H Q _ => ∃ (p r : Addr) (x : Rat) (L : Int), vs = [.ref p, .ref r] ∧ SqT K H p (TQ x) ∧ SqT K H r (T2 L 1) ∧ 0 < L ∧ SmQ 4000 x ∧ Sm 4000 L ∧ RetT H Q (TQ (x * Rat.divInt 1 L))
theorem ok_over (T : Txt K mg a) : FnOk P w K mg base CX0 3 a.f_over a.d_over ["one", "other"] (spOver1 K) := by
 refine T.F_over.ok sc_over (fun vs H Q E h => ?_) (fun cdv A outer s H vs Q E hr h => ?_)
 ·obtain ⟨_, _, _, _, rfl, _⟩ := h
  rfl
 obtain ⟨p, r, x, L, rfl, hp, hq, hL, sx, sL, q⟩ := h
 refine ⟨_, (qW (ps_if (zJ op_eq (pe_ix qY (pv 1) qk (fun _ _ => rfl)) qk (zX _))
    (qV jw)
    zW)
   (qW (ps_if (zJ op_lt (pe_ix qY (pv 1) qk (fun _ _ => rfl)) qk (zX _))
    (qV (zw (qK (YX T) (hr.mono (by decide)) rfl T.m_times T.F_times.kp T.b_times .nil pass0 (pa_c (pv 0) (pa_c (yq (pa_c (pe_un Z7 (pe_ix qY (pv 1) qk (fun _ _ => rfl))) (pa_c (pe_un Z7 (pe_ix qY (pv 1) qk (fun _ _ => rfl))) qj))) qj)) (he := qz rfl _ _) (hpl := qZ rfl))))
    zW)
   (qV (zw (qK (YX T) (hr.mono (by decide)) rfl T.m_times T.F_times.kp T.b_times .nil pass0 (pa_c (pv 0) (pa_c (yq (pa_c (pe_ix qY (pv 1) qk (fun _ _ => rfl)) (pa_c (pe_ix qY (pv 1) qk (fun _ _ => rfl)) qj))) qj)) (he := qz rfl _ _) (hpl := qZ rfl)))))), ?_⟩
 refine ⟨_, rfl, _, _, _, _, rfl, rfl, hq, rfl, rfl, _, rfl, iteN (fun z => by have := V.int.inj z; omega) ?_⟩
 refine ⟨_, rfl, _, _, _, _, rfl, rfl, hq, rfl, _, _, rfl, rfl, _, rfl, iteN (by omega) ?_⟩
 refine ⟨_, rfl, _, rfl, _, _, _, _, rfl, rfl, hq, rfl, _, rfl, _, _, _, _, rfl, rfl, hq, rfl, y9, fun t ht => ?_⟩
 have g := qy ht (.tup (T2 1 L))
 have e := rat_one hL
 have sl : SmQ 4000 (Rat.divInt 1 L) := ⟨by rw [e.1]; unfold Sm; exact Nat.one_lt_two_pow (by decide), by rw [e.2]; exact sL⟩
 refine ⟨p, t, x, Rat.divInt 1 L, rfl, g.tup hp, ?_, sx, sl, RetT.mono q g⟩
 unfold TQ
 rw [e.1, e.2]
 exact SqT.of qv
def Over1 (ts : List Int) (bot : Int) (qs : List Rat) : Prop := ts.length = qs.length ∧ ∀ (i : Nat) (t : Int) (q : Rat), ts[i]? = some t → qs[i]? = some q → (t : Rat) = q * (bot : Rat)
theorem lcm_dv {b d : Int} {D : Nat} (hb : 0 < b) (hd : 0 < d) (h1 : b ∣ (D : Int)) (h2 : d ∣ (D : Int)) : b.fdiv ((Int.gcd b d : Nat) : Int) * d ∣ (D : Int) := by
 have gp : 0 < Int.gcd b d := Int.gcd_pos_of_ne_zero_left d (by omega)
 obtain ⟨x, ex⟩ := Int.gcd_dvd_left b d
 have gne : ((Int.gcd b d : Nat) : Int) ≠ 0 := by omega
 have e : b.fdiv ((Int.gcd b d : Nat) : Int) = x := by
  have h := Int.mul_fdiv_cancel_left x gne
  rw [← ex] at h
  exact h
 rw [e]
 have k : ((Int.gcd b d : Nat) : Int) * (x * d) = ((Int.gcd b d : Nat) : Int) * ((Int.lcm b d : Nat) : Int) := by
  rw [← Int.mul_assoc, ← ex, ← Int.natCast_mul, Int.gcd_mul_lcm, Int.natCast_mul, Int.natAbs_of_nonneg (show 0 ≤ b by omega), Int.natAbs_of_nonneg (show 0 ≤ d by omega)]
 rw [Int.eq_of_mul_eq_mul_left gne k]
 exact Int.natCast_dvd_natCast.mpr (Int.lcm_dvd h1 h2)
theorem dvd_sm {u : Int} {D X : Nat} (h : u ∣ (D : Int)) (h0 : 0 < D) (hX : D < 2 ^ X) : Sm X u := by
 have k : u.natAbs ∣ D := by
  have := Int.natAbs_dvd_natAbs.mpr h
  rwa [Int.natAbs_natCast] at this
 exact Nat.lt_of_le_of_lt (Nat.le_of_dvd h0 k) hX
def spOob (K : Fg9) : Sp := fun vs H Q _ => ∃ (l : Addr) (v : List V) (qs : List Rat) (B D X : Nat), vs = [.ref l] ∧ SqL K H l v ∧ RL K H v qs ∧ (∀ q ∈ qs, SmQ B q ∧ q.den ∣ D) ∧ qs.length ≤ 100 ∧ 0 < D ∧ D < 2 ^ X ∧ X ≤ 8000 ∧ B ≤ 8000 ∧ ∀ (p H' ls : _) (ts : List Int) (bot : Int), Same H H' → H' p = some (.tup [.ref ls, .int bot]) → H' ls = some (.lst (ts.map V.int)) → H ls = none → 0 < bot → bot ∣ (D : Int) → (∀ t ∈ ts, Sm 16001 t) → Over1 ts bot qs → Q (.ref p) H'
theorem lcm_step {b d : Int} (hb : 0 < b) (hd : 0 < d) : 0 < b.fdiv ((Int.gcd b d : Nat) : Int) * d ∧ b ∣ b.fdiv ((Int.gcd b d : Nat) : Int) * d ∧ d ∣ b.fdiv ((Int.gcd b d : Nat) : Int) * d := by
 have gp : 0 < Int.gcd b d := Int.gcd_pos_of_ne_zero_left d (by omega)
 obtain ⟨x, ex⟩ := Int.gcd_dvd_left b d
 obtain ⟨y, ey⟩ := Int.gcd_dvd_right b d
 have gne : ((Int.gcd b d : Nat) : Int) ≠ 0 := by omega
 have e : b.fdiv ((Int.gcd b d : Nat) : Int) = x := by
  have h := Int.mul_fdiv_cancel_left x gne
  rw [← ex] at h
  exact h
 rw [e]
 have xp : 0 < x := by
  rcases Int.lt_trichotomy x 0 with z | z | z
  ·have := Int.mul_neg_of_pos_of_neg (show 0 < ((Int.gcd b d : Nat) : Int) by omega) z; omega
  ·rw [z] at ex; omega
  ·exact z
 refine ⟨Int.mul_pos xp hd, ⟨y, ?_⟩, ⟨x, Int.mul_comm _ _⟩⟩
 calc x * d = x * (((Int.gcd b d : Nat) : Int) * y) := by rw [← ey]
  _ = (((Int.gcd b d : Nat) : Int) * x) * y := by ac_rfl
  _ = b * y := by rw [← ex]
abbrev Qz (P w K mg base) (a : Adr) (cdv A outer s H E) := (cxOf CX0 P w K mg base ["several", "bottom", "one"] "over_one_bottom" (qQ yx) a.f_over_one_bottom cdv A outer s H E).nox
theorem YK (T : Txt K mg a) : FnOk P w K mg base CX0 2 a.f_over_one_bottom a.d_over_one_bottom ["several"] (spOob K) := by
 refine T.F_over_one_bottom.ok kX (fun vs H Q E h => ?_) (fun cdv A outer s H vs Q E hr h => ?_)
 ·obtain ⟨_, _, _, _, _, _, rfl, _⟩ := h
  rfl
 obtain ⟨l, v, qs, B, D, X, rfl, hl, r, sq, l100, D0', DX, X8, B8, q⟩ := h
 have h0 : PS (Qz P w K mg base a cdv A outer s H E) (bS yx 0) _ := (zk (i := 1) kX.nd rfl (Or.inr rfl) qk)
 have h1 : PS (Qz P w K mg base a cdv A outer s H E) (bS yx 1) _ := (kj PassesOwn.never rfl (jV (pv 0)) (zx (i := 2) kX.nd rfl (Or.inl rfl))
    (qV (zk (i := 1) kX.nd rfl (Or.inr rfl) (pe_op jY (pe_op yz (pv 1) (qK (ZK T) (hr.mono (by decide)) rfl T.m_common T.F_common.kp T.b_common .nil pass0 (pa_c (pv 1) (pa_c (pe_ix qY (pv 2) qk (fun _ _ => rfl)) qj)) (he := qz rfl _ _) (hpl := qZ rfl))) (pe_ix qY (pv 2) qk (fun _ _ => rfl))))))
 have h2 : PS (Qz P w K mg base a cdv A outer s H E) (bS yx 2) _ := (zw (yq (pa_c (wK (N := ["one", "bottom"]) (ix := [none, some 1]) ⟨rfl, rfl, rfl, rfl, ⟨rfl, trivial⟩, rfl, ⟨⟨rfl, Or.inr (Or.inl rfl), Z3 rfl, rfl, Or.inl rfl⟩, trivial⟩⟩ rfl (jV (pv 0)) (fun _ => (zx (i := 0) (show (["one", "bottom"] : List Str).Nodup by decide +kernel) rfl (Or.inl rfl))) (fun _ σ => wV rfl σ) (fun _ => jk) (fun _ => (pe_op jY (pe_ix qY (pv 0) qk (fun _ _ => rfl)) (pe_op yz (pv 1) (pe_ix qY (pv 0) qk (fun _ _ => rfl)))))) (pa_c (pv 1) qj))))
 refine body3 (by rfl) h0 h1 h2 ?_
 intros
 clear h0 h1 h2
 have lv := r.length
 refine ⟨_, rfl, l, rfl, ⟨_, hl⟩, vy (n := qs.length) (fun i σ H' => H' = H ∧ ∃ (u : Int) (u2 : Option V), σ = [some (.ref l), some (.int u), u2] ∧ 0 < u ∧ u ∣ (D : Int) ∧ ∀ j x, j < i → qs[j]? = some x → (x.den : Int) ∣ u)
  ⟨rfl, _, _, rfl, by decide, ⟨(D : Int), (Int.one_mul _).symm⟩, fun j x hj _ => absurd hj (Nat.not_lt_zero _)⟩ ?_ ?_ ?_⟩
 case refine_2 =>
  rintro i σ H' hi ⟨rfl, u, u2, rfl, up, us, ds⟩
  exact ⟨_, _, hl, gE9 (by omega)⟩
 case refine_3 =>
  rintro i σ H' x H2 hi ⟨rfl, u, u2, rfl, up, ud, ds⟩ ⟨rfl, y1⟩
  have us := dvd_sm ud D0' DX
  obtain ⟨qa, ea, pa, rfl, ha⟩ := r.get (y1 _ hl)
  obtain ⟨sa, da⟩ := sq qa (List.mem_of_getElem? ea)
  have dp := (Q4 qa).pos
  have k := lcm_step up dp
  have gne : ((Int.gcd u (qa.den : Int) : Nat) : Int) ≠ 0 := by
   have := Int.gcd_pos_of_ne_zero_left (a := u) (qa.den : Int) (by omega)
   omega
  have gs : Sm B ((Int.gcd u (qa.den : Int) : Nat) : Int) := sa.2.gcd_right (Z5 qa)
  have gd : ((Int.gcd u (qa.den : Int) : Nat) : Int) ∣ u := Int.gcd_dvd_left u _
  refine ⟨_, rfl, _, rfl, _, rfl, _, _, _, _, rfl, rfl, ha, rfl, _, _, rfl, by omega, by omega, _, _, rfl, rfl, cdivB gne gs (by omega), _, rfl, _, _, _, _, rfl, rfl, ha, rfl, _, _, rfl, rfl, mulOk (us.fdiv gd gne) sa.2 (by omega), ?_⟩
  refine ⟨rfl, _, _, rfl, k.1, ?_, fun j x hj hx => ?_⟩
  ·exact lcm_dv up dp ud (Int.natCast_dvd_natCast.mpr da)
  ·by_cases e : j = i
   ·subst e
    rw [ea] at hx
    have e := Option.some.inj hx
    subst e
    exact k.2.2
   ·exact Int.dvd_trans (ds j x (by omega) hx) k.2.1
 rintro σ H' ⟨rfl, u, u2, rfl, up, ud, ds⟩
 have us := dvd_sm ud D0' DX
 refine ⟨⟨_, hl, by omega⟩, ?_⟩
 refine ⟨_, rfl, l, rfl, ⟨_, hl⟩, jq (n := qs.length) (fun i ys H2 => H2 = H' ∧ ∃ ts : List Int, ts.length = i ∧ ys = ts.map V.int ∧ (∀ t ∈ ts, Sm 16001 t) ∧ ∀ (j : Nat) (t : Int) (x : Rat), ts[j]? = some t → qs[j]? = some x → (t : Rat) = x * (u : Rat))
  ⟨rfl, [], rfl, rfl, fun t ht => (by cases ht), fun j t x h => (by simp at h)⟩ (zj (by omega)) ?_ ?_ ?_⟩
 case refine_2 =>
  rintro i ys H2 hi ⟨rfl, _⟩
  exact ⟨_, _, hl, gE9 (by omega)⟩
 case refine_3 =>
  rintro i m' ys H2 c x H3 hi ⟨rfl, ts, et, rfl, st, hts⟩ ⟨rfl, y1⟩ nx _
  obtain ⟨qa, ea, pa, rfl, ha⟩ := r.get (y1 _ hl)
  have sa := (sq qa (List.mem_of_getElem? ea)).1
  have dd := ds i qa hi ea
  refine Or.inl ⟨rfl, _, rfl, _, _, _, _, rfl, rfl, ha, rfl, _, rfl, _, rfl, _, _, _, _, rfl, rfl, ha, rfl, _, _, rfl, rfl, cdivB (Z5 qa) sa.2 (by omega), _, _, rfl, rfl, mulOk sa.1 (us.fdiv dd (Z5 qa)) (by omega), nx _ _ ⟨rfl, ts ++ [qa.num * u.fdiv (qa.den : Int)], by rw [List.length_append, et]; rfl, by rw [List.map_append]; rfl, fun t ht => ?_, fun j t x hj hx => ?_⟩⟩
  ·rcases List.mem_append.mp ht with z | z
   ·exact st t z
   ·rw [List.mem_singleton.mp z]
    exact (sa.1.mul (us.fdiv dd (Z5 qa))).mono (by omega)
  ·by_cases e : j < i
   ·rw [List.getElem?_append_left (by omega)] at hj
    exact hts j t x hj hx
   ·have hj' : j < (ts ++ [qa.num * u.fdiv (qa.den : Int)]).length := (List.getElem?_eq_some_iff.mp hj).1
    rw [List.length_append, List.length_singleton] at hj'
    have e2 : j = i := by omega
    subst e2
    rw [List.getElem?_append_right (by omega), et] at hj
    have e3 : qa.num * u.fdiv (qa.den : Int) = t := by simpa using hj
    rw [ea] at hx
    have e4 := Option.some.inj hx
    subst e4
    rw [← e3]
    exact first_rat dd
 rintro ys H2 ⟨rfl, ts, et, rfl, st, hts⟩
 refine ⟨⟨_, hl, by omega⟩, fun D hD => ?_⟩
 have gD := qy hD (.lst (ts.map V.int))
 refine ⟨_, rfl, y9, fun p hp => ?_⟩
 have gp := qy hp (.tup [.ref D, .int u])
 exact q p _ D ts u (gD.trans gp) qv (gp _ _ qv) hD up ud st ⟨et, hts⟩
def RowOk (K : Fg9) (H : Hp) (v : V) (row : List Rat × Rat) : Prop := ∃ t l b vs, v = .ref t ∧ SqT K H t [.ref l, .ref b] ∧ SqL K H l vs ∧ H l = some (.lst vs) ∧ RL K H vs row.1 ∧ SqT K H b (TQ row.2)
def RowL (K : Fg9) (H : Hp) (vs : List V) (rows : List (List Rat × Rat)) : Prop := Paired (RowOk K H) vs rows
theorem RowOk.mono {K : Fg9} {H H' : Hp} {v : V} {r : List Rat × Rat} (h : RowOk K H v r) (g : Same H H') : RowOk K H' v r := by
 obtain ⟨t, l, b, vs, e, h1, h2, h2', h3, h4⟩ := h
 exact ⟨t, l, b, vs, e, g.tup h1, g.seq h2, g _ _ h2', h3.mono g, g.tup h4⟩
theorem RowL.mono {K : Fg9} {H H' : Hp} {vs : List V} {rs : List (List Rat × Rat)} (h : RowL K H vs rs) (g : Same H H') : RowL K H' vs rs := Paired.mapP h fun _ _ q => q.mono g
theorem RowL.length {K : Fg9} {H : Hp} {vs : List V} {rs : List (List Rat × Rat)} (h : RowL K H vs rs) : vs.length = rs.length := Paired.length h
def mixQ : List (List Rat × Rat) → List Rat → List Rat → List Rat
 | (sh, bd) :: rows, p :: prices, acc => mixQ rows prices (List.zipWith (fun t q => t + p * q) acc (sh ++ [bd]))
 | _, _, acc => acc
theorem mixQ_snoc : ∀ (rows : List (List Rat × Rat)) (ps acc : List Rat) (r : List Rat × Rat) (p : Rat), rows.length = ps.length → mixQ (rows ++ [r]) (ps ++ [p]) acc = List.zipWith (fun t q => t + p * q) (mixQ rows ps acc) (r.1 ++ [r.2])
 | [], [], acc, r, p, _ => rfl
 | [], _ :: _, _, _, _, h => by cases h
 | _ :: _, [], _, _, _, h => by cases h
 | (sh, bd) :: rows, q :: ps, acc, r, p, h => mixQ_snoc rows ps _ r p (by simpa using h)
theorem JQ : ∀ (rows : List (List Rat × Rat)) (ps acc : List Rat) (n : Nat), acc.length = n + 1 → (∀ r ∈ rows, r.1.length = n) → (mixQ rows ps acc).length = n + 1
 | [], ps, acc, n, h, _ => by cases ps <;> exact h
 | _ :: _, [], acc, n, h, _ => h
 | (sh, bd) :: rows, q :: ps, acc, n, h, hr => by
  refine JQ rows ps _ n ?_ fun r hr' => hr r (List.mem_cons_of_mem _ hr')
  have := hr (sh, bd) List.mem_cons_self
  rw [List.length_zipWith, List.length_append, List.length_singleton, h]
  show min (n + 1) (sh.length + 1) = n + 1
  rw [this]; omega
def LineD (K : Fg9) (H : Hp) (v : V) (d : List Int × Int) : Prop := ∃ t l, v = .ref t ∧ SqT K H t [.ref l, .int d.2] ∧ SqL K H l (d.1.map V.int)
theorem LineD.mono {K : Fg9} {H H' : Hp} {v : V} {d : List Int × Int} (h : LineD K H v d) (g : Same H H') : LineD K H' v d := by
 obtain ⟨t, l, e, h1, h2⟩ := h
 exact ⟨t, l, e, g.tup h1, g.seq h2⟩
def LineL (K : Fg9) (H : Hp) (vs : List V) (ds : List (List Int × Int)) : Prop := Paired (LineD K H) vs ds
theorem LineL.mono {K : Fg9} {H H' : Hp} {vs : List V} {ds : List (List Int × Int)} (h : LineL K H vs ds) (g : Same H H') : LineL K H' vs ds := Paired.mapP h fun _ _ q => q.mono g
structure GoodD (d : List Int × Int) (r : List Rat × Rat) : Prop where
 pos : 0 < d.2
 dv : d.2 ∣ ((D0 ^ 28 : Nat) : Int)
 sms : ∀ t ∈ d.1, Sm 16001 t
 over : Over1 d.1 d.2 (r.1 ++ [r.2])
theorem zeros_over (n : Nat) (W : Int) : Over1 (List.replicate n 0) W (List.replicate n 0) := by
 refine ⟨by rw [List.length_replicate, List.length_replicate], fun i t q h1 h2 => ?_⟩
 have e1 : t = 0 := List.eq_of_mem_replicate (List.mem_of_getElem? h1)
 have e2 : q = 0 := List.eq_of_mem_replicate (List.mem_of_getElem? h2)
 rw [e1, e2, Rat.zero_mul]
 rfl
theorem flat_zeros (n : Nat) : (List.replicate n [V.int 0]).flatten = (List.replicate n (0 : Int)).map V.int := by
 induction n with
 | zero => rfl
 | succ n ih => rw [List.replicate_succ, List.flatten_cons, ih, List.replicate_succ]; rfl
theorem over_step {tots nums us : List Int} {W w bot : Int} {acc qs : List Rat} {p : Rat} (h : Over1 tots W acc) (k : Over1 nums bot qs) (hb : 0 < bot) (hw : (w : Rat) = p * Rat.divInt 1 bot * (W : Rat)) (hl : acc.length = qs.length)
  (el : us.length = tots.length) (hu : ∀ (j : Nat) (u t n : Int), us[j]? = some u → tots[j]? = some t → nums[j]? = some n → u = t + w * n) : Over1 us W (List.zipWith (fun t q => t + p * q) acc qs) := by
 have l1 := h.1
 have l2 := k.1
 refine ⟨by rw [List.length_zipWith]; omega, fun i u q e1 e2 => ?_⟩
 have hi : i < us.length := (List.getElem?_eq_some_iff.mp e1).1
 have f1 : tots[i]? = some tots[i] := gE9 (by omega)
 have f2 : nums[i]? = some nums[i] := gE9 (by omega)
 have f3 : acc[i]? = some acc[i] := gE9 (by omega)
 have f4 : qs[i]? = some qs[i] := gE9 (by omega)
 rw [List.getElem?_zipWith, f3, f4] at e2
 have e3 : acc[i] + p * qs[i] = q := Option.some.inj e2
 rw [hu i u _ _ e1 f1 f2, ← e3, Rat.intCast_add, Rat.intCast_mul, h.2 i _ _ f1 f3, k.2 i _ _ f2 f4, hw]
 have d : (bot : Rat) ≠ 0 := by
  intro z
  have := Rat.intCast_inj.mp (show (bot : Rat) = ((0 : Int) : Rat) from z)
  omega
 have e4 : Rat.divInt 1 bot * (bot : Rat) = 1 := by
  rw [Rat.divInt_eq_div, Rat.div_mul_cancel d]
  rfl
 grind
def spMix (K : Fg9) : Sp := fun vs H Q _ => ∃ (ra pa : Addr) (n : Nat) (vr vp : List V) (rows : List (List Rat × Rat)) (ps : List Rat), vs = [.ref ra, .ref pa, .int n] ∧ SqL K H ra vr ∧ SqL K H pa vp ∧ RowL K H vr rows ∧ RL K H vp ps ∧ rows.length = ps.length ∧ ps.length ≤ 90 ∧ n ≤ 60 ∧ (∀ r ∈ rows, r.1.length = n ∧ (∀ q ∈ r.1, Bq 28 2050 q) ∧ Bq 28 2050 r.2) ∧ (∀ q ∈ ps, SmQ 1000 q ∧ q.den ∣ D0) ∧ ∀ (p H' l b : _) (ys : List V) (shs : List Rat) (bd : Rat), Same H H' → H' p = some (.tup [.ref l, .ref b]) → H' l = some (.lst ys) → H l = none → RL K H' ys shs → SqT K H' b (TQ bd) → shs.length = n → shs ++ [bd] = mixQ rows ps (List.replicate (n + 1) 0) → Q (.ref p) H'
abbrev JZ (P w K mg base) (a : Adr) (cdv A outer s H E) := (cxOf CX0 P w K mg base ["rows", "prices", "many", "lines", "weights", "totals", "weight", "line", "told"] "mixed" (qQ xW) a.f_mixed cdv A outer s H E).nox
set_option maxHeartbeats 0 in
theorem ok_mixed (T : Txt K mg a) : FnOk P w K mg base CX0 4 a.f_mixed a.d_mixed ["rows", "prices", "many"] (spMix K) := by
 refine T.F_mixed.ok Y2 (fun vs H Q E h => ?_) (fun cdv A outer s H vs Q E hr h => ?_)
 ·obtain ⟨_, _, _, _, _, _, _, rfl, _⟩ := h
  rfl
 obtain ⟨ra, pa, n, vr, vp, rows, ps, rfl, hR, hP, rR, rP, lrp, p12, n6, sR, sP, q⟩ := h
 have h0 : PS (JZ P w K mg base a cdv A outer s H E) (bS xW 0) _ := (kW (i := 3) Y2.nd rfl (Or.inl rfl) (N := ["shares", "bound"]) (ix := [none, none]) ⟨rfl, rfl, rfl, rfl, trivial, rfl, trivial⟩ rfl (jV (pv 0)) (fun _ => (jW rfl (zy (zx (i := 0) (show (["shares", "bound"] : List Str).Nodup by decide +kernel) rfl (Or.inl rfl)) (zy (zx (i := 1) (show (["shares", "bound"] : List Str).Nodup by decide +kernel) rfl (Or.inl rfl)) yK)))) (fun _ σ => V5 rfl rfl (by decide) σ) (fun _ => jk) (fun _ => (qK (YK T) (hr.mono (by decide)) rfl T.m_over_one_bottom T.F_over_one_bottom.kp T.b_over_one_bottom .nil pass0 (pa_c (pe_op Y4 (pv 0) (j7 (pa_c (pv 1) qj))) qj) (he := qz rfl _ _) (hpl := qZ rfl))))
 have h1 : PS (JZ P w K mg base a cdv A outer s H E) (bS xW 1) _ := (zk (i := 4) Y2.nd rfl (Or.inr rfl) (qK (YK T) (hr.mono (by decide)) rfl T.m_over_one_bottom T.F_over_one_bottom.kp T.b_over_one_bottom .nil pass0 (pa_c (wK (N := ["price", "line"]) (ix := [none, none]) ⟨rfl, rfl, rfl, rfl, trivial, rfl, trivial⟩ rfl (pi_zip rfl T.m_zip (pa_c (pv 1) (pa_c (pv 3) qj))) (fun _ => (jW rfl (zy (zx (i := 0) (show (["price", "line"] : List Str).Nodup by decide +kernel) rfl (Or.inl rfl)) (zy (zx (i := 1) (show (["price", "line"] : List Str).Nodup by decide +kernel) rfl (Or.inl rfl)) yK)))) (fun _ σ => V5 rfl rfl (by decide) σ) (fun _ => jk) (fun _ => (qK (ok_over T) (hr.mono (by decide)) rfl T.m_over T.F_over.kp T.b_over .nil pass0 (pa_c (pv 0) (pa_c (yq (pa_c (pe_ix qY (pv 1) qk (fun _ _ => rfl)) (pa_c qk qj))) qj)) (he := qz rfl _ _) (hpl := qZ rfl)))) qj) (he := qz rfl _ _) (hpl := qZ rfl)))
 have h2 : PS (JZ P w K mg base a cdv A outer s H E) (bS xW 2) _ := (zk (i := 5) Y2.nd rfl (Or.inl rfl) (pe_op op_rep (j7 (pa_c qk qj)) (pe_op yj (pv 2) qk)))
 have h3 : PS (JZ P w K mg base a cdv A outer s H E) (bS xW 3) _ := (kj PassesOwn.never rfl (pi_zip rfl T.m_zip (pa_c (pe_ix qY (pv 4) qk (fun _ _ => rfl)) (pa_c (pv 3) qj))) (jW rfl (zy (zx (i := 6) Y2.nd rfl (Or.inr rfl)) (zy (zx (i := 7) Y2.nd rfl (Or.inl rfl)) yK)))
    (qV (ps_if (zJ op_ne (pv 6) qk (zX _))
    (qV (kW (i := 5) Y2.nd rfl (Or.inl rfl) (N := ["total", "number", "weight"]) (ix := [none, none, some 6]) ⟨rfl, rfl, rfl, rfl, ⟨rfl, trivial⟩, rfl, ⟨⟨rfl, Or.inr (Or.inl rfl), Z3 rfl, rfl, Or.inl rfl⟩, trivial⟩⟩ rfl (pi_zip rfl T.m_zip (pa_c (pv 5) (pa_c (pe_ix qY (pv 7) qk (fun _ _ => rfl)) qj))) (fun _ => (jW rfl (zy (zx (i := 0) (show (["total", "number", "weight"] : List Str).Nodup by decide +kernel) rfl (Or.inl rfl)) (zy (zx (i := 1) (show (["total", "number", "weight"] : List Str).Nodup by decide +kernel) rfl (Or.inl rfl)) yK)))) (fun _ σ => V5 rfl rfl (by decide) σ) (fun _ => jk) (fun _ => (pe_op yj (pv 0) (pe_op jY (pv 2) (pv 1))))))
    zW)))
 have h4 : PS (JZ P w K mg base a cdv A outer s H E) (bS xW 4) _ := (kW (i := 8) Y2.nd rfl (Or.inl rfl) (N := ["total", "weights"]) (ix := [none, some 4]) ⟨rfl, rfl, rfl, rfl, ⟨rfl, trivial⟩, rfl, ⟨⟨rfl, Or.inr (Or.inl rfl), Z3 rfl, rfl, Or.inl rfl⟩, trivial⟩⟩ rfl (jV (pv 5)) (fun _ => (zx (i := 0) (show (["total", "weights"] : List Str).Nodup by decide +kernel) rfl (Or.inl rfl))) (fun _ σ => wV rfl σ) (fun _ => jk) (fun _ => (qK (ok_ratio T) (hr.mono (by decide)) rfl T.m_ratio T.F_ratio.kp T.b_ratio .nil pass0 (pa_c (pv 0) (pa_c (pe_ix qY (pv 1) qk (fun _ _ => rfl)) qj)) (he := qz rfl _ _) (hpl := qZ rfl))))
 have h5 : PS (JZ P w K mg base a cdv A outer s H E) (bS xW 5) _ := (zw (yq (pa_c (vx wZ (pv 8) kY (vJ (pv 2))) (pa_c (pe_ix yk (pv 8) (pv 2) (fun _ _ => rfl)) qj))))
 refine body6 (by rfl) h0 h1 h2 h3 h4 h5 ?_
 intros
 clear h0 h1 h2 h3 h4 h5
 have lr := rR.length
 have lp := rP.length
 refine ⟨_, rfl, ra, rfl, ⟨_, hR⟩, jq (n := rows.length) (fun i ys H' => Same H H' ∧ ∃ D : List (List Int × Int), D.length = i ∧ LineL K H' ys D ∧ ∀ (j : Nat) (d : List Int × Int) (r : List Rat × Rat), D[j]? = some d → rows[j]? = some r → GoodD d r)
  ⟨Same.refl _, ([] : List (List Int × Int)), rfl, .nil, fun j d r h _ => nil_get h⟩ (zj (by omega)) ?_ ?_ ?_⟩
 case refine_2 =>
  rintro i ys H' hi ⟨g, _⟩
  exact ⟨_, _, g.seq hR, gE9 (by omega)⟩
 case refine_3 =>
  rintro i m' ys H' c x H2 hi ⟨g, D, eD, hD, gD⟩ ⟨rfl, y1⟩ nx _
  obtain ⟨row, er, ho⟩ := wv rR (y1 _ (g.seq hR))
  obtain ⟨t, l, b, vs, rfl, h1, h2, h2', h3, h4⟩ := ho.mono g
  obtain ⟨s1, s2, s3⟩ := sR row (List.mem_of_getElem? er)
  have lvs := h3.length
  refine ⟨t, _, rfl, h1, rfl, _, _, rfl, _, _, rfl, rfl, Or.inl ⟨rfl, _, rfl, _, rfl, (show 1 ≤ sizeLine by decide), fun lb hlb => ?_⟩⟩
  have g1 := qy hlb (.lst [.ref b])
  refine ⟨l, lb, _, _, rfl, rfl, g1 _ _ h2', qv, ?_, fun lc hlc => ?_⟩
  ·rw [List.length_singleton]
   exact Nat.le_of_lt (zj (by omega))
  have g2 := qy hlc (.lst (vs ++ [.ref b]))
  have g12 := g1.trans g2
  refine ⟨lc, vs ++ [.ref b], row.1 ++ [row.2], 3087, D0 ^ 28, 1037, rfl, SqL.of qv, (h3.mono g12).snoc ⟨b, rfl, g12.tup h4⟩, ?_, ?_, d0_pos 28, d0_lt 28, by decide, by decide, fun p H3 ls ts bot g3 e1 e2 _ bp bs st ov => nx _ _ ?_⟩
  ·intro q' hq'
   rcases List.mem_append.mp hq' with z | z
   ·exact ⟨(s2 q' z).sm, (s2 q' z).1⟩
   ·rw [List.mem_singleton.mp z]; exact ⟨s3.sm, s3.1⟩
  ·rw [List.length_append, List.length_singleton]; omega
  have g4 := g12.trans g3
  refine ⟨g.trans g4, D ++ [(ts, bot)], by rw [List.length_append, eD]; rfl, ?_, fun j d r hj hr' => ?_⟩
  ·exact Paired.snoc (LineL.mono hD g4) ⟨p, ls, rfl, SqT.of e1, SqL.of e2⟩
  ·by_cases e : j < i
   ·rw [List.getElem?_append_left (by omega)] at hj
    exact gD j d r hj hr'
   ·have hj' : j < (D ++ [(ts, bot)]).length := (List.getElem?_eq_some_iff.mp hj).1
    rw [List.length_append, List.length_singleton] at hj'
    have e2 : j = i := by omega
    subst e2
    rw [List.getElem?_append_right (by omega), eD] at hj
    have e3 : (ts, bot) = d := by simpa using hj
    rw [er] at hr'
    have e4 := Option.some.inj hr'
    subst e3 e4
    exact ⟨bp, bs, st, ov⟩
 rintro yl H1 ⟨g1, D, eD, hD, gD⟩
 refine ⟨⟨_, g1.seq hR, by omega⟩, fun la hla => ?_⟩
 have gl := qy hla (.lst yl)
 have elA : upd H1 la (.lst yl) la = some (.lst yl) := qv
 have g2 := g1.trans gl
 have hD := LineL.mono hD gl
 have nla : H la = none := zQ g1 hla
 generalize upd H1 la (.lst yl) = H2 at *
 have ll : yl.length = rows.length := (Paired.length hD).trans eD
 have wl : ∀ (i : Nat) (p : Rat) (d : List Int × Int), ps[i]? = some p → D[i]? = some d → (List.zipWith (fun (p : Rat) (d : List Int × Int) => p * Rat.divInt 1 d.2) ps D)[i]? = some (p * Rat.divInt 1 d.2) := fun i p d h1 h2 => by rw [List.getElem?_zipWith, h1, h2]
 have wlen : (List.zipWith (fun (p : Rat) (d : List Int × Int) => p * Rat.divInt 1 d.2) ps D).length = rows.length := by rw [List.length_zipWith]; omega
 refine ⟨_, rfl, _, rfl, pa, la, rfl, ⟨_, g2.seq hP⟩, ⟨_, SqL.of elA⟩, jq (n := rows.length) (fun i ys H' => Same H2 H' ∧ RL K H' ys ((List.zipWith (fun (p : Rat) (d : List Int × Int) => p * Rat.divInt 1 d.2) ps D).take i)) ⟨Same.refl _, .nil⟩ (zj (by omega)) ?_ ?_ ?_⟩
 case refine_2 =>
  rintro i ys H' hi ⟨g, r⟩
  exact ⟨_, _, _, _, g.seq (g2.seq hP), SqL.of (g _ _ elA), gE9 (by omega), gE9 (by omega)⟩
 case refine_3 =>
  rintro i m' ys H' c x H3 hi ⟨g, r⟩ ⟨p, x1, x2, hp, rfl, rfl, y1, y2⟩ nx _
  obtain ⟨qp, ep, pp, rfl, hpp⟩ := rP.get (y1 _ (g.seq (g2.seq hP)))
  obtain ⟨d, ed, t, l, rfl, ht, _⟩ := wv hD (y2 _ (SqL.of (g _ _ elA)))
  have go := gD i d rows[i] ed (gE9 hi)
  have g3 := qy hp (.tup [.ref pp, .ref t])
  have g23 := g.trans g3
  refine ⟨p, _, rfl, SqT.of qv, rfl, _, _, rfl, _, _, rfl, rfl, Or.inl ⟨rfl, _, rfl, _, rfl, _, _, _, _, rfl, rfl, g23.tup ht, rfl, y9, fun tt htt => ?_⟩⟩
  have g4 := qy htt (.tup (T2 d.2 1))
  have sp := (sP qp (List.mem_of_getElem? ep)).1
  refine ⟨pp, tt, qp, d.2, rfl, (g2.trans (g23.trans g4)).tup hpp, SqT.of qv, go.pos, sp.mono (by decide), (dvd_sm go.dv (d0_pos 28) (d0_lt 28)).mono (by decide), fun p3 H4 g5 e5 => nx _ _ ⟨g23.trans (g4.trans g5), ?_⟩⟩
  rw [zY (wl i qp d ep ed)]
  exact (r.mono (g3.trans (g4.trans g5))).snoc ⟨p3, rfl, SqT.of e5⟩
 rintro yw H3 ⟨g3, rw3⟩
 refine ⟨⟨_, _, g3.seq (g2.seq hP), SqL.of (g3 _ _ elA), .inl (by omega)⟩, fun lw hlw => ?_⟩
 rw [List.take_of_length_le (by omega)] at rw3
 have gw := qy hlw (.lst yw)
 have swq : ∀ q ∈ List.zipWith (fun (p : Rat) (d : List Int × Int) => p * Rat.divInt 1 d.2) ps D, SmQ 2037 q ∧ q.den ∣ D0 ^ 29 := fun q' h => by
  obtain ⟨i, e⟩ := List.mem_iff_getElem?.mp h
  have hi : i < rows.length := by have := (List.getElem?_eq_some_iff.mp e).1; omega
  have f1 : ps[i]? = some ps[i] := gE9 (by omega)
  have f2 : D[i]? = some D[i] := gE9 (by omega)
  rw [wl i _ _ f1 f2] at e
  have e' := Option.some.inj e
  rw [← e']
  have go := gD i D[i] rows[i] f2 (gE9 hi)
  have eo := rat_one go.pos
  have so : SmQ 1037 (Rat.divInt 1 D[i].2) := ⟨by rw [eo.1]; unfold Sm; exact Nat.one_lt_two_pow (by decide), by rw [eo.2]; exact dvd_sm go.dv (d0_pos 28) (d0_lt 28)⟩
  obtain ⟨sp, dp⟩ := sP _ (List.mem_of_getElem? f1)
  refine ⟨sp.mul so, ?_⟩
  have k : (Rat.divInt 1 D[i].2).den ∣ D0 ^ 28 := by
   have z : ((Rat.divInt 1 D[i].2).den : Int) ∣ ((D0 ^ 28 : Nat) : Int) := by rw [eo.2]; exact go.dv
   exact Int.natCast_dvd_natCast.mp z
  rw [Nat.pow_succ, Nat.mul_comm]
  exact Nat.dvd_trans (by rw [Rat.den_mul]; exact Nat.div_dvd_of_dvd (Nat.gcd_dvd_right _ _)) (Nat.mul_dvd_mul dp k)
 refine ⟨lw, yw, _, 2037, D0 ^ 29, 1074, rfl, SqL.of qv, rw3.mono gw, swq, by omega, d0_pos 29, d0_lt 29, by decide, by decide, fun pw H4 ls ws W g4 e4 e4' _ Wp Wd wst wov => ?_⟩
 have Ws := dvd_sm Wd (d0_pos 29) (d0_lt 29)
 have g24 := g3.trans (gw.trans g4)
 have hD := LineL.mono hD g24
 have elA := g24 _ _ elA
 have g04 := g2.trans g24
 refine ⟨(by decide), fun l0 hl0 => ?_⟩
 have g5 := qy hl0 (.lst [.int 0])
 refine ⟨_, rfl, _, _, rfl, rfl, l0, _, _, rfl, rfl, qv, by omega, by omega, ?_, fun lt hlt => ?_⟩
 ·rw [List.length_singleton]
  exact Nat.le_of_lt (zj (by omega))
 have eN : ((n : Int) + 1).toNat = n + 1 := by omega
 rw [eN, flat_zeros]
 have g6 := qy hlt (.lst ((List.replicate (n + 1) (0 : Int)).map V.int))
 have elt : upd (upd H4 l0 (.lst [.int 0])) lt (.lst ((List.replicate (n + 1) (0 : Int)).map V.int)) lt = some (.lst ((List.replicate (n + 1) (0 : Int)).map V.int)) := qv
 have g46 := g5.trans g6
 generalize upd (upd H4 l0 (.lst [.int 0])) lt (.lst ((List.replicate (n + 1) (0 : Int)).map V.int)) = H5 at *
 have hD := LineL.mono hD g46
 have elA := g46 _ _ elA
 have e4 := g46 _ _ e4
 have e4' := g46 _ _ e4'
 have g05 := g04.trans g46
 clear g04 g24 g46 g5 g6 gw g3 g4 rw3
 have lws : ws.length = rows.length := by rw [wov.1]; exact wlen
 have lacc : ∀ i, (mixQ (rows.take i) (ps.take i) (List.replicate (n + 1) 0)).length = n + 1 := fun i => JQ _ _ _ n (by rw [List.length_replicate]) fun r hr' => (sR r (List.mem_of_mem_take hr')).1
 refine ⟨_, rfl, _, _, _, _, rfl, rfl, SqT.of e4, rfl, _, rfl, ls, la, rfl, ⟨_, SqL.of e4'⟩, ⟨_, SqL.of elA⟩, vy (n := rows.length) (fun i σ H' => Same H5 H' ∧ ∃ (lt : Addr) (tots : List Int) (u6 u7 : Option V), σ = [some (.ref ra), some (.ref pa), some (.int n), some (.ref la), some (.ref pw), some (.ref lt), u6, u7, none] ∧ SqL K H' lt (tots.map V.int) ∧ Over1 tots W (mixQ (rows.take i) (ps.take i) (List.replicate (n + 1) 0)))
  ⟨Same.refl _, lt, _, _, _, rfl, SqL.of elt, zeros_over _ _⟩ ?_ ?_ ?_⟩
 case refine_2 =>
  rintro i σ H' hi ⟨g, _⟩
  exact ⟨_, _, _, _, SqL.of (g _ _ e4'), SqL.of (g _ _ elA), gE9 (by rw [List.length_map]; omega), gE9 (by omega)⟩
 case refine_3 =>
  rintro i σ H' x H6 hi ⟨g, lt, tots, u6, u7, rfl, hT, ov⟩ ⟨p, x1, x2, hp, rfl, rfl, y1, y2⟩
  have hx := y1 _ (SqL.of (g _ _ e4'))
  rw [List.getElem?_map] at hx
  obtain ⟨wi, hwi, rfl⟩ : ∃ z : Int, ws[i]? = some z ∧ x1 = .int z := by
   cases h : ws[i]? with
   | none => rw [h] at hx; cases hx
   | some z => rw [h] at hx; exact ⟨z, rfl, (Option.some.inj hx).symm⟩
  obtain ⟨d, ed, t, l, rfl, ht, hl⟩ := wv hD (y2 _ (SqL.of (g _ _ elA)))
  have f1 : ps[i]? = some ps[i] := gE9 (by omega)
  have f3 : rows[i]? = some rows[i] := gE9 hi
  have go := gD i d rows[i] ed f3
  have ww : (wi : Rat) = ps[i] * Rat.divInt 1 d.2 * (W : Rat) := wov.2 i wi _ hwi (wl i _ _ f1 ed)
  have g6 := qy hp (.tup [.int wi, .ref t])
  have gg := g.trans g6
  have ht := gg.tup ht
  have hl := gg.seq hl
  have hT := g6.seq hT
  have la1 := lacc i
  have lrow : (rows[i].1 ++ [rows[i].2]).length = n + 1 := by
   rw [List.length_append, List.length_singleton, (sR _ (List.mem_of_getElem? f3)).1]
  have ln := go.over.1
  have lt1 := ov.1
  have snoc : mixQ (rows.take (i + 1)) (ps.take (i + 1)) (List.replicate (n + 1) 0) = List.zipWith (fun t q => t + ps[i] * q) (mixQ (rows.take i) (ps.take i) (List.replicate (n + 1) 0)) (rows[i].1 ++ [rows[i].2]) := by
   rw [zY f3, zY f1]
   exact mixQ_snoc _ _ _ _ _ (by rw [List.length_take, List.length_take]; omega)
  refine ⟨p, _, rfl, SqT.of qv, rfl, _, _, rfl, _, _, rfl, rfl, _, rfl, rfl, _, rfl, ?_⟩
  by_cases w0 : wi = 0
  ·subst w0
   refine iteNS rfl ?_
   refine ⟨gg, lt, tots, _, _, rfl, hT, ?_⟩
   rw [snoc]
   refine over_step ov go.over go.pos ww (by omega) rfl fun j u t' n' h1 h2 _ => ?_
   rw [h1] at h2
   rw [Option.some.inj h2]
   omega
  ·refine iteNP (fun z => w0 (V.int.inj z)) ?_
   refine ⟨_, rfl, _, rfl, _, _, _, _, rfl, rfl, ht, rfl, lt, l, rfl, ⟨_, hT⟩, ⟨_, hl⟩, jq (n := n + 1) (fun j ys H7 => Same (upd H' p (.tup [.int wi, .ref t])) H7 ∧ ∃ us : List Int, us.length = j ∧ ys = us.map V.int ∧ ∀ (j : Nat) (u t n : Int), us[j]? = some u → tots[j]? = some t → d.1[j]? = some n → u = t + wi * n)
    ⟨Same.refl _, ([] : List Int), rfl, rfl, fun j u t n h _ _ => nil_get h⟩ (zj (by omega)) ?_ ?_ ?_⟩
   ·rintro ys H7 ⟨g7, us, eu, rfl, hu⟩
    refine ⟨⟨_, _, g7.seq hT, g7.seq hl, .inl (by rw [List.length_map]; omega)⟩, fun lq hlq => ?_⟩
    refine ⟨gg.trans (g7.trans (qy hlq _)), lq, us, _, _, rfl, SqL.of qv, ?_⟩
    rw [snoc]
    exact over_step ov go.over go.pos ww (by omega) (by omega) hu
   ·rintro j ys H7 hj ⟨g7, _⟩
    exact ⟨_, _, _, _, g7.seq hT, g7.seq hl, gE9 (by rw [List.length_map]; omega), gE9 (by rw [List.length_map]; omega)⟩
   ·rintro j m' ys H7 c x H8 hj ⟨g7, us, eu, rfl, hu⟩ ⟨p2, z1, z2, hp2, rfl, rfl, v1, v2⟩ nx _
    have k1 := v1 _ (g7.seq hT)
    have k2 := v2 _ (g7.seq hl)
    rw [List.getElem?_map] at k1 k2
    have m1 : tots[j]? = some tots[j] := gE9 (by omega)
    have m2 : d.1[j]? = some d.1[j] := gE9 (by omega)
    rw [m1] at k1
    rw [m2] at k2
    have k1 := Option.some.inj k1
    have k2 := Option.some.inj k2
    subst k1 k2
    have swi : Sm 16001 wi := wst wi (List.mem_of_getElem? hwi)
    have snu : Sm 16001 d.1[j] := go.sms _ (List.mem_of_getElem? m2)
    refine ⟨p2, _, rfl, SqT.of qv, rfl, _, _, rfl, _, _, rfl, rfl, Or.inl ⟨rfl, _, rfl, _, rfl, _, rfl, _, _, rfl, rfl, mulOk swi snu, _, _, rfl, rfl, nx _ _ ⟨g7.trans (qy hp2 _), us ++ [tots[j] + wi * d.1[j]], by rw [List.length_append, eu]; rfl, by rw [List.map_append]; rfl, fun i u t n h1 h2 h3 => ?_⟩⟩⟩
    by_cases e : i < j
    ·rw [List.getElem?_append_left (by omega)] at h1
     exact hu i u t n h1 h2 h3
    ·have hi' : i < (us ++ [tots[j] + wi * d.1[j]]).length := (List.getElem?_eq_some_iff.mp h1).1
     rw [List.length_append, List.length_singleton] at hi'
     have e2 : i = j := by omega
     subst e2
     rw [List.getElem?_append_right (by omega), eu] at h1
     have e3 : tots[i] + wi * d.1[i] = u := by simpa using h1
     rw [m1] at h2
     rw [m2] at h3
     rw [← e3, Option.some.inj h2, Option.some.inj h3]
 rintro σ H6 ⟨g6, lt2, tots, u6, u7, rfl, hT, ov⟩
 refine ⟨⟨_, _, SqL.of (g6 _ _ e4'), SqL.of (g6 _ _ elA), .inl (by rw [List.length_map]; omega)⟩, ?_⟩
 rw [List.take_of_length_le (by omega), List.take_of_length_le (by omega)] at ov
 have lacc' : (mixQ rows ps (List.replicate (n + 1) 0)).length = n + 1 := JQ _ _ _ n (by rw [List.length_replicate]) fun r hr' => (sR r hr').1
 have lt3 := ov.1
 have e4 := g6 _ _ e4
 have Wn : W ≠ 0 := by omega
 generalize hM : mixQ rows ps (List.replicate (n + 1) 0) = M at *
 refine ⟨_, rfl, lt2, rfl, ⟨_, hT⟩, jq (n := n + 1) (fun j ys H7 => Same H6 H7 ∧ RL K H7 ys (M.take j)) ⟨Same.refl _, .nil⟩ (zj (by omega)) ?_ ?_ ?_⟩
 case refine_2 =>
  rintro j ys H7 hj ⟨g7, _⟩
  exact ⟨_, _, g7.seq hT, gE9 (by rw [List.length_map]; omega)⟩
 case refine_3 =>
  rintro j m' ys H7 c x H8 hj ⟨g7, r⟩ ⟨rfl, y1⟩ nx _
  have k1 := y1 _ (g7.seq hT)
  rw [List.getElem?_map] at k1
  have m1 : tots[j]? = some tots[j] := gE9 (by omega)
  have m2 : M[j]? = some M[j] := gE9 (by omega)
  rw [m1] at k1
  have k1 := Option.some.inj k1
  subst k1
  have tr := top_rat Wn (ov.2 j _ _ m1 m2)
  refine Or.inl ⟨rfl, _, rfl, _, rfl, _, _, _, _, rfl, rfl, SqT.of (g7 _ _ e4), rfl, _, _, rfl, Wn, Ws.mono (by omega), fun p3 H9 g9 e9 => nx _ _ ⟨g7.trans g9, ?_⟩⟩
  rw [zY m2]
  refine (r.mono g9).snoc ⟨p3, rfl, ?_⟩
  unfold TQ
  rw [← tr.1, ← tr.2]
  exact SqT.of e9
 rintro yt H7 ⟨g7, rt⟩
 refine ⟨⟨_, g7.seq hT, by rw [List.length_map]; omega⟩, fun tl htl => ?_⟩
 rw [List.take_of_length_le (by omega)] at rt
 have gt := qy htl (.lst yt)
 have lyt : yt.length = n + 1 := (RL.length rt).trans lacc'
 refine ⟨_, rfl, _, rfl, _, rfl, _, _, rfl, SqL.of qv, fun sl hsl => ?_⟩
 rw [cutHi (by omega)]
 have gs := qy hsl (.lst (yt.take n))
 obtain ⟨vb, hvb⟩ : ∃ v, yt[n]? = some v := ⟨_, gE9 (by omega)⟩
 obtain ⟨bq, hbq, pb, rfl, hb⟩ := RL.get rt hvb
 have gts := gt.trans gs
 refine ⟨_, rfl, _, rfl, tl, _, _, _, rfl, rfl, SqL.of (gs _ _ qv), (atN hvb).trans rfl, y9, fun pr hpr => ?_⟩
 have gr := qy hpr (.tup [.ref sl, .ref pb])
 have gAll := g05.trans (g6.trans (g7.trans (gts.trans gr)))
 have nsl : H sl = none := zQ (g05.trans (g6.trans (g7.trans gt))) hsl
 refine q pr _ sl pb (yt.take n) (M.take n) bq gAll qv (gr _ _ qv) nsl ((RL.take n rt).mono (gts.trans gr)) ((gts.trans gr).tup hb) ?_ ?_
 ·rw [List.length_take]; omega
 ·rw [← zY hbq, List.take_of_length_le (by omega)]
theorem iteNA {c A B : Prop} [Decidable c] (h1 : c → B) (h2 : ¬ c → A) : if (!decide c) = true then A else B := by
 by_cases h : c
 ·exact iteNS h (h1 h)
 ·exact iteNP h (h2 h)
theorem bendsOf_lt {many : Nat} {us : List Un} {cs : List Sta} (wf : WfN many us) : ∀ x ∈ xw many us cs, x.2.1 < many + us.length ∧ x.2.2 < many + us.length := by
 rintro ⟨st, p, o⟩ h
 have k := List.of_mem_zip (List.of_mem_zip h).2
 exact ⟨bendT_lt wf p k.1, bendP_lt us many o k.2⟩
def Rz (n : Nat) (r : Rw) : Prop := r.1.length = n ∧ (∀ q ∈ r.1, Bq 28 2050 q) ∧ Bq 28 2050 r.2
theorem rz_notA {n : Nat} {f : List Rat} {q : Rat} (hl : f.length = n + 1) (hf : ∀ x ∈ f, Bq 28 2048 x) (hq : Bq 28 2048 q) : Rz n (notA f q) :=
 ⟨by show (f.drop 1).length = n; rw [List.length_drop]; omega, fun x hx => (hf x (List.mem_of_mem_drop hx)).mono (Nat.le_refl _) (by decide), (hq.sub (hf _ (Yv (by omega)))).mono (Nat.le_refl _) (by decide)⟩
theorem rz_notB {n : Nat} {f : List Rat} {q : Rat} (hl : f.length = n + 1) (hf : ∀ x ∈ f, Bq 28 2048 x) (hq : Bq 28 2048 q) : Rz n (notB f q) :=
 ⟨by show ((f.drop 1).map _).length = n; rw [List.length_map, List.length_drop]; omega, fun x hx => by
  obtain ⟨y, hy, rfl⟩ := List.mem_map.mp hx
  rw [show y * (-1) = -y by grind]
  exact ((hf y (List.mem_of_mem_drop hy)).neg).mono (Nat.le_refl _) (by decide), ((hf _ (Yv (by omega))).sub hq).mono (Nat.le_refl _) (by decide)⟩
theorem rz_cap {n : Nat} {f own : List Rat} {s : Rat × Rat} (ff : F14 n f) (fo : F14 n own) (sz : Bs 14 1000 s) : Rz n (capR f own s) := by
 have up : ∀ {x : Rat}, Bq 14 1000 x → Bq 28 2048 x := fun h => h.mono (by decide) (by decide)
 unfold capR
 split
 ·split
  ·have bw : Bq 14 1001 (s.2 - s.1) := sz.2.sub sz.1
   have bh : Bq 14 1001 (0 - s.2) := (Bq.zero 14 1000).sub sz.2
   have so : ∀ x ∈ own.map (· * (s.2 - s.1)), Bq 28 2001 x := fun x hx => by
    obtain ⟨y, hy, rfl⟩ := List.mem_map.mp hx
    exact (fo.2 y hy).mul bw
   have sg : ∀ x ∈ f, Bq 28 2001 (x * (0 - s.2)) := fun x hx => (ff.2 x hx).mul bh
   obtain ⟨la, ba⟩ := YW (by rw [List.length_map]; exact fo.1) ff.1 so sg
   exact rz_notA la (fun x hx => (ba x hx).mono (Nat.le_refl _) (by decide)) (((Bq.zero 28 2000).sub (sz.2.mul sz.1)).mono (Nat.le_refl _) (by decide))
  ·exact rz_notA fo.1 (fun x hx => up (fo.2 x hx)) (Bq.zero _ _)
 ·obtain ⟨la, ba⟩ := YW fo.1 ff.1 fo.2 ff.down
  exact rz_notA la (fun x hx => (ba x hx).mono (by decide) (by decide)) (Bq.zero _ _)
theorem rows_rz {many n : Nat} {us : List Un} {cs : List Sta} {fs : List (List Rat)} {sp : List (Rat × Rat)} (wf : WfN many us) (l1 : fs.length = many + us.length) (l2 : sp.length = many + us.length) (h3 : ∀ f ∈ fs, F14 n f) (h4 : ∀ s ∈ sp, Bs 14 1000 s) : ∀ r ∈ rowsN many us cs fs sp, Rz n r := by
 have up : ∀ {x : Rat}, Bq 14 1000 x → Bq 28 2048 x := fun h => h.mono (by decide) (by decide)
 have F : ∀ k, k < many + us.length → F14 n (fs.getD k []) := fun k hk => V6 (by omega) h3
 have S : ∀ k, k < many + us.length → Bs 14 1000 (sp.getD k (0, 0)) := fun k hk => V6 (by omega) h4
 intro r hr
 rcases List.mem_append.mp hr with z | z
 ·obtain ⟨k, hk, z⟩ := List.mem_flatMap.mp z
  have hk := List.mem_range.mp hk
  have f := F k (by omega)
  have s := S k (by omega)
  rcases List.mem_cons.mp z with z | z
  ·rw [z]; exact rz_notA f.1 (fun x hx => up (f.2 x hx)) (up s.2)
  ·rw [List.mem_singleton.mp z]; exact rz_notB f.1 (fun x hx => up (f.2 x hx)) (up s.1)
 ·obtain ⟨⟨st, p, o⟩, hx, z⟩ := List.mem_flatMap.mp z
  obtain ⟨hp, ho⟩ := bendsOf_lt wf _ hx
  have f := F p hp
  have g := F o ho
  have s := S p hp
  cases st with
  | on => rw [List.mem_singleton.mp z]; exact rz_notB f.1 (fun x hx => up (f.2 x hx)) (Bq.zero _ _)
  | off => rw [List.mem_singleton.mp z]; exact rz_notA f.1 (fun x hx => up (f.2 x hx)) (Bq.zero _ _)
  | opn =>
   rcases List.mem_cons.mp z with z | z
   ·rw [z]; exact rz_notB g.1 (fun x hx => up (g.2 x hx)) (Bq.zero _ _)
   ·rcases List.mem_cons.mp z with z | z
    ·rw [z]
     obtain ⟨la, ba⟩ := YW f.1 g.1 f.2 g.down
     exact rz_notA la (fun x hx => (ba x hx).mono (by decide) (by decide)) (Bq.zero _ _)
    ·rw [List.mem_singleton.mp z]; exact rz_cap f g s
inductive NO (K : Fg9) (H : Hp) : V → Prop where
 | no {x : V} (h : IsA K H x "tuple" false) : NO K H x
 | len {p : Addr} {xs : List V} (h : SqT K H p xs) (n : xs.length ≠ 2) : NO K H (.ref p)
 | fst {p : Addr} {u v : V} (h : SqT K H p [u, v]) (k : Wh K H u false) : NO K H (.ref p)
 | low {p : Addr} {x y : Int} (h : SqT K H p (T2 x y)) (k : y < 1) : NO K H (.ref p)
 | part {p : Addr} {x y : Int} (h : SqT K H p (T2 x y)) (k : 1 ≤ y) (g : Int.gcd x y ≠ 1) (b : Sm 64 y) : NO K H (.ref p)
theorem NO.mono {K : Fg9} {H H' : Hp} {x : V} (h : NO K H x) (g : Same H H') : NO K H' x := by
 cases h with
 | no h => exact .no (h.mono g)
 | len h n => exact .len (g.tup h) n
 | fst h k => exact .fst (g.tup h) (k.mono g)
 | low h k => exact .low (g.tup h) k
 | part h k z b => exact .part (g.tup h) k z b
theorem NO.nr {K : Fg9} {H : Hp} {x : V} (h : NO K H x) : NR K H x := by
 cases h with
 | no h => exact .no h
 | len h n => exact .len h n
 | fst h k => exact .fst h k
 | low h k => exact .low h k
 | part h k z b => exact .part h k z
inductive Pr (K : Fg9) (H : Hp) : V → Option (List Rat) → Prop where
 | good {l : Addr} {vs : List V} {qs : List Rat} (h : SqL K H l vs) (r : RL K H vs qs) (z : ∀ q ∈ qs, Bq 1 40 q) (n : qs.length ≤ 90) : Pr K H (.ref l) (some qs)
 | odd {l : Addr} {v1 v2 : List V} {u : V} {q1 q2 : List Rat} (h : SqL K H l (v1 ++ u :: v2)) (r1 : RL K H v1 q1) (r2 : RL K H v2 q2) (z1 : ∀ q ∈ q1, Bq 1 40 q) (z2 : ∀ q ∈ q2, Bq 1 40 q) (n : v1.length + v2.length ≤ 90) (k : NO K H u) : Pr K H (.ref l) none
 | no {x : V} (h : IsA K H x "list" false) : Pr K H x none
theorem Pr.mono {K : Fg9} {H H' : Hp} {v : V} {o : Option (List Rat)} (h : Pr K H v o) (g : Same H H') : Pr K H' v o := by
 cases h with
 | good h r z n => exact .good (g.seq h) (r.mono g) z n
 | odd h r1 r2 z1 z2 n k => exact .odd (g.seq h) (r1.mono g) (r2.mono g) z1 z2 n (k.mono g)
 | no h => exact .no (h.mono g)
def areB (o : Option (List Rat)) (c : Nat) : Bool := match o with
 | none => false
 | some ps => decide (ps.length = c) && ps.all fun p => !decide (p < 0)
def spAre (K : Fg9) : Sp := fun vs H Q _ => ∃ (v : V) (o : Option (List Rat)) (c : Nat), vs = [v, .int (c : Int)] ∧ Pr K H v o ∧ c ≤ 90 ∧ ∀ H', Same H H' → Q (.bl (areB o c)) H'
def okP (q : Rat) : Bool := !decide (q < 0)
abbrev cb_are_prices (P w K mg base) (a : Adr) (cdv A outer s H E) := (cxOf CX0 P w K mg base ["thing", "count"] "are_prices" (qQ vZ) a.f_are_prices cdv A outer s H E).nox
set_option maxHeartbeats 0 in
theorem ok_are_prices (T : Txt K mg a) : FnOk P w K mg base CX0 3 a.f_are_prices a.d_are_prices ["thing", "count"] (spAre K) := by
 refine T.F_are_prices.ok sc_are_prices (fun vs H Q E h => ?_) (fun cdv A outer s H vs Q E hr h => ?_)
 ·obtain ⟨_, _, _, rfl, _⟩ := h
  rfl
 obtain ⟨v, o, c, rfl, h, c90, q⟩ := h
 have n0 : ∀ H : Hp, SqT K H a.g_NOUGHT (TQ 0) := T.s_NOUGHT
 have h0 : PS (cb_are_prices P w K mg base a cdv A outer s H E) (bS vZ 0) _ := (ps_if (PW.pt (pw_or (jQ (yX (zq (JJ) rfl T.m_isinstance boot_isinstance (pa_c (pv 0) (pa_c (vX (v := .ty "list") rfl T.m_list boot_list rfl) qj)) (he := qz rfl _ _) (hpl := qZ rfl)))) (xv (zJ op_ne (zq (zZ) rfl T.m_len boot_len (pa_c (pv 0) qj) (he := qz rfl _ _) (hpl := qZ rfl)) (pv 1) (zX _)))))
    (qV (zw pe_bl))
    zW)
 have h1 : PS (cb_are_prices P w K mg base a cdv A outer s H E) (bS vZ 1) _ := (zw (zq (call_all rfl) rfl T.m_all boot_all (pa_c (wK (N := ["price"]) (ix := [none]) ⟨rfl, rfl, rfl, rfl, trivial, rfl, trivial⟩ rfl (jV (pv 0)) (fun _ => (zx (i := 0) (show (["price"] : List Str).Nodup by decide +kernel) rfl (Or.inl rfl))) (fun _ σ => wV rfl σ) (fun _ => jk) (fun _ => (pe_and (qK (ok_is_ratio T) (hr.mono (by decide)) rfl T.m_is_ratio T.F_is_ratio.kp T.b_is_ratio .nil pass0 (pa_c (pv 0) qj) (he := qz rfl _ _) (hpl := qZ rfl)) (pe_one (pe_not (qK (J5 T) (hr.mono (by decide)) rfl T.m_less T.F_less.kp T.b_less .nil pass0 (pa_c (pv 0) (pa_c (yZ (v := .ref a.g_NOUGHT) rfl T.m_NOUGHT rfl) qj)) (he := qz rfl _ _) (hpl := qZ rfl))))))) qj) (he := qz rfl _ _) (hpl := qZ rfl)))
 refine body2 (by rfl) h0 h1 ?_
 intros
 clear h0 h1
 have lst : ∀ {p : Addr} {xs : List V}, SqL K H p xs → IsA K H (.ref p) "list" true := fun h => .old (.old (.lstList h))
 cases h with
 | no h => exact ⟨_, rfl, _, _, _, rfl, h, _, rfl, iteT (q H (Same.refl _))⟩
 | @good l vs qs h r z n =>
  have lv := r.length
  refine ⟨_, rfl, _, _, _, rfl, lst h, _, rfl, iteF ⟨_, rfl, _, _, rfl, .inl h, _, rfl, rfl, _, rfl, ?_⟩⟩
  by_cases e : qs.length = c
  ·refine iteNS (congrArg V.int (by omega)) ?_
   refine ⟨_, rfl, l, rfl, ⟨_, h⟩, jq (n := qs.length) (fun i ys H' => Same H H' ∧ ys = ((qs.map okP).take i).map V.bl) ⟨Same.refl _, rfl⟩ (zj (by omega)) ?_ ?_ ?_⟩
   case refine_2 =>
    rintro i ys H' hi ⟨g, _⟩
    exact ⟨_, _, g.seq h, gE9 (by omega)⟩
   case refine_3 =>
    rintro i m' ys H' cc x H2 hi ⟨g, rfl⟩ ⟨rfl, y1⟩ nx _
    obtain ⟨qa, ea, pa, rfl, ha⟩ := r.get (y1 _ (g.seq h))
    have ez : (qs.map okP)[i]? = some (okP qa) := by rw [List.getElem?_map, ea]; rfl
    refine Or.inl ⟨rfl, _, rfl, _, rfl, .inr ⟨pa, qa, rfl, g.tup ha, _, rfl, iteT ?_⟩⟩
    refine ⟨_, rfl, pa, a.g_NOUGHT, qa, 0, rfl, g.tup ha, n0 _, (z qa (List.mem_of_getElem? ea)).sm.mono (by decide), sm0, _, rfl, nx _ _ ⟨g, ?_⟩⟩
    rw [zY ez, List.map_append]
    rfl
   rintro ys H2 ⟨g, rfl⟩
   refine ⟨⟨_, g.seq h, by omega⟩, fun D hD => ?_⟩
   rw [List.take_of_length_le (by rw [List.length_map]; omega)]
   refine ⟨D, _, rfl, SqL.of qv, ?_⟩
   have q := q _ (g.trans (qy hD (.lst ((qs.map okP).map V.bl))))
   have eb : areB (some qs) c = (qs.map okP).all id := by
    unfold areB
    dsimp only
    rw [decide_eq_true e, Bool.true_and, List.all_map]
    rfl
   rw [eb] at q
   exact q
  ·refine iteNP (fun zz => e (by have zz := V.int.inj zz; omega)) ?_
   have q := q H (Same.refl _)
   have eb : areB (some qs) c = false := by
    unfold areB
    dsimp only
    rw [decide_eq_false e]
    rfl
   rw [eb] at q
   exact q
 | @odd l v1 v2 u q1 q2 h r1 r2 z1 z2 n k =>
  have lv1 := r1.length
  have lv2 := r2.length
  refine ⟨_, rfl, _, _, _, rfl, lst h, _, rfl, iteF ⟨_, rfl, _, _, rfl, .inl h, _, rfl, rfl, _, rfl, ?_⟩⟩
  refine iteNA (fun _ => ?_) (fun _ => q H (Same.refl _))
  refine ⟨_, rfl, l, rfl, ⟨_, h⟩, jq (n := (v1 ++ u :: v2).length) (fun i ys H' => Same H H' ∧ ∃ bs : List Bool, bs.length = i ∧ ys = bs.map V.bl ∧ (q1.length < i → false ∈ bs)) ⟨Same.refl _, ([] : List Bool), rfl, rfl, fun z => absurd z (Nat.not_lt_zero _)⟩ (zj (by rw [List.length_append, List.length_cons]; omega)) ?_ ?_ ?_⟩
  case refine_2 =>
   rintro i ys H' hi ⟨g, _⟩
   exact ⟨_, _, g.seq h, gE9 hi⟩
  case refine_3 =>
   rintro i m' ys H' cc x H2 hi ⟨g, bs, lb, rfl, fb⟩ ⟨rfl, y1⟩ nx _
   have y1 := y1 _ (g.seq h)
   have fin : ∀ b : Bool, (q1.length = i → b = false) → ∃ bs' : List Bool, bs'.length = i + 1 ∧ bs.map V.bl ++ [V.bl b] = bs'.map V.bl ∧ (q1.length < i + 1 → false ∈ bs') := fun b hb => by
    refine ⟨bs ++ [b], by rw [List.length_append, lb]; rfl, by rw [List.map_append]; rfl, fun zz => ?_⟩
    by_cases e : q1.length = i
    ·rw [hb e]; exact List.mem_append_right _ List.mem_cons_self
    ·exact List.mem_append_left _ (fb (by omega))
   have cl : (∃ (pa : Addr) (qa : Rat), x = .ref pa ∧ SqT K H pa (TQ qa) ∧ Bq 1 40 qa ∧ q1.length ≠ i) ∨ u = x := by
    by_cases e1 : i < v1.length
    ·rw [List.getElem?_append_left e1] at y1
     obtain ⟨qa, ea, pa, ex, ha⟩ := r1.get y1
     exact .inl ⟨pa, qa, ex, ha, z1 qa (List.mem_of_getElem? ea), by omega⟩
    ·rw [List.getElem?_append_right (by omega)] at y1
     by_cases e2 : i = v1.length
     ·rw [e2, Nat.sub_self] at y1
      exact .inr (by simpa using y1)
     ·obtain ⟨j, hj⟩ : ∃ j, i - v1.length = j + 1 := ⟨i - v1.length - 1, by omega⟩
      rw [hj, List.getElem?_cons_succ] at y1
      obtain ⟨qa, ea, pa, ex, ha⟩ := r2.get y1
      exact .inl ⟨pa, qa, ex, ha, z2 qa (List.mem_of_getElem? ea), by omega⟩
   rcases cl with ⟨pa, qa, rfl, ha, sz, ne⟩ | rfl
   ·exact Or.inl ⟨rfl, _, rfl, _, rfl, .inr ⟨pa, qa, rfl, g.tup ha, _, rfl, iteT ⟨_, rfl, pa, a.g_NOUGHT, qa, 0, rfl, g.tup ha, n0 _, sz.sm.mono (by decide), sm0, _, rfl, nx _ _ ⟨g, fin _ fun e => absurd e ne⟩⟩⟩⟩
   ·exact Or.inl ⟨rfl, _, rfl, _, rfl, .inl ⟨(k.mono g).nr, _, rfl, iteF (nx _ _ ⟨g, fin _ fun _ => rfl⟩)⟩⟩
  rintro ys H2 ⟨g, bs, lb, rfl, fb⟩
  refine ⟨⟨_, g.seq h, by omega⟩, fun D hD => ?_⟩
  refine ⟨D, _, rfl, SqL.of qv, ?_⟩
  have q := q _ (g.trans (qy hD (.lst (bs.map V.bl))))
  have eb : bs.all id = false := by
   refine List.all_eq_false.mpr ⟨false, fb (by rw [List.length_append, List.length_cons]; omega), by decide⟩
  rw [eb]
  exact q
def opnC (us : List Un) : List Sta := List.replicate (us.filter isB).length .opn
def spOpen (K : Fg9) (a : Adr) : Sp := fun vs H Q _ => ∃ (pn : Addr) (many : Nat) (us : List Un), vs = [.ref pn] ∧ NetU K a H pn many us ∧ us.length ≤ 24 ∧ RetN H Q (staV (opnC us))
theorem ok_all_open (T : Txt K mg a) : FnOk P w K mg base CX0 2 a.f_all_open a.d_all_open ["net"] (spOpen K a) := by
 refine T.F_all_open.ok sc_all_open (fun vs H Q E h => ?_) (fun cdv A outer s H vs Q E hr h => ?_)
 ·obtain ⟨_, _, _, rfl, _⟩ := h
  rfl
 obtain ⟨pn, many, us, rfl, NU, l24, q⟩ := h
 obtain ⟨lu, lo, vk, hNa, hu, rk⟩ := NU
 obtain ⟨dx, hN⟩ := id hNa
 have lfil : (us.filter isB).length ≤ us.length := List.length_filter_le _ _
 refine ⟨_, (qV (zw (wK (N := ["place"]) (ix := [none]) ⟨rfl, rfl, rfl, rfl, trivial, rfl, trivial⟩ rfl (jV (Z0 (pv 0) T.C_Net T.t_Net_bends (ok_Net_bends T) (hr.mono (by decide)) T.b_Net_bends .nil pass0)) (fun _ => (zx (i := 0) (show (["place"] : List Str).Nodup by decide +kernel) rfl (Or.inl rfl))) (fun _ σ => wV rfl σ) (fun _ => jk) (fun _ => v6)))), ?_⟩
 refine ⟨_, rfl, pn, dx, _, rfl, hN, rfl, pn, many, us, rfl, ⟨lu, lo, vk, hNa, hu, rk⟩, by omega, fun l1 H1 n1 g1 e1 => ?_⟩
 have ly : (outV (bendP many us)).length = (us.filter isB).length := by unfold outV; rw [List.length_map, Yy]
 generalize outV (bendP many us) = ys at *
 refine ⟨l1, rfl, ⟨_, SqL.of e1⟩, jq (n := (us.filter isB).length) (fun i zs H' => H' = H1 ∧ zs = staV (List.replicate i .opn)) ⟨rfl, rfl⟩ (zj (by omega)) ?_ ?_ ?_⟩
 case refine_2 =>
  rintro i zs H' hi ⟨rfl, _⟩
  exact ⟨_, _, SqL.of e1, gE9 (by omega)⟩
 case refine_3 =>
  rintro i m' zs H' cc x H2 hi ⟨rfl, rfl⟩ ⟨rfl, y1⟩ nx _
  refine Or.inl ⟨rfl, nx _ _ ⟨rfl, ?_⟩⟩
  rw [List.replicate_succ']
  unfold staV
  rw [List.map_append]
  rfl
 rintro zs H' ⟨rfl, rfl⟩
 refine ⟨⟨_, SqL.of e1, by omega⟩, fun p hp => ?_⟩
 exact q p _ (zQ g1 hp) (g1.laid (zQ g1 hp) _) qv
def Lone (n : Nat) (f : List Rat) : Prop := ∃ k, f = loneF k n
def TermW (n : Nat) (fs : List (List Rat)) (x : Nat × Rat) : Prop := x.1 < fs.length ∧ Lone n (fs.getD x.1 []) ∧ Bq 29 2200 x.2
theorem V8 {n : Nat} {fs : List (List Rat)} (ts : List (Nat × Rat)) (ht : ∀ x ∈ ts, TermW n fs x) : ∀ i, Fine n 29 (2200 + i) ((ts.take i).foldl (fun f x => addT f (fs.getD x.1 []) x.2) (evenF 0 n))
 | 0 => by
  rw [List.take_zero]
  exact fine_even (Bq.zero _ _)
 | i + 1 => by
  have ih := V8 ts ht i
  cases e : ts[i]? with
  | none =>
   rw [List.take_succ, e]
   show Fine _ _ _ ((ts.take i ++ []).foldl _ _)
   rw [List.append_nil]
   exact ih.mono (Nat.le_refl _) (by omega)
  | some x =>
   rw [zY e, List.foldl_append]
   obtain ⟨_, ⟨k, hk⟩, hs⟩ := ht x (List.mem_of_getElem? e)
   have hg : Fine n 0 0 (fs.getD x.1 []) := by rw [hk]; exact fine_lone
   exact YW ih.1 hg.1 ih.2 fun y hy => ((hg.2 y hy).mul hs).mono (by decide) (show 0 + 2200 ≤ 2200 + i by omega)
def spTermsW (K : Fg9) : Sp := fun vs H Q _ => ∃ (pc pt lf : Addr) (vt vf : List V) (ts : List (Nat × Rat)) (fs : List (List Rat)) (n : Nat), vs = [.ref pc, .ref pt, .ref lf, .int (n : Int)] ∧ SqT K H pc (TQ 0) ∧ SqL K H pt vt ∧ TL K H vt ts ∧ SqL K H lf vf ∧ FL K H vf fs ∧ (∀ x ∈ ts, TermW n fs x) ∧ ts.length ≤ 60 ∧ n ≤ 40 ∧ RetL K H Q (YQ 0 ts fs n)
set_option maxHeartbeats 0 in
theorem ok_terms_formW (T : Txt K mg a) : FnOk P w K mg base CX0 4 a.f_terms_form a.d_terms_form ["constant", "terms", "found", "count"] (spTermsW K) := by
 refine T.F_terms_form.ok jJ (fun vs H Q E h => ?_) (fun cdv A outer s H vs Q E hr h => ?_)
 ·obtain ⟨_, _, _, _, _, _, _, _, rfl, _⟩ := h
  rfl
 obtain ⟨pc, pt, lf, vt, vf, ts, fs, n, rfl, hc, ht, rt, hf, rf, wt, l60, n40, q⟩ := h
 have lt := rt.length
 have h0 : PS (xk P w K mg base a cdv A outer s H E) (bS j9 0) _ := (zk (i := 4) jJ.nd rfl (Or.inl rfl) (qK (V3 T) (hr.mono (by decide)) rfl T.m_even_form T.F_even_form.kp T.b_even_form .nil pass0 (pa_c (pv 0) (pa_c (pv 3) qj)) (he := qz rfl _ _) (hpl := qZ rfl)))
 have h1 : PS (xk P w K mg base a cdv A outer s H E) (bS j9 1) _ := (kj PassesOwn.never rfl (jV (pv 1)) (jW rfl (zy (zx (i := 5) jJ.nd rfl (Or.inl rfl)) (zy (zx (i := 6) jJ.nd rfl (Or.inl rfl)) yK)))
    (qV (zk (i := 4) jJ.nd rfl (Or.inl rfl) (qK (xQ T) (hr.mono (by decide)) rfl T.m_added_times T.F_added_times.kp T.b_added_times .nil pass0 (pa_c (pv 4) (pa_c (pe_ix yk (pv 2) (pv 5) (fun _ _ => rfl)) (pa_c (pv 6) qj))) (he := qz rfl _ _) (hpl := qZ rfl)))))
 have h2 : PS (xk P w K mg base a cdv A outer s H E) (bS j9 2) _ := (zw (pv 4))
 refine body3 (by rfl) h0 h1 h2 ?_
 intros
 clear h0 h1 h2
 refine ⟨_, rfl, _, rfl, pc, 0, n, rfl, hc, n40, fun p1 H1 v1 np1 g1 e1 r1 => ?_⟩
 refine ⟨_, rfl, pt, rfl, ⟨_, g1.seq ht⟩, vy (n := ts.length) (fun i σ H' => Same H H' ∧ ∃ (p2 : Addr) (v2 : List V) (u5 u6 : Option V), σ = [some (.ref pc), some (.ref pt), some (.ref lf), some (.int (n : Int)), some (.ref p2), u5, u6] ∧ H p2 = none ∧ H' p2 = some (.lst v2) ∧ RL K H' v2 ((ts.take i).foldl (fun f x => addT f (fs.getD x.1 []) x.2) (evenF 0 n)))
  ⟨g1, p1, v1, _, _, rfl, np1, e1, r1⟩ ?_ ?_ ?_⟩
 ·rintro σ H' ⟨g, p2, v2, u5, u6, rfl, np, e2, r2⟩
  refine ⟨⟨_, g.seq ht, by omega⟩, ?_⟩
  rw [List.take_of_length_le (Nat.le_refl _)] at r2
  exact ⟨_, rfl, q p2 H' v2 np g e2 r2⟩
 ·rintro i σ H' hi ⟨g, _⟩
  exact ⟨_, _, g.seq ht, gE9 (by omega)⟩
 ·rintro i σ H0 x H' hi ⟨g, p2, v2, u5, u6, rfl, np, e2, r2⟩ ⟨rfl, y1⟩
  obtain ⟨x0, ex, tt, r, rfl, k1, k2⟩ := rt.get (y1 _ (g.seq ht))
  obtain ⟨hx, ⟨kk, hk⟩, sx⟩ := wt x0 (List.mem_of_getElem? ex)
  obtain ⟨lg, wg, ev, hg, rg⟩ := rf.getD hx
  have hfin := V8 ts wt i
  have hfg : Fine n 0 0 (fs.getD x0.1 []) := by rw [hk]; exact fine_lone
  rw [zY ex, List.foldl_append]
  show _
  refine ⟨tt, _, rfl, g.tup k1, rfl, _, _, rfl, _, _, rfl, rfl, ?_⟩
  refine ⟨_, rfl, _, rfl, _, rfl, lf, _, _, _, rfl, rfl, g.seq hf, atN ev, _, rfl, p2, lg, r, v2, wg, _, _, x0.2, rfl, SqL.of e2, r2, g.seq hg, rg.mono g, g.tup k2, by rw [hfin.1]; omega, by rw [hfin.1, hfg.1], fun z hz => (hfin.2 z hz).s4r (by omega) (by omega), fun z hz => ⟨(hfg.2 z hz).s4r (by omega) (by omega), (Bq.mul (hfg.2 z hz) sx).s4r (by omega) (by omega)⟩, sx.s4r (by omega) (by omega), fun p3 H3 v3 np3 g3 e3 r3 => ?_⟩
  exact ⟨g.trans g3, p3, v3, _, _, rfl, zQ g np3, e3, r3⟩
def leafB (rows : List Rw) (n : Nat) (form : List Rat) (bound : Rat) (ps : List Rat) : Bool :=
 (decide ((mixQ rows ps (List.replicate (n + 1) 0)).take n = form.drop 1) && !decide (bound < (mixQ rows ps (List.replicate (n + 1) 0)).getD n 0 + form.getD 0 0)) ||
 (decide ((mixQ rows ps (List.replicate (n + 1) 0)).take n = List.replicate n 0) && decide ((mixQ rows ps (List.replicate (n + 1) 0)).getD n 0 < 0))
def leafV (rows : List Rw) (n : Nat) (form : List Rat) (bound : Rat) (o : Option (List Rat)) : Bool := areB o rows.length && leafB rows n form bound (o.getD [])
structure LeafIn (K : Fg9) (a : Adr) (H : Hp) (pn lw say lc : Addr) (v : V) (many : Nat) (us : List Un) (cs : List Sta) (sp : List (Rat × Rat)) (ts : List (Nat × Rat)) (bound : Rat) (o : Option (List Rat)) : Prop where
 net : NetT K a H pn many us
 wid : ∃ vw, SqL K H lw vw ∧ SL K H vw sp
 say : ∃ pt pb vt, SqT K H say [.ref pt, .ref pb] ∧ SqL K H pt vt ∧ TL K H vt ts ∧ SqT K H pb (TQ bound)
 pr : Pr K H v o
 cas : SqL K H lc (staV cs)
 nc : NetC many us cs
 lsp : sp.length = many + us.length
 ssp : ∀ s ∈ sp, Bs 14 1000 s
 tw : ∀ x ∈ ts, TermW (many + opens cs) (runF many (many + opens cs) cs us).1 x
 l60 : ts.length ≤ 60
 bb : Bq 29 2300 bound
theorem LeafIn.mono {K : Fg9} {a : Adr} {H H' : Hp} {pn lw say lc : Addr} {v : V} {many : Nat} {us : List Un} {cs : List Sta} {sp : List (Rat × Rat)} {ts : List (Nat × Rat)} {bound : Rat} {o : Option (List Rat)} (h : LeafIn K a H pn lw say lc v many us cs sp ts bound o) (g : Same H H') : LeafIn K a H' pn lw say lc v many us cs sp ts bound o := by
 obtain ⟨vw, w1, w2⟩ := h.wid
 obtain ⟨pt, pb, vt, s1, s2, s3, s4⟩ := h.say
 exact ⟨h.net.mono g, ⟨vw, g.seq w1, w2.mono g⟩, ⟨pt, pb, vt, g.tup s1, g.seq s2, s3.mono g, g.tup s4⟩, h.pr.mono g, g.seq h.cas, h.nc, h.lsp, h.ssp, h.tw, h.l60, h.bb⟩
def leafR (many : Nat) (us : List Un) (cs : List Sta) (sp : List (Rat × Rat)) (ts : List (Nat × Rat)) (bound : Rat) (o : Option (List Rat)) : Bool :=
 leafV (rowsN many us cs (runF many (many + opens cs) cs us).1 sp) (many + opens cs) (YQ 0 ts (runF many (many + opens cs) cs us).1 (many + opens cs)) bound o
def spLeaf (K : Fg9) (a : Adr) : Sp := fun vs H Q _ => ∃ (pn lw say lc : Addr) (v : V) (many : Nat) (us : List Un) (cs : List Sta) (sp : List (Rat × Rat)) (ts : List (Nat × Rat)) (bound : Rat) (o : Option (List Rat)), vs = [.ref pn, .ref lw, .ref say, v, .ref lc] ∧ LeafIn K a H pn lw say lc v many us cs sp ts bound o ∧ ∀ H', Same H H' → Q (.bl (leafR many us cs sp ts bound o)) H'
theorem rb_row {B : Addr → Prop} {K : Fg9} {H : Hp} {vs : List V} {rs : List Rw} (h : RB B K H vs rs) : RowL K H vs rs := Paired.mapP h fun _ _ ⟨t, l, ws, p, e, h1, h2, _, h3, h4⟩ => ⟨t, l, p, ws, e, h1, SqL.of h2, h2, h3, h4⟩
theorem bq_mix {rows : List Rw} {ps acc : List Rat} {n b : Nat} (hr : ∀ r ∈ rows, Rz n r) (hp : ∀ p ∈ ps, Bq 1 40 p) (ha : ∀ x ∈ acc, Bq 29 b x) (hb : 2100 ≤ b) : ∀ x ∈ mixQ rows ps acc, Bq 29 (b + rows.length) x := by
 induction rows generalizing ps acc b with
 | nil =>
  intro x hx
  rw [show mixQ [] ps acc = acc by cases ps <;> rfl] at hx
  exact ha x hx
 | cons r rows ih =>
  obtain ⟨sh, bd⟩ := r
  cases ps with
  | nil => intro x hx; exact (ha x hx).mono (Nat.le_refl _) (Nat.le_add_right _ _)
  | cons p ps =>
   intro x hx
   have rz := hr (sh, bd) List.mem_cons_self
   have k := ih (ps := ps) (acc := List.zipWith (fun t q => t + p * q) acc (sh ++ [bd])) (b := b + 1) (fun r h => hr r (List.mem_cons_of_mem _ h)) (fun p h => hp p (List.mem_cons_of_mem _ h)) (fun x hx => by
    obtain ⟨i, hi⟩ := List.mem_iff_getElem?.mp hx
    rw [List.getElem?_zipWith] at hi
    cases e1 : acc[i]? with
    | none => rw [e1] at hi; cases hi
    | some t =>
     cases e2 : (sh ++ [bd])[i]? with
     | none => rw [e1, e2] at hi; cases hi
     | some q =>
      rw [e1, e2] at hi
      have e := Option.some.inj hi
      rw [← e]
      have hq : Bq 28 2050 q := by
       rcases List.mem_append.mp (List.mem_of_getElem? e2) with z | z
       ·exact rz.2.1 q z
       ·rw [List.mem_singleton.mp z]; exact rz.2.2
      exact (ha t (List.mem_of_getElem? e1)).add (((hp p List.mem_cons_self).mul hq).mono (Nat.le_refl _) (show 40 + 2050 ≤ b by omega))) (by omega) x hx
   rw [List.length_cons]
   exact k.mono (Nat.le_refl _) (by omega)
theorem rl_pl {K : Fg9} {H : Hp} {vs : List V} {qs : List Rat} (h : RL K H vs qs) : PL K H vs (qs.map fun q => (q.num, (q.den : Int))) := by
 refine ⟨by rw [List.length_map]; exact h.length, fun j x t e1 e2 => ?_⟩
 obtain ⟨q, eq, p, rfl, hp⟩ := h.get e1
 rw [List.getElem?_map, eq] at e2
 have e2 := Option.some.inj e2
 rw [← e2]
 exact ⟨p, rfl, hp⟩
theorem pairs_inj {l m : List Rat} : (l.map (fun q => (q.num, (q.den : Int))) = m.map fun q => (q.num, (q.den : Int))) ↔ l = m := by
 constructor
 ·intro h
  have k : ∀ q r : Rat, ((q.num, (q.den : Int)) = (r.num, (r.den : Int))) → q = r := fun q r e => by
   have e1 : q.num = r.num := congrArg Prod.fst e
   have e2 : (q.den : Int) = (r.den : Int) := congrArg Prod.snd e
   exact Rat.ext e1 (by omega)
  exact List.map_inj_right k |>.mp h
 ·intro h; rw [h]
theorem Yk (l m : List Rat) : decide (l.map (fun q => (q.num, (q.den : Int))) = m.map fun q => (q.num, (q.den : Int))) = decide (l = m) := decide_eq_decide.mpr pairs_inj
abbrev vW (P w K mg base) (a : Adr) (cdv A outer s H E) := (cxOf CX0 P w K mg base ["net", "widths", "saying", "prices", "case", "forms", "rows", "count", "form", "row"] "right_leaf" (qQ yQ) a.f_right_leaf cdv A outer s H E).nox
set_option maxHeartbeats 0 in
theorem ok_right_leaf (T : Txt K mg a) : FnOk P w K mg base CX0 8 a.f_right_leaf a.d_right_leaf ["net", "widths", "saying", "prices", "case"] (spLeaf K a) := by
 refine T.F_right_leaf.ok x6 (fun vs H Q E h => ?_) (fun cdv A outer s H vs Q E hr h => ?_)
 ·obtain ⟨_, _, _, _, _, _, _, _, _, _, _, _, rfl, _⟩ := h
  rfl
 obtain ⟨pn, lw, say, lc, v, many, us, cs, sp, ts, bound, o, rfl, L, q⟩ := h
 have n0 : ∀ H : Hp, SqT K H a.g_NOUGHT (TQ 0) := T.s_NOUGHT
 have NC := L.nc
 have oc := opens_le cs
 have lfil : (us.filter isB).length ≤ us.length := List.length_filter_le _ _
 have l12 := NC.2.1
 have lcs := NC.2.2.2.2
 have m6 := NC.2.2.2.1
 obtain ⟨f1, f2, f3⟩ := ZZ (n := many + opens cs) (cs := cs) NC.1 NC.2.2.1 us.length (Nat.le_refl _)
 rw [List.take_of_length_le (Nat.le_refl _)] at f1 f2 f3
 have f14 : ∀ f ∈ (runF many (many + opens cs) cs us).1, F14 (many + opens cs) f := fun f hf => (f3 f hf).mono (by omega) (by omega)
 have h0 : PS (vW P w K mg base a cdv A outer s H E) (bS yQ 0) _ := (zk (i := 5) x6.nd rfl (Or.inl rfl) (qK (ok_forms_in T) (hr.mono (by decide)) rfl T.m_forms_in T.F_forms_in.kp T.b_forms_in .nil pass0 (pa_c (pv 0) (pa_c (pv 4) qj)) (he := qz rfl _ _) (hpl := qZ rfl)))
 have h1 : PS (vW P w K mg base a cdv A outer s H E) (bS yQ 1) _ := (zk (i := 6) x6.nd rfl (Or.inl rfl) (qK (ok_rows_by T) (hr.mono (by decide)) rfl T.m_rows_by T.F_rows_by.kp T.b_rows_by .nil pass0 (pa_c (pv 0) (pa_c (pv 4) (pa_c (pv 5) (pa_c (pv 1) qj)))) (he := qz rfl _ _) (hpl := qZ rfl)))
 have h2 : PS (vW P w K mg base a cdv A outer s H E) (bS yQ 2) _ := (ps_if (jQ (yX (qK (ok_are_prices T) (hr.mono (by decide)) rfl T.m_are_prices T.F_are_prices.kp T.b_are_prices .nil pass0 (pa_c (pv 3) (pa_c (zq (zZ) rfl T.m_len boot_len (pa_c (pv 6) qj) (he := qz rfl _ _) (hpl := qZ rfl)) qj)) (he := qz rfl _ _) (hpl := qZ rfl))))
    (qV (zw pe_bl))
    zW)
 have h3 : PS (vW P w K mg base a cdv A outer s H E) (bS yQ 3) _ := (zk (i := 7) x6.nd rfl (Or.inl rfl) (qK (Z1 T) (hr.mono (by decide)) rfl T.m_variable_count T.F_variable_count.kp T.b_variable_count .nil pass0 (pa_c (pe_ix qY (Z0 (pv 0) T.C_Net T.t_Net_told (QY T) (hr.mono (by decide)) T.b_Net_told .nil pass0) qk (fun _ _ => rfl)) (pa_c (pv 4) qj)) (he := qz rfl _ _) (hpl := qZ rfl)))
 have h4 : PS (vW P w K mg base a cdv A outer s H E) (bS yQ 4) _ := (zk (i := 8) x6.nd rfl (Or.inl rfl) (qK (ok_terms_formW T) (hr.mono (by decide)) rfl T.m_terms_form T.F_terms_form.kp T.b_terms_form .nil pass0 (pa_c (yZ (v := .ref a.g_NOUGHT) rfl T.m_NOUGHT rfl) (pa_c (pe_ix qY (pv 2) qk (fun _ _ => rfl)) (pa_c (pv 5) (pa_c (pv 7) qj)))) (he := qz rfl _ _) (hpl := qZ rfl)))
 have h5 : PS (vW P w K mg base a cdv A outer s H E) (bS yQ 5) _ := (zk (i := 9) x6.nd rfl (Or.inl rfl) (qK (ok_mixed T) (hr.mono (by decide)) rfl T.m_mixed T.F_mixed.kp T.b_mixed .nil pass0 (pa_c (pv 6) (pa_c (pv 3) (pa_c (pv 7) qj))) (he := qz rfl _ _) (hpl := qZ rfl)))
 have h6 : PS (vW P w K mg base a cdv A outer s H E) (bS yQ 6) _ := (ps_if (PW.pt (pw_and (zJ (op_eqQ hr.units) (pe_ix qY (pv 9) qk (fun _ _ => rfl)) (vx wZ (pv 8) (vJ qk) kY) (zX _)) (J4 (jQ (yX (qK (J5 T) (hr.mono (by decide)) rfl T.m_less T.F_less.kp T.b_less .nil pass0 (pa_c (pe_ix qY (pv 2) qk (fun _ _ => rfl)) (pa_c (qK (ok_plus T) (hr.mono (by decide)) rfl T.m_plus T.F_plus.kp T.b_plus .nil pass0 (pa_c (pe_ix qY (pv 9) qk (fun _ _ => rfl)) (pa_c (pe_ix yk (pv 8) qk (fun _ _ => rfl)) qj)) (he := qz rfl _ _) (hpl := qZ rfl)) qj)) (he := qz rfl _ _) (hpl := qZ rfl)))))))
    (qV (zw pe_bl))
    zW)
 have h7 : PS (vW P w K mg base a cdv A outer s H E) (bS yQ 7) _ := (zw (pe_and (Q6 (op_eqQ hr.units) (pe_ix qY (pv 9) qk (fun _ _ => rfl)) (pe_op op_rep (j7 (pa_c (yZ (v := .ref a.g_NOUGHT) rfl T.m_NOUGHT rfl) qj)) (pv 7)) (zX _)) (pe_one (qK (J5 T) (hr.mono (by decide)) rfl T.m_less T.F_less.kp T.b_less .nil pass0 (pa_c (pe_ix qY (pv 9) qk (fun _ _ => rfl)) (pa_c (yZ (v := .ref a.g_NOUGHT) rfl T.m_NOUGHT rfl) qj)) (he := qz rfl _ _) (hpl := qZ rfl)))))
 refine body8 (by rfl) h0 h1 h2 h3 h4 h5 h6 h7 ?_
 intros
 clear h0 h1 h2 h3 h4 h5 h6 h7
 refine ⟨_, rfl, _, rfl, pn, lc, many, us, cs, rfl, L.net, L.cas, NC, fun lf vf H1 nlf g1 ef rf nd => ?_⟩
 obtain ⟨vw, hw, rw'⟩ := (L.mono g1).wid
 have fl1 := rf.fl
 refine ⟨_, rfl, _, rfl, _, rfl, _, rfl, pn, lc, lf, lw, vf, vw, many, us, cs, _, sp, _, rfl, ⟨(L.mono g1).net, (L.mono g1).cas, SqL.of ef, fl1, hw, rw', NC, f1, L.lsp, f14, L.ssp, by omega⟩, fun lr H2 vr nlr g2 er rr => ?_⟩
 have rz := rows_rz (cs := cs) NC.1 f1 L.lsp f14 L.ssp
 have lrows := rr.length
 have few : (rowsN many us cs (runF many (many + opens cs) cs us).1 sp).length ≤ 60 := by
  have k := Vk (runF many (many + opens cs) cs us).1 sp (xw many us cs)
  have : (xw many us cs).length ≤ cs.length := by
   unfold xw
   rw [List.length_zip]
   omega
  unfold rowsN
  rw [List.length_append, Z8]
  omega
 have g12 := g1.trans g2
 have L2 := L.mono g12
 refine ⟨_, rfl, _, rfl, _, _, rfl, .inl (SqL.of er), v, o, vr.length, rfl, L2.pr, by omega, fun H3 g3 => ⟨_, rfl, ?_⟩⟩
 have g13 := g12.trans g3
 have L3 := L.mono g13
 unfold leafR leafV at q
 generalize hrows : rowsN many us cs (runF many (many + opens cs) cs us).1 sp = rows at *
 rw [lrows]
 cases hb : areB o rows.length with
 | false =>
  rw [hb] at q
  exact iteT (q _ g13)
 | true =>
 rw [hb, Bool.true_and] at q
 refine iteF ?_
 cases o with
 | none => cases hb
 | some ps =>
 have lps : ps.length = rows.length := by
  unfold areB at hb
  exact of_decide_eq_true (Bool.and_eq_true_iff.mp hb).1
 obtain ⟨lu, lo, vk, outs, hNa, hu, rk, ho⟩ := L3.net
 obtain ⟨dx, hN⟩ := id hNa
 refine ⟨_, rfl, pn, dx, _, rfl, hN, rfl, pn, lu, lo, many, vk, us, outs, rfl, hNa, hu, rk, by omega, ho, fun t l2 o2 vu H4 g4 ht2 _ _ _ _ _ => ?_⟩
 have g14 := g13.trans g4
 have L4 := L.mono g14
 refine ⟨_, _, _, _, rfl, rfl, ht2, rfl, _, rfl, many, lc, cs, rfl, L4.cas, ?_⟩
 obtain ⟨pt, pb, vt, hs, hpt, rt, hpb⟩ := L4.say
 have ef4 := (g2.trans (g3.trans g4)) _ _ ef
 have fl4 := fl1.mono (g2.trans (g3.trans g4))
 have er4 := (g3.trans g4) _ _ er
 have rr4 := rr.mono (g3.trans g4)
 refine ⟨_, rfl, _, _, _, _, rfl, rfl, hs, rfl, _, rfl, _, rfl, a.g_NOUGHT, pt, lf, vt, vf, ts, _, many + opens cs, rfl, n0 _, hpt, rt, SqL.of ef4, fl4, L.tw, L.l60, by omega, fun lq H5 vq nlq g5 eq5 rq => ?_⟩
 have g15 := g14.trans g5
 have L5 := L.mono g15
 have pr := L5.pr
 cases pr with
 | @good lp vp _ hp rp zp np =>
 refine ⟨_, rfl, _, rfl, _, rfl, lr, lp, many + opens cs, vr, vp, rows, ps, rfl, SqL.of (g5 _ _ er4), hp, rb_row (rr4.mono g5), rp, lps.symm, np, by omega, fun r hr => rz r hr, fun x hx => ⟨(zp x hx).sm.mono (by decide), by have := (zp x hx).1; rwa [Nat.pow_one] at this⟩, fun pm H6 l6 b6 y6 shs bd g6 e6 e6' nl6 r6 h6 ln em => ?_⟩
 have g16 := g15.trans g6
 have eq6 := g6 _ _ eq5
 have rq6 := rq.mono g6
 have lq6 := rq6.length
 have fin := V8 ts L.tw ts.length
 rw [List.take_length] at fin
 have fin : Fine (many + opens cs) 29 (2200 + ts.length) (YQ 0 ts (runF many (many + opens cs) cs us).1 (many + opens cs)) := fin
 generalize YQ 0 ts (runF many (many + opens cs) cs us).1 (many + opens cs) = form at *
 refine ⟨_, rfl, _, _, _, _, rfl, rfl, SqT.of e6, rfl, _, rfl, _, rfl, _, _, rfl, SqL.of eq6, fun c7 h7 => ?_⟩
 rw [cut1]
 have g7 := qy h7 (.lst (vq.drop 1))
 have ld : (form.drop 1).length = many + opens cs := by rw [List.length_drop, fin.1]; omega
 refine ⟨l6, c7, y6, vq.drop 1, _, _, rfl, rfl, SqL.of (g7 _ _ e6'), SqL.of qv, rl_pl (r6.mono g7), rl_pl ((RL.drop 1 rq6).mono g7), by rw [List.length_map, List.length_map]; omega, ?_⟩
 rw [Yk]
 have bm : ∀ x ∈ shs ++ [bd], Bq 29 2200 x := fun x hx => by
  rw [em] at hx
  exact (bq_mix (b := 2100) rz zp (fun x hx => by rw [List.eq_of_mem_replicate hx]; exact Bq.zero _ _) (Nat.le_refl _) x hx).mono (Nat.le_refl _) (by omega)
 have bbd := bm bd (List.mem_append_right _ List.mem_cons_self)
 have sbd : SmQ 4000 bd := bbd.s4r (by decide) (by decide)
 have lB : leafB rows (many + opens cs) form bound ps = ((decide (shs = form.drop 1) && !decide (bound < bd + form.getD 0 0)) || (decide (shs = List.replicate (many + opens cs) 0) && decide (bd < 0))) := by
  unfold leafB
  rw [← em, List.take_left' ln, show (shs ++ [bd]).getD (many + opens cs) 0 = bd by rw [List.getD, List.getElem?_append_right (by omega), ln, Nat.sub_self]; rfl]
 have q : ∀ H', Same H H' → Q (.bl (leafB rows (many + opens cs) form bound ps)) H' := q
 obtain ⟨p0, a0, hp0⟩ := RL.head rq6 (by rw [fin.1]; omega)
 have bf0 : Bq 29 2260 (form.getD 0 0) := (fin.2 _ (Yv (by rw [fin.1]; omega))).mono (Nat.le_refl _) (by have := L.l60; omega)
 have hs7 := (g5.trans (g6.trans g7)).tup hs
 have hb7 := (g5.trans (g6.trans g7)).tup hpb
 refine ⟨_, rfl, iteD (fun c1 => ?_) (fun c1 => ?_)⟩
 ·refine ⟨_, rfl, _, _, _, _, rfl, rfl, hs7, rfl, _, rfl, _, _, _, _, rfl, rfl, SqT.of (g7 _ _ e6), rfl, _, rfl, lq, _, _, _, rfl, rfl, SqL.of (g7 _ _ eq6), a0, b6, p0, bd, _, rfl, g7.tup h6, g7.tup hp0, sbd, bf0.s4r (by decide) (by decide), fun p8 H8 g8 e8 => ?_⟩
  refine ⟨pb, p8, bound, _, rfl, g8.tup hb7, SqT.of e8, (L.bb.s4r (by decide) (by decide)).mono (by decide), (((bbd.mono (Nat.le_refl _) (show 2200 ≤ 2260 by decide)).add bf0).s4r (by decide) (by decide)).mono (by decide), _, rfl, ?_⟩
  have gZ := g7.trans g8
  refine iteNA (fun c3 => ?_) (fun c3 => ?_)
  ·have hz : leafB rows (many + opens cs) form bound ps = (decide (shs = List.replicate (many + opens cs) 0) && decide (bd < 0)) := by
    rw [lB, decide_eq_true c3, Bool.not_true, Bool.and_false, Bool.false_or]
   refine ⟨_, rfl, _, _, _, _, rfl, rfl, SqT.of (gZ _ _ e6), rfl, (show 1 ≤ sizeLine by decide), fun l0 hl0 => ?_⟩
   have gA := qy hl0 (.lst [V.ref a.g_NOUGHT])
   refine ⟨_, rfl, l0, _, _, rfl, rfl, qv, by omega, by omega, ?_, fun ls hls => ?_⟩
   ·rw [List.length_singleton]
    exact Nat.le_of_lt (zj (by omega))
   rw [Int.toNat_natCast, YV]
   have gB := qy hls (.lst (List.replicate (many + opens cs) (V.ref a.g_NOUGHT)))
   have gC := gZ.trans (gA.trans gB)
   refine ⟨l6, ls, y6, _, _, _, rfl, rfl, SqL.of (gC _ _ e6'), SqL.of qv, rl_pl (r6.mono gC), rl_pl (RL.rep (q := 0) ⟨a.g_NOUGHT, rfl, n0 _⟩ (many + opens cs)), by rw [List.length_map, List.length_map, List.length_replicate]; omega, ?_⟩
   rw [Yk]
   refine ⟨_, rfl, iteD (fun c2 => ?_) (fun c2 => ?_)⟩
   ·refine ⟨_, rfl, _, _, _, _, rfl, rfl, SqT.of (gC _ _ e6), rfl, b6, a.g_NOUGHT, bd, 0, rfl, gC.tup h6, n0 _, sbd.mono, sm0, ?_⟩
    rw [decide_eq_true c2, Bool.true_and] at hz
    rw [← hz]
    exact q _ (g16.trans gC)
   ·rw [decide_eq_false c2, Bool.false_and] at hz
    rw [← hz]
    exact q _ (g16.trans gC)
  ·have hz : leafB rows (many + opens cs) form bound ps = true := by
    rw [lB, decide_eq_true c1, decide_eq_false c3]
    rfl
   rw [hz] at q
   exact q _ (g16.trans gZ)
 ·have gZ := g7
  have hz : leafB rows (many + opens cs) form bound ps = (decide (shs = List.replicate (many + opens cs) 0) && decide (bd < 0)) := by
   rw [lB, decide_eq_false c1, Bool.false_and, Bool.false_or]
  refine ⟨_, rfl, _, _, _, _, rfl, rfl, SqT.of (gZ _ _ e6), rfl, (show 1 ≤ sizeLine by decide), fun l0 hl0 => ?_⟩
  have gA := qy hl0 (.lst [V.ref a.g_NOUGHT])
  refine ⟨_, rfl, l0, _, _, rfl, rfl, qv, by omega, by omega, ?_, fun ls hls => ?_⟩
  ·rw [List.length_singleton]
   exact Nat.le_of_lt (zj (by omega))
  rw [Int.toNat_natCast, YV]
  have gB := qy hls (.lst (List.replicate (many + opens cs) (V.ref a.g_NOUGHT)))
  have gC := gZ.trans (gA.trans gB)
  refine ⟨l6, ls, y6, _, _, _, rfl, rfl, SqL.of (gC _ _ e6'), SqL.of qv, rl_pl (r6.mono gC), rl_pl (RL.rep (q := 0) ⟨a.g_NOUGHT, rfl, n0 _⟩ (many + opens cs)), by rw [List.length_map, List.length_map, List.length_replicate]; omega, ?_⟩
  rw [Yk]
  refine ⟨_, rfl, iteD (fun c2 => ?_) (fun c2 => ?_)⟩
  ·refine ⟨_, rfl, _, _, _, _, rfl, rfl, SqT.of (gC _ _ e6), rfl, b6, a.g_NOUGHT, bd, 0, rfl, gC.tup h6, n0 _, sbd.mono, sm0, ?_⟩
   rw [decide_eq_true c2, Bool.true_and] at hz
   rw [← hz]
   exact q _ (g16.trans gC)
  ·rw [decide_eq_false c2, Bool.false_and] at hz
   rw [← hz]
   exact q _ (g16.trans gC)
def spRin (K : Fg9) (a : Adr) : Sp := fun vs H Q _ => ∃ (pn lw say lc tr : Addr) (v : V) (many : Nat) (us : List Un) (cs : List Sta) (sp : List (Rat × Rat)) (ts : List (Nat × Rat)) (bound : Rat) (o : Option (List Rat)), vs = [.ref pn, .ref lw, .ref say, .ref tr, .ref lc] ∧ SqT K H tr [.str "leaf", v] ∧ LeafIn K a H pn lw say lc v many us cs sp ts bound o ∧ ∀ H', Same H H' → Q (.bl (leafR many us cs sp ts bound o)) H'
abbrev J7 (P w K mg base) (a : Adr) (cdv A outer s H E) := (cxOf CX0 P w K mg base ["net", "widths", "saying", "tree", "case"] "right_in" (qQ wx) a.f_right_in cdv A outer s H E).nox
theorem ok_right_in (T : Txt K mg a) : FnOk P w K mg base CX0 9 a.f_right_in a.d_right_in ["net", "widths", "saying", "tree", "case"] (spRin K a) := by
 refine T.F_right_in.ok sc_right_in (fun vs H Q E h => ?_) (fun cdv A outer s H vs Q E hr h => ?_)
 ·obtain ⟨_, _, _, _, _, _, _, _, _, _, _, _, _, rfl, _⟩ := h
  rfl
 obtain ⟨pn, lw, say, lc, tr, v, many, us, cs, sp, ts, bound, o, rfl, ht, L, q⟩ := h
 have h0 : PS (J7 P w K mg base a cdv A outer s H E) (bS wx 0) _ := (ps_if (PW.pt (pw_or (jQ (yX (zq (wX) rfl T.m_isinstance boot_isinstance (pa_c (pv 3) (pa_c (vX (v := .ty "tuple") rfl T.m_tuple boot_tuple rfl) qj)) (he := qz rfl _ _) (hpl := qZ rfl)))) (pw_or (zJ op_eq (zq (zZ) rfl T.m_len boot_len (pa_c (pv 3) qj) (he := qz rfl _ _) (hpl := qZ rfl)) qk (zX _)) (xv (jQ (yX (zq (wX) rfl T.m_isinstance boot_isinstance (pa_c (pe_ix qY (pv 3) qk (fun _ _ => rfl)) (pa_c (vX (v := .ty "str") rfl T.m_str boot_str rfl) qj)) (he := qz rfl _ _) (hpl := qZ rfl))))))))
    (qV (zw pe_bl))
    zW)
 have h1 : PS (J7 P w K mg base a cdv A outer s H E) (bS wx 1) _ := (ps_if (PW.pt (pw_and (zJ op_eq (pe_ix qY (pv 3) qk (fun _ _ => rfl)) v6 (zX _)) (J4 (zJ op_eq (zq (zZ) rfl T.m_len boot_len (pa_c (pv 3) qj) (he := qz rfl _ _) (hpl := qZ rfl)) qk (zX _)))))
    (qV (zw (qK (ok_right_leaf T) (hr.mono (by decide)) rfl T.m_right_leaf T.F_right_leaf.kp T.b_right_leaf .nil pass0 (pa_c (pv 0) (pa_c (pv 1) (pa_c (pv 2) (pa_c (pe_ix qY (pv 3) qk (fun _ _ => rfl)) (pa_c (pv 4) qj))))) (he := qz rfl _ _) (hpl := qZ rfl))))
    zW)
 have h2 : PS (J7 P w K mg base a cdv A outer s H E) (bS wx 2) _ := jw
 have h3 : PS (J7 P w K mg base a cdv A outer s H E) (bS wx 3) _ := jw
 refine body4 (by rfl) h0 h1 h2 h3 ?_
 intros
 clear h0 h1 h2 h3
 refine ⟨_, rfl, _, _, _, rfl, IsI.tupTup ht, _, rfl, iteF ⟨_, rfl, _, _, rfl, .inr ht, rfl, _, rfl, iteF ?_⟩⟩
 refine ⟨_, rfl, _, _, _, _, rfl, rfl, ht, rfl, _, _, _, rfl, IsI.strStr _, _, rfl, iteF ?_⟩
 refine ⟨_, rfl, _, _, _, _, rfl, rfl, ht, rfl, rfl, _, rfl, iteT ⟨_, rfl, _, _, rfl, .inr ht, rfl, _, rfl, iteT ?_⟩⟩
 exact ⟨_, rfl, _, rfl, _, rfl, _, rfl, _, _, _, _, rfl, rfl, ht, rfl, _, rfl, pn, lw, say, lc, v, many, us, cs, sp, ts, bound, o, rfl, L, q⟩
structure TreeIn (K : Fg9) (a : Adr) (H : Hp) (pn pb say tr : Addr) (v : V) (many : Nat) (us : List Un) (outs : List Nat) (ss : List (Rat × Rat)) (ts : List (Nat × Rat)) (bound : Rat) (o : Option (List Rat)) : Prop where
 nb : Jj K a H pn pb many us outs ss
 tr : SqT K H tr [.str "leaf", v]
 say : ∃ pt pb vt, SqT K H say [.ref pt, .ref pb] ∧ SqL K H pt vt ∧ TL K H vt ts ∧ SqT K H pb (TQ bound)
 pr : Pr K H v o
 nc : NetC many us (opnC us)
 lss : ss.length = many
 sz : ∀ s ∈ ss, Bs 2 70 s
 tw : ∀ x ∈ ts, TermW (many + opens (opnC us)) (runF many (many + opens (opnC us)) (opnC us) us).1 x
 l60 : ts.length ≤ 60
 bb : Bq 29 2300 bound
def spRtree (K : Fg9) (a : Adr) : Sp := fun vs H Q _ => ∃ (pn pb say tr : Addr) (v : V) (many : Nat) (us : List Un) (outs : List Nat) (ss : List (Rat × Rat)) (ts : List (Nat × Rat)) (bound : Rat) (o : Option (List Rat)), vs = [.ref pn, .ref pb, .ref say, .ref tr] ∧ TreeIn K a H pn pb say tr v many us outs ss ts bound o ∧ ∀ H', Same H H' → Q (.bl (leafR many us (opnC us) (spanN ss us) ts bound o)) H'
theorem ok_right_tree (T : Txt K mg a) : FnOk P w K mg base CX0 10 a.f_right_tree a.d_right_tree ["net", "box", "saying", "tree"] (spRtree K a) := by
 refine T.F_right_tree.ok sc_right_tree (fun vs H Q E h => ?_) (fun cdv A outer s H vs Q E hr h => ?_)
 ·obtain ⟨_, _, _, _, _, _, _, _, _, _, _, _, rfl, _⟩ := h
  rfl
 obtain ⟨pn, pb, say, tr, v, many, us, outs, ss, ts, bound, o, rfl, I, q⟩ := h
 have NC := I.nc
 have l12 := NC.2.1
 obtain ⟨f1, f2, f3, f4, f5⟩ := JW NC I.lss I.sz
 refine ⟨_, (qV (zw (qK (ok_right_in T) (hr.mono (by decide)) rfl T.m_right_in T.F_right_in.kp T.b_right_in .nil pass0 (pa_c (pv 0) (pa_c (qK (ok_spans T) (hr.mono (by decide)) rfl T.m_spans T.F_spans.kp T.b_spans .nil pass0 (pa_c (pv 0) (pa_c (pv 1) qj)) (he := qz rfl _ _) (hpl := qZ rfl)) (pa_c (pv 2) (pa_c (pv 3) (pa_c (qK (ok_all_open T) (hr.mono (by decide)) rfl T.m_all_open T.F_all_open.kp T.b_all_open .nil pass0 (pa_c (pv 0) qj) (he := qz rfl _ _) (hpl := qZ rfl)) qj))))) (he := qz rfl _ _) (hpl := qZ rfl)))), ?_⟩
 refine ⟨_, rfl, _, rfl, _, rfl, pn, pb, many, us, outs, ss, rfl, I.nb, NC.1, NC.2.1, NC.2.2.1, I.lss, I.sz, NC.2.2.2.1, fun lw H2 vw nlw g2 ew rw' => ?_⟩
 obtain ⟨lu, lo, mB, vk, vB, h1, h2, h3, h4, h5, h6, h7⟩ := I.nb.mono g2
 refine ⟨_, rfl, _, rfl, _, rfl, pn, many, us, rfl, ⟨lu, lo, vk, h1, h2, h3⟩, by omega, fun lc H3 nlc g3 ec => ?_⟩
 have g := g2.trans g3
 obtain ⟨pt, pb2, vt, s1, s2, s3, s4⟩ := I.say
 refine ⟨pn, lw, say, lc, tr, v, many, us, opnC us, spanN ss us, ts, bound, o, rfl, g.tup I.tr, ⟨(I.nb.mono g).net, ⟨vw, SqL.of (g3 _ _ ew), rw'.mono g3⟩, ⟨pt, pb2, vt, g.tup s1, g.seq s2, s3.mono g, g.tup s4⟩, I.pr.mono g, SqL.of ec, NC, f2, f4, I.tw, I.l60, I.bb⟩, fun H' g4 => q H' (g.trans g4)⟩
def spMixed : Sp := fun vs H Q _ => ∃ c k : Int, vs = [.int c, .int k] ∧ ∀ m : Int, 0 ≤ m → m < 429496716 → Q (.int m) H
theorem sm64 {x : Int} (h1 : 0 ≤ x) (h2 : x < 18446744073709551616) : Sm 64 x := by unfold Sm; omega
theorem Z2 (T : Txt K mg a) : FnOk P w K mg base CX0 1 a.f_law_mixed a.d_law_mixed ["_law_cell", "_law_k"] spMixed := by
 refine T.F_law_mixed.ok JK (fun vs H Q E h => ?_) (fun cdv A outer s H vs Q E hr h => ?_)
 ·obtain ⟨_, _, rfl, _⟩ := h
  rfl
 obtain ⟨c, k, rfl, q⟩ := h
 refine ⟨_, (qW (zk (i := 2) JK.nd rfl (Or.inl rfl) (pe_op v5 (pe_op yj (pe_op yj (pe_op v5 (pv 0) qk) (pe_op jY qk (pv 1))) qk) qk))
   (qW (zk (i := 2) JK.nd rfl (Or.inl rfl) (pe_op v5 (pe_op jY (pe_op yj (pv 2) qk) (pe_op yj (pe_op yj (pv 2) qk) (pv 1))) qk))
   (qV (zw (pe_op yz (pe_op v5 (pe_op jY (pv 2) (pe_op yj (pv 2) qk)) qk) qk))))), ?_⟩
 have pos : ∀ {m : Int}, (0 : Int) < m → ∀ x : Int, 0 ≤ x % m ∧ x % m < m := fun {m} h x => ⟨Int.emod_nonneg x (by omega), Int.emod_lt_of_pos x h⟩
 refine ⟨_, rfl, _, _, rfl, rfl, (by show (0 : Int) < 2147483647; decide), _, rfl, _, _, rfl, rfl, IntMulOk.of_left (by decide +kernel), _, _, rfl, rfl, _, _, rfl, rfl, _, _, rfl, rfl, (by show (0 : Int) < 2147483629; decide), ?_⟩
 dsimp only
 have b1 := pos (show (0 : Int) < 2147483629 by decide) (c % 2147483647 + 16807 * k + 7)
 generalize (c % 2147483647 + 16807 * k + 7) % 2147483629 = n1 at b1 ⊢
 refine ⟨_, rfl, _, _, rfl, rfl, _, rfl, _, _, rfl, rfl, _, rfl, _, _, rfl, rfl, _, _, rfl, rfl, IntMulOk.of_left (intBits_le_64 (by omega) (by omega)), _, _, rfl, rfl, (by show (0 : Int) < 2147483587; decide), ?_⟩
 dsimp only
 have b2 := pos (show (0 : Int) < 2147483587 by decide) ((n1 + 48271) * (n1 + 69621 + k))
 generalize ((n1 + 48271) * (n1 + 69621 + k)) % 2147483587 = n2 at b2 ⊢
 refine ⟨_, rfl, _, rfl, _, _, rfl, rfl, _, _, rfl, rfl, IntMulOk.of_left (intBits_le_64 (by omega) (by omega)), _, _, rfl, rfl, (by show (0 : Int) < 2147483579; decide), _, _, rfl, rfl, ⟨by decide, by decide +kernel⟩, ?_⟩
 dsimp only
 have b3 := pos (show (0 : Int) < 2147483579 by decide) (n2 * (n2 + 40692))
 generalize (n2 * (n2 + 40692)) % 2147483579 = n3 at b3 ⊢
 have e : n3.fdiv 5 = n3 / 5 := Int.fdiv_eq_ediv_of_nonneg _ (by decide)
 rw [e]
 exact q _ (by omega) (by omega)
theorem cut_ints (ns : List Int) (lo hi : Option Int) : ∃ ms : List Int, cutV (ns.map V.int) lo hi = ms.map V.int ∧ ms.length ≤ ns.length := by
 unfold cutV
 rw [← List.map_drop, ← List.map_take]
 refine ⟨_, rfl, ?_⟩
 rw [List.length_take, List.length_drop]
 omega
theorem int_at {zs : List Int} {i : Nat} {x : V} (h : (zs.map V.int)[i]? = some x) : ∃ z : Int, zs[i]? = some z ∧ x = .int z := by
 rw [List.getElem?_map] at h
 cases e : zs[i]? with
 | none => rw [e] at h; cases h
 | some z => rw [e] at h; exact ⟨z, rfl, (Option.some.inj h).symm⟩
def spCell (K : Fg9) : Sp := fun vs H Q _ => ∃ (sa : Addr) (ns : List Int) (k : Nat), vs = [.ref sa, .int (k : Int)] ∧ SqL K H sa (ns.map V.int) ∧ ∀ c : Int, Q (.int c) H
theorem ok_law_cell_at (T : Txt K mg a) : FnOk P w K mg base CX0 1 a.f_law_cell_at a.d_law_cell_at ["_law_script", "_law_k"] (spCell K) := by
 refine T.F_law_cell_at.ok sc_law_cell_at (fun vs H Q E h => ?_) (fun cdv A outer s H vs Q E hr h => ?_)
 ·obtain ⟨_, _, _, rfl, _⟩ := h
  rfl
 obtain ⟨sa, ns, k, rfl, hS, q⟩ := h
 refine ⟨_, (qW (ps_if (zJ op_lt (pv 1) (zq (zZ) rfl T.m_len boot_len (pa_c (pv 0) qj) (he := qz rfl _ _) (hpl := qZ rfl)) (zX _))
    (qV (zw (pe_ix yk (pv 0) (pv 1) (fun _ _ => rfl))))
    zW)
   (qV (zw qk))), ?_⟩
 refine ⟨_, rfl, _, rfl, _, _, rfl, .inl hS, _, _, rfl, rfl, _, rfl, iteD (fun c => ?_) (fun c => ?_)⟩
 ·have hk : k < (ns.map V.int).length := by omega
  obtain ⟨x, ex⟩ : ∃ x, (ns.map V.int)[k]? = some x := ⟨_, gE9 hk⟩
  obtain ⟨z, _, rfl⟩ := int_at ex
  exact ⟨_, rfl, _, rfl, sa, _, _, _, rfl, rfl, hS, atN ex, q z⟩
 ·exact q 0
def spWide : Sp := fun vs H Q _ => ∃ c k : Int, vs = [.int c, .int k] ∧ ∀ v : Int, Q (.int v) H
theorem ok_law_wide (T : Txt K mg a) : FnOk P w K mg base CX0 2 a.f_law_wide a.d_law_wide ["_law_number", "_law_k"] spWide := by
 refine T.F_law_wide.ok J0 (fun vs H Q E h => ?_) (fun cdv A outer s H vs Q E hr h => ?_)
 ·obtain ⟨_, _, rfl, _⟩ := h
  rfl
 obtain ⟨c, k, rfl, q⟩ := h
 refine ⟨_, (qW (zk (i := 2) J0.nd rfl (Or.inl rfl) qk)
   (qW (kj PassesOwn.never rfl (xj rfl T.m_range (pa_c qk qj)) (zx (i := 3) J0.nd rfl (Or.inl rfl))
    (qV (zk (i := 2) J0.nd rfl (Or.inl rfl) (pe_op yj (pe_op jY (pv 2) (pe_op op_pow qk qk)) (pe_op v5 (qK (Z2 T) (hr.mono (by decide)) rfl T.m_law_mixed T.F_law_mixed.kp T.b_law_mixed .nil pass0 (pa_c (pv 0) (pa_c (pe_op yj (pe_op jY qk (pv 1)) (pv 3)) qj)) (he := qz rfl _ _) (hpl := qZ rfl)) (pe_op op_pow qk qk))))))
   (qV (zw (pv 2))))), ?_⟩
 refine ⟨6, rfl, by decide, by decide, vy (n := 6) (fun i σ H' => H' = H ∧ ∃ (v : Int) (u : Option V), σ = [some (.int c), some (.int k), some (.int v), u]) ⟨rfl, _, _, rfl⟩ ?_ ?_ ?_⟩
 ·rintro σ H' ⟨rfl, v, u, rfl⟩
  exact ⟨Nat.le_refl _, _, rfl, q v⟩
 ·rintro i σ H' hi _
  exact hi
 ·rintro i σ H' x H2 hi ⟨rfl, v, u, rfl⟩ ⟨rfl, rfl⟩
  refine ⟨_, rfl, _, _, rfl, rfl, ⟨by decide, by decide, by decide⟩, _, _, rfl, rfl, IntMulOk.of_right (by decide +kernel), _, rfl, _, rfl, _, _, rfl, rfl, IntMulOk.of_left (by decide +kernel), _, rfl, _, _, rfl, rfl, _, _, rfl, fun m m0 m1 => ?_⟩
  exact ⟨_, _, rfl, rfl, ⟨by decide, by decide, by decide⟩, _, _, rfl, rfl, (by show (0 : Int) < 10 ^ (8 : Int).toNat; decide), _, _, rfl, rfl, rfl, _, _, rfl⟩
def RetZ (H : Hp) (Q : VK) (n : Nat) : Prop := ∀ zs : List Int, zs.length = n → ∀ p H', H p = none → Same H H' → H' p = some (.lst (zs.map V.int)) → Q (.ref p) H'
def spSeeds (K : Fg9) : Sp := fun vs H Q _ => ∃ (sa : Addr) (ns : List Int) (st n : Nat), vs = [.ref sa, .int (st : Int), .int (n : Int)] ∧ SqL K H sa (ns.map V.int) ∧ n ≤ 40 ∧ RetZ H Q n
abbrev x4 (P w K mg base) (a : Adr) (cdv A outer s H E) := (cxOf CX0 P w K mg base ["_law_script", "_law_start", "_law_many_here", "_law_total", "_law_rest", "_law_at", "_law_cell", "_law_seeds_here", "_law_k"] "_law_seeds" (qQ jz) a.f_law_seeds cdv A outer s H E).nox
set_option maxHeartbeats 0 in
theorem ok_law_seeds (T : Txt K mg a) : FnOk P w K mg base CX0 3 a.f_law_seeds a.d_law_seeds ["_law_script", "_law_start", "_law_many_here"] (spSeeds K) := by
 refine T.F_law_seeds.ok v8 (fun vs H Q E h => ?_) (fun cdv A outer s H vs Q E hr h => ?_)
 ·obtain ⟨_, _, _, _, rfl, _⟩ := h
  rfl
 obtain ⟨sa, ns, st, n, rfl, hS, n40, q⟩ := h
 have h0 : PS (x4 P w K mg base a cdv A outer s H E) (bS jz 0) _ := (zk (i := 3) v8.nd rfl (Or.inl rfl) (qK (ok_law_cell_at T) (hr.mono (by decide)) rfl T.m_law_cell_at T.F_law_cell_at.kp T.b_law_cell_at .nil pass0 (pa_c (pv 0) (pa_c (pv 1) qj)) (he := qz rfl _ _) (hpl := qZ rfl)))
 have h1 : PS (x4 P w K mg base a cdv A outer s H E) (bS jz 1) _ := (zk (i := 4) v8.nd rfl (Or.inl rfl) qk)
 have h2 : PS (x4 P w K mg base a cdv A outer s H E) (bS jz 2) _ := (ps_if (zJ op_eq (pe_op v5 (pv 3) qk) qk (zX _))
    (qV (zk (i := 4) v8.nd rfl (Or.inl rfl) (pe_op yz (zq (Z6) rfl T.m_abs boot_abs (pa_c (pv 3) qj) (he := qz rfl _ _) (hpl := qZ rfl)) qk)))
    zW)
 have h3 : PS (x4 P w K mg base a cdv A outer s H E) (bS jz 3) _ := (kj PassesOwn.never rfl (pi_enum rfl T.m_enumerate (pa_c (vx wZ (pv 0) (vJ (pv 1)) kY) qj)) (jW rfl (zy (zx (i := 5) v8.nd rfl (Or.inl rfl)) (zy (zx (i := 6) v8.nd rfl (Or.inl rfl)) yK)))
    (qV (zk (i := 3) v8.nd rfl (Or.inl rfl) (pe_op v5 (pe_op yj (pe_op jY (pv 3) qk) (qK (Z2 T) (hr.mono (by decide)) rfl T.m_law_mixed T.F_law_mixed.kp T.b_law_mixed .nil pass0 (pa_c (pv 6) (pa_c (pv 5) qj)) (he := qz rfl _ _) (hpl := qZ rfl))) qk))))
 have h4 : PS (x4 P w K mg base a cdv A outer s H E) (bS jz 4) _ := (zk (i := 7) v8.nd rfl (Or.inl rfl) (j7 qj))
 have h5 : PS (x4 P w K mg base a cdv A outer s H E) (bS jz 5) _ := (kj PassesOwn.never rfl (xj rfl T.m_range (pa_c (pv 2) qj)) (zx (i := 8) v8.nd rfl (Or.inl rfl))
    (qW (ps_if (zJ op_gt (pv 4) (pe_op op_pow qk qk) (zX _))
    (qV (xY (pe_bm PySem.F.plainAttrs_list PySem.F.slot_list_append PySem.F.type_list_append kx (pv 7) (pa_c (pe_op v5 (pv 4) (pe_op op_pow qk qk)) qj) (hs := qz rfl _ _) (hplain := qZ rfl))))
    (qV (xY (pe_bm PySem.F.plainAttrs_list PySem.F.slot_list_append PySem.F.type_list_append kx (pv 7) (pa_c (qK (ok_law_wide T) (hr.mono (by decide)) rfl T.m_law_wide T.F_law_wide.kp T.b_law_wide .nil pass0 (pa_c (pe_op yj (pv 3) (pe_op jY qk (pv 8))) (pa_c (pv 8) qj)) (he := qz rfl _ _) (hpl := qZ rfl)) qj) (hs := qz rfl _ _) (hplain := qZ rfl)))))
   (qV (zk (i := 4) v8.nd rfl (Or.inl rfl) (pe_op yz (pv 4) (pe_op op_pow qk qk))))))
 have h6 : PS (x4 P w K mg base a cdv A outer s H E) (bS jz 6) _ := (zw (pv 7))
 refine body7 (by rfl) h0 h1 h2 h3 h4 h5 h6 ?_
 intros
 clear h0 h1 h2 h3 h4 h5 h6
 refine ⟨_, rfl, _, rfl, sa, ns, st, rfl, hS, fun c => ?_⟩
 refine ⟨_, rfl, _, _, rfl, rfl, (by show (0 : Int) < 3; decide), rfl, _, rfl, iteD (fun _ => ⟨_, rfl, _, rfl, _, _, rfl, rfl, ⟨by decide, by decide +kernel⟩, ?_⟩) (fun _ => ?_)⟩
 all_goals
  refine ⟨_, rfl, _, rfl, _, rfl, _, _, rfl, hS, fun c2 hc2 => ?_⟩
  obtain ⟨ks, ek, hk⟩ := cut_ints ns (some (st : Int)) none
  rw [ek]
  have g0 := qy hc2 (.lst (ks.map V.int))
  refine ⟨c2, rfl, ⟨_, SqL.of qv⟩, vy (n := ks.length) (fun i σ H1 => Same H H1 ∧ H1 c2 = some (.lst (ks.map V.int)) ∧ ∃ (t r : Int) (u5 u6 : Option V), σ = [some (.ref sa), some (.int (st : Int)), some (.int (n : Int)), some (.int t), some (.int r), u5, u6, none, none])
   ⟨g0, qv, _, _, _, _, rfl⟩ ?_ ?_ ?_⟩
  case refine_2 =>
   rintro i σ H1 hi ⟨_, e2, _⟩
   exact ⟨_, _, SqL.of e2, gE9 (by rw [List.length_map]; omega)⟩
  case refine_3 =>
   rintro i σ H1 x H2 hi ⟨g, e2, t, r, u5, u6, rfl⟩ ⟨p, x2, hp, rfl, rfl, y1⟩
   obtain ⟨ci, hci, rfl⟩ := int_at (y1 _ (SqL.of e2))
   have g3 := qy hp (.tup [.int (i : Int), .int ci])
   refine ⟨p, _, rfl, SqT.of qv, rfl, _, _, rfl, _, _, rfl, rfl, ?_⟩
   refine ⟨_, rfl, _, _, rfl, rfl, IntMulOk.of_right (by decide +kernel), _, rfl, _, rfl, _, _, rfl, fun v v0 v1 => ?_⟩
   exact ⟨_, _, rfl, rfl, _, _, rfl, rfl, (by show (0 : Int) < 999999999989; decide), g.trans g3, g3 _ _ e2, _, _, _, _, rfl⟩
  rintro σ H1 ⟨g, e2, t, r, u5, u6, rfl⟩
  refine ⟨⟨_, SqL.of e2, by rw [List.length_map]; exact Nat.le_refl _⟩, ?_⟩
  refine ⟨(by decide), fun ls hls => ?_⟩
  have nls : H ls = none := zQ g hls
  have g1 := qy hls (.lst [])
  refine ⟨_, rfl, _, rfl, by omega, by omega, vy (n := n) (fun i σ H2 => Same H H2 ∧ ∃ (zs : List Int) (r : Int) (u8 : Option V), zs.length = i ∧ H2 ls = some (.lst (zs.map V.int)) ∧ σ = [some (.ref sa), some (.int (st : Int)), some (.int (n : Int)), some (.int t), some (.int r), u5, u6, some (.ref ls), u8])
   ⟨g.trans g1, [], _, _, rfl, qv, rfl⟩ ?_ ?_ ?_⟩
  case refine_1 =>
   rintro σ H2 ⟨g2, zs, r, u8, ez, el, rfl⟩
   exact ⟨by show _ ≤ n; omega, _, rfl, q zs ez ls H2 nls g2 el⟩
  case refine_2 =>
   rintro i σ H2 hi _
   show i < _
   omega
  rintro i σ H2 x H3 hi ⟨g2, zs, r, u8, ez, el, rfl⟩ ⟨rfl, rfl⟩
  have lz : (zs.map V.int).length < sizeLine := by rw [List.length_map]; exact zj (by omega)
  have ap : ∀ v : Int, zs.map V.int ++ [V.int v] = (zs ++ [v]).map V.int := fun v => by rw [List.map_append]; rfl
  refine ⟨_, rfl, _, _, rfl, rfl, ⟨by decide, by decide, by decide⟩, _, _, rfl, rfl, _, rfl, iteD (fun _ => ?_) (fun _ => ?_)⟩
  ·refine ⟨_, rfl, .inl ⟨rfl, _, SqL.of el⟩, _, rfl, _, _, rfl, rfl, ⟨by decide, by decide, by decide⟩, _, _, rfl, rfl, (by show (0 : Int) < 10 ^ (48 : Int).toNat; decide), ls, _, _, rfl, rfl, el, lz, ?_⟩
   refine ⟨_, rfl, _, _, rfl, rfl, ⟨by decide, by decide, by decide⟩, _, _, rfl, rfl, ⟨by decide, by decide +kernel⟩, g2.laid nls _, zs ++ [r % 10 ^ (48 : Int).toNat], _, _, ?_, ?_, rfl⟩
   ·rw [List.length_append, ez]; rfl
   ·rw [qv]; exact congrArg (fun z => some (HO.lst z)) (ap _)
  ·refine ⟨_, rfl, .inl ⟨rfl, _, SqL.of el⟩, _, rfl, _, rfl, _, _, rfl, rfl, IntMulOk.of_left (by decide +kernel), _, _, rfl, rfl, _, rfl, _, _, rfl, fun v => ⟨ls, _, _, rfl, rfl, el, lz, ?_⟩⟩
   refine ⟨_, rfl, _, _, rfl, rfl, ⟨by decide, by decide, by decide⟩, _, _, rfl, rfl, ⟨by decide, by decide +kernel⟩, g2.laid nls _, zs ++ [v], _, _, ?_, ?_, rfl⟩
   ·rw [List.length_append, ez]; rfl
   ·rw [qv]; exact congrArg (fun z => some (HO.lst z)) (ap v)
def spPart : Sp := fun vs H Q _ => ∃ t b : Int, vs = [.int t, .int b] ∧ 0 < b ∧ Sm 8000 b ∧ RetT H Q (T2 (nt t b) (nb t b))
theorem kZ (T : Txt K mg a) : FnOk P w K mg base CX0 1 a.f_law_part a.d_law_part ["_law_top", "_law_bottom"] spPart := by
 refine T.F_law_part.ok J3 (fun vs H Q E h => ?_) (fun cdv A outer s H vs Q E hr h => ?_)
 ·obtain ⟨_, _, rfl, _⟩ := h
  rfl
 obtain ⟨t, b, rfl, hb, hs, q⟩ := h
 refine ⟨_, (qW (zk (i := 2) J3.nd rfl (Or.inl rfl) (zq (Z6) rfl T.m_abs boot_abs (pa_c (pv 0) qj) (he := qz rfl _ _) (hpl := qZ rfl)))
   (qW (zk (i := 3) J3.nd rfl (Or.inl rfl) (pv 1))
   (qW (ps_while PassesOwn.never (zJ op_gt (pv 2) qk (zX _))
    (qV (ps_par (i := 2) (j := 3) rfl J3.nd rfl rfl (by decide) rfl rfl (pa_c (pe_op v5 (pv 3) (pv 2)) (pa_c (pv 2) qj)) rfl)))
   (qV (zw (yq (pa_c (pe_op yz (pv 0) (pv 3)) (pa_c (pe_op yz (pv 1) (pv 3)) qj)))))))), ?_⟩
 have d1 := divB (t := t) (show b ≠ 0 by omega) hs
 refine ⟨_, rfl, _, rfl, ?_⟩
 refine ⟨_, rfl, ?_⟩
 refine while_by (fun σ H' => H' = H ∧ ∃ (r y : Int), σ = [some (.int t), some (.int b), some (.int r), some (.int y)] ∧ 0 ≤ r ∧ 0 ≤ y ∧ Int.gcd y r = Int.gcd b (if t < 0 then -t else t))
  (fun σ _ => match σ with | [_, _, some (.int r), _] => r.toNat | _ => 0) ⟨rfl, _, _, rfl, abs_nn _, by omega, rfl⟩ ?_ ?_
 ·rintro σ H' ⟨rfl, r, y, rfl, hr', hy, hg⟩
  refine ⟨_, rfl, _, _, rfl, rfl, _, rfl, iteD (fun c => ?_) (fun c => ?_)⟩
  ·refine ⟨_, rfl, _, rfl, _, _, rfl, rfl, c, _, rfl, _, _, rfl, ?_⟩
   refine ⟨⟨rfl, y % r, r, rfl, Int.emod_nonneg _ (by omega), hr', gcd_step.trans hg⟩, ?_⟩
   have := Int.emod_lt_of_pos y c
   have := Int.emod_nonneg y (show r ≠ 0 by omega)
   show (y % r).toNat < r.toNat
   omega
  ·have e : r = 0 := by omega
   subst e
   have e2 : y = sg t b := by
    rw [← gcd_end hy, hg]
    unfold sg
    rw [if_neg (show ¬ b < 0 by omega), Int.gcd_comm]
    split <;> simp [Int.neg_gcd]
   subst e2
   exact ⟨_, rfl, _, rfl, _, _, rfl, rfl, d1, _, rfl, _, rfl, _, _, rfl, rfl, d1, y9, fun p hp => q.new hp⟩
 ·rintro σ H' Q1 Q2 hq ⟨v, e, i, j, e1, e2, k, ek, q1⟩
  exact ⟨v, e, i, j, e1, e2, k, ek, hq _ _ q1⟩
theorem Qq (T : Txt K mg a) : FnOk P w K mg base CX0 2 a.f_law_sum a.d_law_sum ["_law_one", "_law_other"] (spBinQ K (· + ·)) := by
 refine T.F_law_sum.ok sc_law_sum (fun vs H Q E h => ?_) (fun cdv A outer s H vs Q E hr h => ?_)
 ·obtain ⟨_, _, _, _, rfl, _⟩ := h
  rfl
 obtain ⟨p, r, x, y, rfl, hp, hq, sx, sy, q⟩ := h
 refine ⟨_, (qW (zk (i := 2) sc_law_sum.nd rfl (Or.inl rfl) (pe_op yj (pe_op jY (pe_ix qY (pv 0) qk (fun _ _ => rfl)) (pe_ix qY (pv 1) qk (fun _ _ => rfl))) (pe_op jY (pe_ix qY (pv 1) qk (fun _ _ => rfl)) (pe_ix qY (pv 0) qk (fun _ _ => rfl)))))
   (qV (zw (qK (kZ T) (hr.mono (by decide)) rfl T.m_law_part T.F_law_part.kp T.b_law_part .nil pass0 (pa_c (pv 2) (pa_c (pe_op jY (pe_ix qY (pv 0) qk (fun _ _ => rfl)) (pe_ix qY (pv 1) qk (fun _ _ => rfl))) qj)) (he := qz rfl _ _) (hpl := qZ rfl))))), ?_⟩
 refine ⟨_, rfl, _, _, _, _, rfl, rfl, hp, rfl, _, rfl, _, _, _, _, rfl, rfl, hq, rfl, _, _, rfl, rfl, mulOk sx.1 sy.2, _, rfl, _, _, _, _, rfl, rfl, hq, rfl, _, rfl, _, _, _, _, rfl, rfl, hp, rfl, _, _, rfl, rfl, mulOk sy.1 sx.2, _, _, rfl, rfl, ?_⟩
 refine ⟨_, rfl, _, rfl, _, _, _, _, rfl, rfl, hp, rfl, _, rfl, _, _, _, _, rfl, rfl, hq, rfl, _, _, rfl, rfl, mulOk sx.2 sy.2, _, _, rfl, Int.mul_pos (Q4 x).pos (Q4 y).pos, sx.2.mul sy.2, ?_⟩
 rw [(q_plus x y).1, (q_plus x y).2]
 exact q
theorem ok_law_many (T : Txt K mg a) : FnOk P w K mg base CX0 2 a.f_law_many a.d_law_many ["_law_one", "_law_other"] (spBinQ K (· * ·)) := by
 refine T.F_law_many.ok sc_law_many (fun vs H Q E h => ?_) (fun cdv A outer s H vs Q E hr h => ?_)
 ·obtain ⟨_, _, _, _, rfl, _⟩ := h
  rfl
 obtain ⟨p, r, x, y, rfl, hp, hq, sx, sy, q⟩ := h
 refine ⟨_, (qV (zw (qK (kZ T) (hr.mono (by decide)) rfl T.m_law_part T.F_law_part.kp T.b_law_part .nil pass0 (pa_c (pe_op jY (pe_ix qY (pv 0) qk (fun _ _ => rfl)) (pe_ix qY (pv 1) qk (fun _ _ => rfl))) (pa_c (pe_op jY (pe_ix qY (pv 0) qk (fun _ _ => rfl)) (pe_ix qY (pv 1) qk (fun _ _ => rfl))) qj)) (he := qz rfl _ _) (hpl := qZ rfl)))), ?_⟩
 refine ⟨_, rfl, _, _, _, _, rfl, rfl, hp, rfl, _, rfl, _, _, _, _, rfl, rfl, hq, rfl, _, _, rfl, rfl, mulOk sx.1 sy.1, ?_⟩
 refine ⟨_, rfl, _, _, _, _, rfl, rfl, hp, rfl, _, rfl, _, _, _, _, rfl, rfl, hq, rfl, _, _, rfl, rfl, mulOk sx.2 sy.2, _, _, rfl, Int.mul_pos (Q4 x).pos (Q4 y).pos, sx.2.mul sy.2, ?_⟩
 rw [(q_times x y).1, (q_times x y).2]
 exact q
def spTaken (K : Fg9) : Sp := fun vs H Q _ => ∃ (n : Int) (g : Bool), vs = [.int n, .bl g] ∧ ∀ (n' : Int) (q : Rat) (t r : Addr) (H' : Hp), Shr q → Same H H' → SqT K H' t [.int n', .ref r] → SqT K H' r (TQ q) → Q (.ref t) H'
theorem six_at {y : Int} (h0 : 0 ≤ y) (h6 : y < 6) : ∃ m : Nat, (m = 1 ∨ m = 2 ∨ m = 3 ∨ m = 4 ∨ m = 7 ∨ m = 1000000000) ∧ atI [V.int 1, V.int 1, V.int 1, V.int 2, V.int 3, V.int 4] y = some (.int (m : Int)) := by
 have c : y = 0 ∨ y = 1 ∨ y = 2 ∨ y = 3 ∨ y = 4 ∨ y = 5 := by omega
 rcases c with c | c | c | c | c | c <;> subst c
 ·exact ⟨1, by decide, rfl⟩
 ·exact ⟨1, by decide, rfl⟩
 ·exact ⟨1, by decide, rfl⟩
 ·exact ⟨2, by decide, rfl⟩
 ·exact ⟨3, by decide, rfl⟩
 ·exact ⟨4, by decide, rfl⟩
theorem three_at {y : Int} (h0 : 0 ≤ y) (h3 : y < 3) : ∃ m : Nat, (m = 1 ∨ m = 2 ∨ m = 3 ∨ m = 4 ∨ m = 7 ∨ m = 1000000000) ∧ atI [V.int 1, V.int 7, V.int 1000000000] y = some (.int (m : Int)) := by
 have c : y = 0 ∨ y = 1 ∨ y = 2 := by omega
 rcases c with c | c | c <;> subst c
 ·exact ⟨1, by decide, rfl⟩
 ·exact ⟨7, by decide, rfl⟩
 ·exact ⟨1000000000, by decide, rfl⟩
theorem part_tq {K : Fg9} {H : Hp} {p : Addr} {t : Int} {m : Nat} (hm : m = 1 ∨ m = 2 ∨ m = 3 ∨ m = 4 ∨ m = 7 ∨ m = 1000000000) (e : H p = some (.tup (T2 (nt t m) (nb t m)))) : SqT K H p (TQ (Rat.divInt t m)) := by
 have en := n_rat (t := t) (b := (m : Int)) (by omega)
 unfold TQ
 rw [← en.1, ← en.2]
 exact SqT.of e
theorem Sm.few {m : Nat} (hm : m = 1 ∨ m = 2 ∨ m = 3 ∨ m = 4 ∨ m = 7 ∨ m = 1000000000) : Sm 8000 (m : Int) := Sm.mono (m := 64) (by unfold Sm; omega) (by decide)
abbrev Y8 (P w K mg base) (a : Adr) (cdv A outer s H E) := (cxOf CX0 P w K mg base ["_law_number", "_law_great", "_law_top", "_law_way", "_law_far", "_law_tail"] "_law_taken" (qQ v9) a.f_law_taken cdv A outer s H E).nox
set_option maxHeartbeats 0 in
theorem V2 (T : Txt K mg a) : FnOk P w K mg base CX0 2 a.f_law_taken a.d_law_taken ["_law_number", "_law_great"] (spTaken K) := by
 refine T.F_law_taken.ok vQ (fun vs H Q E h => ?_) (fun cdv A outer s H vs Q E hr h => ?_)
 ·obtain ⟨_, _, rfl, _⟩ := h
  rfl
 obtain ⟨n, gr, rfl, q⟩ := h
 have h0 : PS (Y8 P w K mg base a cdv A outer s H E) (bS v9 0) _ := (ZJ (zq (vY) rfl T.m_divmod boot_divmod (pa_c (pv 0) (pa_c qk qj)) (he := qz rfl _ _) (hpl := qZ rfl)) (jW rfl (zy (zx (i := 0) vQ.nd rfl (Or.inl rfl)) (zy (zx (i := 2) vQ.nd rfl (Or.inl rfl)) yK))))
 have h1 : PS (Y8 P w K mg base a cdv A outer s H E) (bS v9 1) _ := (ZJ (zq (vY) rfl T.m_divmod boot_divmod (pa_c (pv 0) (pa_c qk qj)) (he := qz rfl _ _) (hpl := qZ rfl)) (jW rfl (zy (zx (i := 0) vQ.nd rfl (Or.inl rfl)) (zy (zx (i := 3) vQ.nd rfl (Or.inl rfl)) yK))))
 have h2 : PS (Y8 P w K mg base a cdv A outer s H E) (bS v9 2) _ := (ps_if (yX (pv 1))
    (qW (ZJ (zq (vY) rfl T.m_divmod boot_divmod (pa_c (pv 0) (pa_c qk qj)) (he := qz rfl _ _) (hpl := qZ rfl)) (jW rfl (zy (zx (i := 0) vQ.nd rfl (Or.inl rfl)) (zy (zx (i := 4) vQ.nd rfl (Or.inl rfl)) yK))))
   (qV (ps_if (zJ op_eq (pv 4) qk (zX _))
    (qW (ZJ (zq (vY) rfl T.m_divmod boot_divmod (pa_c (pv 0) (pa_c (pe_op op_pow qk qk) qj)) (he := qz rfl _ _) (hpl := qZ rfl)) (jW rfl (zy (zx (i := 0) vQ.nd rfl (Or.inl rfl)) (zy (zx (i := 5) vQ.nd rfl (Or.inl rfl)) yK))))
   (qV (zw (yq (pa_c (pv 0) (pa_c (qK (kZ T) (hr.mono (by decide)) rfl T.m_law_part T.F_law_part.kp T.b_law_part .nil pass0 (pa_c (pe_op yj (pe_op jY (pe_op V0 (pv 2) qk) (pe_op op_pow qk qk)) (pv 5)) (pa_c (pe_ix yk (j7 (pa_c qk (pa_c qk (pa_c (pe_op op_pow qk qk) qj)))) (pe_op v5 (pv 3) qk) (fun _ _ => rfl)) qj)) (he := qz rfl _ _) (hpl := qZ rfl)) qj))))))
    zW)))
    zW)
 have h3 : PS (Y8 P w K mg base a cdv A outer s H E) (bS v9 3) _ := (zw (yq (pa_c (pv 0) (pa_c (qK (kZ T) (hr.mono (by decide)) rfl T.m_law_part T.F_law_part.kp T.b_law_part .nil pass0 (pa_c (pe_op V0 (pv 2) qk) (pa_c (pe_ix yk (j7 (pa_c qk (pa_c qk (pa_c qk (pa_c qk (pa_c qk (pa_c qk qj))))))) (pv 3) (fun _ _ => rfl)) qj)) (he := qz rfl _ _) (hpl := qZ rfl)) qj))))
 refine body4 (by rfl) h0 h1 h2 h3 ?_
 intros
 clear h0 h1 h2 h3
 refine ⟨_, rfl, _, _, rfl, ⟨by decide, by decide⟩, fun p1 h1 => ⟨p1, _, rfl, SqT.of qv, rfl, _, _, rfl, _, _, rfl, rfl, ?_⟩⟩
 have g1 := qy h1 (.tup [.int (n / 13), .int (n % 13)])
 generalize upd H p1 (.tup [.int (n / 13), .int (n % 13)]) = H1 at *
 refine ⟨_, rfl, _, _, rfl, ⟨by decide, by decide⟩, fun p2 h2 => ⟨p2, _, rfl, SqT.of qv, rfl, _, _, rfl, _, _, rfl, rfl, ?_⟩⟩
 have g2 := g1.trans (qy h2 (.tup [.int (n / 13 / 6), .int (n / 13 % 6)]))
 generalize upd H1 p2 (.tup [.int (n / 13 / 6), .int (n / 13 % 6)]) = H2 at *
 have a0 : 0 ≤ n % 13 := Int.emod_nonneg _ (by decide)
 have a1 : n % 13 < 13 := Int.emod_lt_of_pos _ (by decide)
 have b0 : 0 ≤ n / 13 % 6 := Int.emod_nonneg _ (by decide)
 have b1 : n / 13 % 6 < 6 := Int.emod_lt_of_pos _ (by decide)
 generalize n % 13 = x at *
 generalize n / 13 % 6 = y at *
 generalize n / 13 / 6 = n2 at *
 clear h1 h2 g1
 obtain ⟨m6, hm6, at6⟩ := six_at b0 b1
 refine ⟨_, rfl, _, rfl, ?_⟩
 cases gr with
 | false =>
  refine iteF ?_
  refine ⟨_, rfl, _, rfl, _, _, rfl, rfl, (show 6 ≤ sizeLine by decide), fun l hl => ⟨_, rfl, l, _, _, _, rfl, rfl, SqL.of qv, at6, _, _, rfl, by omega, Sm.few hm6, fun p5 H5 g5 e5 => ⟨y9, fun t ht => ?_⟩⟩⟩
  have g6 := qy ht (.tup [.int n2, .ref p5])
  exact q n2 _ t p5 _ (shr_part hm6 (by omega)) (g2.trans ((qy hl _).trans (g5.trans g6))) (SqT.of qv) (g6.tup (part_tq hm6 e5))
 | true =>
  refine iteT ?_
  refine ⟨_, rfl, _, _, rfl, ⟨by decide, by decide⟩, fun p3 h3 => ⟨p3, _, rfl, SqT.of qv, rfl, _, _, rfl, _, _, rfl, rfl, ?_⟩⟩
  have g3 := g2.trans (qy h3 (.tup [.int (n2 / 3), .int (n2 % 3)]))
  generalize upd H2 p3 (.tup [.int (n2 / 3), .int (n2 % 3)]) = H3 at *
  refine ⟨_, rfl, rfl, _, rfl, iteD (fun _ => ?_) (fun _ => ?_)⟩
  ·refine ⟨_, rfl, _, _, rfl, rfl, ⟨by decide, by decide, by decide⟩, _, _, rfl, ⟨by decide, by decide⟩, fun p4 h4 => ⟨p4, _, rfl, SqT.of qv, rfl, _, _, rfl, _, _, rfl, rfl, ?_⟩⟩
   have e9 : (10 : Int) ^ (9 : Int).toNat = 1000000000 := by decide
   have g4 := g3.trans (qy h4 (.tup [.int (n2 / 3 / 10 ^ (9 : Int).toNat), .int (n2 / 3 % 10 ^ (9 : Int).toNat)]))
   dsimp only
   generalize upd H3 p4 (.tup [.int (n2 / 3 / 10 ^ (9 : Int).toNat), .int (n2 / 3 % 10 ^ (9 : Int).toNat)]) = H4 at *
   have c0 : 0 ≤ n2 / 3 % 10 ^ (9 : Int).toNat := Int.emod_nonneg _ (by decide)
   have c1 : n2 / 3 % 10 ^ (9 : Int).toNat < 1000000000 := Int.emod_lt_of_pos _ (by decide)
   generalize n2 / 3 % 10 ^ (9 : Int).toNat = z at *
   generalize n2 / 3 / 10 ^ (9 : Int).toNat = n4 at *
   obtain ⟨m3, hm3, at3⟩ := three_at (y := y % 3) (Int.emod_nonneg _ (by decide)) (Int.emod_lt_of_pos _ (by decide))
   refine ⟨_, rfl, _, rfl, _, _, rfl, rfl, _, _, rfl, rfl, ⟨by decide, by decide, by decide⟩, _, _, rfl, rfl, IntMulOk.of_left (intBits_le_64 (by omega) (by omega)), _, rfl, _, _, rfl, rfl, _, _, rfl, rfl, ⟨by decide, by decide, by decide⟩, (show 3 ≤ sizeLine by decide), fun l hl => ?_⟩
   have e18 : (10 : Int) ^ (18 : Int).toNat = 1000000000000000000 := by decide
   refine ⟨_, rfl, _, _, rfl, rfl, (by show (0 : Int) < 3; decide), l, _, _, _, rfl, rfl, SqL.of qv, at3, _, _, rfl, by omega, Sm.few hm3, fun p5 H5 g5 e5 => ⟨y9, fun t ht => ?_⟩⟩
   have g6 := qy ht (.tup [.int n4, .ref p5])
   exact q n4 _ t p5 _ (shr_part hm3 (by rw [e18]; omega)) (g4.trans ((qy hl _).trans (g5.trans g6))) (SqT.of qv) (g6.tup (part_tq hm3 e5))
  ·refine ⟨_, rfl, _, rfl, _, _, rfl, rfl, (show 6 ≤ sizeLine by decide), fun l hl => ⟨_, rfl, l, _, _, _, rfl, rfl, SqL.of qv, at6, _, _, rfl, by omega, Sm.few hm6, fun p5 H5 g5 e5 => ⟨y9, fun t ht => ?_⟩⟩⟩
   have g6 := qy ht (.tup [.int (n2 / 3), .ref p5])
   exact q (n2 / 3) _ t p5 _ (shr_part hm6 (by omega)) (g3.trans ((qy hl _).trans (g5.trans g6))) (SqT.of qv) (g6.tup (part_tq hm6 e5))
def spSmall (K : Fg9) : Sp := fun vs H Q _ => ∃ (n : Int) (g : Bool), vs = [.int n, .bl g] ∧ ∀ (q : Rat) (r : Addr) (H' : Hp), Shr q → Same H H' → SqT K H' r (TQ q) → Q (.ref r) H'
theorem ok_law_small (T : Txt K mg a) : FnOk P w K mg base CX0 3 a.f_law_small a.d_law_small ["_law_number", "_law_great"] (spSmall K) := by
 refine T.F_law_small.ok sc_law_small (fun vs H Q E h => ?_) (fun cdv A outer s H vs Q E hr h => ?_)
 ·obtain ⟨_, _, rfl, _⟩ := h
  rfl
 obtain ⟨n, gr, rfl, q⟩ := h
 refine ⟨_, (qV (zw (pe_ix qY (qK (V2 T) (hr.mono (by decide)) rfl T.m_law_taken T.F_law_taken.kp T.b_law_taken .nil pass0 (pa_c (pv 0) (pa_c (pv 1) qj)) (he := qz rfl _ _) (hpl := qZ rfl)) qk (fun _ _ => rfl)))), ?_⟩
 exact ⟨_, rfl, _, rfl, n, gr, rfl, fun n' x t r H' sx g ht hr' => ⟨t, _, _, _, rfl, rfl, ht, rfl, q x r H' sx g hr'⟩⟩
theorem cutNN {vs : List V} {i j : Nat} (hi : i ≤ vs.length) (hj : j ≤ vs.length) : cutV vs (some (i : Int)) (some (j : Int)) = (vs.drop i).take (j - i) := by
 unfold cutV
 rw [HT.sIx_nat, HT.sIx_nat, Nat.min_eq_left hi, Nat.min_eq_left hj]
theorem outV_get {ls : List Nat} {k : Nat} {m : Nat} (h : ls[k]? = some m) : (outV ls)[k]? = some (.int (m : Int)) := by unfold outV; rw [List.getElem?_map, h]; rfl
theorem outV_len (ls : List Nat) : (outV ls).length = ls.length := by unfold outV; rw [List.length_map]
theorem map_erase {α β : Type} (f : α → β) : ∀ (l : List α) (k : Nat), (l.map f).eraseIdx k = (l.eraseIdx k).map f
 | [], _ => rfl
 | _ :: _, 0 => rfl
 | x :: xs, k + 1 => by
  show f x :: (xs.map f).eraseIdx k = f x :: (xs.eraseIdx k).map f
  rw [map_erase f xs k]
theorem outV_erase (ls : List Nat) (k : Nat) : (outV ls).eraseIdx k = outV (ls.eraseIdx k) := map_erase _ ls k
theorem V9 : ∀ {l : List Nat} {k m : Nat}, l[k]? = some m → (m :: l.eraseIdx k).Perm l
 | [], _, _, h => by simp at h
 | x :: xs, 0, m, h => by
  have e : x = m := by simpa using h
  subst e
  exact List.Perm.refl _
 | x :: xs, k + 1, m, h => by
  have z := V9 (l := xs) (k := k) (m := m) (by simpa using h)
  show (m :: x :: xs.eraseIdx k).Perm (x :: xs)
  exact (List.Perm.swap x m _).trans (List.Perm.cons x z)
theorem seqIx {k n : Nat} (h : k < n) : seqIndex? (k : Int) n = some k := by
 unfold seqIndex?
 first
  | (simp; omega)
  | (simp [h]; done)
  | (rw [if_neg (by omega)]; simp [h])
theorem TL.upd_lst {K : Fg9} {H : Hp} {t : Addr} {vs ys : List V} {ts : List (Nat × Rat)} {o : HO} (h : TL K H vs ts) (e : H t = some (.lst ys)) : TL K (upd H t o) vs ts :=
 Paired.mapP h fun _ _ ⟨t, r, e1, k1, k2⟩ => ⟨t, r, e1, SqT.upd_lst k1 e, SqT.upd_lst k2 e⟩
def spUnitL (K : Fg9) : Sp := fun vs H Q _ => ∃ (n : Int) (pl : Nat) (b g : Bool), vs = [.int n, .int (pl : Int), .bl b, .bl g] ∧ 1 ≤ pl ∧ pl ≤ 30 ∧ ∀ u, WfU pl u → ShrU u → RetBy H Q fun H' v => UnN H K H' v u
abbrev xZ (P w K mg base) (a : Adr) (cdv A outer s H E) := (cxOf CX0 P w K mg base ["_law_number", "_law_places", "_law_bent", "_law_great", "_law_kind", "_law_way", "_law_more", "_law_left", "_law_terms", "_law_k", "_law_coin", "_law_spot", "_law_share"] "_law_unit" (qQ jX) a.f_law_unit cdv A outer s H E).nox
set_option maxHeartbeats 0 in
theorem ok_law_unit (T : Txt K mg a) : FnOk P w K mg base CX0 4 a.f_law_unit a.d_law_unit ["_law_number", "_law_places", "_law_bent", "_law_great"] (spUnitL K) := by
 refine T.F_law_unit.ok yv (fun vs H Q E h => ?_) (fun cdv A outer s H vs Q E hr h => ?_)
 ·obtain ⟨_, _, _, _, rfl, _⟩ := h
  rfl
 obtain ⟨n, pl, b, gr, rfl, p1, p30, q⟩ := h
 have h0 : PS (xZ P w K mg base a cdv A outer s H E) (bS jX 0) _ := (ZJ (zq (vY) rfl T.m_divmod boot_divmod (pa_c (pv 0) (pa_c qk qj)) (he := qz rfl _ _) (hpl := qZ rfl)) (jW rfl (zy (zx (i := 0) yv.nd rfl (Or.inl rfl)) (zy (zx (i := 4) yv.nd rfl (Or.inl rfl)) yK))))
 have h1 : PS (xZ P w K mg base a cdv A outer s H E) (bS jX 1) _ := (ps_if (PW.pt (pw_and (zJ op_lt (pv 4) qk (zX _)) (J4 (yX (pv 2)))))
    (qW (ZJ (zq (vY) rfl T.m_divmod boot_divmod (pa_c (pv 0) (pa_c qk qj)) (he := qz rfl _ _) (hpl := qZ rfl)) (jW rfl (zy (zx (i := 0) yv.nd rfl (Or.inl rfl)) (zy (zx (i := 5) yv.nd rfl (Or.inl rfl)) yK))))
   (qV (zw (yq (pa_c v6 (pa_c (pe_ix yk (j7 (pa_c (pe_op v5 (pv 0) (pv 1)) (pa_c (pe_op V0 (pv 1) qk) qj))) (jy (Yw) rfl T.m_int boot_int (pa_c (Q6 op_gt (pv 5) qk (zX _)) qj) (he := qz rfl _ _) (hpl := qZ rfl)) (fun _ _ => rfl)) qj))))))
    zW)
 have h2 : PS (xZ P w K mg base a cdv A outer s H E) (bS jX 2) _ := (ZJ (zq (vY) rfl T.m_divmod boot_divmod (pa_c (pv 0) (pa_c qk qj)) (he := qz rfl _ _) (hpl := qZ rfl)) (jW rfl (zy (zx (i := 0) yv.nd rfl (Or.inl rfl)) (zy (zx (i := 6) yv.nd rfl (Or.inl rfl)) yK))))
 have h3 : PS (xZ P w K mg base a cdv A outer s H E) (bS jX 3) _ := (zk (i := 7) yv.nd rfl (Or.inl rfl) (jy (call_list_rng rfl) rfl T.m_list boot_list (pa_c (jy (call_range1) rfl T.m_range boot_range (pa_c (pv 1) qj) (he := qz rfl _ _) (hpl := qZ rfl)) qj) (he := qz rfl _ _) (hpl := qZ rfl)))
 have h4 : PS (xZ P w K mg base a cdv A outer s H E) (bS jX 4) _ := (zk (i := 8) yv.nd rfl (Or.inl rfl) (j7 qj))
 have h5 : PS (xZ P w K mg base a cdv A outer s H E) (bS jX 5) _ := (kj PassesOwn.never rfl (xj rfl T.m_range (pa_c (zq (call_min2 rfl) rfl T.m_min boot_min (pa_c (pv 1) (pa_c (pe_op yj qk (pv 6)) qj)) (he := qz rfl _ _) (hpl := qZ rfl)) qj)) (zx (i := 9) yv.nd rfl (Or.inl rfl))
    (qW (ZJ (zq (vY) rfl T.m_divmod boot_divmod (pa_c (pv 0) (pa_c qk qj)) (he := qz rfl _ _) (hpl := qZ rfl)) (jW rfl (zy (zx (i := 0) yv.nd rfl (Or.inl rfl)) (zy (zx (i := 10) yv.nd rfl (Or.inl rfl)) yK))))
   (qW (ZJ (zq (vY) rfl T.m_divmod boot_divmod (pa_c (pv 0) (pa_c (zq (zZ) rfl T.m_len boot_len (pa_c (pv 7) qj) (he := qz rfl _ _) (hpl := qZ rfl)) qj)) (he := qz rfl _ _) (hpl := qZ rfl)) (jW rfl (zy (zx (i := 0) yv.nd rfl (Or.inl rfl)) (zy (zx (i := 11) yv.nd rfl (Or.inl rfl)) yK))))
   (qW (ps_if (PW.pt (pw_and (zJ op_eq (pv 9) qk (zX _)) (J4 (zJ op_eq (pv 10) qk (zX _)))))
    (qV (zk (i := 11) yv.nd rfl (Or.inl rfl) (pe_op V0 (zq (zZ) rfl T.m_len boot_len (pa_c (pv 7) qj) (he := qz rfl _ _) (hpl := qZ rfl)) qk)))
    zW)
   (qW (ZJ (qK (V2 T) (hr.mono (by decide)) rfl T.m_law_taken T.F_law_taken.kp T.b_law_taken .nil pass0 (pa_c (pv 0) (pa_c (pv 3) qj)) (he := qz rfl _ _) (hpl := qZ rfl)) (jW rfl (zy (zx (i := 0) yv.nd rfl (Or.inl rfl)) (zy (zx (i := 12) yv.nd rfl (Or.inl rfl)) yK))))
   (qV (xY (pe_bm PySem.F.plainAttrs_list PySem.F.slot_list_append PySem.F.type_list_append kx (pv 8) (pa_c (yq (pa_c (pe_bm PySem.F.plainAttrs_list PySem.F.slot_list_pop PySem.F.type_list_pop mt_popAt (pv 7) (pa_c (pv 11) qj) (hs := qz rfl _ _) (hplain := qZ rfl)) (pa_c (pv 12) qj))) qj) (hs := qz rfl _ _) (hplain := qZ rfl)))))))))
 have h6 : PS (xZ P w K mg base a cdv A outer s H E) (bS jX 6) _ := (zw (yq (pa_c v6 (pa_c (qK (ok_law_small T) (hr.mono (by decide)) rfl T.m_law_small T.F_law_small.kp T.b_law_small .nil pass0 (pa_c (pv 0) (pa_c (pv 3) qj)) (he := qz rfl _ _) (hpl := qZ rfl)) (pa_c (pv 8) qj)))))
 refine body7 (by rfl) h0 h1 h2 h3 h4 h5 h6 ?_
 intros
 clear h0 h1 h2 h3 h4 h5 h6
 refine ⟨_, rfl, _, _, rfl, ⟨by decide, by decide⟩, fun pa ha => ⟨pa, _, rfl, SqT.of qv, rfl, _, _, rfl, _, _, rfl, rfl, ?_⟩⟩
 have g1 := qy ha (.tup [.int (n / 5), .int (n % 5)])
 generalize upd H pa (.tup [.int (n / 5), .int (n % 5)]) = H1 at *
 generalize n / 5 = n1 at *
 generalize n % 5 = kd at *
 clear ha
 refine (fun h => ⟨_, rfl, _, _, rfl, rfl, _, rfl, iteD (fun c => ⟨_, rfl, _, rfl, ?bd⟩) (fun _ => iteF h)⟩) ?_
 case bd =>
  cases b with
  | false => exact iteF h
  | true =>
   refine iteT ?_
   refine ⟨_, rfl, _, _, rfl, ⟨by decide, by decide⟩, fun pb hb => ⟨pb, _, rfl, SqT.of qv, rfl, _, _, rfl, _, _, rfl, rfl, ?_⟩⟩
   have g2 := g1.trans (qy hb (.tup [.int (n1 / 3), .int (n1 % 3)]))
   generalize upd H1 pb (.tup [.int (n1 / 3), .int (n1 % 3)]) = H2 at *
   generalize n1 / 3 = n2 at *
   generalize n1 % 3 = wy at *
   obtain ⟨m, hm⟩ : ∃ m : Nat, n2 % (pl : Int) = (m : Int) := Int.eq_ofNat_of_zero_le (Int.emod_nonneg _ (by omega))
   have ml : m < pl := by
    have := Int.emod_lt_of_pos n2 (show (0 : Int) < pl by omega)
    omega
   refine ⟨_, rfl, _, rfl, _, _, rfl, rfl, (by show (0 : Int) < pl; omega), _, rfl, _, _, rfl, rfl, y9, fun l hl => ?_⟩
   refine ⟨_, rfl, _, _, rfl, rfl, .inr ⟨_, rfl, ?_⟩⟩
   by_cases k : 0 < wy
   ·refine ⟨l, _, _, .int ((pl : Int) - 1), rfl, rfl, SqL.of qv, (by dsimp only; rw [decide_eq_true k]; rfl), y9, fun t ht => ?_⟩
    refine q (.bend (pl - 1)) (show pl - 1 < pl by omega) trivial t _ (g2.trans ((qy hl _).trans (qy ht _))) fun lf o e => ⟨t, rfl, ?_⟩
    rw [show ((pl - 1 : Nat) : Int) = (pl : Int) - 1 by omega]
    exact SqT.of qv
   ·refine ⟨l, _, _, .int (n2 % (pl : Int)), rfl, rfl, SqL.of qv, (by dsimp only; rw [decide_eq_false k]; rfl), y9, fun t ht => ?_⟩
    refine q (.bend m) ml trivial t _ (g2.trans ((qy hl _).trans (qy ht _))) fun lf o e => ⟨t, rfl, ?_⟩
    rw [← hm]
    exact SqT.of qv
 refine ⟨_, rfl, _, _, rfl, ⟨by decide, by decide⟩, fun pb hb => ⟨pb, _, rfl, SqT.of qv, rfl, _, _, rfl, _, _, rfl, rfl, ?_⟩⟩
 have g2 := g1.trans (qy hb (.tup [.int (n1 / 3), .int (n1 % 3)]))
 have m0 : 0 ≤ n1 % 3 := Int.emod_nonneg _ (by decide)
 have m1 : n1 % 3 < 3 := Int.emod_lt_of_pos _ (by decide)
 generalize upd H1 pb (.tup [.int (n1 / 3), .int (n1 % 3)]) = H2 at *
 generalize n1 / 3 = n2 at *
 generalize n1 % 3 = mo at *
 clear g1 hb
 refine ⟨_, rfl, pl, rfl, fun pr hpr => ⟨pr, pl, rfl, qv, by omega, fun ll hll => ⟨(by decide), fun lt hlt => ?_⟩⟩⟩
 have k1 := qy hpr (.ext (RngAt pr pl))
 have k2 := qy hll (.lst ((List.range pl).map fun k : Nat => V.int (k : Int)))
 have k3 := qy hlt (.lst [])
 have nll : H ll = none := zQ (g2.trans k1) hll
 have nlt : H lt = none := zQ (g2.trans (k1.trans k2)) hlt
 have eL := k3 _ _ (qv (H := upd H2 pr (.ext (RngAt pr pl))) (a := ll) (o := .lst ((List.range pl).map fun k : Nat => V.int (k : Int))))
 have eT := qv (H := upd (upd H2 pr (.ext (RngAt pr pl))) ll (.lst ((List.range pl).map fun k : Nat => V.int (k : Int)))) (a := lt) (o := .lst [])
 have ltl : ll ≠ lt := zK qv hlt
 have g3 := g2.trans (k1.trans (k2.trans k3))
 generalize upd (upd (upd H2 pr (.ext (RngAt pr pl))) ll (.lst ((List.range pl).map fun k : Nat => V.int (k : Int)))) lt (.lst []) = H3 at *
 clear k1 k2 k3 hpr hll hlt g2
 obtain ⟨cnt, hc, c3, cp⟩ : ∃ cnt : Nat, (if 1 + mo < (pl : Int) then 1 + mo else (pl : Int)) = (cnt : Int) ∧ cnt ≤ 3 ∧ cnt ≤ pl := by
  by_cases k : 1 + mo < (pl : Int)
  ·rw [if_pos k]; exact ⟨(1 + mo).toNat, by omega, by omega, by omega⟩
  ·rw [if_neg k]; exact ⟨pl, rfl, by omega, by omega⟩
 refine ⟨_, rfl, _, rfl, _, _, rfl, rfl, _, _, rfl, (cnt : Int), congrArg (fun z => [V.int z]) hc, by omega, by omega, vy (n := cnt) (fun i σ H' => Same H H' ∧ ∃ (num : Int) (ls : List Nat) (ts : List (Nat × Rat)) (vt : List V) (u9 u10 u11 u12 : Option V), σ = [some (.int num), some (.int (pl : Int)), some (.bl b), some (.bl gr), some (.int kd), none, some (.int mo), some (.ref ll), some (.ref lt), u9, u10, u11, u12] ∧ H' ll = some (.lst (outV ls)) ∧ H' lt = some (.lst vt) ∧ TL K H' vt ts ∧ ts.length = i ∧ ls.length + i = pl ∧ (ts.map (·.1) ++ ls).Nodup ∧ (∀ m ∈ ts.map (·.1) ++ ls, m < pl) ∧ ∀ x ∈ ts, Shr x.2)
  ⟨g3, n2, List.range pl, [], [], _, _, _, _, rfl, eL, eT, .nil, rfl, by rw [List.length_range]; rfl, by rw [List.map_nil, List.nil_append]; exact List.nodup_range, fun m hm => by simpa using hm, fun x hx => (by cases hx)⟩ ?_ ?_ ?_⟩
 ·rintro σ H' ⟨g, num, ls, ts, vt, u9, u10, u11, u12, rfl, eL, eT, rT, lts, lls, nd, lim, sh⟩
  refine ⟨by show (cnt : Int).toNat ≤ cnt; omega, ?_⟩
  refine ⟨_, rfl, _, rfl, num, gr, rfl, fun qx r H5 sx g5 hr5 => ⟨_, rfl, (show 3 ≤ sizeLine by decide), fun t ht => ?_⟩⟩
  have g6 := qy ht (.tup [.str "sum", .ref r, .ref lt])
  have g56 := g5.trans g6
  refine q (.sum qx ts) ⟨fun x hx => lim _ (List.mem_append_left _ (List.mem_map.mpr ⟨x, hx, rfl⟩)), (List.nodup_append.mp nd).1, by omega⟩ ⟨sx, sh, by omega⟩ t _ (g.trans g56) fun lf o e => ?_
  exact ⟨t, r, lt, vt, rfl, SqT.of qv, g6.tup hr5, g56 _ _ eT, Ne.symm (zK e nlt), rT.mono g56⟩
 ·rintro i σ H' hi _
  show i < (cnt : Int).toNat
  omega
 ·rintro i σ H0 x H' hi ⟨g, num, ls, ts, vt, u9, u10, u11, u12, rfl, eL, eT, rT, lts, lls, nd, lim, sh⟩ ⟨rfl, rfl⟩
  refine ⟨_, rfl, _, _, rfl, ⟨by decide, by decide⟩, fun pc hc' => ⟨pc, _, rfl, SqT.of qv, rfl, _, _, rfl, _, _, rfl, rfl, ?_⟩⟩
  have j1 := qy hc' (.tup [.int (num / 2), .int (num % 2)])
  have eL := j1 _ _ eL
  have eT := j1 _ _ eT
  have rT := rT.mono j1
  have g := g.trans j1
  generalize upd H' pc (.tup [.int (num / 2), .int (num % 2)]) = H4 at *
  generalize num / 2 = num2 at *
  generalize num % 2 = coin at *
  clear j1 hc'
  have ol := outV_len ls
  refine ⟨_, rfl, _, rfl, _, _, rfl, .inl (SqL.of eL), _, _, rfl, ⟨by omega, by omega⟩, fun pd hd => ⟨pd, _, rfl, SqT.of qv, rfl, _, _, rfl, _, _, rfl, rfl, ?_⟩⟩
  have j1 := qy hd (.tup [.int (num2 / ((outV ls).length : Int)), .int (num2 % ((outV ls).length : Int))])
  have eL := j1 _ _ eL
  have eT := j1 _ _ eT
  have rT := rT.mono j1
  have g := g.trans j1
  generalize upd H4 pd (.tup [.int (num2 / ((outV ls).length : Int)), .int (num2 % ((outV ls).length : Int))]) = H5 at *
  clear j1 hd
  obtain ⟨kk, ek, kl⟩ : ∃ kk : Nat, num2 % ((outV ls).length : Int) = (kk : Int) ∧ kk < ls.length := by
   have a := Int.emod_nonneg num2 (show ((outV ls).length : Int) ≠ 0 by omega)
   have b := Int.emod_lt_of_pos num2 (show (0 : Int) < ((outV ls).length : Int) by omega)
   exact ⟨(num2 % ((outV ls).length : Int)).toNat, by omega, by omega⟩
  rw [ek]
  generalize num2 / ((outV ls).length : Int) = num3 at *
  have e1 : ((outV ls).length : Int) - 1 = ((ls.length - 1 : Nat) : Int) := by omega
  refine ⟨_, rfl, rfl, _, rfl, iteD (fun _ => ⟨_, rfl, rfl, _, rfl, iteD (fun _ => ⟨_, rfl, _, _, rfl, .inl (SqL.of eL), _, _, rfl, rfl, ?_⟩) (fun _ => ?_)⟩) (fun _ => iteF ?_)⟩
  ·dsimp only
   rw [e1]
   have hk0 : ls.length - 1 < ls.length := by omega
   clear e1 ek kl
   generalize ls.length - 1 = k0 at *
   obtain ⟨mm, em⟩ : ∃ mm, ls[k0]? = some mm := ⟨_, gE9 hk0⟩
   refine ⟨_, rfl, _, rfl, num3, gr, rfl, fun n' qx t r H6 sx g6 ht hr6 => ⟨t, _, rfl, ht, rfl, _, _, rfl, _, _, rfl, rfl, ?_⟩⟩
   have eL6 := g6 _ _ eL
   have eT6 := g6 _ _ eT
   refine ⟨_, rfl, .inl ⟨rfl, _, SqL.of eT6⟩, _, rfl, .inl ⟨rfl, _, SqL.of eL6⟩, _, rfl, ll, _, _, k0, _, rfl, rfl, eL6, by omega, by omega, seqIx (by omega), outV_get em, _, rfl, y9, fun t2 ht2 => ?_⟩
   rw [outV_erase] at ht2 ⊢
   have eT7 : upd H6 ll (.lst (outV (ls.eraseIdx k0))) lt = some (.lst vt) := by rw [y7 (Ne.symm ltl)]; exact eT6
   have rT7 : TL K (upd H6 ll (.lst (outV (ls.eraseIdx k0)))) vt ts := TL.upd_lst (rT.mono g6) eL6
   have hr7 := SqT.upd_lst (o := .lst (outV (ls.eraseIdx k0))) hr6 eL6
   have g7 : Same H (upd H6 ll (.lst (outV (ls.eraseIdx k0)))) := (g.trans g6).laid nll _
   have eL7 := qv (H := H6) (a := ll) (o := .lst (outV (ls.eraseIdx k0)))
   generalize upd H6 ll (.lst (outV (ls.eraseIdx k0))) = H7 at *
   have j1 := qy ht2 (.tup [.int (mm : Int), .ref r])
   have eT8 := j1 _ _ eT7
   have lvt := TL.length rT7
   refine ⟨lt, vt, _, rfl, rfl, eT8, zj (by omega), ?_⟩
   have perm : ((ts ++ [(mm, qx)]).map (·.1) ++ ls.eraseIdx k0).Perm (ts.map (·.1) ++ ls) := by
    rw [List.map_append, List.append_assoc]
    refine List.Perm.append_left _ ?_
    exact V9 em
   refine ⟨(g7.trans j1).laid nlt _, n', ls.eraseIdx k0, ts ++ [(mm, qx)], vt ++ [.ref t2], _, _, _, _, rfl, by rw [y7 ltl]; exact j1 _ _ eL7, qv, TL.upd_lst (Paired.snoc (TL.mono rT7 j1) ⟨t2, r, rfl, SqT.of qv, j1.tup hr7⟩) eT8, by rw [List.length_append, lts]; rfl, ?_, perm.nodup_iff.mpr nd, fun m hm => lim m (perm.mem_iff.mp hm), fun x hx => ?_⟩
   ·rw [List.length_eraseIdx_of_lt hk0]; omega
   ·rcases List.mem_append.mp hx with z | z
    ·exact sh x z
    ·rw [List.mem_singleton.mp z]; exact sx
  ·have hk0 := kl
   clear e1 ek kl
   generalize kk = k0 at *
   obtain ⟨mm, em⟩ : ∃ mm, ls[k0]? = some mm := ⟨_, gE9 hk0⟩
   refine ⟨_, rfl, _, rfl, num3, gr, rfl, fun n' qx t r H6 sx g6 ht hr6 => ⟨t, _, rfl, ht, rfl, _, _, rfl, _, _, rfl, rfl, ?_⟩⟩
   have eL6 := g6 _ _ eL
   have eT6 := g6 _ _ eT
   refine ⟨_, rfl, .inl ⟨rfl, _, SqL.of eT6⟩, _, rfl, .inl ⟨rfl, _, SqL.of eL6⟩, _, rfl, ll, _, _, k0, _, rfl, rfl, eL6, by omega, by omega, seqIx (by omega), outV_get em, _, rfl, y9, fun t2 ht2 => ?_⟩
   rw [outV_erase] at ht2 ⊢
   have eT7 : upd H6 ll (.lst (outV (ls.eraseIdx k0))) lt = some (.lst vt) := by rw [y7 (Ne.symm ltl)]; exact eT6
   have rT7 : TL K (upd H6 ll (.lst (outV (ls.eraseIdx k0)))) vt ts := TL.upd_lst (rT.mono g6) eL6
   have hr7 := SqT.upd_lst (o := .lst (outV (ls.eraseIdx k0))) hr6 eL6
   have g7 : Same H (upd H6 ll (.lst (outV (ls.eraseIdx k0)))) := (g.trans g6).laid nll _
   have eL7 := qv (H := H6) (a := ll) (o := .lst (outV (ls.eraseIdx k0)))
   generalize upd H6 ll (.lst (outV (ls.eraseIdx k0))) = H7 at *
   have j1 := qy ht2 (.tup [.int (mm : Int), .ref r])
   have eT8 := j1 _ _ eT7
   have lvt := TL.length rT7
   refine ⟨lt, vt, _, rfl, rfl, eT8, zj (by omega), ?_⟩
   have perm : ((ts ++ [(mm, qx)]).map (·.1) ++ ls.eraseIdx k0).Perm (ts.map (·.1) ++ ls) := by
    rw [List.map_append, List.append_assoc]
    refine List.Perm.append_left _ ?_
    exact V9 em
   refine ⟨(g7.trans j1).laid nlt _, n', ls.eraseIdx k0, ts ++ [(mm, qx)], vt ++ [.ref t2], _, _, _, _, rfl, by rw [y7 ltl]; exact j1 _ _ eL7, qv, TL.upd_lst (Paired.snoc (TL.mono rT7 j1) ⟨t2, r, rfl, SqT.of qv, j1.tup hr7⟩) eT8, by rw [List.length_append, lts]; rfl, ?_, perm.nodup_iff.mpr nd, fun m hm => lim m (perm.mem_iff.mp hm), fun x hx => ?_⟩
   ·rw [List.length_eraseIdx_of_lt hk0]; omega
   ·rcases List.mem_append.mp hx with z | z
    ·exact sh x z
    ·rw [List.mem_singleton.mp z]; exact sx
  ·have hk0 := kl
   clear e1 ek kl
   generalize kk = k0 at *
   obtain ⟨mm, em⟩ : ∃ mm, ls[k0]? = some mm := ⟨_, gE9 hk0⟩
   refine ⟨_, rfl, _, rfl, num3, gr, rfl, fun n' qx t r H6 sx g6 ht hr6 => ⟨t, _, rfl, ht, rfl, _, _, rfl, _, _, rfl, rfl, ?_⟩⟩
   have eL6 := g6 _ _ eL
   have eT6 := g6 _ _ eT
   refine ⟨_, rfl, .inl ⟨rfl, _, SqL.of eT6⟩, _, rfl, .inl ⟨rfl, _, SqL.of eL6⟩, _, rfl, ll, _, _, k0, _, rfl, rfl, eL6, by omega, by omega, seqIx (by omega), outV_get em, _, rfl, y9, fun t2 ht2 => ?_⟩
   rw [outV_erase] at ht2 ⊢
   have eT7 : upd H6 ll (.lst (outV (ls.eraseIdx k0))) lt = some (.lst vt) := by rw [y7 (Ne.symm ltl)]; exact eT6
   have rT7 : TL K (upd H6 ll (.lst (outV (ls.eraseIdx k0)))) vt ts := TL.upd_lst (rT.mono g6) eL6
   have hr7 := SqT.upd_lst (o := .lst (outV (ls.eraseIdx k0))) hr6 eL6
   have g7 : Same H (upd H6 ll (.lst (outV (ls.eraseIdx k0)))) := (g.trans g6).laid nll _
   have eL7 := qv (H := H6) (a := ll) (o := .lst (outV (ls.eraseIdx k0)))
   generalize upd H6 ll (.lst (outV (ls.eraseIdx k0))) = H7 at *
   have j1 := qy ht2 (.tup [.int (mm : Int), .ref r])
   have eT8 := j1 _ _ eT7
   have lvt := TL.length rT7
   refine ⟨lt, vt, _, rfl, rfl, eT8, zj (by omega), ?_⟩
   have perm : ((ts ++ [(mm, qx)]).map (·.1) ++ ls.eraseIdx k0).Perm (ts.map (·.1) ++ ls) := by
    rw [List.map_append, List.append_assoc]
    refine List.Perm.append_left _ ?_
    exact V9 em
   refine ⟨(g7.trans j1).laid nlt _, n', ls.eraseIdx k0, ts ++ [(mm, qx)], vt ++ [.ref t2], _, _, _, _, rfl, by rw [y7 ltl]; exact j1 _ _ eL7, qv, TL.upd_lst (Paired.snoc (TL.mono rT7 j1) ⟨t2, r, rfl, SqT.of qv, j1.tup hr7⟩) eT8, by rw [List.length_append, lts]; rfl, ?_, perm.nodup_iff.mpr nd, fun m hm => lim m (perm.mem_iff.mp hm), fun x hx => ?_⟩
   ·rw [List.length_eraseIdx_of_lt hk0]; omega
   ·rcases List.mem_append.mp hx with z | z
    ·exact sh x z
    ·rw [List.mem_singleton.mp z]; exact sx
theorem WfN.snoc {many : Nat} {us : List Un} {u : Un} (h : WfN many us) (k : WfU (many + us.length) u) : WfN many (us ++ [u]) := fun j v e => by
 by_cases hj : j < us.length
 ·rw [List.getElem?_append_left hj] at e
  exact h j v e
 ·have hl := (List.getElem?_eq_some_iff.mp e).1
  rw [List.length_append, List.length_singleton] at hl
  have ej : j = us.length := by omega
  subst ej
  rw [List.getElem?_append_right (Nat.le_refl _), Nat.sub_self] at e
  have e : u = v := by simpa using e
  rw [← e]
  exact k
def spNetL (K : Fg9) : Sp := fun vs H Q _ => ∃ (sa : Addr) (ns : List Int) (st mb : Nat), vs = [.ref sa, .int (st : Int), .int (mb : Int)] ∧ SqL K H sa (ns.map V.int) ∧ ∀ (many : Nat) (us : List Un) (outs : List Nat) (t lu lo : Addr) (vu : List V) (H' : Hp), NetOk many us outs → many ≤ 3 → us.length ≤ 12 → (∀ u ∈ us, ShrU u) → Same H H' → SqT K H' t [.int (many : Int), .ref lu, .ref lo] → H lu = none → H' lu = some (.lst vu) → UL false K H' vu us → H lo = none → H' lo = some (.lst (outV outs)) → Q (.ref t) H'
abbrev v7 (P w K mg base) (a : Adr) (cdv A outer s H E) := (cxOf CX0 P w K mg base ["_law_script", "_law_start", "_law_most_bends", "_law_seeds_here", "_law_lead", "_law_more", "_law_many_here", "_law_great", "_law_size", "_law_units", "_law_bends_here", "_law_number", "_law_unit_here", "_law_outs", "_law_k"] "_law_net" (qQ yV) a.f_law_net cdv A outer s H E).nox
set_option maxHeartbeats 0 in
theorem ok_law_net (T : Txt K mg a) : FnOk P w K mg base CX0 5 a.f_law_net a.d_law_net ["_law_script", "_law_start", "_law_most_bends"] (spNetL K) := by
 refine T.F_law_net.ok yW (fun vs H Q E h => ?_) (fun cdv A outer s H vs Q E hr h => ?_)
 ·obtain ⟨_, _, _, _, rfl, _⟩ := h
  rfl
 obtain ⟨sa, ns, st, mb, rfl, hS, q⟩ := h
 have cd : ∀ {x m : Int}, m ≠ 0 → m.natAbs.log2 < 9000 → CDivB x m := fun h1 h2 => ⟨h1, h2⟩
 have h0 : PS (v7 P w K mg base a cdv A outer s H E) (bS yV 0) _ := (zk (i := 3) yW.nd rfl (Or.inl rfl) (qK (ok_law_seeds T) (hr.mono (by decide)) rfl T.m_law_seeds T.F_law_seeds.kp T.b_law_seeds .nil pass0 (pa_c (pv 0) (pa_c (pv 1) (pa_c qk qj))) (he := qz rfl _ _) (hpl := qZ rfl)))
 have h1 : PS (v7 P w K mg base a cdv A outer s H E) (bS yV 1) _ := (ZJ (zq (vY) rfl T.m_divmod boot_divmod (pa_c (pe_ix yk (pv 3) qk (fun _ _ => rfl)) (pa_c qk qj)) (he := qz rfl _ _) (hpl := qZ rfl)) (jW rfl (zy (zx (i := 4) yW.nd rfl (Or.inl rfl)) (zy (zx (i := 5) yW.nd rfl (Or.inl rfl)) yK))))
 have h2 : PS (v7 P w K mg base a cdv A outer s H E) (bS yV 2) _ := (zk (i := 6) yW.nd rfl (Or.inl rfl) (pe_op yj qk (pv 5)))
 have h3 : PS (v7 P w K mg base a cdv A outer s H E) (bS yV 3) _ := (zk (i := 7) yW.nd rfl (Or.inl rfl) (Q6 op_eq (pe_op v5 (pv 4) qk) qk (zX _)))
 have h4 : PS (v7 P w K mg base a cdv A outer s H E) (bS yV 4) _ := (zk (i := 8) yW.nd rfl (Or.inl rfl) (pe_op yj qk (pe_op v5 (pe_op yz (pv 4) qk) qk)))
 have h5 : PS (v7 P w K mg base a cdv A outer s H E) (bS yV 5) _ := (zk (i := 4) yW.nd rfl (Or.inl rfl) (pe_op yz (pv 4) qk))
 have h6 : PS (v7 P w K mg base a cdv A outer s H E) (bS yV 6) _ := (zk (i := 9) yW.nd rfl (Or.inl rfl) (j7 qj))
 have h7 : PS (v7 P w K mg base a cdv A outer s H E) (bS yV 7) _ := (zk (i := 10) yW.nd rfl (Or.inl rfl) qk)
 have h8 : PS (v7 P w K mg base a cdv A outer s H E) (bS yV 8) _ := (ps_if (yX (pv 7))
    (qV (zk (i := 2) yW.nd rfl (Or.inl rfl) (zq (call_min2 rfl) rfl T.m_min boot_min (pa_c (pv 2) (pa_c qk qj)) (he := qz rfl _ _) (hpl := qZ rfl))))
    zW)
 have h9 : PS (v7 P w K mg base a cdv A outer s H E) (bS yV 9) _ := (kj PassesOwn.never rfl (jV (vx wZ (pv 3) (vJ qk) (vJ (pe_op yj qk (pv 8))))) (zx (i := 11) yW.nd rfl (Or.inl rfl))
    (qW (zk (i := 12) yW.nd rfl (Or.inl rfl) (qK (ok_law_unit T) (hr.mono (by decide)) rfl T.m_law_unit T.F_law_unit.kp T.b_law_unit .nil pass0 (pa_c (pv 11) (pa_c (pe_op yj (pv 6) (zq (zZ) rfl T.m_len boot_len (pa_c (pv 9) qj) (he := qz rfl _ _) (hpl := qZ rfl))) (pa_c (Q6 op_lt (pv 10) (pv 2) (zX _)) (pa_c (pv 7) qj)))) (he := qz rfl _ _) (hpl := qZ rfl)))
   (qW (zk (i := 10) yW.nd rfl (Or.inl rfl) (pe_op yj (pv 10) (jy (Yw) rfl T.m_int boot_int (pa_c (Q6 op_eq (pe_ix qY (pv 12) qk (fun _ _ => rfl)) v6 (zX _)) qj) (he := qz rfl _ _) (hpl := qZ rfl))))
   (qV (xY (pe_bm PySem.F.plainAttrs_list PySem.F.slot_list_append PySem.F.type_list_append kx (pv 9) (pa_c (pv 12) qj) (hs := qz rfl _ _) (hplain := qZ rfl)))))))
 have h10 : PS (v7 P w K mg base a cdv A outer s H E) (bS yV 10) _ := (zk (i := 13) yW.nd rfl (Or.inl rfl) (j7 (pa_c (pe_op V0 (pe_op yj (pv 6) (pv 8)) qk) qj)))
 have h11 : PS (v7 P w K mg base a cdv A outer s H E) (bS yV 11) _ := (kj PassesOwn.never rfl (xj rfl T.m_range (pa_c (pe_op v5 (pv 4) qk) qj)) (zx (i := 14) yW.nd rfl (Or.inl rfl))
    (qW (zk (i := 4) yW.nd rfl (Or.inl rfl) (pe_op yz (pv 4) (pe_op yj (pv 6) (pv 8))))
   (qV (xY (pe_bm PySem.F.plainAttrs_list PySem.F.slot_list_append PySem.F.type_list_append kx (pv 13) (pa_c (pe_op v5 (pv 4) (pe_op yj (pv 6) (pv 8))) qj) (hs := qz rfl _ _) (hplain := qZ rfl))))))
 have h12 : PS (v7 P w K mg base a cdv A outer s H E) (bS yV 12) _ := (zw (yq (pa_c (pv 6) (pa_c (pv 9) (pa_c (pv 13) qj)))))
 refine body13 (by rfl) h0 h1 h2 h3 h4 h5 h6 h7 h8 h9 h10 h11 h12 ?_
 intros
 clear h0 h1 h2 h3 h4 h5 h6 h7 h8 h9 h10 h11 h12
 refine ⟨_, rfl, _, rfl, sa, ns, st, 13, rfl, hS, by decide, fun zs lz ls H1 _ g1 e1 => ?_⟩
 obtain ⟨z0, ez0⟩ : ∃ z, zs[0]? = some z := ⟨_, gE9 (by omega)⟩
 have ezv : (zs.map V.int)[0]? = some (.int z0) := by rw [List.getElem?_map, ez0]; rfl
 refine ⟨_, rfl, _, _, _, _, rfl, rfl, SqL.of e1, atN (n := 0) ezv, _, _, rfl, ⟨by decide, by decide⟩, fun pa ha => ⟨pa, _, rfl, SqT.of qv, rfl, _, _, rfl, _, _, rfl, rfl, ?_⟩⟩
 have j1 := qy ha (.tup [.int (z0 / 3), .int (z0 % 3)])
 have e1 := j1 _ _ e1
 have g1 := g1.trans j1
 generalize upd H1 pa (.tup [.int (z0 / 3), .int (z0 % 3)]) = H2 at *
 have m0 : 0 ≤ z0 % 3 := Int.emod_nonneg _ (by decide)
 have m1 : z0 % 3 < 3 := Int.emod_lt_of_pos _ (by decide)
 generalize z0 / 3 = ld at *
 generalize z0 % 3 = mo at *
 clear j1 ha
 refine ⟨_, rfl, _, _, rfl, rfl, ?_⟩
 dsimp only
 obtain ⟨many, hmany, n1, n3⟩ : ∃ many : Nat, 1 + mo = (many : Int) ∧ 1 ≤ many ∧ many ≤ 3 := ⟨(1 + mo).toNat, by omega, by omega, by omega⟩
 rw [hmany]
 refine ⟨_, rfl, _, _, rfl, rfl, (by show (0 : Int) < 8; decide), rfl, ?_⟩
 dsimp only
 generalize decide (V.int (ld % 8) = V.int 0) = gr
 refine ⟨_, rfl, _, _, rfl, rfl, cd (by decide) (by decide +kernel), _, _, rfl, rfl, (by show (0 : Int) < 12; decide), _, _, rfl, rfl, ?_⟩
 dsimp only
 obtain ⟨sz, hsz, s1, s12⟩ : ∃ sz : Nat, 1 + ld.fdiv 8 % 12 = (sz : Int) ∧ 1 ≤ sz ∧ sz ≤ 12 := by
  have a := Int.emod_nonneg (ld.fdiv 8) (show (12 : Int) ≠ 0 by decide)
  have b := Int.emod_lt_of_pos (ld.fdiv 8) (show (0 : Int) < 12 by decide)
  exact ⟨(1 + ld.fdiv 8 % 12).toNat, by omega, by omega, by omega⟩
 rw [hsz]
 refine ⟨_, rfl, _, _, rfl, rfl, cd (by decide) (by decide +kernel), ?_⟩
 dsimp only
 generalize ld.fdiv 96 = ld2
 refine ⟨(by decide), fun lu hlu => ?_⟩
 have nlu : H lu = none := zQ g1 hlu
 have j1 := qy hlu (.lst [])
 have e1 := j1 _ _ e1
 have g1 := g1.trans j1
 have eu := qv (H := H2) (a := lu) (o := .lst [])
 generalize upd H2 lu (.lst []) = H3 at *
 clear j1 hlu
 refine ⟨_, rfl, _, rfl, ?_⟩
 cases gr with
 | true =>
  refine iteT ⟨_, rfl, _, _, rfl, ?_⟩
  refine ⟨_, rfl, _, rfl, _, rfl, _, _, rfl, rfl, _, rfl, _, _, rfl, SqL.of e1, fun c2 hc2 => ?_⟩
  have lzv : (zs.map V.int).length = 13 := by rw [List.length_map, lz]
  rw [show (1 : Int) + (sz : Int) = ((1 + sz : Nat) : Int) by omega, show cutV (zs.map V.int) (some 1) (some ((1 + sz : Nat) : Int)) = _ from cutNN (i := 1) (by omega) (by omega), ← List.map_drop, ← List.map_take]
  have lk : ((zs.drop 1).take (1 + sz - 1)).length = sz := by rw [List.length_take, List.length_drop]; omega
  generalize (zs.drop 1).take (1 + sz - 1) = ks at *
  have j1 := qy hc2 (.lst (ks.map V.int))
  have e2 := qv (H := H3) (a := c2) (o := .lst (ks.map V.int))
  have nc2 : c2 ≠ lu := Ne.symm (zK eu hc2)
  have eu := j1 _ _ eu
  have g1 := g1.trans j1
  generalize upd H3 c2 (.lst (ks.map V.int)) = H4 at *
  clear j1 hc2 e1
  refine ⟨c2, rfl, ⟨_, SqL.of e2⟩, vy (n := sz) (fun i σ H' => Same H H' ∧ H' c2 = some (.lst (ks.map V.int)) ∧ ∃ (vu : List V) (us : List Un) (mb' bs : Int) (gr' : Bool) (u11 u12 : Option V), σ = [some (.ref sa), some (.int (st : Int)), some (.int mb'), some (.ref ls), some (.int ld2), some (.int mo), some (.int (many : Int)), some (.bl gr'), some (.int (sz : Int)), some (.ref lu), some (.int bs), u11, u12, none, none] ∧ H' lu = some (.lst vu) ∧ UF lu K H' vu us ∧ us.length = i ∧ WfN many us ∧ ∀ u ∈ us, ShrU u)
   ⟨g1, e2, [], [], _, _, _, _, _, rfl, eu, .nil, rfl, fun k u e => nil_get e, fun u hu => (by cases hu)⟩ ?_ ?_ ?_⟩
  case refine_2 =>
   rintro i σ H' hi ⟨g, k2, _⟩
   exact ⟨_, _, SqL.of k2, gE9 (by rw [List.length_map]; omega)⟩
  case refine_3 =>
   rintro i σ H0 x H' hi ⟨g, k2, vu, us, mb', bs, gr', u11, u12, rfl, eu, rU, lus, wf, sh⟩ ⟨rfl, y1⟩
   obtain ⟨z, ez, rfl⟩ := int_at (y1 _ (SqL.of k2))
   have lvu := UF.length rU
   refine ⟨_, rfl, _, rfl, _, rfl, _, _, rfl, .inl (SqL.of eu), _, _, rfl, rfl, _, rfl, _, rfl, _, _, rfl, rfl, _, rfl, ?_⟩
   dsimp only
   rw [show (many : Int) + (vu.length : Int) = ((many + i : Nat) : Int) by omega]
   refine ⟨z, many + i, _, _, rfl, by omega, by omega, fun u wu su p H5 g5 hU => ?_⟩
   have hU : UnF lu K H5 (.ref p) u := hU lu _ eu
   obtain ⟨t, ys, et, ht⟩ := kind_at hU.un
   cases et
   refine ⟨_, rfl, _, rfl, _, _, _, _, rfl, rfl, ht, at0, rfl, .inr ⟨_, rfl, _, _, rfl, rfl, ?_⟩⟩
   have eu5 := g5 _ _ eu
   refine ⟨_, rfl, .inl ⟨rfl, _, SqL.of eu5⟩, _, rfl, lu, vu, _, rfl, rfl, eu5, zj (by omega), ?_⟩
   refine ⟨(g.trans g5).laid nlu _, by rw [y7 nc2]; exact g5 _ _ k2, vu ++ [.ref p], us ++ [u], mb', _, gr', _, _, rfl, qv, UF.upd ((rU.mono g5).snoc hU) eu5, by rw [List.length_append, lus]; rfl, wf.snoc (by rw [lus]; exact wu), fun v hv => ?_⟩
   rcases List.mem_append.mp hv with k | k
   ·exact sh v k
   ·rw [List.mem_singleton.mp k]; exact su
  rintro σ H5 ⟨g5, k2, vu, us, mb', bs, gr', u11, u12, rfl, eu, rU, lus, wf, sh⟩
  refine ⟨⟨_, SqL.of k2, by rw [List.length_map]; omega⟩, ?_⟩
  have rU := rU.un
  refine ⟨_, rfl, _, rfl, _, _, rfl, rfl, _, _, rfl, rfl, (show 1 ≤ sizeLine by decide), fun lo hlo => ?_⟩
  try dsimp only
  have nlo : H lo = none := zQ g5 hlo
  have j1 := qy hlo (.lst [.int ((many : Int) + (sz : Int) - 1)])
  have e0 : [V.int ((many : Int) + (sz : Int) - 1)] = outV [many + sz - 1] := congrArg (fun z => [V.int z]) (show (many : Int) + (sz : Int) - 1 = ((many + sz - 1 : Nat) : Int) by omega)
  have eo : upd H5 lo (.lst [.int ((many : Int) + (sz : Int) - 1)]) lo = some (.lst (outV [many + sz - 1])) := by rw [qv, e0]
  obtain ⟨cnt, hc, c2'⟩ : ∃ cnt : Nat, ld2 % 3 = (cnt : Int) ∧ cnt ≤ 2 := by
   have a := Int.emod_nonneg ld2 (show (3 : Int) ≠ 0 by decide)
   have b := Int.emod_lt_of_pos ld2 (show (0 : Int) < 3 by decide)
   exact ⟨(ld2 % 3).toNat, by omega, by omega⟩
  refine ⟨_, rfl, _, _, rfl, rfl, (by show (0 : Int) < 3; decide), (cnt : Int), congrArg (fun z => [V.int z]) hc, by omega, by omega, vy (n := cnt) (fun i σ H' => Same H5 H' ∧ ∃ (outs : List Nat) (l3 : Int) (u14 : Option V), σ = [some (.ref sa), some (.int (st : Int)), some (.int mb'), some (.ref ls), some (.int l3), some (.int mo), some (.int (many : Int)), some (.bl gr'), some (.int (sz : Int)), some (.ref lu), some (.int bs), u11, u12, some (.ref lo), u14] ∧ H' lo = some (.lst (outV outs)) ∧ outs.length = 1 + i ∧ ∀ o ∈ outs, o < many + sz)
   ⟨j1, [many + sz - 1], _, _, rfl, eo, rfl, fun o ho => by rw [List.mem_singleton.mp ho]; omega⟩ ?_ ?_ ?_⟩
  case refine_1 =>
   rintro σ H6 ⟨g6, outs, l3, u14, rfl, eo, lo1, ol⟩
   refine ⟨by show (cnt : Int).toNat ≤ cnt; omega, ?_⟩
   refine ⟨_, rfl, _, rfl, _, rfl, (show 3 ≤ sizeLine by decide), fun t ht => ?_⟩
   have g7 := qy ht (.tup [.int (many : Int), .ref lu, .ref lo])
   have g67 := g6.trans g7
   have fl : (us.filter isB).length ≤ us.length := List.length_filter_le _ _
   exact q many us outs t lu lo vu _ ⟨wf, by omega, by omega, n1, by omega, by omega, by omega, fun o ho => by rw [lus]; exact ol o ho⟩ n3 (by omega) sh (g5.trans g67) (SqT.of qv) nlu (g67 _ _ eu) (rU.mono g67) nlo (g7 _ _ eo)
  case refine_2 =>
   rintro i σ H' hi _
   show i < (cnt : Int).toNat
   omega
  rintro i σ H0 x H' hi ⟨g6, outs, l3, u14, rfl, eo, lo1, ol⟩ ⟨rfl, rfl⟩
  refine ⟨_, rfl, _, rfl, _, rfl, _, _, rfl, rfl, _, _, rfl, rfl, cdivB (n := 64) (by omega) (by unfold Sm; omega), ?_⟩
  dsimp only
  generalize l3.fdiv ((many : Int) + (sz : Int)) = l4
  refine ⟨_, rfl, .inl ⟨rfl, _, SqL.of eo⟩, _, rfl, _, rfl, _, rfl, _, _, rfl, rfl, _, _, rfl, rfl, (by show (0 : Int) < (many : Int) + (sz : Int); omega), lo, _, _, rfl, rfl, eo, by rw [outV_len]; exact zj (by omega), ?_⟩
  obtain ⟨m, hm, ml⟩ : ∃ m : Nat, l4 % ((many : Int) + (sz : Int)) = (m : Int) ∧ m < many + sz := by
   have a := Int.emod_nonneg l4 (show (many : Int) + (sz : Int) ≠ 0 by omega)
   have b := Int.emod_lt_of_pos l4 (show (0 : Int) < (many : Int) + (sz : Int) by omega)
   exact ⟨(l4 % ((many : Int) + (sz : Int))).toNat, by omega, by omega⟩
  dsimp only
  rw [hm]
  have ea : outV outs ++ [V.int (m : Int)] = outV (outs ++ [m]) := by unfold outV; rw [List.map_append]; rfl
  refine ⟨g6.laid hlo _, outs ++ [m], l4, _, rfl, ?_, by rw [List.length_append, lo1]; rfl, fun o ho => ?_⟩
  ·rw [qv, ea]
  ·rcases List.mem_append.mp ho with k | k
   ·exact ol o k
   ·rw [List.mem_singleton.mp k]; exact ml
 | false =>
  refine iteF ?_
  refine ⟨_, rfl, _, rfl, _, rfl, _, _, rfl, rfl, _, rfl, _, _, rfl, SqL.of e1, fun c2 hc2 => ?_⟩
  have lzv : (zs.map V.int).length = 13 := by rw [List.length_map, lz]
  rw [show (1 : Int) + (sz : Int) = ((1 + sz : Nat) : Int) by omega, show cutV (zs.map V.int) (some 1) (some ((1 + sz : Nat) : Int)) = _ from cutNN (i := 1) (by omega) (by omega), ← List.map_drop, ← List.map_take]
  have lk : ((zs.drop 1).take (1 + sz - 1)).length = sz := by rw [List.length_take, List.length_drop]; omega
  generalize (zs.drop 1).take (1 + sz - 1) = ks at *
  have j1 := qy hc2 (.lst (ks.map V.int))
  have e2 := qv (H := H3) (a := c2) (o := .lst (ks.map V.int))
  have nc2 : c2 ≠ lu := Ne.symm (zK eu hc2)
  have eu := j1 _ _ eu
  have g1 := g1.trans j1
  generalize upd H3 c2 (.lst (ks.map V.int)) = H4 at *
  clear j1 hc2 e1
  refine ⟨c2, rfl, ⟨_, SqL.of e2⟩, vy (n := sz) (fun i σ H' => Same H H' ∧ H' c2 = some (.lst (ks.map V.int)) ∧ ∃ (vu : List V) (us : List Un) (mb' bs : Int) (gr' : Bool) (u11 u12 : Option V), σ = [some (.ref sa), some (.int (st : Int)), some (.int mb'), some (.ref ls), some (.int ld2), some (.int mo), some (.int (many : Int)), some (.bl gr'), some (.int (sz : Int)), some (.ref lu), some (.int bs), u11, u12, none, none] ∧ H' lu = some (.lst vu) ∧ UF lu K H' vu us ∧ us.length = i ∧ WfN many us ∧ ∀ u ∈ us, ShrU u)
   ⟨g1, e2, [], [], _, _, _, _, _, rfl, eu, .nil, rfl, fun k u e => nil_get e, fun u hu => (by cases hu)⟩ ?_ ?_ ?_⟩
  case refine_2 =>
   rintro i σ H' hi ⟨g, k2, _⟩
   exact ⟨_, _, SqL.of k2, gE9 (by rw [List.length_map]; omega)⟩
  case refine_3 =>
   rintro i σ H0 x H' hi ⟨g, k2, vu, us, mb', bs, gr', u11, u12, rfl, eu, rU, lus, wf, sh⟩ ⟨rfl, y1⟩
   obtain ⟨z, ez, rfl⟩ := int_at (y1 _ (SqL.of k2))
   have lvu := UF.length rU
   refine ⟨_, rfl, _, rfl, _, rfl, _, _, rfl, .inl (SqL.of eu), _, _, rfl, rfl, _, rfl, _, rfl, _, _, rfl, rfl, _, rfl, ?_⟩
   dsimp only
   rw [show (many : Int) + (vu.length : Int) = ((many + i : Nat) : Int) by omega]
   refine ⟨z, many + i, _, _, rfl, by omega, by omega, fun u wu su p H5 g5 hU => ?_⟩
   have hU : UnF lu K H5 (.ref p) u := hU lu _ eu
   obtain ⟨t, ys, et, ht⟩ := kind_at hU.un
   cases et
   refine ⟨_, rfl, _, rfl, _, _, _, _, rfl, rfl, ht, at0, rfl, .inr ⟨_, rfl, _, _, rfl, rfl, ?_⟩⟩
   have eu5 := g5 _ _ eu
   refine ⟨_, rfl, .inl ⟨rfl, _, SqL.of eu5⟩, _, rfl, lu, vu, _, rfl, rfl, eu5, zj (by omega), ?_⟩
   refine ⟨(g.trans g5).laid nlu _, by rw [y7 nc2]; exact g5 _ _ k2, vu ++ [.ref p], us ++ [u], mb', _, gr', _, _, rfl, qv, UF.upd ((rU.mono g5).snoc hU) eu5, by rw [List.length_append, lus]; rfl, wf.snoc (by rw [lus]; exact wu), fun v hv => ?_⟩
   rcases List.mem_append.mp hv with k | k
   ·exact sh v k
   ·rw [List.mem_singleton.mp k]; exact su
  rintro σ H5 ⟨g5, k2, vu, us, mb', bs, gr', u11, u12, rfl, eu, rU, lus, wf, sh⟩
  refine ⟨⟨_, SqL.of k2, by rw [List.length_map]; omega⟩, ?_⟩
  have rU := rU.un
  refine ⟨_, rfl, _, rfl, _, _, rfl, rfl, _, _, rfl, rfl, (show 1 ≤ sizeLine by decide), fun lo hlo => ?_⟩
  try dsimp only
  have nlo : H lo = none := zQ g5 hlo
  have j1 := qy hlo (.lst [.int ((many : Int) + (sz : Int) - 1)])
  have e0 : [V.int ((many : Int) + (sz : Int) - 1)] = outV [many + sz - 1] := congrArg (fun z => [V.int z]) (show (many : Int) + (sz : Int) - 1 = ((many + sz - 1 : Nat) : Int) by omega)
  have eo : upd H5 lo (.lst [.int ((many : Int) + (sz : Int) - 1)]) lo = some (.lst (outV [many + sz - 1])) := by rw [qv, e0]
  obtain ⟨cnt, hc, c2'⟩ : ∃ cnt : Nat, ld2 % 3 = (cnt : Int) ∧ cnt ≤ 2 := by
   have a := Int.emod_nonneg ld2 (show (3 : Int) ≠ 0 by decide)
   have b := Int.emod_lt_of_pos ld2 (show (0 : Int) < 3 by decide)
   exact ⟨(ld2 % 3).toNat, by omega, by omega⟩
  refine ⟨_, rfl, _, _, rfl, rfl, (by show (0 : Int) < 3; decide), (cnt : Int), congrArg (fun z => [V.int z]) hc, by omega, by omega, vy (n := cnt) (fun i σ H' => Same H5 H' ∧ ∃ (outs : List Nat) (l3 : Int) (u14 : Option V), σ = [some (.ref sa), some (.int (st : Int)), some (.int mb'), some (.ref ls), some (.int l3), some (.int mo), some (.int (many : Int)), some (.bl gr'), some (.int (sz : Int)), some (.ref lu), some (.int bs), u11, u12, some (.ref lo), u14] ∧ H' lo = some (.lst (outV outs)) ∧ outs.length = 1 + i ∧ ∀ o ∈ outs, o < many + sz)
   ⟨j1, [many + sz - 1], _, _, rfl, eo, rfl, fun o ho => by rw [List.mem_singleton.mp ho]; omega⟩ ?_ ?_ ?_⟩
  case refine_1 =>
   rintro σ H6 ⟨g6, outs, l3, u14, rfl, eo, lo1, ol⟩
   refine ⟨by show (cnt : Int).toNat ≤ cnt; omega, ?_⟩
   refine ⟨_, rfl, _, rfl, _, rfl, (show 3 ≤ sizeLine by decide), fun t ht => ?_⟩
   have g7 := qy ht (.tup [.int (many : Int), .ref lu, .ref lo])
   have g67 := g6.trans g7
   have fl : (us.filter isB).length ≤ us.length := List.length_filter_le _ _
   exact q many us outs t lu lo vu _ ⟨wf, by omega, by omega, n1, by omega, by omega, by omega, fun o ho => by rw [lus]; exact ol o ho⟩ n3 (by omega) sh (g5.trans g67) (SqT.of qv) nlu (g67 _ _ eu) (rU.mono g67) nlo (g7 _ _ eo)
  case refine_2 =>
   rintro i σ H' hi _
   show i < (cnt : Int).toNat
   omega
  rintro i σ H0 x H' hi ⟨g6, outs, l3, u14, rfl, eo, lo1, ol⟩ ⟨rfl, rfl⟩
  refine ⟨_, rfl, _, rfl, _, rfl, _, _, rfl, rfl, _, _, rfl, rfl, cdivB (n := 64) (by omega) (by unfold Sm; omega), ?_⟩
  dsimp only
  generalize l3.fdiv ((many : Int) + (sz : Int)) = l4
  refine ⟨_, rfl, .inl ⟨rfl, _, SqL.of eo⟩, _, rfl, _, rfl, _, rfl, _, _, rfl, rfl, _, _, rfl, rfl, (by show (0 : Int) < (many : Int) + (sz : Int); omega), lo, _, _, rfl, rfl, eo, by rw [outV_len]; exact zj (by omega), ?_⟩
  obtain ⟨m, hm, ml⟩ : ∃ m : Nat, l4 % ((many : Int) + (sz : Int)) = (m : Int) ∧ m < many + sz := by
   have a := Int.emod_nonneg l4 (show (many : Int) + (sz : Int) ≠ 0 by omega)
   have b := Int.emod_lt_of_pos l4 (show (0 : Int) < (many : Int) + (sz : Int) by omega)
   exact ⟨(l4 % ((many : Int) + (sz : Int))).toNat, by omega, by omega⟩
  dsimp only
  rw [hm]
  have ea : outV outs ++ [V.int (m : Int)] = outV (outs ++ [m]) := by unfold outV; rw [List.map_append]; rfl
  refine ⟨g6.laid hlo _, outs ++ [m], l4, _, rfl, ?_, by rw [List.length_append, lo1]; rfl, fun o ho => ?_⟩
  ·rw [qv, ea]
  ·rcases List.mem_append.mp ho with k | k
   ·exact ol o k
   ·rw [List.mem_singleton.mp k]; exact ml
theorem Bq.absq {d b : Nat} {q : Rat} (h : Bq d b q) : Bq d b (absQ q) := by
 unfold absQ
 split
 ·exact h.neg
 ·exact h
def spSidesL (K : Fg9) : Sp := fun vs H Q _ => ∃ (sa : Addr) (ns : List Int) (st many : Nat), vs = [.ref sa, .int (st : Int), .int (many : Int)] ∧ SqL K H sa (ns.map V.int) ∧ many ≤ 6 ∧ ∀ (ss : List (Rat × Rat)) (vS : List V) (p : Addr) (H' : Hp), ss.length = many → (∀ s ∈ ss, s.1 ≤ s.2 ∧ Bs 1 64 s) → H p = none → Same H H' → H' p = some (.lst vS) → SL K H' vS ss → Q (.ref p) H'
abbrev Vz (P w K mg base) (a : Adr) (cdv A outer s H E) := (cxOf CX0 P w K mg base ["_law_script", "_law_start", "_law_many_here", "_law_sides_here", "_law_number", "_law_low", "_law_wide_here"] "_law_sides" (qQ vK) a.f_law_sides cdv A outer s H E).nox
set_option maxHeartbeats 0 in
theorem ok_law_sides (T : Txt K mg a) : FnOk P w K mg base CX0 4 a.f_law_sides a.d_law_sides ["_law_script", "_law_start", "_law_many_here"] (spSidesL K) := by
 refine T.F_law_sides.ok xK (fun vs H Q E h => ?_) (fun cdv A outer s H vs Q E hr h => ?_)
 ·obtain ⟨_, _, _, _, rfl, _⟩ := h
  rfl
 obtain ⟨sa, ns, st, many, rfl, hS, m6, q⟩ := h
 have h0 : PS (Vz P w K mg base a cdv A outer s H E) (bS vK 0) _ := (zk (i := 3) xK.nd rfl (Or.inl rfl) (j7 qj))
 have h1 : PS (Vz P w K mg base a cdv A outer s H E) (bS vK 1) _ := (kj PassesOwn.never rfl (jV (vx wZ (qK (ok_law_seeds T) (hr.mono (by decide)) rfl T.m_law_seeds T.F_law_seeds.kp T.b_law_seeds .nil pass0 (pa_c (pv 0) (pa_c (pv 1) (pa_c qk qj))) (he := qz rfl _ _) (hpl := qZ rfl)) (vJ qk) (vJ (pe_op yj qk (pv 2))))) (zx (i := 4) xK.nd rfl (Or.inl rfl))
    (qW (ZJ (qK (V2 T) (hr.mono (by decide)) rfl T.m_law_taken T.F_law_taken.kp T.b_law_taken .nil pass0 (pa_c (pv 4) (pa_c pe_bl qj)) (he := qz rfl _ _) (hpl := qZ rfl)) (jW rfl (zy (zx (i := 4) xK.nd rfl (Or.inl rfl)) (zy (zx (i := 5) xK.nd rfl (Or.inl rfl)) yK))))
   (qW (zk (i := 6) xK.nd rfl (Or.inl rfl) (qK (ok_law_small T) (hr.mono (by decide)) rfl T.m_law_small T.F_law_small.kp T.b_law_small .nil pass0 (pa_c (pv 4) (pa_c pe_bl qj)) (he := qz rfl _ _) (hpl := qZ rfl)))
   (qV (xY (pe_bm PySem.F.plainAttrs_list PySem.F.slot_list_append PySem.F.type_list_append kx (pv 3) (pa_c (yq (pa_c (pv 5) (pa_c (qK (Qq T) (hr.mono (by decide)) rfl T.m_law_sum T.F_law_sum.kp T.b_law_sum .nil pass0 (pa_c (pv 5) (pa_c (yq (pa_c (zq (Z6) rfl T.m_abs boot_abs (pa_c (pe_ix qY (pv 6) qk (fun _ _ => rfl)) qj) (he := qz rfl _ _) (hpl := qZ rfl)) (pa_c (pe_ix qY (pv 6) qk (fun _ _ => rfl)) qj))) qj)) (he := qz rfl _ _) (hpl := qZ rfl)) qj))) qj) (hs := qz rfl _ _) (hplain := qZ rfl)))))))
 have h2 : PS (Vz P w K mg base a cdv A outer s H E) (bS vK 2) _ := (zw (pv 3))
 refine body3 (by rfl) h0 h1 h2 ?_
 intros
 clear h0 h1 h2
 refine ⟨(by decide), fun lS hlS => ?_⟩
 have g0 := qy hlS (.lst [])
 have eS := qv (H := H) (a := lS) (o := .lst [])
 have hS := g0.seq hS
 generalize upd H lS (.lst []) = H0 at *
 refine ⟨_, rfl, _, rfl, sa, ns, st, 19, rfl, hS, by decide, fun zs lz ls H1 _ g1 e1 => ⟨_, rfl, _, rfl, _, _, rfl, rfl, _, rfl, _, _, rfl, SqL.of e1, fun c2 hc2 => ?_⟩⟩
 have lzv : (zs.map V.int).length = 19 := by rw [List.length_map, lz]
 rw [show (13 : Int) + (many : Int) = ((13 + many : Nat) : Int) by omega, show cutV (zs.map V.int) (some 13) (some ((13 + many : Nat) : Int)) = _ from cutNN (i := 13) (by omega) (by omega), ← List.map_drop, ← List.map_take]
 have lk : ((zs.drop 13).take (13 + many - 13)).length = many := by rw [List.length_take, List.length_drop]; omega
 generalize (zs.drop 13).take (13 + many - 13) = ks at *
 have j1 := qy hc2 (.lst (ks.map V.int))
 have e2 := qv (H := H1) (a := c2) (o := .lst (ks.map V.int))
 have g2 := g1.trans j1
 have nc2 : c2 ≠ lS := Ne.symm (zK (g1 _ _ eS) hc2)
 have eS := g2 _ _ eS
 have g2 := g0.trans g2
 generalize upd H1 c2 (.lst (ks.map V.int)) = H2 at *
 clear j1 hc2 e1 g1 g0
 refine ⟨c2, rfl, ⟨_, SqL.of e2⟩, vy (n := many) (fun i σ H' => Same H H' ∧ H' c2 = some (.lst (ks.map V.int)) ∧ ∃ (vS : List V) (ss : List (Rat × Rat)) (u4 u5 u6 : Option V), σ = [some (.ref sa), some (.int (st : Int)), some (.int (many : Int)), some (.ref lS), u4, u5, u6] ∧ H' lS = some (.lst vS) ∧ SL K H' vS ss ∧ ss.length = i ∧ ∀ s ∈ ss, s.1 ≤ s.2 ∧ Bs 1 64 s)
  ⟨g2, e2, [], [], _, _, _, rfl, eS, .nil, rfl, fun s hs => (by cases hs)⟩ ?_ ?_ ?_⟩
 ·rintro σ H' ⟨g, k2, vS, ss, u4, u5, u6, rfl, eS, rS, ls, szs⟩
  exact ⟨⟨_, SqL.of k2, by rw [List.length_map]; omega⟩, _, rfl, q ss vS lS H' ls szs hlS g eS rS⟩
 ·rintro i σ H' hi ⟨g, k2, _⟩
  exact ⟨_, _, SqL.of k2, gE9 (by rw [List.length_map]; omega)⟩
 ·rintro i σ H0' x H' hi ⟨g, k2, vS, ss, u4, u5, u6, rfl, eS, rS, lss, szs⟩ ⟨rfl, y1⟩
  obtain ⟨z, ez, rfl⟩ := int_at (y1 _ (SqL.of k2))
  refine ⟨_, rfl, z, false, rfl, fun n' qx t r H3 sx g3 ht hr3 => ⟨t, _, rfl, ht, rfl, _, _, rfl, _, _, rfl, rfl, ?_⟩⟩
  refine ⟨_, rfl, n', false, rfl, fun qw rw' H4 sw g4 hw => ?_⟩
  have g34 := g3.trans g4
  have eS4 := g34 _ _ eS
  have hr4 := g4.tup hr3
  refine ⟨_, rfl, .inl ⟨rfl, _, SqL.of eS4⟩, _, rfl, _, rfl, _, rfl, _, _, _, _, rfl, rfl, hw, rfl, _, rfl, _, rfl, _, _, _, _, rfl, rfl, hw, rfl, y9, fun t5 h5 => ?_⟩
  have g5 := qy h5 (.tup [.int (if qw.num < 0 then -qw.num else qw.num), .int (qw.den : Int)])
  have ha : SqT K (upd H4 t5 (.tup [.int (if qw.num < 0 then -qw.num else qw.num), .int (qw.den : Int)])) t5 (TQ (absQ qw)) := by
   unfold TQ
   rw [(absQ_num qw).1, (absQ_num qw).2]
   exact SqT.of qv
  refine ⟨r, t5, qx, absQ qw, rfl, g5.tup hr4, ha, sx.s4 (by decide) (by decide), (Bq.absq sw).s4 (by decide) (by decide), fun p6 H6 g6 e6 => ⟨y9, fun t7 h7 => ?_⟩⟩
  have g7 := qy h7 (.tup [.ref r, .ref p6])
  have g57 := g5.trans (g6.trans g7)
  have gA := g34.trans g57
  have eS7 := gA _ _ eS
  have lvS := rS.length
  refine ⟨lS, vS, _, rfl, rfl, eS7, zj (by omega), (g.trans gA).laid hlS _, by rw [y7 nc2]; exact gA _ _ k2, vS ++ [.ref t7], ss ++ [(qx, qx + absQ qw)], _, _, _, rfl, qv, SL.upd_lst ((rS.mono gA).snoc ⟨t7, r, p6, rfl, SqT.of qv, g57.tup hr4, SqT.of (g7 _ _ e6)⟩) eS7, by rw [List.length_append, lss]; rfl, fun s hs => ?_⟩
  rcases List.mem_append.mp hs with k | k
  ·exact szs s k
  ·rw [List.mem_singleton.mp k]
   exact ⟨by have := absQ_nn qw; show qx ≤ qx + absQ qw; grind, Bq.mono sx (by decide) (by decide), Bq.add sx (Bq.absq sw)⟩
theorem num_neg (q : Rat) : q.num < 0 ↔ q < 0 := by
 have h := Rat.num_nonneg (q := q)
 constructor
 ·intro k
  refine Classical.byContradiction fun z => ?_
  have := h.mpr (Rat.not_lt.mp z)
  omega
 ·intro k
  refine Classical.byContradiction fun z => ?_
  exact (Rat.not_lt.mpr (h.mp (by omega))) k
def Told (K : Fg9) (H : Hp) (t lu lo : Addr) (vu : List V) (many : Nat) (us : List Un) (outs : List Nat) : Prop := SqT K H t [.int (many : Int), .ref lu, .ref lo] ∧ H lu = some (.lst vu) ∧ UL false K H vu us ∧ H lo = some (.lst (outV outs))
theorem Told.mono {K : Fg9} {H H' : Hp} {t lu lo : Addr} {vu : List V} {many : Nat} {us : List Un} {outs : List Nat} (h : Told K H t lu lo vu many us outs) (g : Same H H') : Told K H' t lu lo vu many us outs := ⟨g.tup h.1, g _ _ h.2.1, h.2.2.1.mono g, g _ _ h.2.2.2⟩
def spBendsL (K : Fg9) : Sp := fun vs H Q _ => ∃ (t lu lo : Addr) (vu : List V) (many : Nat) (us : List Un) (outs : List Nat), vs = [.ref t] ∧ Told K H t lu lo vu many us outs ∧ us.length ≤ 12 ∧ ∀ p, H p = none → Q (.ref p) (upd H p (.lst (outV (bendP many us))))
set_option maxHeartbeats 0 in
theorem ok_law_bends (T : Txt K mg a) : FnOk P w K mg base CX0 1 a.f_law_bends a.d_law_bends ["_law_net_here"] (spBendsL K) := by
 refine T.F_law_bends.ok sc_law_bends (fun vs H Q E h => ?_) (fun cdv A outer s H vs Q E hr h => ?_)
 ·obtain ⟨_, _, _, _, _, _, _, rfl, _⟩ := h
  rfl
 obtain ⟨t, lu, lo, vu, many, us, outs, rfl, ⟨ht, eu, rU, eo⟩, l12, q⟩ := h
 refine ⟨_, (qV (zw (wK (N := ["_law_k", "_law_net_here"]) (ix := [none, some 0]) ⟨rfl, rfl, rfl, rfl, ⟨rfl, trivial⟩, rfl, ⟨⟨rfl, Or.inr (Or.inl rfl), Z3 rfl, rfl, Or.inl rfl⟩, trivial⟩⟩ rfl (xj rfl T.m_range (pa_c (zq (zZ) rfl T.m_len boot_len (pa_c (pe_ix qY (pv 0) qk (fun _ _ => rfl)) qj) (he := qz rfl _ _) (hpl := qZ rfl)) qj)) (fun _ => (zx (i := 0) (show (["_law_k", "_law_net_here"] : List Str).Nodup by decide +kernel) rfl (Or.inl rfl))) (fun _ σ => wV rfl σ) (fun _ => (pif_one (zJ op_eq (pe_ix qY (pe_ix yk (pe_ix qY (pv 1) qk (fun _ _ => rfl)) (pv 0) (fun _ _ => rfl)) qk (fun _ _ => rfl)) v6 (zX _)))) (fun _ => (pe_op yj (pe_ix qY (pv 1) qk (fun _ _ => rfl)) (pv 0)))))), ?_⟩
 have lvu := rU.length
 refine ⟨_, rfl, _, _, _, _, rfl, rfl, ht, rfl, _, _, rfl, .inl (SqL.of eu), (us.length : Int), congrArg (fun z => [V.int z]) (show (vu.length : Int) = (us.length : Int) by omega), by omega, by omega, jq (n := us.length) (fun i ys H' => H' = H ∧ ys = outV (bendP many (us.take i))) ⟨rfl, rfl⟩ (zj (by omega)) ?_ ?_ ?_⟩
 ·rintro ys H' ⟨rfl, rfl⟩
  refine ⟨by show (us.length : Int).toNat ≤ us.length; omega, fun p hp => ?_⟩
  rw [List.take_of_length_le (Nat.le_refl _)]
  exact q p hp
 ·rintro i ys H' hi _
  show i < (us.length : Int).toNat
  omega
 ·rintro i m' ys H' cc x H3 hi ⟨rfl, rfl⟩ ⟨rfl, rfl⟩ nx sk
  obtain ⟨v, ev⟩ : ∃ v, vu[i]? = some v := ⟨_, gE9 (by omega)⟩
  obtain ⟨u0, eu0, hU⟩ := rU.get ev
  obtain ⟨tt, zs, rfl, htt⟩ := kind_at hU
  have ea : atI vu (0 + (i : Int)) = some (.ref tt) := by rw [Int.zero_add]; exact atN ev
  refine ⟨_, rfl, _, _, _, _, rfl, rfl, ht, rfl, _, rfl, lu, _, _, _, rfl, rfl, SqL.of eu, ea, _, _, _, _, rfl, rfl, htt, at0, rfl, _, rfl, ?_⟩
  have es : us.take (i + 1) = us.take i ++ [u0] := zY eu0
  have li : (us.take i).length = i := by rw [List.length_take]; omega
  cases hb : isB u0 with
  | true =>
   refine Or.inl ⟨by rfl, _, rfl, _, _, _, _, rfl, rfl, ht, rfl, _, rfl, _, _, rfl, rfl, nx _ _ ⟨rfl, ?_⟩⟩
   rw [es, ZY, hb, li]
   unfold outV
   rw [List.map_append]
   show _ ++ [V.int ((many : Int) + (0 + (i : Int)))] = _ ++ [V.int ((many + i : Nat) : Int)]
   rw [show (many : Int) + (0 + (i : Int)) = ((many + i : Nat) : Int) by omega]
  | false =>
   refine Or.inr ⟨by rfl, sk _ ⟨rfl, ?_⟩⟩
   rw [es, ZY, hb]
   simp
def spNoR (K : Fg9) : Sp := fun vs H Q _ => ∃ x, vs = [x] ∧ ((NO K H x ∧ ∀ H', Same H H' → Q (.bl true) H') ∨ ∃ (p : Addr) (q : Rat), x = .ref p ∧ SqT K H p (TQ q) ∧ Bq 1 40 q ∧ ∀ H', Same H H' → Q (.bl false) H')
abbrev Y5 (P w K mg base) (a : Adr) (cdv A outer s H E) := (cxOf CX0 P w K mg base ["_law_thing", "_law_part_here"] "_law_no_ratio" (qQ jx) a.f_law_no_ratio cdv A outer s H E).nox
set_option maxHeartbeats 0 in
theorem ok_law_no_ratio (T : Txt K mg a) : FnOk P w K mg base CX0 2 a.f_law_no_ratio a.d_law_no_ratio ["_law_thing"] (spNoR K) := by
 refine T.F_law_no_ratio.ok sc_law_no_ratio (fun vs H Q E h => ?_) (fun cdv A outer s H vs Q E hr h => ?_)
 ·obtain ⟨_, rfl, _⟩ := h
  rfl
 obtain ⟨x, rfl, h⟩ := h
 have tup : ∀ {p : Addr} {xs : List V}, SqT K H p xs → IsA K H (.ref p) "tuple" true := fun h => .old (.old (.tupTup h))
 have h0 : PS (Y5 P w K mg base a cdv A outer s H E) (bS jx 0) _ := (ps_if (PW.pt (pw_or (jQ (yX (zq (JJ) rfl T.m_isinstance boot_isinstance (pa_c (pv 0) (pa_c (vX (v := .ty "tuple") rfl T.m_tuple boot_tuple rfl) qj)) (he := qz rfl _ _) (hpl := qZ rfl)))) (xv (zJ op_ne (zq (zZ) rfl T.m_len boot_len (pa_c (pv 0) qj) (he := qz rfl _ _) (hpl := qZ rfl)) qk (zX _)))))
    (qV (zw pe_bl))
    zW)
 have h1 : PS (Y5 P w K mg base a cdv A outer s H E) (bS jx 1) _ := (kj PassesOwn.never rfl (pi_tup (pv 0)) (zx (i := 1) sc_law_no_ratio.nd rfl (Or.inl rfl))
    (qV (ps_if (PW.pt (pw_or (jQ (yX (zq (JJ) rfl T.m_isinstance boot_isinstance (pa_c (pv 1) (pa_c (vX (v := .ty "int") rfl T.m_int boot_int rfl) qj)) (he := qz rfl _ _) (hpl := qZ rfl)))) (xv (yX (zq (JJ) rfl T.m_isinstance boot_isinstance (pa_c (pv 1) (pa_c (vX (v := .ty "bool") rfl T.m_bool boot_bool rfl) qj)) (he := qz rfl _ _) (hpl := qZ rfl))))))
    (qV (zw pe_bl))
    zW)))
 have h2 : PS (Y5 P w K mg base a cdv A outer s H E) (bS jx 2) _ := (zw (pe_or (Q6 op_lt (pe_ix qY (pv 0) qk (fun _ _ => rfl)) qk (zX _)) (pe_one (Q6 (op_neT (hu_of hr)) (qK (kZ T) (hr.mono (by decide)) rfl T.m_law_part T.F_law_part.kp T.b_law_part .nil pass0 (pa_c (pe_ix qY (pv 0) qk (fun _ _ => rfl)) (pa_c (pe_ix qY (pv 0) qk (fun _ _ => rfl)) qj)) (he := qz rfl _ _) (hpl := qZ rfl)) (pv 0) (zX _)))))
 refine body3 (by rfl) h0 h1 h2 ?_
 intros
 clear h0 h1 h2
 rcases h with ⟨no, q⟩ | ⟨p, z, rfl, hp, bz, q⟩
 ·have q0 := q H (Same.refl _)
  cases no with
  | no h => exact ⟨_, rfl, _, _, _, rfl, h, _, rfl, iteT q0⟩
  | len h n => exact ⟨_, rfl, _, _, _, rfl, tup h, _, rfl, iteF ⟨_, rfl, _, _, rfl, .inr h, rfl, _, rfl, iteNP (fun z => n (by have := V.int.inj z; omega)) q0⟩⟩
  | @fst p u v h k =>
   refine ⟨_, rfl, _, _, _, rfl, tup h, _, rfl, iteF ⟨_, rfl, _, _, rfl, .inr h, rfl, _, rfl, iteF ?_⟩⟩
   refine ⟨_, rfl, p, rfl, ⟨_, h⟩, vy (n := 1) (fun i σ H' => i = 0 ∧ H' = H ∧ ∃ o, σ = [some (.ref p), o]) ⟨rfl, rfl, _, rfl⟩ ?_ ?_ ?_⟩
   ·rintro σ H' ⟨e, _⟩; cases e
   ·rintro i σ H' hi ⟨_, rfl, _⟩
    exact ⟨_, _, h, gE9 (show i < 2 by omega)⟩
   ·rintro i σ H' x H2 hi ⟨rfl, rfl, o, rfl⟩ ⟨rfl, y1⟩
    have ex : u = x := by simpa using y1 _ h
    subst ex
    rcases k with ⟨k1, _⟩ | ⟨k1, k2⟩
    ·exact ⟨_, rfl, _, _, _, rfl, .old (.old k1), _, rfl, iteT q0⟩
    ·exact ⟨_, rfl, _, _, _, rfl, .old (.old k1), _, rfl, iteF ⟨_, rfl, _, _, _, rfl, .old (.old k2), _, rfl, iteT q0⟩⟩
  | @low p x y h k =>
   refine ⟨_, rfl, _, _, _, rfl, tup h, _, rfl, iteF ⟨_, rfl, _, _, rfl, .inr h, rfl, _, rfl, iteF ?_⟩⟩
   refine ⟨_, rfl, p, rfl, ⟨_, h⟩, vy (n := 2) (fun i σ H' => H' = H ∧ ∃ o, σ = [some (.ref p), o]) ⟨rfl, _, rfl⟩ ?_ (fun i σ H' hi hh => by
    obtain ⟨rfl, _⟩ := hh
    exact ⟨_, _, h, gE9 hi⟩) (fun i σ H' xx H2 hi hh yy => by
    obtain ⟨rfl, o, rfl⟩ := hh
    obtain ⟨rfl, y1⟩ := yy
    obtain ⟨n, rfl⟩ : ∃ n : Int, xx = .int n := by
     have y1 := y1 _ h
     match i, hi with
     | 0, _ => exact ⟨x, (by simpa using y1 : V.int x = xx).symm⟩
     | 1, _ => exact ⟨y, (by simpa using y1 : V.int y = xx).symm⟩
    exact ⟨_, rfl, _, _, _, rfl, .old (.old (.intInt n)), _, rfl, iteF ⟨_, rfl, _, _, _, rfl, .old (.old (.intBool n)), _, rfl, iteF ⟨rfl, _, rfl⟩⟩⟩)⟩
   ·rintro σ H' ⟨rfl, o, rfl⟩
    refine ⟨⟨_, h, Nat.le_refl _⟩, ?_⟩
    refine ⟨_, rfl, _, _, _, _, rfl, rfl, h, rfl, _, _, rfl, rfl, _, rfl, iteP k q0⟩
  | @part p x y h k g b =>
   refine ⟨_, rfl, _, _, _, rfl, tup h, _, rfl, iteF ⟨_, rfl, _, _, rfl, .inr h, rfl, _, rfl, iteF ?_⟩⟩
   refine ⟨_, rfl, p, rfl, ⟨_, h⟩, vy (n := 2) (fun i σ H' => H' = H ∧ ∃ o, σ = [some (.ref p), o]) ⟨rfl, _, rfl⟩ ?_ (fun i σ H' hi hh => by
    obtain ⟨rfl, _⟩ := hh
    exact ⟨_, _, h, gE9 hi⟩) (fun i σ H' xx H2 hi hh yy => by
    obtain ⟨rfl, o, rfl⟩ := hh
    obtain ⟨rfl, y1⟩ := yy
    obtain ⟨n, rfl⟩ : ∃ n : Int, xx = .int n := by
     have y1 := y1 _ h
     match i, hi with
     | 0, _ => exact ⟨x, (by simpa using y1 : V.int x = xx).symm⟩
     | 1, _ => exact ⟨y, (by simpa using y1 : V.int y = xx).symm⟩
    exact ⟨_, rfl, _, _, _, rfl, .old (.old (.intInt n)), _, rfl, iteF ⟨_, rfl, _, _, _, rfl, .old (.old (.intBool n)), _, rfl, iteF ⟨rfl, _, rfl⟩⟩⟩)⟩
   ·rintro σ H' ⟨rfl, o, rfl⟩
    refine ⟨⟨_, h, Nat.le_refl _⟩, ?_⟩
    refine ⟨_, rfl, _, _, _, _, rfl, rfl, h, rfl, _, _, rfl, rfl, _, rfl, iteN (by omega) ?_⟩
    refine ⟨_, rfl, _, _, _, _, rfl, rfl, h, rfl, _, rfl, _, _, _, _, rfl, rfl, h, rfl, x, y, rfl, by omega, b.mono (by decide), fun p2 H2 g2 e2 => ?_⟩
    refine ⟨_, rfl, p2, p, _, _, rfl, rfl, SqT.of e2, g2.tup h, rfl, rfl, ?_⟩
    have e := pairs_eq (nt x y, nb x y) (x, y)
    have ne : (nt x y, nb x y) ≠ (x, y) := fun z => by
     have z2 : nb x y = y := congrArg Prod.snd z
     have s2 := sg_nb x y
     rw [z2] at s2
     have a2 := congrArg Int.natAbs s2
     rw [Int.natAbs_mul, sg_abs] at a2
     have yp : 0 < y.natAbs := by omega
     exact g (Nat.eq_of_mul_eq_mul_right yp (by rw [Nat.one_mul]; exact a2))
    rw [decide_eq_false ne] at e
    have e : eqVs (T2 (nt x y) (nb x y)) (T2 x y) = false := e
    rw [e]
    exact q _ g2
 ·refine ⟨_, rfl, _, _, _, rfl, tup hp, _, rfl, iteF ⟨_, rfl, _, _, rfl, .inr hp, rfl, _, rfl, iteF ?_⟩⟩
  have zp := (Q4 z).pos
  obtain ⟨x, hx⟩ : ∃ x, z.num = x := ⟨_, rfl⟩
  obtain ⟨y, hy⟩ : ∃ y, (z.den : Int) = y := ⟨_, rfl⟩
  have h : SqT K H p (T2 x y) := by rw [← hx, ← hy]; exact hp
  refine ⟨_, rfl, p, rfl, ⟨_, h⟩, vy (n := 2) (fun i σ H' => H' = H ∧ ∃ o, σ = [some (.ref p), o]) ⟨rfl, _, rfl⟩ ?_ (fun i σ H' hi hh => by
    obtain ⟨rfl, _⟩ := hh
    exact ⟨_, _, h, gE9 hi⟩) (fun i σ H' xx H2 hi hh yy => by
    obtain ⟨rfl, o, rfl⟩ := hh
    obtain ⟨rfl, y1⟩ := yy
    obtain ⟨n, rfl⟩ : ∃ n : Int, xx = .int n := by
     have y1 := y1 _ h
     match i, hi with
     | 0, _ => exact ⟨x, (by simpa using y1 : V.int x = xx).symm⟩
     | 1, _ => exact ⟨y, (by simpa using y1 : V.int y = xx).symm⟩
    exact ⟨_, rfl, _, _, _, rfl, .old (.old (.intInt n)), _, rfl, iteF ⟨_, rfl, _, _, _, rfl, .old (.old (.intBool n)), _, rfl, iteF ⟨rfl, _, rfl⟩⟩⟩)⟩
  ·rintro σ H' ⟨rfl, o, rfl⟩
   refine ⟨⟨_, h, Nat.le_refl _⟩, ?_⟩
   refine ⟨_, rfl, _, _, _, _, rfl, rfl, h, rfl, _, _, rfl, rfl, _, rfl, iteN (by omega) ?_⟩
   refine ⟨_, rfl, _, _, _, _, rfl, rfl, h, rfl, _, rfl, _, _, _, _, rfl, rfl, h, rfl, x, y, rfl, by omega, by rw [← hy]; exact bz.sm.2.mono (by decide), fun p2 H2 g2 e2 => ?_⟩
   refine ⟨_, rfl, p2, p, _, _, rfl, rfl, SqT.of e2, g2.tup h, rfl, rfl, ?_⟩
   have e1 : nt x y = x ∧ nb x y = y := by
    have k := n_rat (t := x) (b := y) (by omega)
    rw [← hx, ← hy, Rat.num_divInt_den] at k
    rw [← hx, ← hy]
    exact k
   rw [e1.1, e1.2, eqVs_self rfl]
   exact q _ g2
def spMixL (K : Fg9) : Sp := fun vs H Q _ => ∃ (ra pa : Addr) (n : Nat) (vr vp : List V) (rows : List Rw) (ps : List Rat), vs = [.ref ra, .ref pa, .int n] ∧ SqL K H ra vr ∧ SqL K H pa vp ∧ RowL K H vr rows ∧ RL K H vp ps ∧ rows.length = ps.length ∧ ps.length ≤ 60 ∧ n ≤ 40 ∧ (∀ r ∈ rows, Rz n r) ∧ (∀ q ∈ ps, Bq 1 40 q) ∧ RetL K H Q (mixQ rows ps (List.replicate (n + 1) 0))
abbrev cb_law_mix (P w K mg base) (a : Adr) (cdv A outer s H E) := (cxOf CX0 P w K mg base ["_law_rows_here", "_law_prices", "_law_many_here", "_law_mix_here", "_law_one", "_law_price_here"] "_law_mix" (qQ x8) a.f_law_mix cdv A outer s H E).nox
set_option maxHeartbeats 0 in
theorem ok_law_mix (T : Txt K mg a) : FnOk P w K mg base CX0 3 a.f_law_mix a.d_law_mix ["_law_rows_here", "_law_prices", "_law_many_here"] (spMixL K) := by
 refine T.F_law_mix.ok YZ (fun vs H Q E h => ?_) (fun cdv A outer s H vs Q E hr h => ?_)
 ·obtain ⟨_, _, _, _, _, _, _, rfl, _⟩ := h
  rfl
 obtain ⟨ra, pa, n, vr, vp, rows, ps, rfl, hR, hP, rR, rP, lrp, p60, n40, sR, sP, q⟩ := h
 have h0 : PS (cb_law_mix P w K mg base a cdv A outer s H E) (bS x8 0) _ := (zk (i := 3) YZ.nd rfl (Or.inl rfl) (pe_op op_rep (j7 (pa_c (yq (pa_c qk (pa_c qk qj))) qj)) (pe_op yj (pv 2) qk)))
 have h1 : PS (cb_law_mix P w K mg base a cdv A outer s H E) (bS x8 1) _ := (kj PassesOwn.never rfl (pi_zip rfl T.m_zip (pa_c (pv 0) (pa_c (pv 1) qj))) (jW rfl (zy (zx (i := 4) YZ.nd rfl (Or.inl rfl)) (zy (zx (i := 5) YZ.nd rfl (Or.inr rfl)) yK)))
    (qV (kW (i := 3) YZ.nd rfl (Or.inl rfl) (N := ["_law_had", "_law_more", "_law_price_here"]) (ix := [none, none, some 5]) ⟨rfl, rfl, rfl, rfl, ⟨rfl, trivial⟩, rfl, ⟨⟨rfl, Or.inr (Or.inl rfl), Z3 rfl, rfl, Or.inl rfl⟩, trivial⟩⟩ rfl (pi_zip rfl T.m_zip (pa_c (pv 3) (pa_c (pe_op Y4 (pe_ix qY (pv 4) qk (fun _ _ => rfl)) (j7 (pa_c (pe_ix qY (pv 4) qk (fun _ _ => rfl)) qj))) qj))) (fun _ => (jW rfl (zy (zx (i := 0) (show (["_law_had", "_law_more", "_law_price_here"] : List Str).Nodup by decide +kernel) rfl (Or.inl rfl)) (zy (zx (i := 1) (show (["_law_had", "_law_more", "_law_price_here"] : List Str).Nodup by decide +kernel) rfl (Or.inl rfl)) yK)))) (fun _ σ => V5 rfl rfl (by decide) σ) (fun _ => jk) (fun _ => (qK (Qq T) (hr.mono (by decide)) rfl T.m_law_sum T.F_law_sum.kp T.b_law_sum .nil pass0 (pa_c (pv 0) (pa_c (qK (ok_law_many T) (hr.mono (by decide)) rfl T.m_law_many T.F_law_many.kp T.b_law_many .nil pass0 (pa_c (pv 2) (pa_c (pv 1) qj)) (he := qz rfl _ _) (hpl := qZ rfl)) qj)) (he := qz rfl _ _) (hpl := qZ rfl))))))
 have h2 : PS (cb_law_mix P w K mg base a cdv A outer s H E) (bS x8 2) _ := (zw (pv 3))
 refine body3 (by rfl) h0 h1 h2 ?_
 intros
 clear h0 h1 h2
 have lr := rR.length
 have lp := rP.length
 refine ⟨y9, fun t0 ht0 => ⟨(show 1 ≤ sizeLine by decide), fun l0 hl0 => ?_⟩⟩
 have g1 := qy ht0 (.tup (T2 0 1))
 have g2 := qy hl0 (.lst [.ref t0])
 refine ⟨_, rfl, _, _, rfl, rfl, l0, _, _, rfl, rfl, qv, by omega, by omega, ?_, fun ls hls => ?_⟩
 ·rw [List.length_singleton]
  exact Nat.le_of_lt (zj (by omega))
 rw [show ((n : Int) + 1).toNat = n + 1 by omega, YV]
 have g3 := qy hls (.lst (List.replicate (n + 1) (.ref t0)))
 have z0 : SqT K (upd (upd (upd H t0 (.tup (T2 0 1))) l0 (.lst [.ref t0])) ls (.lst (List.replicate (n + 1) (.ref t0)))) t0 (TQ 0) := SqT.of ((g2.trans g3) _ _ qv)
 have els : upd (upd (upd H t0 (.tup (T2 0 1))) l0 (.lst [.ref t0])) ls (.lst (List.replicate (n + 1) (.ref t0))) ls = some (.lst (List.replicate (n + 1) (.ref t0))) := qv
 have g03 := g1.trans (g2.trans g3)
 have nls : H ls = none := zQ (g1.trans g2) hls
 generalize upd (upd (upd H t0 (.tup (T2 0 1))) l0 (.lst [.ref t0])) ls (.lst (List.replicate (n + 1) (.ref t0))) = H1 at *
 have lacc : ∀ i, (mixQ (rows.take i) (ps.take i) (List.replicate (n + 1) 0)).length = n + 1 := fun i => JQ _ _ _ n (by rw [List.length_replicate]) fun r hr' => (sR r (List.mem_of_mem_take hr')).1
 refine ⟨_, rfl, _, rfl, ra, pa, rfl, ⟨_, g03.seq hR⟩, ⟨_, g03.seq hP⟩, vy (n := rows.length) (fun i σ H' => Same H H' ∧ ∃ (ls : Addr) (v : List V) (u4 u5 : Option V), σ = [some (.ref ra), some (.ref pa), some (.int n), some (.ref ls), u4, u5] ∧ H ls = none ∧ H' ls = some (.lst v) ∧ RL K H' v (mixQ (rows.take i) (ps.take i) (List.replicate (n + 1) 0)))
  ⟨g03, ls, _, _, _, rfl, nls, els, RL.rep ⟨t0, rfl, z0⟩ (n + 1)⟩ ?_ ?_ ?_⟩
 ·rintro σ H' ⟨g, ls, v, u4, u5, rfl, nl, el, rl⟩
  refine ⟨⟨_, _, g.seq hR, g.seq hP, .inl (by omega)⟩, ?_⟩
  rw [List.take_of_length_le (by omega), List.take_of_length_le (by omega)] at rl
  exact ⟨_, rfl, q ls H' v nl g el rl⟩
 ·rintro i σ H' hi ⟨g, _⟩
  exact ⟨_, _, _, _, g.seq hR, g.seq hP, gE9 (by omega), gE9 (by omega)⟩
 ·rintro i σ H' x H3 hi ⟨g, ls, v, u4, u5, rfl, nl, el, rl⟩ ⟨p, x1, x2, hp, rfl, rfl, y1, y2⟩
  obtain ⟨row, er, ho⟩ := wv rR (y1 _ (g.seq hR))
  obtain ⟨qp, ep, pp, rfl, hpp⟩ := rP.get (y2 _ (g.seq hP))
  obtain ⟨t, l, b, vs, rfl, h1, h2, h2', h3, h4⟩ := ho.mono g
  obtain ⟨s1, s2, s3⟩ := sR row (List.mem_of_getElem? er)
  have sp := sP qp (List.mem_of_getElem? ep)
  have g5 := qy hp (.tup [.ref t, .ref pp])
  have gg := g.trans g5
  have hpp := gg.tup hpp
  have h1 := g5.tup h1
  have h2' := g5 _ _ h2'
  have h3 := h3.mono g5
  have h4 := g5.tup h4
  have el := g5 _ _ el
  have rl := rl.mono g5
  have la1 := lacc i
  have lv := rl.length
  have bacc : ∀ q ∈ mixQ (rows.take i) (ps.take i) (List.replicate (n + 1) 0), Bq 29 2160 q := fun q' hq' =>
   (bq_mix (b := 2100) (fun r hr' => sR r (List.mem_of_mem_take hr')) (fun p h => sP p (List.mem_of_mem_take h)) (fun x hx => by rw [List.eq_of_mem_replicate hx]; exact Bq.zero _ _) (Nat.le_refl _) q' hq').mono (Nat.le_refl _) (by rw [List.length_take]; omega)
  have snoc : mixQ (rows.take (i + 1)) (ps.take (i + 1)) (List.replicate (n + 1) 0) = List.zipWith (fun t q => t + qp * q) (mixQ (rows.take i) (ps.take i) (List.replicate (n + 1) 0)) (row.1 ++ [row.2]) := by
   rw [zY er, zY ep]
   exact mixQ_snoc _ _ _ _ _ (by rw [List.length_take, List.length_take]; omega)
  have lvs := h3.length
  have etp : upd H' p (.tup [.ref t, .ref pp]) p = some (.tup [.ref t, .ref pp]) := qv
  refine ⟨p, _, rfl, SqT.of etp, rfl, _, _, rfl, _, _, rfl, rfl, ?_⟩
  generalize upd H' p (.tup [.ref t, .ref pp]) = H4 at *
  rw [snoc]
  generalize mixQ (rows.take i) (ps.take i) (List.replicate (n + 1) 0) = M at *
  refine ⟨_, rfl, _, rfl, _, _, _, _, rfl, rfl, h1, rfl, _, rfl, _, _, _, _, rfl, rfl, h1, rfl, (show 1 ≤ sizeLine by decide), fun lb hlb => ?_⟩
  have g6 := qy hlb (.lst [.ref b])
  refine ⟨l, lb, _, _, rfl, rfl, g6 _ _ h2', qv, ?_, fun lc hlc => ?_⟩
  ·rw [List.length_singleton]
   exact Nat.le_of_lt (zj (by omega))
  have g7 := qy hlc (.lst (vs ++ [.ref b]))
  have g67 := g6.trans g7
  have ec := qv (H := upd H4 lb (.lst [.ref b])) (a := lc) (o := .lst (vs ++ [.ref b]))
  generalize upd (upd H4 lb (.lst [.ref b])) lc (.lst (vs ++ [.ref b])) = H5 at *
  have el := g67 _ _ el
  have rl := rl.mono g67
  have hpp := g67.tup hpp
  have rc : RL K H5 (vs ++ [.ref b]) (row.1 ++ [row.2]) := (h3.mono g67).snoc ⟨b, rfl, g67.tup h4⟩
  have gg := gg.trans g67
  have lrc := rc.length
  have lrow : (row.1 ++ [row.2]).length = n + 1 := by rw [List.length_append, List.length_singleton, s1]
  have brow : ∀ q ∈ row.1 ++ [row.2], Bq 28 2050 q := fun q' hq' => by
   rcases List.mem_append.mp hq' with z | z
   ·exact s2 q' z
   ·rw [List.mem_singleton.mp z]; exact s3
  generalize row.1 ++ [row.2] = R at *
  have zl : (List.zipWith (fun t q => t + qp * q) M R).length = n + 1 := by rw [List.length_zipWith]; omega
  refine ⟨ls, lc, rfl, ⟨_, SqL.of el⟩, ⟨_, SqL.of ec⟩, jq (n := n + 1) (fun j ys H6 => Same H5 H6 ∧ RL K H6 ys ((List.zipWith (fun t q => t + qp * q) M R).take j)) ⟨Same.refl _, .nil⟩ (zj (by omega)) ?_ ?_ ?_⟩
  case refine_2 =>
   rintro j ys H6 hj ⟨k6, _⟩
   exact ⟨_, _, _, _, SqL.of (k6 _ _ el), SqL.of (k6 _ _ ec), gE9 (by omega), gE9 (by omega)⟩
  case refine_3 =>
   rintro j m' ys H6 cc x H7 hj ⟨k6, r6⟩ ⟨p2, z1, z2, hp2, rfl, rfl, v1, v2⟩ nx _
   obtain ⟨qa, ea, pa', rfl, ha⟩ := rl.get (v1 _ (SqL.of (k6 _ _ el)))
   obtain ⟨qb, eb, pb', rfl, hb'⟩ := rc.get (v2 _ (SqL.of (k6 _ _ ec)))
   have k7 := qy hp2 (.tup [.ref pa', .ref pb'])
   have k67 := k6.trans k7
   have ez : (List.zipWith (fun t q => t + qp * q) M R)[j]? = some (qa + qp * qb) := by rw [List.getElem?_zipWith, ea, eb]
   have sqb := brow qb (List.mem_of_getElem? eb)
   have sqa := bacc qa (List.mem_of_getElem? ea)
   refine ⟨p2, _, rfl, SqT.of qv, rfl, _, _, rfl, _, _, rfl, rfl, Or.inl ⟨rfl, _, rfl, _, rfl, _, rfl, pp, pb', qp, qb, rfl, k67.tup hpp, k67.tup hb', sp.sm.mono (by decide), sqb.s4r (by decide) (by decide), fun p3 H8 g8 e8 => ?_⟩⟩
   refine ⟨pa', p3, qa, _, rfl, (k67.trans g8).tup ha, SqT.of e8, sqa.s4r (by decide) (by decide), (sp.mul sqb).s4r (by decide) (by decide), fun p4 H9 g9 e9 => nx _ _ ⟨k67.trans (g8.trans g9), ?_⟩⟩
   rw [zY ez]
   exact (r6.mono (k7.trans (g8.trans g9))).snoc ⟨p4, rfl, SqT.of e9⟩
  rintro ys H6 ⟨k6, r6⟩
  refine ⟨⟨_, _, SqL.of (k6 _ _ el), SqL.of (k6 _ _ ec), .inl (by omega)⟩, fun lq hlq => ?_⟩
  rw [List.take_of_length_le (by omega)] at r6
  have k7 := qy hlq (.lst ys)
  exact ⟨gg.trans (k6.trans k7), lq, ys, _, _, rfl, zQ (gg.trans k6) hlq, qv, r6.mono k7⟩
def spPriceL : Sp := fun vs H Q _ => ∃ m : Int, vs = [.int m] ∧ ∀ q : Rat, Bq 1 40 q → RetT H Q (TQ q)
theorem small_part {t : Int} {b : Nat} (h0 : 0 ≤ t) (h : t ≤ 9) (hb : b = 1 ∨ b = 2 ∨ b = 3 ∨ b = 4) : Bq 1 40 (Rat.divInt t b) := by
 refine Bq.of (by omega) ?_ ?_
 ·rcases hb with e | e | e | e <;> subst e <;> decide
 ·have : t.natAbs ≤ 2 ^ 40 := by omega
  exact Nat.le_trans this (Nat.le_mul_of_pos_right _ (by omega))
set_option maxHeartbeats 0 in
theorem ok_law_price (T : Txt K mg a) : FnOk P w K mg base CX0 2 a.f_law_price a.d_law_price ["_law_number"] spPriceL := by
 refine T.F_law_price.ok sc_law_price (fun vs H Q E h => ?_) (fun cdv A outer s H vs Q E hr h => ?_)
 ·obtain ⟨_, rfl, _⟩ := h
  rfl
 obtain ⟨m, rfl, q⟩ := h
 refine ⟨_, (qV (zw (pe_ix yk (j7 (pa_c (yq (pa_c qk (pa_c qk qj))) (pa_c (qK (kZ T) (hr.mono (by decide)) rfl T.m_law_part T.F_law_part.kp T.b_law_part .nil pass0 (pa_c (pe_op yj qk (pe_op v5 (pe_op yz (pv 0) qk) qk)) (pa_c (pe_op yj qk (pe_op v5 (pe_op yz (pv 0) qk) qk)) qj)) (he := qz rfl _ _) (hpl := qZ rfl)) (pa_c (yq (pa_c qk (pa_c qk qj))) qj)))) (pe_op v5 (pv 0) qk) (fun _ _ => rfl)))), ?_⟩
 refine ⟨y9, fun t0 ht0 => ?_⟩
 have g0 := qy ht0 (.tup (T2 0 1))
 have e0 := qv (H := H) (a := t0) (o := .tup (T2 0 1))
 generalize upd H t0 (.tup (T2 0 1)) = H0 at *
 have b1 := Int.emod_nonneg (m.fdiv 3) (show (9 : Int) ≠ 0 by decide)
 have b2 := Int.emod_lt_of_pos (m.fdiv 3) (show (0 : Int) < 9 by decide)
 have b3 := Int.emod_nonneg (m.fdiv 27) (show (4 : Int) ≠ 0 by decide)
 have b4 := Int.emod_lt_of_pos (m.fdiv 27) (show (0 : Int) < 4 by decide)
 refine ⟨_, rfl, _, _, rfl, rfl, cdivB (n := 10) (by decide) (by unfold Sm; decide), _, _, rfl, rfl, (by show (0 : Int) < 9; decide), _, _, rfl, rfl, _, rfl, _, _, rfl, rfl, cdivB (n := 10) (by decide) (by unfold Sm; decide), _, _, rfl, rfl, (by show (0 : Int) < 4; decide), _, _, rfl, rfl, _, _, rfl, by omega, sm64 (by omega) (by omega) |>.mono (by decide), fun p1 H1 g1 e1 => ?_⟩
 have e0 := g1 _ _ e0
 have g01 := g0.trans g1
 refine ⟨y9, fun t2 ht2 => ?_⟩
 have g2 := qy ht2 (.tup (T2 1 1))
 have e2 := qv (H := H1) (a := t2) (o := .tup (T2 1 1))
 have e0 := g2 _ _ e0
 have e1 := g2 _ _ e1
 have g02 := g01.trans g2
 generalize upd H1 t2 (.tup (T2 1 1)) = H2 at *
 refine ⟨(show 3 ≤ sizeLine by decide), fun ll hll => ?_⟩
 have g3 := qy hll (.lst [.ref t0, .ref p1, .ref t2])
 have g03 := g02.trans g3
 have c1 := Int.emod_nonneg m (show (3 : Int) ≠ 0 by decide)
 have c2 := Int.emod_lt_of_pos m (show (0 : Int) < 3 by decide)
 have hat : ∃ p' v, atI [V.ref t0, V.ref p1, V.ref t2] (m % 3) = some (.ref p') ∧ upd H2 ll (.lst [.ref t0, .ref p1, .ref t2]) p' = some (.tup (TQ v)) ∧ Bq 1 40 v := by
  have cc : m % 3 = 0 ∨ m % 3 = 1 ∨ m % 3 = 2 := by omega
  rcases cc with cc | cc | cc <;> rw [cc]
  ·exact ⟨t0, 0, rfl, g3 _ _ e0, Bq.zero _ _⟩
  ·obtain ⟨b, hb⟩ : ∃ b : Nat, 1 + m.fdiv 27 % 4 = (b : Int) := ⟨(1 + m.fdiv 27 % 4).toNat, by omega⟩
   have k := n_rat (t := 1 + m.fdiv 3 % 9) (b := 1 + m.fdiv 27 % 4) (by omega)
   refine ⟨p1, Rat.divInt (1 + m.fdiv 3 % 9) (1 + m.fdiv 27 % 4), rfl, ?_, by rw [hb]; exact small_part (by omega) (by omega) (by omega)⟩
   unfold TQ
   rw [← k.1, ← k.2]
   exact g3 _ _ e1
  ·exact ⟨t2, 1, rfl, g3 _ _ e2, Bq.one _ _⟩
 obtain ⟨p', v, ha, hv, bv⟩ := hat
 refine ⟨_, rfl, _, _, rfl, rfl, (by show (0 : Int) < 3; decide), ll, _, _, _, rfl, rfl, SqL.of qv, ha, ?_⟩
 exact q v bv p' _ g03 hv
def spFormW (K : Fg9) (a : Adr) : Sp := fun vs H Q _ => ∃ (pn lc pt : Addr) (many : Nat) (us : List Un) (cs : List Sta) (vt : List V) (ts : List (Nat × Rat)), vs = [.ref pn, .ref lc, .ref pt] ∧ NetT K a H pn many us ∧ SqL K H lc (staV cs) ∧ NetC many us cs ∧ SqL K H pt vt ∧ TL K H vt ts ∧ (∀ x ∈ ts, TermW (many + opens cs) (runF many (many + opens cs) cs us).1 x) ∧ ts.length ≤ 60 ∧ RetL K H Q (YQ 0 ts (runF many (many + opens cs) cs us).1 (many + opens cs))
set_option maxHeartbeats 0 in
theorem ok_form_of (T : Txt K mg a) : FnOk P w K mg base CX0 6 a.f_form_of a.d_form_of ["net", "case", "terms"] (spFormW K a) := by
 refine T.F_form_of.ok sc_form_of (fun vs H Q E h => ?_) (fun cdv A outer s H vs Q E hr h => ?_)
 ·obtain ⟨_, _, _, _, _, _, _, _, rfl, _⟩ := h
  rfl
 obtain ⟨pn, lc, pt, many, us, cs, vt, ts, rfl, NT, hc, NC, ht, rt, tw, l60, q⟩ := h
 have n0 : ∀ H : Hp, SqT K H a.g_NOUGHT (TQ 0) := T.s_NOUGHT
 have oc := opens_le cs
 have lfil : (us.filter isB).length ≤ us.length := List.length_filter_le _ _
 have l12 := NC.2.1
 have lcs := NC.2.2.2.2
 have m6 := NC.2.2.2.1
 refine ⟨_, (qV (zw (qK (ok_terms_formW T) (hr.mono (by decide)) rfl T.m_terms_form T.F_terms_form.kp T.b_terms_form .nil pass0 (pa_c (yZ (v := .ref a.g_NOUGHT) rfl T.m_NOUGHT rfl) (pa_c (pv 2) (pa_c (qK (ok_forms_in T) (hr.mono (by decide)) rfl T.m_forms_in T.F_forms_in.kp T.b_forms_in .nil pass0 (pa_c (pv 0) (pa_c (pv 1) qj)) (he := qz rfl _ _) (hpl := qZ rfl)) (pa_c (qK (Z1 T) (hr.mono (by decide)) rfl T.m_variable_count T.F_variable_count.kp T.b_variable_count .nil pass0 (pa_c (pe_ix qY (Z0 (pv 0) T.C_Net T.t_Net_told (QY T) (hr.mono (by decide)) T.b_Net_told .nil pass0) qk (fun _ _ => rfl)) (pa_c (pv 1) qj)) (he := qz rfl _ _) (hpl := qZ rfl)) qj)))) (he := qz rfl _ _) (hpl := qZ rfl)))), ?_⟩
 refine ⟨_, rfl, _, rfl, _, rfl, pn, lc, many, us, cs, rfl, NT, hc, NC, fun lf vf H1 nlf g1 ef rf nd => ?_⟩
 obtain ⟨lu, lo, vk, outs, hNa, hu, rk, ho⟩ := NT.mono g1
 obtain ⟨dx, hN⟩ := id hNa
 refine ⟨_, rfl, pn, dx, _, rfl, hN, rfl, pn, lu, lo, many, vk, us, outs, rfl, hNa, hu, rk, by omega, ho, fun t l2 o2 vu H2 g2 ht2 _ _ _ _ _ => ?_⟩
 have g := g1.trans g2
 refine ⟨_, _, _, _, rfl, rfl, ht2, rfl, _, rfl, many, lc, cs, rfl, g.seq hc, ?_⟩
 refine ⟨a.g_NOUGHT, pt, lf, vt, vf, ts, _, many + opens cs, rfl, n0 _, g.seq ht, rt.mono g, SqL.of (g2 _ _ ef), rf.fl.mono g2, tw, l60, by omega, fun p H3 ys np g3 e3 r3 => ?_⟩
 exact q p H3 ys (zQ g np) (g.trans g3) e3 r3
theorem cutEnd {vs : List V} {n : Nat} (h : vs.length = n + 1) : cutV vs none (some (-1)) = vs.take n := by
 unfold cutV
 have e : HT.sIx vs.length vs.length (some (-1)) = n := by
  show (if (-1 : Int) < 0 then (-1 + (vs.length : Int)).toNat else min (-1 : Int).toNat vs.length) = n
  rw [if_pos (by decide)]
  omega
 rw [e, HT.sIx_none]
 rfl
theorem at_last (vs : List V) (x : V) : atI (vs ++ [x]) (-1) = some x := by
 unfold atI ixN
 rw [if_neg (by omega), List.length_append, List.length_singleton, if_pos (by omega)]
 show (vs ++ [x])[((-1) + ((vs.length + 1 : Nat) : Int)).toNat]? = _
 rw [show ((-1 : Int) + ((vs.length + 1 : Nat) : Int)).toNat = vs.length by omega]
 simp
theorem at_end {vs : List V} {n : Nat} {v : V} (h : vs.length = n + 1) (e : vs[n]? = some v) : atI vs (-1) = some v := by
 have k := at_last (vs.take n) v
 rw [← zY e, List.take_of_length_le (by omega)] at k
 exact k
structure LawIn (K : Fg9) (a : Adr) (H : Hp) (pn pb say lc : Addr) (v : V) (many : Nat) (us : List Un) (outs : List Nat) (ss : List (Rat × Rat)) (cs : List Sta) (ts : List (Nat × Rat)) (bound : Rat) (o : Option (List Rat)) : Prop where
 nb : Jj K a H pn pb many us outs ss
 cas : SqL K H lc (staV cs)
 say : ∃ pt pb vt, SqT K H say [.ref pt, .ref pb] ∧ SqL K H pt vt ∧ TL K H vt ts ∧ SqT K H pb (TQ bound)
 pr : Pr K H v o
 nc : NetC many us cs
 lss : ss.length = many
 sz : ∀ s ∈ ss, Bs 2 70 s
 tw : ∀ x ∈ ts, TermW (many + opens cs) (runF many (many + opens cs) cs us).1 x
 l60 : ts.length ≤ 60
 bb : Bq 29 2300 bound
theorem LawIn.mono {K : Fg9} {a : Adr} {H H' : Hp} {pn pb say lc : Addr} {v : V} {many : Nat} {us : List Un} {outs : List Nat} {ss : List (Rat × Rat)} {cs : List Sta} {ts : List (Nat × Rat)} {bound : Rat} {o : Option (List Rat)} (h : LawIn K a H pn pb say lc v many us outs ss cs ts bound o) (g : Same H H') : LawIn K a H' pn pb say lc v many us outs ss cs ts bound o := by
 obtain ⟨pt, pb2, vt, s1, s2, s3, s4⟩ := h.say
 exact ⟨h.nb.mono g, g.seq h.cas, ⟨pt, pb2, vt, g.tup s1, g.seq s2, s3.mono g, g.tup s4⟩, h.pr.mono g, h.nc, h.lss, h.sz, h.tw, h.l60, h.bb⟩
def spLeafL (K : Fg9) (a : Adr) : Sp := fun vs H Q _ => ∃ (pn pb say lc : Addr) (v : V) (many : Nat) (us : List Un) (outs : List Nat) (ss : List (Rat × Rat)) (cs : List Sta) (ts : List (Nat × Rat)) (bound : Rat) (o : Option (List Rat)), vs = [.ref pn, .ref pb, .ref say, .ref lc, v] ∧ LawIn K a H pn pb say lc v many us outs ss cs ts bound o ∧ ∀ H', Same H H' → Q (.bl (leafR many us cs (spanN ss us) ts bound o)) H'
theorem rowsC_few {many : Nat} {us : List Un} {cs : List Sta} {fs : List (List Rat)} {sp : List (Rat × Rat)} (NC : NetC many us cs) : (rowsN many us cs fs sp).length ≤ 60 := by
 obtain ⟨_, l12, _, m6, lcs⟩ := NC
 have lfil : (us.filter isB).length ≤ us.length := List.length_filter_le _ _
 have k := Vk fs sp (xw many us cs)
 have : (xw many us cs).length ≤ cs.length := by
  unfold xw
  rw [List.length_zip]
  omega
 unfold rowsN
 rw [List.length_append, Z8]
 omega
def badP (q : Rat) : Bool := decide (q.num < 0)
theorem all_bad (ps : List Rat) : (ps.all fun p => !decide (p < 0)) = !(ps.map badP).any id := by
 induction ps with
 | nil => rfl
 | cons q ps ih =>
  rw [List.all_cons, ih, List.map_cons, List.any_cons, Bool.not_or]
  have e : badP q = decide (q < 0) := decide_eq_decide.mpr (num_neg q)
  rw [← e]
  rfl
abbrev kJ (P w K mg base) (a : Adr) (cdv A outer s H E) := (cxOf CX0 P w K mg base ["_law_net_here", "_law_box", "_law_saying", "_law_case", "_law_prices", "_law_rows_here", "_law_form", "_law_mix_here", "_law_gap"] "_law_leaf" (qQ jv) a.f_law_leaf cdv A outer s H E).nox
set_option maxHeartbeats 0 in
theorem ok_law_leaf (T : Txt K mg a) : FnOk P w K mg base CX0 9 a.f_law_leaf a.d_law_leaf ["_law_net_here", "_law_box", "_law_saying", "_law_case", "_law_prices"] (spLeafL K a) := by
 refine T.F_law_leaf.ok Y3 (fun vs H Q E h => ?_) (fun cdv A outer s H vs Q E hr h => ?_)
 ·obtain ⟨_, _, _, _, _, _, _, _, _, _, _, _, _, rfl, _⟩ := h
  rfl
 obtain ⟨pn, pb, say, lc, v, many, us, outs, ss, cs, ts, bound, o, rfl, L, q⟩ := h
 have NC := L.nc
 have oc := opens_le cs
 have lfil : (us.filter isB).length ≤ us.length := List.length_filter_le _ _
 have l12 := NC.2.1
 have lcs := NC.2.2.2.2
 have m6 := NC.2.2.2.1
 obtain ⟨f1, f2, f14, f4, f5⟩ := JW NC L.lss L.sz
 have rz := rows_rz (cs := cs) NC.1 f1 f2 f14 f4
 have few := rowsC_few (fs := (runF many (many + opens cs) cs us).1) (sp := spanN ss us) NC
 have h0 : PS (kJ P w K mg base a cdv A outer s H E) (bS jv 0) _ := (zk (i := 5) Y3.nd rfl (Or.inl rfl) (qK (ok_rows_in T) (hr.mono (by decide)) rfl T.m_rows_in T.F_rows_in.kp T.b_rows_in .nil pass0 (pa_c (pv 0) (pa_c (pv 1) (pa_c (pv 3) qj))) (he := qz rfl _ _) (hpl := qZ rfl)))
 have h1 : PS (kJ P w K mg base a cdv A outer s H E) (bS jv 1) _ := (ps_if (PW.pt (pw_or (jQ (yX (zq (JJ) rfl T.m_isinstance boot_isinstance (pa_c (pv 4) (pa_c (vX (v := .ty "list") rfl T.m_list boot_list rfl) qj)) (he := qz rfl _ _) (hpl := qZ rfl)))) (xv (zJ op_ne (zq (zZ) rfl T.m_len boot_len (pa_c (pv 4) qj) (he := qz rfl _ _) (hpl := qZ rfl)) (zq (zZ) rfl T.m_len boot_len (pa_c (pv 5) qj) (he := qz rfl _ _) (hpl := qZ rfl)) (zX _)))))
    (qV (zw pe_bl))
    zW)
 have h2 : PS (kJ P w K mg base a cdv A outer s H E) (bS jv 2) _ := (ps_if (yX (zq (call_any rfl) rfl T.m_any boot_any (pa_c (wK (N := ["_law_price_here"]) (ix := [none]) ⟨rfl, rfl, rfl, rfl, trivial, rfl, trivial⟩ rfl (jV (pv 4)) (fun _ => (zx (i := 0) (show (["_law_price_here"] : List Str).Nodup by decide +kernel) rfl (Or.inl rfl))) (fun _ σ => wV rfl σ) (fun _ => jk) (fun _ => (pe_or (qK (ok_law_no_ratio T) (hr.mono (by decide)) rfl T.m_law_no_ratio T.F_law_no_ratio.kp T.b_law_no_ratio .nil pass0 (pa_c (pv 0) qj) (he := qz rfl _ _) (hpl := qZ rfl)) (pe_one (Q6 op_lt (pe_ix qY (pv 0) qk (fun _ _ => rfl)) qk (zX _)))))) qj) (he := qz rfl _ _) (hpl := qZ rfl)))
    (qV (zw pe_bl))
    zW)
 have h3 : PS (kJ P w K mg base a cdv A outer s H E) (bS jv 3) _ := (zk (i := 6) Y3.nd rfl (Or.inl rfl) (qK (ok_form_of T) (hr.mono (by decide)) rfl T.m_form_of T.F_form_of.kp T.b_form_of .nil pass0 (pa_c (pv 0) (pa_c (pv 3) (pa_c (pe_ix qY (pv 2) qk (fun _ _ => rfl)) qj))) (he := qz rfl _ _) (hpl := qZ rfl)))
 have h4 : PS (kJ P w K mg base a cdv A outer s H E) (bS jv 4) _ := (zk (i := 7) Y3.nd rfl (Or.inl rfl) (qK (ok_law_mix T) (hr.mono (by decide)) rfl T.m_law_mix T.F_law_mix.kp T.b_law_mix .nil pass0 (pa_c (pv 5) (pa_c (pv 4) (pa_c (pe_op V0 (zq (zZ) rfl T.m_len boot_len (pa_c (pv 6) qj) (he := qz rfl _ _) (hpl := qZ rfl)) qk) qj))) (he := qz rfl _ _) (hpl := qZ rfl)))
 have h5 : PS (kJ P w K mg base a cdv A outer s H E) (bS jv 5) _ := (ps_if (PW.pt (pw_and (zJ (op_eqQ hr.units) (vx wZ (pv 7) kY (vJ (pe_un Z7 qk))) (pe_op op_rep (j7 (pa_c (yq (pa_c qk (pa_c qk qj))) qj)) (pe_op V0 (zq (zZ) rfl T.m_len boot_len (pa_c (pv 6) qj) (he := qz rfl _ _) (hpl := qZ rfl)) qk)) (zX _)) (J4 (zJ op_lt (pe_ix qY (pe_ix yk (pv 7) (pe_un Z7 qk) (fun _ _ => rfl)) qk (fun _ _ => rfl)) qk (zX _)))))
    (qV (zw pe_bl))
    zW)
 have h6 : PS (kJ P w K mg base a cdv A outer s H E) (bS jv 6) _ := (zk (i := 8) Y3.nd rfl (Or.inl rfl) (qK (Qq T) (hr.mono (by decide)) rfl T.m_law_sum T.F_law_sum.kp T.b_law_sum .nil pass0 (pa_c (pe_ix qY (pv 2) qk (fun _ _ => rfl)) (pa_c (qK (ok_law_many T) (hr.mono (by decide)) rfl T.m_law_many T.F_law_many.kp T.b_law_many .nil pass0 (pa_c (yq (pa_c (pe_un Z7 qk) (pa_c qk qj))) (pa_c (qK (Qq T) (hr.mono (by decide)) rfl T.m_law_sum T.F_law_sum.kp T.b_law_sum .nil pass0 (pa_c (pe_ix yk (pv 7) (pe_un Z7 qk) (fun _ _ => rfl)) (pa_c (pe_ix yk (pv 6) qk (fun _ _ => rfl)) qj)) (he := qz rfl _ _) (hpl := qZ rfl)) qj)) (he := qz rfl _ _) (hpl := qZ rfl)) qj)) (he := qz rfl _ _) (hpl := qZ rfl)))
 have h7 : PS (kJ P w K mg base a cdv A outer s H E) (bS jv 7) _ := (zw (pe_and (Q6 (op_eqQ hr.units) (vx wZ (pv 7) kY (vJ (pe_un Z7 qk))) (vx wZ (pv 6) (vJ qk) kY) (zX _)) (pe_one (Q6 op_ge (pe_ix qY (pv 8) qk (fun _ _ => rfl)) qk (zX _)))))
 refine body8 (by rfl) h0 h1 h2 h3 h4 h5 h6 h7 ?_
 intros
 clear h0 h1 h2 h3 h4 h5 h6 h7
 refine ⟨_, rfl, _, rfl, _, rfl, pn, pb, lc, many, us, outs, ss, cs, rfl, ⟨L.nb, L.cas, NC, L.lss, L.sz⟩, fun lr H1 vr nlr g1 er rr => ?_⟩
 have L1 := L.mono g1
 have lrows := rr.length
 unfold leafR leafV at q
 have rr : RB (fun m => H m = none ∧ m ≠ lr) K H1 vr (rowsN many us cs (runF many (many + opens cs) cs us).1 (spanN ss us)) := rr
 have lrows : vr.length = (rowsN many us cs (runF many (many + opens cs) cs us).1 (spanN ss us)).length := lrows
 generalize rowsN many us cs (runF many (many + opens cs) cs us).1 (spanN ss us) = rows at *
 have lst : ∀ {p : Addr} {xs : List V}, SqL K H1 p xs → IsA K H1 (.ref p) "list" true := fun h => .old (.old (.lstList h))
 have pr := L1.pr
 cases pr with
 | no h =>
  have q : ∀ H', Same H H' → Q (.bl false) H' := q
  exact ⟨_, rfl, _, _, _, rfl, h, _, rfl, iteT (q _ g1)⟩
 | @odd l v1 v2 u q1 q2 h r1 r2 z1 z2 n k =>
  have q : ∀ H', Same H H' → Q (.bl false) H' := q
  have lv1 := r1.length
  have lv2 := r2.length
  refine ⟨_, rfl, _, _, _, rfl, lst h, _, rfl, iteF ⟨_, rfl, _, _, rfl, .inl h, _, rfl, _, _, rfl, .inl (SqL.of er), rfl, _, rfl, ?_⟩⟩
  refine iteNA (fun _ => ?_) (fun _ => q _ g1)
  refine ⟨_, rfl, l, rfl, ⟨_, h⟩, jq (n := (v1 ++ u :: v2).length) (fun i ys H' => Same H1 H' ∧ ∃ bs : List Bool, bs.length = i ∧ ys = bs.map V.bl ∧ (q1.length < i → true ∈ bs)) ⟨Same.refl _, ([] : List Bool), rfl, rfl, fun z => absurd z (Nat.not_lt_zero _)⟩ (zj (by rw [List.length_append, List.length_cons]; omega)) ?_ ?_ ?_⟩
  case refine_2 =>
   rintro i ys H' hi ⟨g, _⟩
   exact ⟨_, _, g.seq h, gE9 hi⟩
  case refine_3 =>
   rintro i m' ys H' cc x H2 hi ⟨g, bs, lb, rfl, fb⟩ ⟨rfl, y1⟩ nx _
   have y1 := y1 _ (g.seq h)
   have fin : ∀ b : Bool, (q1.length = i → b = true) → ∃ bs' : List Bool, bs'.length = i + 1 ∧ bs.map V.bl ++ [V.bl b] = bs'.map V.bl ∧ (q1.length < i + 1 → true ∈ bs') := fun b hb => by
    refine ⟨bs ++ [b], by rw [List.length_append, lb]; rfl, by rw [List.map_append]; rfl, fun zz => ?_⟩
    by_cases e : q1.length = i
    ·rw [hb e]; exact List.mem_append_right _ List.mem_cons_self
    ·exact List.mem_append_left _ (fb (by omega))
   have cl : (∃ (pa : Addr) (qa : Rat), x = .ref pa ∧ SqT K H1 pa (TQ qa) ∧ Bq 1 40 qa ∧ q1.length ≠ i) ∨ u = x := by
    by_cases e1 : i < v1.length
    ·rw [List.getElem?_append_left e1] at y1
     obtain ⟨qa, ea, pa, ex, ha⟩ := r1.get y1
     exact .inl ⟨pa, qa, ex, ha, z1 qa (List.mem_of_getElem? ea), by omega⟩
    ·rw [List.getElem?_append_right (by omega)] at y1
     by_cases e2 : i = v1.length
     ·rw [e2, Nat.sub_self] at y1
      exact .inr (by simpa using y1)
     ·obtain ⟨j, hj⟩ : ∃ j, i - v1.length = j + 1 := ⟨i - v1.length - 1, by omega⟩
      rw [hj, List.getElem?_cons_succ] at y1
      obtain ⟨qa, ea, pa, ex, ha⟩ := r2.get y1
      exact .inl ⟨pa, qa, ex, ha, z2 qa (List.mem_of_getElem? ea), by omega⟩
   rcases cl with ⟨pa, qa, rfl, ha, sz, ne⟩ | rfl
   ·refine Or.inl ⟨rfl, _, rfl, _, rfl, .inr ⟨pa, qa, rfl, g.tup ha, sz, fun H3 g3 => ⟨_, rfl, iteF ?_⟩⟩⟩
    exact ⟨_, rfl, _, _, _, _, rfl, rfl, (g.trans g3).tup ha, rfl, _, _, rfl, rfl, nx _ _ ⟨g.trans g3, fin _ fun e => absurd e ne⟩⟩
   ·exact Or.inl ⟨rfl, _, rfl, _, rfl, .inl ⟨k.mono g, fun H3 g3 => ⟨_, rfl, iteT (nx _ _ ⟨g.trans g3, fin _ fun _ => rfl⟩)⟩⟩⟩
  rintro ys H2 ⟨g, bs, lb, rfl, fb⟩
  refine ⟨⟨_, g.seq h, by omega⟩, fun D hD => ?_⟩
  refine ⟨D, _, rfl, SqL.of qv, _, rfl, ?_⟩
  have eb : bs.any id = true := List.any_eq_true.mpr ⟨true, fb (by rw [List.length_append, List.length_cons]; omega), rfl⟩
  rw [eb]
  exact iteT (q _ (g1.trans (g.trans (qy hD _))))
 | @good lp vp ps h r z n =>
  have lvp := r.length
  refine ⟨_, rfl, _, _, _, rfl, lst h, _, rfl, iteF ⟨_, rfl, _, _, rfl, .inl h, _, rfl, _, _, rfl, .inl (SqL.of er), rfl, _, rfl, ?_⟩⟩
  by_cases e : ps.length = rows.length
  case neg =>
   refine iteNP (fun zz => e (by have zz := V.int.inj zz; omega)) ?_
   have eb : areB (some ps) rows.length = false := by
    unfold areB
    dsimp only
    rw [decide_eq_false e]
    rfl
   rw [eb] at q
   exact q _ g1
  refine iteNS (congrArg V.int (by omega)) ?_
  refine ⟨_, rfl, lp, rfl, ⟨_, h⟩, jq (n := ps.length) (fun i ys H' => Same H1 H' ∧ ys = ((ps.map badP).take i).map V.bl) ⟨Same.refl _, rfl⟩ (zj (by omega)) ?_ ?_ ?_⟩
  case refine_2 =>
   rintro i ys H' hi ⟨g, _⟩
   exact ⟨_, _, g.seq h, gE9 (by omega)⟩
  case refine_3 =>
   rintro i m' ys H' cc x H2 hi ⟨g, rfl⟩ ⟨rfl, y1⟩ nx _
   obtain ⟨qa, ea, pa, rfl, ha⟩ := r.get (y1 _ (g.seq h))
   have ez : (ps.map badP)[i]? = some (badP qa) := by rw [List.getElem?_map, ea]; rfl
   refine Or.inl ⟨rfl, _, rfl, _, rfl, .inr ⟨pa, qa, rfl, g.tup ha, z qa (List.mem_of_getElem? ea), fun H3 g3 => ⟨_, rfl, iteF ?_⟩⟩⟩
   refine ⟨_, rfl, _, _, _, _, rfl, rfl, (g.trans g3).tup ha, rfl, _, _, rfl, rfl, nx _ _ ⟨g.trans g3, ?_⟩⟩
   rw [zY ez, List.map_append]
   rfl
  rintro ys H2 ⟨g, rfl⟩
  refine ⟨⟨_, g.seq h, by omega⟩, fun D hD => ?_⟩
  rw [List.take_of_length_le (by rw [List.length_map]; omega)]
  refine ⟨D, _, rfl, SqL.of qv, _, rfl, ?_⟩
  have g2 := g.trans (qy hD (.lst ((ps.map badP).map V.bl)))
  generalize upd H2 D (.lst ((ps.map badP).map V.bl)) = H3 at *
  have g12 := g1.trans g2
  have ar : areB (some ps) rows.length = !(ps.map badP).any id := by
   unfold areB
   dsimp only
   rw [decide_eq_true e, Bool.true_and, all_bad]
  rw [ar] at q
  cases hb : (ps.map badP).any id with
  | true =>
   rw [hb] at q
   exact iteT (q _ g12)
  | false =>
  rw [hb] at q
  have q : ∀ H', Same H H' → Q (.bl (leafB rows (many + opens cs) (YQ 0 ts (runF many (many + opens cs) cs us).1 (many + opens cs)) bound ps)) H' := q
  refine iteF ?_
  have L3 := L.mono g12
  obtain ⟨pt, pb2, vt, hs, hpt, rt, hpb⟩ := L3.say
  refine ⟨_, rfl, _, rfl, _, rfl, _, _, _, _, rfl, rfl, hs, rfl, pn, lc, pt, many, us, cs, vt, ts, rfl, L3.nb.net, L3.cas, NC, hpt, rt, L.tw, L.l60, fun lq H4 vq nlq g4 eq4 rq => ?_⟩
  have g14 := g12.trans g4
  have lqv := rq.length
  have fin := V8 ts L.tw ts.length
  rw [List.take_length] at fin
  have fin : Fine (many + opens cs) 29 (2200 + ts.length) (YQ 0 ts (runF many (many + opens cs) cs us).1 (many + opens cs)) := fin
  generalize YQ 0 ts (runF many (many + opens cs) cs us).1 (many + opens cs) = form at *
  generalize hn : many + opens cs = nn at *
  have flen := fin.1
  have enn : ((vq.length : Int) - 1) = (nn : Int) := by omega
  refine ⟨_, rfl, _, rfl, _, rfl, _, _, rfl, .inl (SqL.of eq4), _, _, rfl, rfl, ?_⟩
  dsimp only
  rw [enn]
  refine ⟨lr, lp, nn, vr, vp, rows, ps, rfl, SqL.of ((g2.trans g4) _ _ er), (g2.trans g4).seq h, rb_row (rr.mono (g2.trans g4)), r.mono (g2.trans g4), e.symm, by omega, by omega, rz, z, fun lm H5 vm nlm g5 em rm => ?_⟩
  have lM : (mixQ rows ps (List.replicate (nn + 1) 0)).length = nn + 1 := JQ _ _ _ nn (by rw [List.length_replicate]) fun r hr' => (rz r hr').1
  have bM : ∀ x ∈ mixQ rows ps (List.replicate (nn + 1) 0), Bq 29 2200 x := fun x hx =>
   (bq_mix (b := 2100) rz z (fun x hx => by rw [List.eq_of_mem_replicate hx]; exact Bq.zero _ _) (Nat.le_refl _) x hx).mono (Nat.le_refl _) (by omega)
  unfold leafB at q
  generalize mixQ rows ps (List.replicate (nn + 1) 0) = M at *
  have lvm : vm.length = nn + 1 := (RL.length rm).trans lM
  obtain ⟨vb, hvb⟩ : ∃ v, vm[nn]? = some v := ⟨_, gE9 (by omega)⟩
  obtain ⟨bd, ebd, pm, rfl, hpm⟩ := rm.get hvb
  have eD : M.getD nn 0 = bd := Z4 _ ebd
  rw [eD] at q
  have bbd := bM bd (List.mem_of_getElem? ebd)
  have sbd : SmQ 4000 bd := bbd.s4r (by decide) (by decide)
  have g15 := g14.trans g5
  have eq5 := g5 _ _ eq4
  have rq5 := rq.mono g5
  obtain ⟨p0, a0, hp0⟩ := RL.head rq5 (by omega)
  have bf0 : Bq 29 2260 (form.getD 0 0) := (fin.2 _ (Yv (by omega))).mono (Nat.le_refl _) (by have := L.l60; omega)
  have aL : atI vm (-1) = some (.ref pm) := at_end lvm hvb
  have hs5 := (g4.trans g5).tup hs
  have hb5 := (g4.trans g5).tup hpb
  clear rz z few
  refine ⟨_, rfl, _, rfl, _, rfl, _, _, rfl, SqL.of em, fun c6 h6 => ?_⟩
  rw [cutEnd lvm]
  have g6 := qy h6 (.lst (vm.take nn))
  have e6 := qv (H := H5) (a := c6) (o := .lst (vm.take nn))
  generalize upd H5 c6 (.lst (vm.take nn)) = H6 at *
  refine ⟨y9, fun t0 ht0 => ⟨(show 1 ≤ sizeLine by decide), fun l0 hl0 => ?_⟩⟩
  have g7 := qy ht0 (.tup (T2 0 1))
  have g8 := qy hl0 (.lst [.ref t0])
  have z0 : SqT K (upd (upd H6 t0 (.tup (T2 0 1))) l0 (.lst [.ref t0])) t0 (TQ 0) := SqT.of (g8 _ _ qv)
  have e8 := qv (H := upd H6 t0 (.tup (T2 0 1))) (a := l0) (o := .lst [.ref t0])
  have g78 := g7.trans g8
  generalize upd (upd H6 t0 (.tup (T2 0 1))) l0 (.lst [.ref t0]) = H8 at *
  have g68 := g6.trans g78
  refine ⟨_, rfl, _, _, rfl, .inl (SqL.of (g68 _ _ eq5)), _, _, rfl, rfl, l0, _, _, rfl, rfl, e8, by omega, by omega, ?_, fun ls hls => ?_⟩
  ·rw [List.length_singleton]
   exact Nat.le_of_lt (zj (by omega))
  dsimp only
  rw [show ((vq.length : Int) - 1).toNat = nn by omega, YV]
  have g9 := qy hls (.lst (List.replicate nn (.ref t0)))
  have g89 := g78.trans g9
  have g69 := g68.trans g9
  have lt : (M.take nn).length = nn := by rw [List.length_take]; omega
  refine ⟨c6, ls, _, _, _, _, rfl, rfl, SqL.of (g89 _ _ e6), SqL.of qv, rl_pl (RL.take nn (rm.mono g69)), rl_pl (RL.rep (q := 0) ⟨t0, rfl, g9.tup z0⟩ nn), by rw [List.length_map, List.length_map, List.length_replicate]; omega, ?_⟩
  rw [Yk]
  generalize upd H8 ls (.lst (List.replicate nn (.ref t0))) = H9 at *
  have em9 := g69 _ _ em
  have eq9 := g69 _ _ eq5
  have rm9 := rm.mono g69
  have rq9 := rq5.mono g69
  have hpm9 := g69.tup hpm
  have hp9 := g69.tup hp0
  have hs9 := g69.tup hs5
  have hb9 := g69.tup hb5
  have bsum : Bq 29 2261 (bd + form.getD 0 0) := (bbd.mono (Nat.le_refl _) (show 2200 ≤ 2260 by decide)).add bf0
  have bneg : Bq 29 2261 (-1 * (bd + form.getD 0 0)) := by rw [show -1 * (bd + form.getD 0 0) = -(bd + form.getD 0 0) by grind]; exact bsum.neg
  clear g6 g7 g8 g9 g78 g89 g68 z0 e8 e6
  refine ⟨_, rfl, iteD (fun c1 => ?_) (fun c1 => ?_)⟩
  ·refine ⟨_, rfl, _, rfl, lm, _, _, _, rfl, rfl, SqL.of em9, aL, _, _, _, _, rfl, rfl, hpm9, rfl, _, _, rfl, rfl, _, rfl, iteD (fun c2 => ?_) (fun c2 => ?_)⟩
   ·have k := q _ (g15.trans g69)
    rw [decide_eq_true c1, decide_eq_true ((num_neg bd).mp c2), Bool.true_and, Bool.or_true] at k
    exact k
   have vz : (decide (M.take nn = form.drop 1) && !decide (bound < bd + form.getD 0 0) || decide (M.take nn = List.replicate nn 0) && decide (bd < 0)) = (decide (M.take nn = form.drop 1) && !decide (bound < bd + form.getD 0 0)) := by
    rw [decide_eq_false (fun z => c2 ((num_neg bd).mpr z)), Bool.and_false, Bool.or_false]
   refine ⟨_, rfl, _, _, _, _, rfl, rfl, hs9, rfl, _, rfl, y9, fun t1 ht1 => ?_⟩
   have gA := qy ht1 (.tup (T2 (-1) 1))
   have eA := qv (H := H9) (a := t1) (o := .tup (T2 (-1) 1))
   generalize upd H9 t1 (.tup (T2 (-1) 1)) = HA at *
   refine ⟨_, rfl, _, rfl, lm, _, _, _, rfl, rfl, SqL.of (gA _ _ em9), aL, _, rfl, lq, _, _, _, rfl, rfl, SqL.of (gA _ _ eq9), a0, pm, p0, bd, _, rfl, gA.tup hpm9, gA.tup hp9, sbd, bf0.s4r (by decide) (by decide), fun pB HB gB eB => ?_⟩
   have gAB := gA.trans gB
   refine ⟨t1, pB, -1, _, rfl, gB.tup (SqT.of eA), SqT.of eB, sm_mone, bsum.s4r (by decide) (by decide), fun pC HC gC eC => ?_⟩
   have gAC := gAB.trans gC
   refine ⟨pb2, pC, bound, _, rfl, gAC.tup hb9, SqT.of eC, L.bb.s4r (by decide) (by decide), bneg.s4r (by decide) (by decide), fun pD HD gD eD2 => ?_⟩
   have gAD := gAC.trans gD
   refine ⟨_, rfl, _, rfl, _, rfl, _, _, rfl, SqL.of (gAD _ _ em9), fun cE hE => ?_⟩
   rw [cutEnd lvm]
   have gE := qy hE (.lst (vm.take nn))
   have eE := qv (H := HD) (a := cE) (o := .lst (vm.take nn))
   have eD3 := gE _ _ eD2
   generalize upd HD cE (.lst (vm.take nn)) = HE at *
   have gAE := gAD.trans gE
   refine ⟨_, rfl, _, rfl, _, _, rfl, SqL.of (gAE _ _ eq9), fun cF hF => ?_⟩
   rw [cut1]
   have gF := qy hF (.lst (vq.drop 1))
   have gAF := gAE.trans gF
   have ld : (form.drop 1).length = nn := by rw [List.length_drop, flen]; omega
   refine ⟨cE, cF, _, _, _, _, rfl, rfl, SqL.of (gF _ _ eE), SqL.of qv, rl_pl (RL.take nn (rm9.mono gAF)), rl_pl (RL.drop 1 (rq9.mono gAF)), by rw [List.length_map, List.length_map]; omega, ?_⟩
   rw [Yk]
   refine ⟨_, rfl, iteD (fun c3 => ?_) (fun c3 => ?_)⟩
   ·refine ⟨_, rfl, _, _, _, _, rfl, rfl, SqT.of (gF _ _ eD3), rfl, _, _, rfl, rfl, ?_⟩
    have k := q _ (g15.trans (g69.trans gAF))
    rw [vz, decide_eq_true c3, Bool.true_and] at k
    have e : (!decide (bound < bd + form.getD 0 0)) = decide ((bound + -1 * (bd + form.getD 0 0)).num ≥ 0) := by
     rw [← decide_not]
     refine decide_eq_decide.mpr ?_
     have h1 := Rat.num_nonneg (q := bound + -1 * (bd + form.getD 0 0))
     constructor
     ·intro z
      exact h1.mpr (by have := Rat.not_lt.mp z; grind)
     ·intro z
      exact Rat.not_lt.mpr (by have := h1.mp z; grind)
    rw [e] at k
    exact k
   ·have k := q _ (g15.trans (g69.trans gAF))
    rw [vz, decide_eq_false c3, Bool.false_and] at k
    exact k
  ·have vz : (decide (M.take nn = form.drop 1) && !decide (bound < bd + form.getD 0 0) || decide (M.take nn = List.replicate nn 0) && decide (bd < 0)) = (decide (M.take nn = form.drop 1) && !decide (bound < bd + form.getD 0 0)) := by
    rw [decide_eq_false c1, Bool.false_and, Bool.or_false]
   refine ⟨_, rfl, _, _, _, _, rfl, rfl, hs9, rfl, _, rfl, y9, fun t1 ht1 => ?_⟩
   have gA := qy ht1 (.tup (T2 (-1) 1))
   have eA := qv (H := H9) (a := t1) (o := .tup (T2 (-1) 1))
   generalize upd H9 t1 (.tup (T2 (-1) 1)) = HA at *
   refine ⟨_, rfl, _, rfl, lm, _, _, _, rfl, rfl, SqL.of (gA _ _ em9), aL, _, rfl, lq, _, _, _, rfl, rfl, SqL.of (gA _ _ eq9), a0, pm, p0, bd, _, rfl, gA.tup hpm9, gA.tup hp9, sbd, bf0.s4r (by decide) (by decide), fun pB HB gB eB => ?_⟩
   have gAB := gA.trans gB
   refine ⟨t1, pB, -1, _, rfl, gB.tup (SqT.of eA), SqT.of eB, sm_mone, bsum.s4r (by decide) (by decide), fun pC HC gC eC => ?_⟩
   have gAC := gAB.trans gC
   refine ⟨pb2, pC, bound, _, rfl, gAC.tup hb9, SqT.of eC, L.bb.s4r (by decide) (by decide), bneg.s4r (by decide) (by decide), fun pD HD gD eD2 => ?_⟩
   have gAD := gAC.trans gD
   refine ⟨_, rfl, _, rfl, _, rfl, _, _, rfl, SqL.of (gAD _ _ em9), fun cE hE => ?_⟩
   rw [cutEnd lvm]
   have gE := qy hE (.lst (vm.take nn))
   have eE := qv (H := HD) (a := cE) (o := .lst (vm.take nn))
   have eD3 := gE _ _ eD2
   generalize upd HD cE (.lst (vm.take nn)) = HE at *
   have gAE := gAD.trans gE
   refine ⟨_, rfl, _, rfl, _, _, rfl, SqL.of (gAE _ _ eq9), fun cF hF => ?_⟩
   rw [cut1]
   have gF := qy hF (.lst (vq.drop 1))
   have gAF := gAE.trans gF
   have ld : (form.drop 1).length = nn := by rw [List.length_drop, flen]; omega
   refine ⟨cE, cF, _, _, _, _, rfl, rfl, SqL.of (gF _ _ eE), SqL.of qv, rl_pl (RL.take nn (rm9.mono gAF)), rl_pl (RL.drop 1 (rq9.mono gAF)), by rw [List.length_map, List.length_map]; omega, ?_⟩
   rw [Yk]
   refine ⟨_, rfl, iteD (fun c3 => ?_) (fun c3 => ?_)⟩
   ·refine ⟨_, rfl, _, _, _, _, rfl, rfl, SqT.of (gF _ _ eD3), rfl, _, _, rfl, rfl, ?_⟩
    have k := q _ (g15.trans (g69.trans gAF))
    rw [vz, decide_eq_true c3, Bool.true_and] at k
    have e : (!decide (bound < bd + form.getD 0 0)) = decide ((bound + -1 * (bd + form.getD 0 0)).num ≥ 0) := by
     rw [← decide_not]
     refine decide_eq_decide.mpr ?_
     have h1 := Rat.num_nonneg (q := bound + -1 * (bd + form.getD 0 0))
     constructor
     ·intro z
      exact h1.mpr (by have := Rat.not_lt.mp z; grind)
     ·intro z
      exact Rat.not_lt.mpr (by have := h1.mp z; grind)
    rw [e] at k
    exact k
   ·have k := q _ (g15.trans (g69.trans gAF))
    rw [vz, decide_eq_false c3, Bool.false_and] at k
    exact k
def ixList : Stmt → List Expr
 | .Assign _ (.Subscript (.List es _) _ _) _ => es
 | _ => []
def ixAt (s : Stmt) (k : Nat) : Expr := (ixList s).getD k (.Name "x" ⟨0, 0, 0, 0⟩)
def ixIdx : Stmt → Expr
 | .Assign _ (.Subscript _ b _) _ => b
 | _ => .Name "x" ⟨0, 0, 0, 0⟩
theorem seq_cut {t u : TS} {D : L2.Ends} {σ : St} {H : Hp} (h : ∀ N : St → Hp → Prop, N = u D → t { D with nx := N } σ H) : tSeq t u D σ H := h _ rfl
theorem cutLoN {vs : List V} {n : Nat} (h : n ≤ vs.length) : cutV vs (some (n : Int)) none = vs.drop n := by
 unfold cutV
 rw [HT.sIx_nat, HT.sIx_none, Nat.min_eq_left h]
 exact List.take_of_length_le (by rw [List.length_drop]; exact Nat.le_refl _)
theorem paired_drop {α β : Type} {F : α → β → Prop} : ∀ {vs : List α} {qs : List β} (n : Nat), Paired F vs qs → Paired F (vs.drop n) (qs.drop n)
 | _, _, 0, h => h
 | _, _, _ + 1, .nil => .nil
 | _, _, n + 1, .cons _ t => paired_drop n t
theorem part_bq {t : Int} {b : Nat} (h : t.natAbs ≤ 10) (h1 : 1 ≤ b) (h9 : b ≤ 9) : Bq 2 40 (Rat.divInt t b) := by
 refine Bq.of (by omega) ?_ ?_
 ·have c : b = 1 ∨ b = 2 ∨ b = 3 ∨ b = 4 ∨ b = 5 ∨ b = 6 ∨ b = 7 ∨ b = 8 ∨ b = 9 := by omega
  rcases c with e | e | e | e | e | e | e | e | e <;> subst e <;> decide
 ·have : t.natAbs ≤ 2 ^ 40 := by omega
  exact Nat.le_trans this (Nat.le_mul_of_pos_right _ (by omega))
theorem half_bq44 : Bq 1 40 (Rat.divInt 1 2) := by
 refine Bq.of (m := 2) (by decide) (by decide) (by decide)
def spSpoil (K : Fg9) : Sp := fun vs H Q _ => ∃ (m : Int) (pt pb lp : Addr) (vt vp : List V) (ts : List (Nat × Rat)) (bd : Rat) (ps : List Rat) (C : Nat → Prop), vs = [.int m, .ref pt, .ref pb, .ref lp] ∧ H pt = some (.lst vt) ∧ TL K H vt ts ∧ (∀ x ∈ ts, C x.1 ∧ Bq 29 2165 x.2) ∧ ts.length ≤ 40 ∧ SqT K H pb (TQ bd) ∧ Bq 29 2210 bd ∧ H lp = some (.lst vp) ∧ RL K H vp ps ∧ (∀ q ∈ ps, Bq 1 40 q) ∧ 1 ≤ ps.length ∧ ps.length ≤ 60 ∧ ∀ (t pt' pb' : Addr) (vt' : List V) (ts' : List (Nat × Rat)) (bd' : Rat) (v : V) (o : Option (List Rat)) (H' : Hp), Same H H' → SqT K H' t [.ref pt', .ref pb', v] → SqL K H' pt' vt' → TL K H' vt' ts' → (∀ x ∈ ts', C x.1 ∧ Bq 29 2200 x.2) → ts'.length ≤ 60 → SqT K H' pb' (TQ bd') → Bq 29 2300 bd' → Pr K H' v o → Q (.ref t) H'
abbrev y8 (P w K mg base) (a : Adr) (cdv A outer s H E) := (cxOf CX0 P w K mg base ["_law_number", "_law_terms", "_law_bound", "_law_prices", "_law_way", "_law_at", "_law_odd", "_law_k"] "_law_spoiled" (qQ qX) a.f_law_spoiled cdv A outer s H E).nox
set_option maxHeartbeats 0 in
theorem ok_law_spoiled (T : Txt K mg a) : FnOk P w K mg base CX0 3 a.f_law_spoiled a.d_law_spoiled ["_law_number", "_law_terms", "_law_bound", "_law_prices"] (spSpoil K) := by
 refine T.F_law_spoiled.ok jj (fun vs H Q E h => ?_) (fun cdv A outer s H vs Q E hr h => ?_)
 ·obtain ⟨_, _, _, _, _, _, _, _, _, _, rfl, _⟩ := h
  rfl
 obtain ⟨m, pt, pb, lp, vt, vp, ts, bd, ps, C, rfl, et, rt, ct, l40, hb, bb, ep, rp, zp, p1, p60, q⟩ := h
 have h0 : PS (y8 P w K mg base a cdv A outer s H E) ((qJ qX).getD 0 pZ) _ := (zk (i := 4) jj.nd rfl (Or.inl rfl) (pe_op v5 (pv 0) qk))
 have h1 : PS (y8 P w K mg base a cdv A outer s H E) ((qJ qX).getD 1 pZ) _ := (zk (i := 5) jj.nd rfl (Or.inl rfl) (pe_op v5 (pe_op yz (pv 0) qk) (zq (zZ) rfl T.m_len boot_len (pa_c (pv 3) qj) (he := qz rfl _ _) (hpl := qZ rfl))))
 have i2_0 : PE (y8 P w K mg base a cdv A outer s H E) (ixAt ((qJ qX).getD 2 pZ) 0) _ := (yq (pa_c qk (pa_c qk qj)))
 have l2_0 : xy (ixAt ((qJ qX).getD 2 pZ) 0) = true := by rfl
 have i2_1 : PE (y8 P w K mg base a cdv A outer s H E) (ixAt ((qJ qX).getD 2 pZ) 1) _ := (yq (pa_c qk (pa_c qk qj)))
 have l2_1 : xy (ixAt ((qJ qX).getD 2 pZ) 1) = true := by rfl
 have i2_2 : PE (y8 P w K mg base a cdv A outer s H E) (ixAt ((qJ qX).getD 2 pZ) 2) _ := qk
 have l2_2 : xy (ixAt ((qJ qX).getD 2 pZ) 2) = true := by rfl
 have i2_3 : PE (y8 P w K mg base a cdv A outer s H E) (ixAt ((qJ qX).getD 2 pZ) 3) _ := pe_non
 have l2_3 : xy (ixAt ((qJ qX).getD 2 pZ) 3) = true := by rfl
 have i2_4 : PE (y8 P w K mg base a cdv A outer s H E) (ixAt ((qJ qX).getD 2 pZ) 4) _ := (yq (pa_c pe_bl (pa_c qk qj)))
 have l2_4 : xy (ixAt ((qJ qX).getD 2 pZ) 4) = true := by rfl
 have i2_5 : PE (y8 P w K mg base a cdv A outer s H E) (ixAt ((qJ qX).getD 2 pZ) 5) _ := v6
 have l2_5 : xy (ixAt ((qJ qX).getD 2 pZ) 5) = true := by rfl
 have i2_6 : PE (y8 P w K mg base a cdv A outer s H E) (ixAt ((qJ qX).getD 2 pZ) 6) _ := (yq (pa_c qk (pa_c qk (pa_c qk qj))))
 have l2_6 : xy (ixAt ((qJ qX).getD 2 pZ) 6) = true := by rfl
 have i2_7 : PE (y8 P w K mg base a cdv A outer s H E) (ixAt ((qJ qX).getD 2 pZ) 7) _ := (yq (pa_c qk (pa_c qk qj)))
 have l2_7 : xy (ixAt ((qJ qX).getD 2 pZ) 7) = true := by rfl
 have x2 : PE (y8 P w K mg base a cdv A outer s H E) (ixIdx ((qJ qX).getD 2 pZ)) _ := (pe_op v5 (pe_op yz (pv 0) qk) qk)
 have y2 : PlainIx (ixIdx ((qJ qX).getD 2 pZ)) := fun _ _ => rfl
 have q2 : ixList ((qJ qX).getD 2 pZ) = [ixAt ((qJ qX).getD 2 pZ) 0, ixAt ((qJ qX).getD 2 pZ) 1, ixAt ((qJ qX).getD 2 pZ) 2, ixAt ((qJ qX).getD 2 pZ) 3, ixAt ((qJ qX).getD 2 pZ) 4, ixAt ((qJ qX).getD 2 pZ) 5, ixAt ((qJ qX).getD 2 pZ) 6, ixAt ((qJ qX).getD 2 pZ) 7] := by kernel_rfl
 obtain ⟨a2, d2, p2, c2, hst2⟩ : ∃ a d p c, ((qJ qX).getD 2 pZ) = .Assign [.Name (Str.ofString "_law_odd") a] (.Subscript (.List (ixList ((qJ qX).getD 2 pZ)) d) (ixIdx ((qJ qX).getD 2 pZ)) p) c := ⟨_, _, _, _, rfl⟩
 rw [q2] at hst2
 clear q2
 generalize ixAt ((qJ qX).getD 2 pZ) 0 = E2_0 at *
 generalize ixAt ((qJ qX).getD 2 pZ) 1 = E2_1 at *
 generalize ixAt ((qJ qX).getD 2 pZ) 2 = E2_2 at *
 generalize ixAt ((qJ qX).getD 2 pZ) 3 = E2_3 at *
 generalize ixAt ((qJ qX).getD 2 pZ) 4 = E2_4 at *
 generalize ixAt ((qJ qX).getD 2 pZ) 5 = E2_5 at *
 generalize ixAt ((qJ qX).getD 2 pZ) 6 = E2_6 at *
 generalize ixAt ((qJ qX).getD 2 pZ) 7 = E2_7 at *
 generalize ixIdx ((qJ qX).getD 2 pZ) = J2 at *
 have h2 : PS (y8 P w K mg base a cdv A outer s H E) (.Assign [.Name (Str.ofString "_law_odd") a2] (.Subscript (.List [E2_0, E2_1, E2_2, E2_3, E2_4, E2_5, E2_6, E2_7] d2) J2 p2) c2) _ := (zk (i := 6) jj.nd rfl (Or.inl rfl) (pe_ix yk (j7 (pa_c i2_0 (pa_c i2_1 (pa_c i2_2 (pa_c i2_3 (pa_c i2_4 (pa_c i2_5 (pa_c i2_6 (pa_c i2_7 qj l2_7) l2_6) l2_5) l2_4) l2_3) l2_2) l2_1) l2_0)) x2 y2))
 rw [← hst2] at h2
 clear hst2 x2 y2 i2_0 l2_0 i2_1 l2_1 i2_2 l2_2 i2_3 l2_3 i2_4 l2_4 i2_5 l2_5 i2_6 l2_6 i2_7 l2_7
 have h3 : PS (y8 P w K mg base a cdv A outer s H E) ((qJ qX).getD 3 pZ) _ := (ps_if (zJ op_eq (pv 4) qk (zX _))
    (qV (zk (i := 2) jj.nd rfl (Or.inl rfl) (qK (Qq T) (hr.mono (by decide)) rfl T.m_law_sum T.F_law_sum.kp T.b_law_sum .nil pass0 (pa_c (pv 2) (pa_c (qK (kZ T) (hr.mono (by decide)) rfl T.m_law_part T.F_law_part.kp T.b_law_part .nil pass0 (pa_c (pe_op V0 (pe_un Z7 qk) (pe_op v5 (pe_op yz (pv 0) qk) qk)) (pa_c (pe_op yj qk (pe_op v5 (pe_op yz (pv 0) qk) qk)) qj)) (he := qz rfl _ _) (hpl := qZ rfl)) qj)) (he := qz rfl _ _) (hpl := qZ rfl))))
    zW)
 have h4 : PS (y8 P w K mg base a cdv A outer s H E) ((qJ qX).getD 4 pZ) _ := (ps_if (PW.pt (pw_and (zJ op_eq (pv 4) qk (zX _)) (J4 (zJ (op_neE (hu_of hr)) (pv 1) (j7 qj) (zX _)))))
    (qW (zk (i := 7) jj.nd rfl (Or.inl rfl) (pe_op v5 (pe_op yz (pv 0) qk) (zq (zZ) rfl T.m_len boot_len (pa_c (pv 1) qj) (he := qz rfl _ _) (hpl := qZ rfl))))
   (qV (zk (i := 1) jj.nd rfl (Or.inl rfl) (pe_op Y4 (pe_op Y4 (vx wZ (pv 1) kY (vJ (pv 7))) (j7 (pa_c (yq (pa_c (pe_ix qY (pe_ix yk (pv 1) (pv 7) (fun _ _ => rfl)) qk (fun _ _ => rfl)) (pa_c (qK (Qq T) (hr.mono (by decide)) rfl T.m_law_sum T.F_law_sum.kp T.b_law_sum .nil pass0 (pa_c (pe_ix qY (pe_ix yk (pv 1) (pv 7) (fun _ _ => rfl)) qk (fun _ _ => rfl)) (pa_c (yq (pa_c qk (pa_c qk qj))) qj)) (he := qz rfl _ _) (hpl := qZ rfl)) qj))) qj))) (vx wZ (pv 1) (vJ (pe_op yj (pv 7) qk)) kY)))))
    zW)
 have h5 : PS (y8 P w K mg base a cdv A outer s H E) ((qJ qX).getD 5 pZ) _ := (ps_if (zJ op_eq (pv 4) qk (zX _))
    (qV (zk (i := 3) jj.nd rfl (Or.inl rfl) (pe_op Y4 (pe_op Y4 (vx wZ (pv 3) kY (vJ (pv 5))) (j7 (pa_c (qK (kZ T) (hr.mono (by decide)) rfl T.m_law_part T.F_law_part.kp T.b_law_part .nil pass0 (pa_c (pe_op V0 (pe_un Z7 qk) (pe_op v5 (pe_op yz (pv 0) qk) qk)) (pa_c qk qj)) (he := qz rfl _ _) (hpl := qZ rfl)) qj))) (vx wZ (pv 3) (vJ (pe_op yj (pv 5) qk)) kY))))
    zW)
 have h6 : PS (y8 P w K mg base a cdv A outer s H E) ((qJ qX).getD 6 pZ) _ := (ps_if (zJ op_eq (pv 4) qk (zX _))
    (qV (zk (i := 3) jj.nd rfl (Or.inl rfl) (pe_op Y4 (pe_op Y4 (vx wZ (pv 3) kY (vJ (pv 5))) (j7 (pa_c (pv 6) qj))) (vx wZ (pv 3) (vJ (pe_op yj (pv 5) qk)) kY))))
    zW)
 have h7 : PS (y8 P w K mg base a cdv A outer s H E) ((qJ qX).getD 7 pZ) _ := (ps_if (zJ op_eq (pv 4) qk (zX _))
    (qV (zk (i := 3) jj.nd rfl (Or.inl rfl) (pe_ix yk (j7 (pa_c (vx wZ (pv 3) kY (vJ (pe_un Z7 qk))) (pa_c (pe_op Y4 (pv 3) (j7 (pa_c (yq (pa_c qk (pa_c qk qj))) qj))) (pa_c (jy (call_tuple_of) rfl T.m_tuple boot_tuple (pa_c (pv 3) qj) (he := qz rfl _ _) (hpl := qZ rfl)) (pa_c pe_non (pa_c (j7 qj) qj)))))) (pe_op v5 (pe_op yz (pv 0) qk) qk) (fun _ _ => rfl))))
    zW)
 have h8 : PS (y8 P w K mg base a cdv A outer s H E) ((qJ qX).getD 8 pZ) _ := (zw (yq (pa_c (pv 1) (pa_c (pv 2) (pa_c (pv 3) qj)))))
 have hb : qJ qX = [((qJ qX).getD 0 pZ), ((qJ qX).getD 1 pZ), ((qJ qX).getD 2 pZ), ((qJ qX).getD 3 pZ), ((qJ qX).getD 4 pZ), ((qJ qX).getD 5 pZ), ((qJ qX).getD 6 pZ), ((qJ qX).getD 7 pZ), ((qJ qX).getD 8 pZ)] := by rfl
 generalize ((qJ qX).getD 0 pZ) = S0 at *
 generalize ((qJ qX).getD 1 pZ) = S1 at *
 generalize ((qJ qX).getD 2 pZ) = S2 at *
 generalize ((qJ qX).getD 3 pZ) = S3 at *
 generalize ((qJ qX).getD 4 pZ) = S4 at *
 generalize ((qJ qX).getD 5 pZ) = S5 at *
 generalize ((qJ qX).getD 6 pZ) = S6 at *
 generalize ((qJ qX).getD 7 pZ) = S7 at *
 generalize ((qJ qX).getD 8 pZ) = S8 at *
 rw [hb]
 refine ⟨_, (qW h0 (qW h1 (qW h2 (qW h3 (qW h4 (qW h5 (qW h6 (qW h7 (qV h8))))))))), ?_⟩
 clear hb h0 h1 h2 h3 h4 h5 h6 h7 h8 S0 S1 S2 S3 S4 S5 S6 S7 S8
 have lvt := rt.length
 have lvp := rp.length
 refine ⟨_, rfl, _, _, rfl, rfl, (by show (0 : Int) < 6; decide), ?_⟩
 have w0 := Int.emod_nonneg m (show (6 : Int) ≠ 0 by decide)
 have w6 := Int.emod_lt_of_pos m (show (0 : Int) < 6 by decide)
 dsimp only
 generalize m % 6 = way at *
 refine ⟨_, rfl, _, _, rfl, rfl, cdivB (n := 10) (by decide) (by unfold Sm; decide), _, rfl, _, _, rfl, .inl (SqL.of ep), _, _, rfl, rfl, (by omega), ?_⟩
 obtain ⟨j, hj, jl⟩ : ∃ j : Nat, m.fdiv 6 % (vp.length : Int) = (j : Int) ∧ j < vp.length := by
  have a0 := Int.emod_nonneg (m.fdiv 6) (show (vp.length : Int) ≠ 0 by omega)
  have a1 := Int.emod_lt_of_pos (m.fdiv 6) (show (0 : Int) < (vp.length : Int) by omega)
  exact ⟨(m.fdiv 6 % (vp.length : Int)).toNat, by omega, by omega⟩
 dsimp only
 rw [hj]
 clear hj
 refine ⟨y9, fun o0 h0 => ?_⟩
 have g0 := qy h0 (.tup (T2 2 4))
 have e0 := qv (H := H) (a := o0) (o := .tup (T2 2 4))
 generalize upd H o0 (.tup (T2 2 4)) = H0 at *
 refine ⟨y9, fun o1 h1 => ?_⟩
 have g1 := qy h1 (.tup (T2 1 0))
 have e1 := qv (H := H0) (a := o1) (o := .tup (T2 1 0))
 generalize upd H0 o1 (.tup (T2 1 0)) = H1 at *
 refine ⟨y9, fun o4 h4 => ?_⟩
 have g4 := qy h4 (.tup [.bl true, .int 1])
 have e4 := qv (H := H1) (a := o4) (o := .tup [.bl true, .int 1])
 generalize upd H1 o4 (.tup [.bl true, .int 1]) = H4 at *
 refine ⟨(show 3 ≤ sizeLine by decide), fun o6 h6 => ?_⟩
 have g6 := qy h6 (.tup [.int 1, .int 1, .int 1])
 have e6 := qv (H := H4) (a := o6) (o := .tup [.int 1, .int 1, .int 1])
 generalize upd H4 o6 (.tup [.int 1, .int 1, .int 1]) = H6 at *
 refine ⟨y9, fun o7 h7 => ?_⟩
 have g7 := qy h7 (.tup (T2 0 2))
 have e7 := qv (H := H6) (a := o7) (o := .tup (T2 0 2))
 generalize upd H6 o7 (.tup (T2 0 2)) = H7 at *
 refine ⟨(show 8 ≤ sizeLine by decide), fun lO hO => ?_⟩
 have gO := qy hO (.lst [.ref o0, .ref o1, .int 1, .non, .ref o4, .str "1", .ref o6, .ref o7])
 have eO := qv (H := H7) (a := lO) (o := .lst [.ref o0, .ref o1, .int 1, .non, .ref o4, .str "1", .ref o6, .ref o7])
 generalize upd H7 lO (.lst [.ref o0, .ref o1, .int 1, .non, .ref o4, .str "1", .ref o6, .ref o7]) = HO2 at *
 have hat : ∃ u, atI [V.ref o0, V.ref o1, V.int 1, V.non, V.ref o4, V.str "1", V.ref o6, V.ref o7] (m.fdiv 600 % 8) = some u ∧ NO K HO2 u := by
  have b0 := Int.emod_nonneg (m.fdiv 600) (show (8 : Int) ≠ 0 by decide)
  have b8 := Int.emod_lt_of_pos (m.fdiv 600) (show (0 : Int) < 8 by decide)
  generalize m.fdiv 600 % 8 = y at *
  have c : y = 0 ∨ y = 1 ∨ y = 2 ∨ y = 3 ∨ y = 4 ∨ y = 5 ∨ y = 6 ∨ y = 7 := by omega
  rcases c with c | c | c | c | c | c | c | c <;> subst c
  ·exact ⟨_, rfl, .part (SqT.of ((g1.trans (g4.trans (g6.trans (g7.trans gO)))) _ _ e0)) (by decide) (by decide) (by unfold Sm; decide)⟩
  ·exact ⟨_, rfl, .low (SqT.of ((g4.trans (g6.trans (g7.trans gO))) _ _ e1)) (by decide)⟩
  ·exact ⟨_, rfl, .no (.old (.intTup 1))⟩
  ·exact ⟨_, rfl, .no .nonTup⟩
  ·exact ⟨_, rfl, .fst (SqT.of ((g6.trans (g7.trans gO)) _ _ e4)) (.inr ⟨.blInt true, .blBool true⟩)⟩
  ·exact ⟨_, rfl, .no (.strTup _)⟩
  ·exact ⟨_, rfl, .len (SqT.of ((g7.trans gO) _ _ e6)) (by decide)⟩
  ·exact ⟨_, rfl, .part (SqT.of (gO _ _ e7)) (by decide) (by decide) (by unfold Sm; decide)⟩
 obtain ⟨u, hu, nu⟩ := hat
 have gA := g0.trans (g1.trans (g4.trans (g6.trans (g7.trans gO))))
 refine ⟨_, rfl, _, _, rfl, rfl, cdivB (n := 10) (by decide) (by unfold Sm; decide), _, _, rfl, rfl, (by show (0 : Int) < 8; decide), lO, _, _, _, rfl, rfl, SqL.of eO, hu, ?_⟩
 clear g0 g1 g4 g6 g7 gO e0 e1 e4 e6 e7 eO h0 h1 h4 h6 h7 hO hu
 have et := gA _ _ et
 have rt := rt.mono gA
 have hb := gA.tup hb
 have ep := gA _ _ ep
 have rp := rp.mono gA
 delta gName
 dsimp only
 change tSeq _ _ _ [some (.int m), some (.ref pt), some (.ref pb), some (.ref lp), some (.int way), some (.int (j : Int)), some u, none] HO2
 refine seq_cut fun N hN => ?_
 have tail3 : ∀ (pb' : Addr) (bd' : Rat) (G : Hp), Same HO2 G → SqT K G pb' (TQ bd') → Bq 29 2300 bd' → N [some (.int m), some (.ref pt), some (.ref pb'), some (.ref lp), some (.int way), some (.int (j : Int)), some u, none] G := by
  subst hN
  intro pb' bd' G gG hb' bb'
  have et := gG _ _ et
  have rt := rt.mono gG
  have ep := gG _ _ ep
  have rp := rp.mono gG
  have nu := nu.mono gG
  have gA := gA.trans gG
  clear hb gG
  change tSeq _ _ _ [some (.int m), some (.ref pt), some (.ref pb'), some (.ref lp), some (.int way), some (.int (j : Int)), some u, none] G
  refine seq_cut fun N2 hN2 => ?_
  have tail4 : ∀ (pt' : Addr) (vt' : List V) (ts' : List (Nat × Rat)) (kk : Option V) (G2 : Hp), Same G G2 → SqL K G2 pt' vt' → TL K G2 vt' ts' → (∀ x ∈ ts', C x.1 ∧ Bq 29 2200 x.2) → ts'.length ≤ 60 → N2 [some (.int m), some (.ref pt'), some (.ref pb'), some (.ref lp), some (.int way), some (.int (j : Int)), some u, kk] G2 := by
   subst hN2
   intro pt' vt' ts' kk G2 gG et' rt' ct' l60'
   have hb' := gG.tup hb'
   have ep := gG _ _ ep
   have rp := rp.mono gG
   have nu := nu.mono gG
   have gA := gA.trans gG
   clear et rt gG
   have fin : ∀ (v : V) (o : Option (List Rat)) (G3 : Hp), Same G2 G3 → Pr K G3 v o → ∀ t, G3 t = none → Q (.ref t) (upd G3 t (.tup [.ref pt', .ref pb', v])) := fun v o G3 g3 hv t ht => by
    have f := qy ht (.tup [.ref pt', .ref pb', v])
    have g3f := g3.trans f
    exact q t pt' pb' vt' ts' bd' v o _ (gA.trans g3f) (SqT.of qv) (g3f.seq et') (rt'.mono g3f) ct' l60' (g3f.tup hb') bb' (hv.mono f)
   change tSeq _ _ _ [some (.int m), some (.ref pt'), some (.ref pb'), some (.ref lp), some (.int way), some (.int (j : Int)), some u, kk] G2
   refine ⟨_, rfl, rfl, _, rfl, iteD (fun c3 => ?_) (fun c3 => ?_)⟩
   ·have way3 : way = 3 := V.int.inj c3
    refine ⟨_, rfl, _, rfl, _, rfl, _, _, rfl, SqL.of ep, fun c1 k1 => ?_⟩
    rw [cutHi (by omega)]
    have f := qy k1 (.lst (vp.take j))
    have ec1 := qv (H := G2) (a := c1) (o := .lst (vp.take j))
    have ep := f _ _ ep
    have gB := f
    generalize upd G2 c1 (.lst (vp.take j)) = W1 at *
    clear f k1
    refine ⟨_, rfl, _, rfl, _, _, rfl, rfl, cdivB (n := 10) (by decide) (by unfold Sm; decide), _, _, rfl, rfl, (by show (0 : Int) < 3; decide), _, _, rfl, rfl, _, _, rfl, (by decide), (by unfold Sm; decide), fun p2 W2 g2 e2 => ?_⟩
    have ep := g2 _ _ ep
    have ec1 := g2 _ _ ec1
    have gB := gB.trans g2
    refine ⟨(show 1 ≤ sizeLine by decide), fun c2 k2 => ?_⟩
    have e2 := (qy k2 (.lst [.ref p2])) _ _ e2
    have f := qy k2 (.lst [.ref p2])
    have ec2 := qv (H := W2) (a := c2) (o := .lst [.ref p2])
    have ep := f _ _ ep
    have ec1 := f _ _ ec1
    have gB := gB.trans f
    generalize upd W2 c2 (.lst [.ref p2]) = W3 at *
    clear f k2
    refine ⟨_, _, _, _, rfl, rfl, ec1, ec2, Nat.le_of_lt (zj (by simp only [List.length_take, List.length_cons, List.length_nil]; omega)), fun c3' k3 => ?_⟩
    have f := qy k3 (.lst (vp.take j ++ [.ref p2]))
    have e2 := f _ _ e2
    have ec3 := qv (H := W3) (a := c3') (o := .lst (vp.take j ++ [.ref p2]))
    have ep := f _ _ ep
    have gB := gB.trans f
    generalize upd W3 c3' (.lst (vp.take j ++ [.ref p2])) = W4 at *
    clear f k3
    refine ⟨_, rfl, _, rfl, _, _, rfl, rfl, _, rfl, _, _, rfl, SqL.of ep, fun c4 k4 => ?_⟩
    dsimp only at k4 ⊢
    rw [show (j : Int) + 1 = ((j + 1 : Nat) : Int) by omega, cutLoN (by omega)]
    have f := qy k4 (.lst (vp.drop (j + 1)))
    have e2 := f _ _ e2
    have ec4 := qv (H := W4) (a := c4) (o := .lst (vp.drop (j + 1)))
    have ec3 := f _ _ ec3
    have gB := gB.trans f
    generalize upd W4 c4 (.lst (vp.drop (j + 1))) = W5 at *
    clear f k4
    refine ⟨_, _, _, _, rfl, rfl, ec3, ec4, Nat.le_of_lt (zj (by simp only [List.length_append, List.length_take, List.length_drop, List.length_cons, List.length_nil]; omega)), fun c5 k5 => ?_⟩
    have e2 := (qy k5 (.lst (vp.take j ++ [.ref p2] ++ vp.drop (j + 1)))) _ _ e2
    have gB := gB.trans (qy k5 (.lst (vp.take j ++ [.ref p2] ++ vp.drop (j + 1))))
    have ec5 := qv (H := W5) (a := c5) (o := .lst (vp.take j ++ [.ref p2] ++ vp.drop (j + 1)))
    generalize upd W5 c5 (.lst (vp.take j ++ [.ref p2] ++ vp.drop (j + 1))) = W6 at *
    have b0 := Int.emod_nonneg (m.fdiv 600) (show (3 : Int) ≠ 0 by decide)
    have b3 := Int.emod_lt_of_pos (m.fdiv 600) (show (0 : Int) < 3 by decide)
    have bq : Bq 1 40 (Rat.divInt (-1 - m.fdiv 600 % 3) 2) := by
     refine Bq.of (m := 2) (by decide) (by decide) ?_
     have : (-1 - m.fdiv 600 % 3).natAbs ≤ 3 := by omega
     exact Nat.le_trans this (by decide)
    have kr := n_rat (t := -1 - m.fdiv 600 % 3) (b := 2) (by decide)
    have i2 : IsQ K W6 (.ref p2) (Rat.divInt (-1 - m.fdiv 600 % 3) 2) := ⟨p2, rfl, by unfold TQ; rw [← kr.1, ← kr.2]; exact SqT.of e2⟩
    have hv : Pr K W6 (.ref c5) (some (ps.take j ++ [Rat.divInt (-1 - m.fdiv 600 % 3) 2] ++ ps.drop (j + 1))) := .good (SqL.of ec5) (ZX (ZX (RL.take j (rp.mono gB)) (.cons i2 .nil)) (RL.drop (j + 1) (rp.mono gB))) (fun q' hq' => by
      rcases List.mem_append.mp hq' with z | z
      ·rcases List.mem_append.mp z with z | z
       ·exact zp q' (List.mem_of_mem_take z)
       ·rw [List.mem_singleton.mp z]; exact bq
      ·exact zp q' (List.mem_of_mem_drop z)) (by simp only [List.length_append, List.length_take, List.length_drop, List.length_cons, List.length_nil]; omega)
    exact ⟨_, rfl, rfl, _, rfl, iteN (fun z => by have := V.int.inj z; omega) ⟨_, rfl, rfl, _, rfl, iteN (fun z => by have := V.int.inj z; omega) ⟨_, rfl, _, rfl, _, rfl, (show 3 ≤ sizeLine by decide), fun t ht => fin _ _ _ gB hv t ht⟩⟩⟩
   refine ⟨_, rfl, rfl, _, rfl, iteD (fun c4 => ?_) (fun c4 => ?_)⟩
   ·have way4 : way = 4 := V.int.inj c4
    refine ⟨_, rfl, _, rfl, _, rfl, _, _, rfl, SqL.of ep, fun c1 k1 => ?_⟩
    rw [cutHi (by omega)]
    have f := qy k1 (.lst (vp.take j))
    have ec1 := qv (H := G2) (a := c1) (o := .lst (vp.take j))
    have ep := f _ _ ep
    have gB := f
    generalize upd G2 c1 (.lst (vp.take j)) = W1 at *
    clear f k1
    refine ⟨_, rfl, (show 1 ≤ sizeLine by decide), fun c2 k2 => ?_⟩
    have f := qy k2 (.lst [u])
    have ec2 := qv (H := W1) (a := c2) (o := .lst [u])
    have ep := f _ _ ep
    have ec1 := f _ _ ec1
    have gB := gB.trans f
    generalize upd W1 c2 (.lst [u]) = W3 at *
    clear f k2
    refine ⟨_, _, _, _, rfl, rfl, ec1, ec2, Nat.le_of_lt (zj (by simp only [List.length_take, List.length_cons, List.length_nil]; omega)), fun c3' k3 => ?_⟩
    have f := qy k3 (.lst (vp.take j ++ [u]))
    have ec3 := qv (H := W3) (a := c3') (o := .lst (vp.take j ++ [u]))
    have ep := f _ _ ep
    have gB := gB.trans f
    generalize upd W3 c3' (.lst (vp.take j ++ [u])) = W4 at *
    clear f k3
    refine ⟨_, rfl, _, rfl, _, _, rfl, rfl, _, rfl, _, _, rfl, SqL.of ep, fun c4 k4 => ?_⟩
    dsimp only at k4 ⊢
    rw [show (j : Int) + 1 = ((j + 1 : Nat) : Int) by omega, cutLoN (by omega)]
    have f := qy k4 (.lst (vp.drop (j + 1)))
    have ec4 := qv (H := W4) (a := c4) (o := .lst (vp.drop (j + 1)))
    have ec3 := f _ _ ec3
    have gB := gB.trans f
    generalize upd W4 c4 (.lst (vp.drop (j + 1))) = W5 at *
    clear f k4
    refine ⟨_, _, _, _, rfl, rfl, ec3, ec4, Nat.le_of_lt (zj (by simp only [List.length_append, List.length_take, List.length_drop, List.length_cons, List.length_nil]; omega)), fun c5 k5 => ?_⟩
    have gB := gB.trans (qy k5 (.lst (vp.take j ++ [u] ++ vp.drop (j + 1))))
    have ec5 := qv (H := W5) (a := c5) (o := .lst (vp.take j ++ [u] ++ vp.drop (j + 1)))
    generalize upd W5 c5 (.lst (vp.take j ++ [u] ++ vp.drop (j + 1))) = W6 at *
    have ev : vp.take j ++ [u] ++ vp.drop (j + 1) = vp.take j ++ u :: vp.drop (j + 1) := by rw [List.append_assoc]; rfl
    rw [ev] at ec5
    have hv : Pr K W6 (.ref c5) none := .odd (SqL.of ec5) (RL.take j (rp.mono gB)) (RL.drop (j + 1) (rp.mono gB)) (fun q' hq' => zp q' (List.mem_of_mem_take hq')) (fun q' hq' => zp q' (List.mem_of_mem_drop hq')) (by rw [List.length_take, List.length_drop]; omega) (nu.mono gB)
    exact ⟨_, rfl, rfl, _, rfl, iteN (fun z => by have := V.int.inj z; omega) ⟨_, rfl, _, rfl, _, rfl, (show 3 ≤ sizeLine by decide), fun t ht => fin _ _ _ gB hv t ht⟩⟩
   refine ⟨_, rfl, rfl, _, rfl, iteD (fun c5 => ?_) (fun c5 => ?_)⟩
   ·refine ⟨_, rfl, _, rfl, _, rfl, _, _, rfl, SqL.of ep, fun c1 k1 => ?_⟩
    rw [cutEnd (n := vp.length - 1) (by omega)]
    have gB := qy k1 (.lst (vp.take (vp.length - 1)))
    have ec1 := qv (H := G2) (a := c1) (o := .lst (vp.take (vp.length - 1)))
    have ep := gB _ _ ep
    generalize upd G2 c1 (.lst (vp.take (vp.length - 1))) = W1 at *
    clear k1
    refine ⟨_, rfl, y9, fun t0 k2 => ?_⟩
    have f := qy k2 (.tup (T2 0 1))
    have et0 := qv (H := W1) (a := t0) (o := .tup (T2 0 1))
    have ep := f _ _ ep
    have ec1 := f _ _ ec1
    have gB := gB.trans f
    generalize upd W1 t0 (.tup (T2 0 1)) = W2 at *
    clear f k2
    refine ⟨(show 1 ≤ sizeLine by decide), fun l0 k3 => ?_⟩
    have f := qy k3 (.lst [.ref t0])
    have el0 := qv (H := W2) (a := l0) (o := .lst [.ref t0])
    have ep := f _ _ ep
    have ec1 := f _ _ ec1
    have et0 := f _ _ et0
    have gB := gB.trans f
    generalize upd W2 l0 (.lst [.ref t0]) = W3 at *
    clear f k3
    refine ⟨_, _, _, _, rfl, rfl, ep, el0, Nat.le_of_lt (zj (by simp only [List.length_cons, List.length_nil]; omega)), fun c2 k4 => ?_⟩
    have f := qy k4 (.lst (vp ++ [.ref t0]))
    have ec2 := qv (H := W3) (a := c2) (o := .lst (vp ++ [.ref t0]))
    have ep := f _ _ ep
    have ec1 := f _ _ ec1
    have et0 := f _ _ et0
    have gB := gB.trans f
    generalize upd W3 c2 (.lst (vp ++ [.ref t0])) = W4 at *
    clear f k4
    refine ⟨_, rfl, lp, vp, rfl, .inl ⟨SqL.of ep, fun c3' k5 => ?_⟩⟩
    have f := qy k5 (.tup vp)
    have ec3 := qv (H := W4) (a := c3') (o := .tup vp)
    have ec1 := f _ _ ec1
    have ec2 := f _ _ ec2
    have et0 := f _ _ et0
    have gB := gB.trans f
    generalize upd W4 c3' (.tup vp) = W5 at *
    clear f k5
    refine ⟨(show 0 ≤ sizeLine by decide), fun c4' k6 => ?_⟩
    have f := qy k6 (.lst [])
    have ec4 := qv (H := W5) (a := c4') (o := .lst [])
    have ec1 := f _ _ ec1
    have ec2 := f _ _ ec2
    have ec3 := f _ _ ec3
    have et0 := f _ _ et0
    have gB := gB.trans f
    generalize upd W5 c4' (.lst []) = W6 at *
    clear f k6
    refine ⟨(show 5 ≤ sizeLine by decide), fun lO k7 => ?_⟩
    have f := qy k7 (.lst [.ref c1, .ref c2, .ref c3', .non, .ref c4'])
    have eO := qv (H := W6) (a := lO) (o := .lst [.ref c1, .ref c2, .ref c3', .non, .ref c4'])
    have ec1 := f _ _ ec1
    have ec2 := f _ _ ec2
    have ec3 := f _ _ ec3
    have ec4 := f _ _ ec4
    have et0 := f _ _ et0
    have gB := gB.trans f
    generalize upd W6 lO (.lst [.ref c1, .ref c2, .ref c3', .non, .ref c4']) = W7 at *
    clear f k7
    have rp7 := rp.mono gB
    have hat : ∃ v o, atI [V.ref c1, V.ref c2, V.ref c3', V.non, V.ref c4'] (m.fdiv 600 % 5) = some v ∧ Pr K W7 v o := by
     have b0 := Int.emod_nonneg (m.fdiv 600) (show (5 : Int) ≠ 0 by decide)
     have b5 := Int.emod_lt_of_pos (m.fdiv 600) (show (0 : Int) < 5 by decide)
     generalize m.fdiv 600 % 5 = y at *
     have c : y = 0 ∨ y = 1 ∨ y = 2 ∨ y = 3 ∨ y = 4 := by omega
     rcases c with c | c | c | c | c <;> subst c
     ·exact ⟨_, _, rfl, .good (SqL.of ec1) (RL.take (vp.length - 1) rp7) (fun q' hq' => zp q' (List.mem_of_mem_take hq')) (by rw [List.length_take]; omega)⟩
     ·refine ⟨_, _, rfl, .good (SqL.of ec2) (RL.snoc rp7 ⟨t0, rfl, (SqT.of et0 : SqT K W7 t0 (TQ 0))⟩) (fun q' hq' => ?_) (by rw [List.length_append, List.length_singleton]; omega)⟩
      rcases List.mem_append.mp hq' with z | z
      ·exact zp q' z
      ·rw [List.mem_singleton.mp z]; exact Bq.zero _ _
     ·exact ⟨_, _, rfl, .no (.old (.tupList (SqT.of ec3)))⟩
     ·exact ⟨_, _, rfl, .no .nonList⟩
     ·exact ⟨_, _, rfl, .good (SqL.of ec4) (.nil : RL K W7 [] []) (fun q' hq' => nomatch hq') (Nat.zero_le _)⟩
    obtain ⟨v, o, ha, hv⟩ := hat
    refine ⟨_, rfl, _, _, rfl, rfl, cdivB (n := 10) (by decide) (by unfold Sm; decide), _, _, rfl, rfl, (by show (0 : Int) < 5; decide), lO, _, _, _, rfl, rfl, SqL.of eO, ha, ?_⟩
    exact ⟨_, rfl, _, rfl, _, rfl, (show 3 ≤ sizeLine by decide), fun t ht => fin _ _ _ gB hv t ht⟩
   ·exact ⟨_, rfl, _, rfl, _, rfl, (show 3 ≤ sizeLine by decide), fun t ht => fin _ _ _ (Same.refl _) (.good (SqL.of ep) rp zp (by omega)) t ht⟩
  clear hN2
  have ct2 : ∀ x ∈ ts, C x.1 ∧ Bq 29 2200 x.2 := fun x hx => ⟨(ct x hx).1, (ct x hx).2.mono (Nat.le_refl _) (by decide)⟩
  refine ⟨_, rfl, rfl, _, rfl, iteD (fun c2 => ?_) (fun c2 => tail4 pt vt ts _ G (Same.refl _) (SqL.of et) rt ct2 (by omega))⟩
  refine ⟨_, rfl, (show 0 ≤ sizeLine by decide), fun l0 k0 => ?_⟩
  have gB := qy k0 (.lst [])
  refine ⟨pt, l0, vt, rfl, rfl, SqL.of (gB _ _ et), SqL.of qv, _, rfl, ?_⟩
  have et := gB _ _ et
  generalize upd G l0 (.lst []) = W0 at *
  cases hvt : vt with
  | nil =>
   subst hvt
   exact tail4 pt [] ts _ W0 gB (SqL.of et) (rt.mono gB) ct2 (by omega)
  | cons z0 zs0 =>
  have lpos : 0 < vt.length := by rw [hvt]; exact Nat.succ_pos _
  refine iteT ?_
  clear hvt z0 zs0
  refine ⟨_, rfl, _, _, rfl, rfl, cdivB (n := 10) (by decide) (by unfold Sm; decide), _, rfl, _, _, rfl, .inl (SqL.of et), _, _, rfl, rfl, (by omega), ?_⟩
  obtain ⟨k, hk, kl⟩ : ∃ k : Nat, m.fdiv 6 % (vt.length : Int) = (k : Int) ∧ k < vt.length := by
   have a0 := Int.emod_nonneg (m.fdiv 6) (show (vt.length : Int) ≠ 0 by omega)
   have a1 := Int.emod_lt_of_pos (m.fdiv 6) (show (0 : Int) < (vt.length : Int) by omega)
   exact ⟨(m.fdiv 6 % (vt.length : Int)).toNat, by omega, by omega⟩
  dsimp only
  rw [hk]
  clear hk
  have rt0 := rt.mono gB
  have ek : vt[k]? = some vt[k] := gE9 kl
  obtain ⟨x0, ex, tt, rr, hvk, h1, h2⟩ := rt0.get ek
  rw [hvk] at ek
  obtain ⟨cx, bx⟩ := ct x0 (List.mem_of_getElem? ex)
  refine ⟨_, rfl, _, rfl, _, rfl, _, _, rfl, SqL.of et, fun c1 k1 => ?_⟩
  rw [cutHi (by omega)]
  have f := qy k1 (.lst (vt.take k))
  have ec1 := qv (H := W0) (a := c1) (o := .lst (vt.take k))
  have et := f _ _ et
  have h1 := f.tup h1
  have h2 := f.tup h2
  have gB := gB.trans f
  generalize upd W0 c1 (.lst (vt.take k)) = W1 at *
  clear f k1
  refine ⟨_, rfl, _, rfl, pt, _, _, _, rfl, rfl, SqL.of et, atN ek, _, _, _, _, rfl, rfl, h1, rfl, _, rfl, _, rfl, pt, _, _, _, rfl, rfl, SqL.of et, atN ek, _, _, _, _, rfl, rfl, h1, rfl, y9, fun t2 k2 => ?_⟩
  have f := qy k2 (.tup (T2 1 2))
  have e2 := qv (H := W1) (a := t2) (o := .tup (T2 1 2))
  have et := f _ _ et
  have ec1 := f _ _ ec1
  have h2 := f.tup h2
  have gB := gB.trans f
  generalize upd W1 t2 (.tup (T2 1 2)) = W2 at *
  clear f k2
  have kr := n_rat (t := 1) (b := 2) (by decide)
  have q2 : SqT K W2 t2 (TQ (Rat.divInt 1 2)) := by
   have e : T2 (nt 1 2) (nb 1 2) = T2 1 2 := rfl
   unfold TQ
   rw [← kr.1, ← kr.2, e]
   exact SqT.of e2
  have bh := half_bq44
  refine ⟨rr, t2, x0.2, Rat.divInt 1 2, rfl, h2, q2, bx.s4r (by decide) (by decide), bh.sm.mono (by decide), fun p5 W3 g5 e5 => ?_⟩
  have et := g5 _ _ et
  have ec1 := g5 _ _ ec1
  have gB := gB.trans g5
  refine ⟨y9, fun t6 k6 => ?_⟩
  have f := qy k6 (.tup [.int (x0.1 : Int), .ref p5])
  have e6 := qv (H := W3) (a := t6) (o := .tup [.int (x0.1 : Int), .ref p5])
  have et := f _ _ et
  have ec1 := f _ _ ec1
  have e5 := f _ _ e5
  have gB := gB.trans f
  generalize upd W3 t6 (.tup [.int (x0.1 : Int), .ref p5]) = W4 at *
  clear f k6
  refine ⟨(show 1 ≤ sizeLine by decide), fun c2' k7 => ?_⟩
  have f := qy k7 (.lst [.ref t6])
  have ec2 := qv (H := W4) (a := c2') (o := .lst [.ref t6])
  have et := f _ _ et
  have ec1 := f _ _ ec1
  have e5 := f _ _ e5
  have e6 := f _ _ e6
  have gB := gB.trans f
  generalize upd W4 c2' (.lst [.ref t6]) = W5 at *
  clear f k7
  refine ⟨_, _, _, _, rfl, rfl, ec1, ec2, Nat.le_of_lt (zj (by simp only [List.length_take, List.length_cons, List.length_nil]; omega)), fun c3' k8 => ?_⟩
  have f := qy k8 (.lst (vt.take k ++ [.ref t6]))
  have ec3 := qv (H := W5) (a := c3') (o := .lst (vt.take k ++ [.ref t6]))
  have et := f _ _ et
  have e5 := f _ _ e5
  have e6 := f _ _ e6
  have gB := gB.trans f
  generalize upd W5 c3' (.lst (vt.take k ++ [.ref t6])) = W6 at *
  clear f k8
  refine ⟨_, rfl, _, rfl, _, _, rfl, rfl, _, rfl, _, _, rfl, SqL.of et, fun c4 k9 => ?_⟩
  dsimp only at k9 ⊢
  rw [show (k : Int) + 1 = ((k + 1 : Nat) : Int) by omega, cutLoN (by omega)]
  have f := qy k9 (.lst (vt.drop (k + 1)))
  have ec4 := qv (H := W6) (a := c4) (o := .lst (vt.drop (k + 1)))
  have ec3 := f _ _ ec3
  have e5 := f _ _ e5
  have e6 := f _ _ e6
  have gB := gB.trans f
  generalize upd W6 c4 (.lst (vt.drop (k + 1))) = W7 at *
  clear f k9
  refine ⟨_, _, _, _, rfl, rfl, ec3, ec4, Nat.le_of_lt (zj (by simp only [List.length_append, List.length_take, List.length_drop, List.length_cons, List.length_nil]; omega)), fun c5 k10 => ?_⟩
  have f := qy k10 (.lst (vt.take k ++ [.ref t6] ++ vt.drop (k + 1)))
  have ec5 := qv (H := W7) (a := c5) (o := .lst (vt.take k ++ [.ref t6] ++ vt.drop (k + 1)))
  have e5 := f _ _ e5
  have e6 := f _ _ e6
  have gB := gB.trans f
  generalize upd W7 c5 (.lst (vt.take k ++ [.ref t6] ++ vt.drop (k + 1))) = W8 at *
  clear f k10
  have rt8 : TL K W8 vt ts := rt.mono gB
  have tn : TL K W8 (vt.take k ++ [.ref t6] ++ vt.drop (k + 1)) (ts.take k ++ [(x0.1, x0.2 + Rat.divInt 1 2)] ++ ts.drop (k + 1)) := ZX (ZX (paired_take k rt8) (.cons ⟨t6, p5, rfl, SqT.of e6, SqT.of e5⟩ .nil)) (paired_drop (k + 1) rt8)
  refine tail4 c5 _ _ _ W8 gB (SqL.of ec5) tn (fun x hx => ?_) (by simp only [List.length_append, List.length_take, List.length_drop, List.length_cons, List.length_nil]; omega)
  rcases List.mem_append.mp hx with z | z
  ·rcases List.mem_append.mp z with z | z
   ·exact ct2 x (List.mem_of_mem_take z)
   ·rw [List.mem_singleton.mp z]
    exact ⟨cx, (bx.add (bh.mono (by decide) (by decide))).mono (Nat.le_refl _) (by decide)⟩
  ·exact ct2 x (List.mem_of_mem_drop z)
 clear hN
 have b2 := bb.mono (Nat.le_refl 29) (show 2210 ≤ 2300 by decide)
 refine ⟨_, rfl, rfl, _, rfl, iteD (fun c1 => ?_) (fun c1 => tail3 pb bd HO2 (Same.refl _) hb b2)⟩
 have b0 := Int.emod_nonneg (m.fdiv 600) (show (5 : Int) ≠ 0 by decide)
 have b5 := Int.emod_lt_of_pos (m.fdiv 600) (show (0 : Int) < 5 by decide)
 have b6 := Int.emod_nonneg (m.fdiv 3000) (show (9 : Int) ≠ 0 by decide)
 have b9 := Int.emod_lt_of_pos (m.fdiv 3000) (show (0 : Int) < 9 by decide)
 refine ⟨_, rfl, _, rfl, _, rfl, _, _, rfl, rfl, cdivB (n := 10) (by decide) (by unfold Sm; decide), _, _, rfl, rfl, (by show (0 : Int) < 5; decide), _, _, rfl, rfl, _, rfl, _, _, rfl, rfl, cdivB (n := 20) (by decide) (by unfold Sm; decide), _, _, rfl, rfl, (by show (0 : Int) < 9; decide), _, _, rfl, rfl, _, _, rfl, by omega, sm64 (by omega) (by omega) |>.mono (by decide), fun p1 W1 g1 e1 => ?_⟩
 obtain ⟨b, hbb⟩ : ∃ b : Nat, 1 + m.fdiv 3000 % 9 = (b : Int) := ⟨(1 + m.fdiv 3000 % 9).toNat, by omega⟩
 have kr := n_rat (t := -1 - m.fdiv 600 % 5) (b := 1 + m.fdiv 3000 % 9) (by omega)
 have q1 : SqT K W1 p1 (TQ (Rat.divInt (-1 - m.fdiv 600 % 5) (1 + m.fdiv 3000 % 9))) := by
  unfold TQ
  rw [← kr.1, ← kr.2]
  exact SqT.of e1
 have bp : Bq 2 40 (Rat.divInt (-1 - m.fdiv 600 % 5) (1 + m.fdiv 3000 % 9)) := by rw [hbb]; exact part_bq (by omega) (by omega) (by omega)
 refine ⟨pb, p1, bd, _, rfl, g1.tup hb, q1, bb.s4r (by decide) (by decide), bp.sm.mono (by decide), fun p2 W2 g2 e2 => ?_⟩
 exact tail3 p2 _ W2 (g1.trans g2) (SqT.of e2) ((bb.add (bp.mono (by decide) (by decide))).mono (Nat.le_refl _) (by decide))
theorem opens_opn (us : List Un) : opens (opnC us) = (us.filter isB).length := by
 unfold opens opnC
 rw [List.filter_replicate_of_pos rfl, List.length_replicate]
theorem opnC_get {us : List Un} {k : Nat} (h : k < (us.filter isB).length) : (opnC us).getD k .off = .opn := by
 unfold opnC
 rw [List.getD, List.getElem?_replicate, if_pos h]
 rfl
theorem getD_app {α : Type} {xs ys : List α} {k : Nat} {d : α} (h : k < xs.length) : (xs ++ ys).getD k d = xs.getD k d := by
 rw [List.getD, List.getD, List.getElem?_append_left h]
theorem getD_end {α : Type} {xs : List α} {y d : α} : (xs ++ [y]).getD xs.length d = y := by
 rw [List.getD, List.getElem?_append_right (Nat.le_refl _), Nat.sub_self]
 rfl
theorem lone_run {many n : Nat} {us : List Un} (wf : WfN many us) (sh : ∀ u ∈ us, ShrU u) : ∀ i, i ≤ us.length → (∀ p, p < many → Lone n ((runF many n (opnC us) (us.take i)).1.getD p [])) ∧ ∀ p ∈ bendP many (us.take i), Lone n ((runF many n (opnC us) (us.take i)).1.getD p [])
 | 0, _ => by
  rw [List.take_zero]
  refine ⟨fun p hp => ⟨p, ?_⟩, fun p hp => nomatch hp⟩
  show ((List.range many).map fun k => loneF k n).getD p [] = _
  rw [List.getD, List.getElem?_map, List.getElem?_range hp]
  rfl
 | i + 1, hi => by
  obtain ⟨k1, k2⟩ := lone_run (n := n) wf sh i (by omega)
  obtain ⟨h1, h2, _⟩ := ZZ (n := n) (cs := opnC us) wf sh i (by omega)
  have e : us[i]? = some us[i] := gE9 (by omega)
  have li : (us.take i).length = i := by rw [List.length_take]; omega
  rw [zY e, runF_snoc, ZY, li]
  have lt := fun (p : Nat) (e : us[i]? = some (Un.bend p)) => bends_lt e
  have bl : ∀ p ∈ bendP many (us.take i), p < many + i := fun p hp => by
   have := bendP_lt (us.take i) many p hp
   omega
  generalize runF many n (opnC us) (us.take i) = st at *
  revert e
  cases us[i] with
  | sum c ts =>
   intro e
   refine ⟨fun p hp => ?_, fun p hp => ?_⟩
   ·show Lone n ((st.1 ++ [_]).getD p [])
    rw [getD_app (by omega)]
    exact k1 p hp
   ·have hp : p ∈ bendP many (us.take i) := by simpa [isB] using hp
    show Lone n ((st.1 ++ [_]).getD p [])
    rw [getD_app (by have := bl p hp; omega)]
    exact k2 p hp
  | bend b =>
   intro e
   have lb := lt b e
   refine ⟨fun p hp => ?_, fun p hp => ?_⟩
   ·show Lone n ((st.1 ++ [_]).getD p [])
    rw [getD_app (by omega)]
    exact k1 p hp
   ·have hp : p ∈ bendP many (us.take i) ∨ p = many + i := by simpa [isB] using hp
    show Lone n ((st.1 ++ [bendF ((opnC us).getD st.2 .off) _ _ n]).getD p [])
    rcases hp with hp | hp
    ·rw [getD_app (by have := bl p hp; omega)]
     exact k2 p hp
    ·rw [hp, ← h1, getD_end, opnC_get (by omega)]
     exact ⟨_, rfl⟩
def CP44 (many : Nat) (us : List Un) (p : Nat) : Prop := p < (runF many (many + opens (opnC us)) (opnC us) us).1.length ∧ Lone (many + opens (opnC us)) ((runF many (many + opens (opnC us)) (opnC us) us).1.getD p [])
theorem places_cp {many : Nat} {us : List Un} (wf : WfN many us) (sh : ∀ u ∈ us, ShrU u) : ∀ p ∈ List.range many ++ bendP many us, CP44 many us p := by
 obtain ⟨k1, k2⟩ := lone_run (n := many + opens (opnC us)) wf sh us.length (Nat.le_refl _)
 obtain ⟨h1, _⟩ := ZZ (n := many + opens (opnC us)) (cs := opnC us) wf sh us.length (Nat.le_refl _)
 rw [List.take_length] at k1 k2 h1
 intro p hp
 rcases List.mem_append.mp hp with z | z
 ·have z := List.mem_range.mp z
  exact ⟨by omega, k1 p z⟩
 ·exact ⟨by have := bendP_lt us many p z; omega, k2 p z⟩
def spLaw (K : Fg9) : Sp := fun vs H Q _ => ∃ (a : Addr) (ns : List Int), vs = [.ref a] ∧ SqL K H a (ns.map V.int) ∧ ns.length ≤ 63 ∧ ∀ H', Q (.bl true) H'
abbrev Vj (P w K mg base) (a : Adr) (cdv A outer s H E) := (cxOf CX0 P w K mg base ["_law_script", "_law_told", "_law_net_here", "_law_box", "_law_bends_here", "_law_case", "_law_rows_here", "_law_lead", "_law_k", "_law_number", "_law_prices", "_law_mix_here", "_law_terms", "_law_bound", "_law_found"] "law" (qQ s_law) a.f_law cdv A outer s H E).nox
set_option maxHeartbeats 0 in
theorem ok_law (T : Txt K mg a) : FnOk P w K mg base CX0 11 a.f_law a.d_law ["_law_script"] (spLaw K) := by
 refine T.F_law.ok kK (fun vs H Q E h => ?_) (fun cdv A outer s H vs Q E hr h => ?_)
 ·obtain ⟨_, _, rfl, _⟩ := h
  rfl
 obtain ⟨sa, ns, rfl, hS, h63, q⟩ := h
 have h0 : PS (Vj P w K mg base a cdv A outer s H E) (bS s_law 0) _ := (zk (i := 1) kK.nd rfl (Or.inl rfl) (qK (ok_law_net T) (hr.mono (by decide)) rfl T.m_law_net T.F_law_net.kp T.b_law_net .nil pass0 (pa_c (pv 0) (pa_c qk (pa_c qk qj))) (he := qz rfl _ _) (hpl := qZ rfl)))
 have h1 : PS (Vj P w K mg base a cdv A outer s H E) (bS s_law 1) _ := (zk (i := 2) kK.nd rfl (Or.inl rfl) (pe_make T.M_Net (ok_Net_init T) (hr.mono (by decide)) rfl T.m_Net T.b_Net_init .nil pass0 (pa_c (pe_ix qY (pv 1) qk (fun _ _ => rfl)) (pa_c (pe_ix qY (pv 1) qk (fun _ _ => rfl)) (pa_c (pe_ix qY (pv 1) qk (fun _ _ => rfl)) qj))) (he := qz rfl _ _) (hpl := qZ rfl)))
 have h2 : PS (Vj P w K mg base a cdv A outer s H E) (bS s_law 2) _ := (zk (i := 3) kK.nd rfl (Or.inl rfl) (pe_make T.M_Box (ok_Box_init T) (hr.mono (by decide)) rfl T.m_Box T.b_Box_init .nil pass0 (pa_c (qK (ok_law_sides T) (hr.mono (by decide)) rfl T.m_law_sides T.F_law_sides.kp T.b_law_sides .nil pass0 (pa_c (pv 0) (pa_c qk (pa_c (pe_ix qY (pv 1) qk (fun _ _ => rfl)) qj))) (he := qz rfl _ _) (hpl := qZ rfl)) qj) (he := qz rfl _ _) (hpl := qZ rfl)))
 have h3 : PS (Vj P w K mg base a cdv A outer s H E) (bS s_law 3) _ := (zk (i := 4) kK.nd rfl (Or.inl rfl) (qK (ok_law_bends T) (hr.mono (by decide)) rfl T.m_law_bends T.F_law_bends.kp T.b_law_bends .nil pass0 (pa_c (pv 1) qj) (he := qz rfl _ _) (hpl := qZ rfl)))
 have h4 : PS (Vj P w K mg base a cdv A outer s H E) (bS s_law 4) _ := (zk (i := 5) kK.nd rfl (Or.inl rfl) (pe_op op_rep (j7 (pa_c v6 qj)) (zq (zZ) rfl T.m_len boot_len (pa_c (pv 4) qj) (he := qz rfl _ _) (hpl := qZ rfl))))
 have h5 : PS (Vj P w K mg base a cdv A outer s H E) (bS s_law 5) _ := (zk (i := 6) kK.nd rfl (Or.inl rfl) (qK (ok_rows_in T) (hr.mono (by decide)) rfl T.m_rows_in T.F_rows_in.kp T.b_rows_in .nil pass0 (pa_c (pv 2) (pa_c (pv 3) (pa_c (pv 5) qj))) (he := qz rfl _ _) (hpl := qZ rfl)))
 have h6 : PS (Vj P w K mg base a cdv A outer s H E) (bS s_law 6) _ := (zk (i := 7) kK.nd rfl (Or.inl rfl) (qK (Z2 T) (hr.mono (by decide)) rfl T.m_law_mixed T.F_law_mixed.kp T.b_law_mixed .nil pass0 (pa_c (qK (ok_law_cell_at T) (hr.mono (by decide)) rfl T.m_law_cell_at T.F_law_cell_at.kp T.b_law_cell_at .nil pass0 (pa_c (pv 0) (pa_c qk qj)) (he := qz rfl _ _) (hpl := qZ rfl)) (pa_c qk qj)) (he := qz rfl _ _) (hpl := qZ rfl)))
 have h7 : PS (Vj P w K mg base a cdv A outer s H E) (bS s_law 7) _ := (kj PassesOwn.never rfl (xj rfl T.m_range (pa_c qk qj)) (zx (i := 8) kK.nd rfl (Or.inl rfl))
    (qW (zk (i := 9) kK.nd rfl (Or.inr rfl) (qK (Z2 T) (hr.mono (by decide)) rfl T.m_law_mixed T.F_law_mixed.kp T.b_law_mixed .nil pass0 (pa_c (pv 7) (pa_c (pe_op yj qk (pv 8)) qj)) (he := qz rfl _ _) (hpl := qZ rfl)))
   (qW (kW (i := 10) kK.nd rfl (Or.inl rfl) (N := ["_law_j", "_law_number"]) (ix := [none, some 9]) ⟨rfl, rfl, rfl, rfl, ⟨rfl, trivial⟩, rfl, ⟨⟨rfl, Or.inr (Or.inl rfl), Z3 rfl, rfl, Or.inl rfl⟩, trivial⟩⟩ rfl (xj rfl T.m_range (pa_c (zq (zZ) rfl T.m_len boot_len (pa_c (pv 6) qj) (he := qz rfl _ _) (hpl := qZ rfl)) qj)) (fun _ => (zx (i := 0) (show (["_law_j", "_law_number"] : List Str).Nodup by decide +kernel) rfl (Or.inl rfl))) (fun _ σ => wV rfl σ) (fun _ => jk) (fun _ => (qK (ok_law_price T) (hr.mono (by decide)) rfl T.m_law_price T.F_law_price.kp T.b_law_price .nil pass0 (pa_c (qK (Z2 T) (hr.mono (by decide)) rfl T.m_law_mixed T.F_law_mixed.kp T.b_law_mixed .nil pass0 (pa_c (pv 1) (pa_c (pv 0) qj)) (he := qz rfl _ _) (hpl := qZ rfl)) qj) (he := qz rfl _ _) (hpl := qZ rfl))))
   (qW (zk (i := 11) kK.nd rfl (Or.inl rfl) (qK (ok_law_mix T) (hr.mono (by decide)) rfl T.m_law_mix T.F_law_mix.kp T.b_law_mix .nil pass0 (pa_c (pv 6) (pa_c (pv 10) (pa_c (pe_op yj (pe_ix qY (pv 1) qk (fun _ _ => rfl)) (zq (zZ) rfl T.m_len boot_len (pa_c (pv 4) qj) (he := qz rfl _ _) (hpl := qZ rfl))) qj))) (he := qz rfl _ _) (hpl := qZ rfl)))
   (qW (kW (i := 12) kK.nd rfl (Or.inl rfl) (N := ["_law_place", "_law_share"]) (ix := [none, none]) ⟨rfl, rfl, rfl, rfl, trivial, rfl, trivial⟩ rfl (pi_zip rfl T.m_zip (pa_c (pe_op Y4 (jy (call_list_rng rfl) rfl T.m_list boot_list (pa_c (jy (call_range1) rfl T.m_range boot_range (pa_c (pe_ix qY (pv 1) qk (fun _ _ => rfl)) qj) (he := qz rfl _ _) (hpl := qZ rfl)) qj) (he := qz rfl _ _) (hpl := qZ rfl)) (pv 4)) (pa_c (pv 11) qj))) (fun _ => (jW rfl (zy (zx (i := 0) (show (["_law_place", "_law_share"] : List Str).Nodup by decide +kernel) rfl (Or.inl rfl)) (zy (zx (i := 1) (show (["_law_place", "_law_share"] : List Str).Nodup by decide +kernel) rfl (Or.inl rfl)) yK)))) (fun _ σ => V5 rfl rfl (by decide) σ) (fun _ => jk) (fun _ => (yq (pa_c (pv 0) (pa_c (pv 1) qj)))))
   (qW (zk (i := 13) kK.nd rfl (Or.inl rfl) (qK (Qq T) (hr.mono (by decide)) rfl T.m_law_sum T.F_law_sum.kp T.b_law_sum .nil pass0 (pa_c (pe_ix yk (pv 11) (pe_un Z7 qk) (fun _ _ => rfl)) (pa_c (pe_ix yk (j7 (pa_c (yq (pa_c qk (pa_c qk qj))) (pa_c (yq (pa_c qk (pa_c qk qj))) (pa_c (yq (pa_c qk (pa_c qk qj))) qj)))) (pe_op v5 (pv 9) qk) (fun _ _ => rfl)) qj)) (he := qz rfl _ _) (hpl := qZ rfl)))
   (qW (ps_if (zJ op_eq (pe_op v5 (pe_op yz (pv 9) qk) qk) qk (zX _))
    (qV (zk (i := 12) kK.nd rfl (Or.inl rfl) (j7 qj)))
    zW)
   (qW (ZJ (qK (ok_law_spoiled T) (hr.mono (by decide)) rfl T.m_law_spoiled T.F_law_spoiled.kp T.b_law_spoiled .nil pass0 (pa_c (pe_op yz (pv 9) qk) (pa_c (pv 12) (pa_c (pv 13) (pa_c (pv 10) qj)))) (he := qz rfl _ _) (hpl := qZ rfl)) (jW rfl (zy (zx (i := 12) kK.nd rfl (Or.inl rfl)) (zy (zx (i := 13) kK.nd rfl (Or.inl rfl)) (zy (zx (i := 10) kK.nd rfl (Or.inl rfl)) yK)))))
   (qW (zk (i := 14) kK.nd rfl (Or.inl rfl) (qK (ok_right_tree T) (hr.mono (by decide)) rfl T.m_right_tree T.F_right_tree.kp T.b_right_tree .nil pass0 (pa_c (pv 2) (pa_c (pv 3) (pa_c (yq (pa_c (pv 12) (pa_c (pv 13) qj))) (pa_c (yq (pa_c v6 (pa_c (pv 10) qj))) qj)))) (he := qz rfl _ _) (hpl := qZ rfl)))
   (qV (ps_if (PW.pt (pw_or (jQ (yX (zq (wX) rfl T.m_isinstance boot_isinstance (pa_c (pv 14) (pa_c (vX (v := .ty "bool") rfl T.m_bool boot_bool rfl) qj)) (he := qz rfl _ _) (hpl := qZ rfl)))) (xv (zJ op_ne (pv 14) (qK (ok_law_leaf T) (hr.mono (by decide)) rfl T.m_law_leaf T.F_law_leaf.kp T.b_law_leaf .nil pass0 (pa_c (pv 2) (pa_c (pv 3) (pa_c (yq (pa_c (pv 12) (pa_c (pv 13) qj))) (pa_c (pv 5) (pa_c (pv 10) qj))))) (he := qz rfl _ _) (hpl := qZ rfl)) (zX _)))))
    (qV (zw pe_bl))
    zW)))))))))))
 have h8 : PS (Vj P w K mg base a cdv A outer s H E) (bS s_law 8) _ := (zw pe_bl)
 refine body9 (by rfl) h0 h1 h2 h3 h4 h5 h6 h7 h8 ?_
 intros
 clear h0 h1 h2 h3 h4 h5 h6 h7 h8
 refine ⟨_, rfl, sa, ns, 1, 3, rfl, hS, fun many us outs t lu lo vu H1 nok n3 l12 shr g1 ht nlu eu rU nlo eo => ?_⟩
 have hS := g1.seq hS
 clear g1 nlu nlo
 refine ⟨_, rfl, _, _, _, _, rfl, rfl, ht, rfl, _, rfl, _, _, _, _, rfl, rfl, ht, rfl, _, rfl, _, _, _, _, rfl, rfl, ht, rfl, ?_⟩
 intro xn dxn hxn hdxn nen
 have gm : Same H1 (upd (upd H1 dxn (.own xn)) xn (.ins a.c_Net dxn [])) := (qy hdxn _).trans (qy (by rw [y7 (Ne.symm nen)]; exact hxn) _)
 refine ⟨xn, dxn, lu, lo, many, vu, us, outs, rfl, qv, SqL.of (gm _ _ eu), rU.mono gm, SqL.of (gm _ _ eo), nok, fun lu2 lo2 vk H2 but _ _ hN ek eo2 rk => ⟨rfl, ?_⟩⟩
 have k : Same H1 H2 := fun b u e => but b u (zK e hxn) (gm _ _ e)
 have td : Told K H2 t lu lo vu many us outs := ⟨k.tup ht, k _ _ eu, rU.mono k, k _ _ eo⟩
 have hS := k.seq hS
 clear k gm but hxn hdxn ht eu rU eo
 have wf := nok.1
 have m1 : 1 ≤ many := nok.2.2.2.1
 refine ⟨_, rfl, _, rfl, _, _, _, _, rfl, rfl, td.1, rfl, sa, ns, 1, many, rfl, hS, by omega, fun ss vS pS H3 lss szs npS g3 eS rS => ?_⟩
 have hS := g3.seq hS
 have td := td.mono g3
 have hN := hN.mono g3
 have ek := g3 _ _ ek
 have eo2 := g3 _ _ eo2
 have rk := rk.mono g3
 clear g3 npS
 have sz : ∀ s ∈ ss, Bs 2 70 s := fun s hs => ⟨(szs s hs).2.1.mono (by decide) (by decide), (szs s hs).2.2.mono (by decide) (by decide)⟩
 intro xb dxb hxb hdxb neb
 have gm : Same H3 (upd (upd H3 dxb (.own xb)) xb (.ins a.c_Box dxb [])) := (qy hdxb _).trans (qy (by rw [y7 (Ne.symm neb)]; exact hxb) _)
 refine ⟨xb, dxb, pS, vS, ss, rfl, qv, SqL.of (gm _ _ eS), rS.mono gm, by omega, by omega, fun s hs => ⟨(szs s hs).1, (sz s hs).1.s9 (by decide) (by decide), (sz s hs).2.s9 (by decide) (by decide)⟩, fun mB vB H4 but _ hB eB rB => ⟨rfl, ?_⟩⟩
 have k : Same H3 H4 := fun b u e => but b u (zK e hxb) (gm _ _ e)
 have hS := k.seq hS
 have td := td.mono k
 have NB : Jj K a H4 xn xb many us outs ss := ⟨lu2, lo2, mB, vk, vB, hN.mono k, SqL.of (k _ _ ek), rk.mono k, SqL.of (k _ _ eo2), hB, SqL.of eB, rB⟩
 clear k gm but hxb hdxb hB eB rB hN ek eo2 rk eS rS
 have lfil : (us.filter isB).length ≤ us.length := List.length_filter_le _ _
 refine ⟨_, rfl, t, lu, lo, vu, many, us, outs, rfl, td, by omega, fun lb hlb => ?_⟩
 have lbv : (outV (bendP many us)).length = (us.filter isB).length := by unfold outV; rw [List.length_map, Yy]
 have g5 := qy hlb (.lst (outV (bendP many us)))
 have eb := qv (H := H4) (a := lb) (o := .lst (outV (bendP many us)))
 generalize upd H4 lb (.lst (outV (bendP many us))) = H5 at *
 have hS := g5.seq hS
 have td := td.mono g5
 have NB := NB.mono g5
 clear g5 hlb
 refine ⟨(show 1 ≤ sizeLine by decide), fun l0 hl0 => ?_⟩
 have g6 := qy hl0 (.lst [V.str "open"])
 have e0 := qv (H := H5) (a := l0) (o := .lst [V.str "open"])
 generalize upd H5 l0 (.lst [V.str "open"]) = H6 at *
 have eb := g6 _ _ eb
 refine ⟨_, rfl, _, _, rfl, .inl (SqL.of eb), l0, _, _, rfl, rfl, e0, by omega, by omega, ?_, fun lc hlc => ?_⟩
 ·rw [List.length_singleton]
  exact Nat.le_of_lt (zj (by omega))
 have eC : (List.replicate (((outV (bendP many us)).length : Int)).toNat [V.str "open"]).flatten = staV (opnC us) := by
  rw [Int.toNat_natCast, YV, lbv]
  unfold staV opnC
  rw [List.map_replicate]
  rfl
 rw [eC]
 clear eC
 have g7 := qy hlc (.lst (staV (opnC us)))
 have ec := qv (H := H6) (a := lc) (o := .lst (staV (opnC us)))
 generalize upd H6 lc (.lst (staV (opnC us))) = H7 at *
 have g67 := g6.trans g7
 have hS := g67.seq hS
 have td := td.mono g67
 have NB := NB.mono g67
 have eb := g7 _ _ eb
 clear g6 g7 g67 hl0 hlc e0
 have NC : NetC many us (opnC us) := ⟨wf, by omega, shr, by omega, by unfold opnC; rw [List.length_replicate]⟩
 refine ⟨_, rfl, _, rfl, _, rfl, xn, xb, lc, many, us, outs, ss, opnC us, rfl, ⟨NB, SqL.of ec, NC, lss, sz⟩, fun lr H8 vr nlr g8 er rr => ?_⟩
 have hS := g8.seq hS
 have td := td.mono g8
 have NB := NB.mono g8
 have eb := g8 _ _ eb
 have ec := g8 _ _ ec
 clear g8 nlr
 obtain ⟨f1, f2, f14, f4, f5⟩ := JW NC lss sz
 have rz := rows_rz (cs := opnC us) NC.1 f1 f2 f14 f4
 have few := rowsC_few (fs := (runF many (many + opens (opnC us)) (opnC us) us).1) (sp := spanN ss us) NC
 have rr := rb_row rr
 have rr : RowL K H8 vr (rowsN many us (opnC us) (runF many (many + opens (opnC us)) (opnC us) us).1 (spanN ss us)) := rr
 have lrows := rr.length
 have pos : 1 ≤ (rowsN many us (opnC us) (runF many (many + opens (opnC us)) (opnC us) us).1 (spanN ss us)).length := by
  unfold rowsN
  rw [List.length_append, Z8]
  omega
 generalize rowsN many us (opnC us) (runF many (many + opens (opnC us)) (opnC us) us).1 (spanN ss us) = rows at *
 have en : many + opens (opnC us) = many + (us.filter isB).length := by rw [opens_opn]
 refine ⟨_, rfl, sa, ns, 0, rfl, hS, fun c => ⟨_, _, rfl, fun ld l0 l1 => ?_⟩⟩
 refine ⟨(4 : Int), rfl, by decide, by decide, vy (n := 4) (fun i σ H' => Same H8 H' ∧ ∃ u8 u9 u10 u11 u12 u13 u14 : Option V, σ = [some (.ref sa), some (.ref t), some (.ref xn), some (.ref xb), some (.ref lb), some (.ref lc), some (.ref lr), some (.int ld), u8, u9, u10, u11, u12, u13, u14]) ⟨Same.refl _, _, _, _, _, _, _, _, rfl⟩ ?_ ?_ ?_⟩
 case refine_1 =>
  rintro σ H' ⟨g, u8, u9, u10, u11, u12, u13, u14, rfl⟩
  exact ⟨Nat.le_refl _, q _⟩
 case refine_2 =>
  rintro i σ H' hi _
  exact hi
 rintro i0 σ H0 x H9 hi0 ⟨g9, u8, u9, u10, u11, u12, u13, u14, rfl⟩ ⟨rfl, rfl⟩
 have td := td.mono g9
 have NB := NB.mono g9
 have eb := g9 _ _ eb
 have ec := g9 _ _ ec
 have er := g9 _ _ er
 have rr := rr.mono g9
 refine ⟨_, rfl, _, rfl, _, _, rfl, rfl, _, _, rfl, fun m m0 m1' => ?_⟩
 refine ⟨_, rfl, _, _, rfl, .inl (SqL.of er), (rows.length : Int), congrArg (fun z => [V.int z]) (show (vr.length : Int) = (rows.length : Int) by omega), by omega, by omega, jq (n := rows.length) (fun i ys H' => Same H9 H' ∧ ∃ ps : List Rat, ps.length = i ∧ RL K H' ys ps ∧ ∀ q ∈ ps, Bq 1 40 q) ⟨Same.refl _, ([] : List Rat), rfl, .nil, fun q hq => nomatch hq⟩ (zj (by omega)) ?_ ?_ ?_⟩
 case refine_2 =>
  rintro i ys H' hi _
  show i < (rows.length : Int).toNat
  omega
 case refine_3 =>
  rintro i m' ys H' cc x H2 hi ⟨g, ps, lps, rp, zp⟩ ⟨rfl, rfl⟩ nx _
  refine Or.inl ⟨rfl, _, rfl, _, rfl, _, _, rfl, fun y y0 y1 => ⟨_, rfl, fun qq bq p H3 g3 e3 => nx _ _ ⟨g.trans g3, ps ++ [qq], by rw [List.length_append, lps]; rfl, (rp.mono g3).snoc ⟨p, rfl, SqT.of e3⟩, fun q' hq' => ?_⟩⟩⟩
  rcases List.mem_append.mp hq' with z | z
  ·exact zp q' z
  ·rw [List.mem_singleton.mp z]; exact bq
 rintro vp H1' ⟨g10, ps, lps, rp, zp⟩
 refine ⟨by show (rows.length : Int).toNat ≤ _; omega, fun lp hlp => ?_⟩
 have f := qy hlp (.lst vp)
 have ep := qv (H := H1') (a := lp) (o := .lst vp)
 have rp := rp.mono f
 have gC := g10.trans f
 generalize upd H1' lp (.lst vp) = HB at *
 have td := td.mono gC
 have NB := NB.mono gC
 have eb := gC _ _ eb
 have ec := gC _ _ ec
 have er := gC _ _ er
 have rr := rr.mono gC
 have g9 := g9.trans gC
 clear f hlp gC g10
 refine ⟨_, rfl, _, rfl, _, rfl, _, _, _, _, rfl, rfl, td.1, rfl, _, rfl, _, _, rfl, .inl (SqL.of eb), _, _, rfl, rfl, ?_⟩
 dsimp only
 rw [show (many : Int) + ((outV (bendP many us)).length : Int) = ((many + opens (opnC us) : Nat) : Int) by omega]
 refine ⟨lr, lp, _, vr, vp, rows, ps, rfl, SqL.of er, SqL.of ep, rr, rp, lps.symm, by omega, by omega, rz, zp, fun lm HC vm nlm gC em rm => ?_⟩
 have td := td.mono gC
 have NB := NB.mono gC
 have eb := gC _ _ eb
 have ec := gC _ _ ec
 have er := gC _ _ er
 have rr := rr.mono gC
 have ep := gC _ _ ep
 have rp := rp.mono gC
 have g9 := g9.trans gC
 clear gC nlm
 have lM : (mixQ rows ps (List.replicate (many + opens (opnC us) + 1) 0)).length = many + opens (opnC us) + 1 := JQ _ _ _ _ (by rw [List.length_replicate]) fun r hr' => (rz r hr').1
 have bM : ∀ x ∈ mixQ rows ps (List.replicate (many + opens (opnC us) + 1) 0), Bq 29 2165 x := fun x hx =>
  (bq_mix (b := 2100) rz zp (fun x hx => by rw [List.eq_of_mem_replicate hx]; exact Bq.zero _ _) (Nat.le_refl _) x hx).mono (Nat.le_refl _) (by omega)
 generalize mixQ rows ps (List.replicate (many + opens (opnC us) + 1) 0) = M at *
 have lvm : vm.length = many + opens (opnC us) + 1 := (RL.length rm).trans lM
 refine ⟨_, rfl, _, _, _, _, rfl, rfl, td.1, rfl, many, rfl, fun pr hpr => ⟨pr, many, rfl, qv, by omega, fun ll hll => ?_⟩⟩
 have f := (qy hpr (.ext (RngAt pr many))).trans (qy hll (.lst ((List.range many).map fun k : Nat => V.int (k : Int))))
 have ell := qv (H := upd HC pr (.ext (RngAt pr many))) (a := ll) (o := .lst ((List.range many).map fun k : Nat => V.int (k : Int)))
 generalize upd (upd HC pr (.ext (RngAt pr many))) ll (.lst ((List.range many).map fun k : Nat => V.int (k : Int))) = HD at *
 have eb := f _ _ eb
 have gD := f
 clear f hpr hll
 refine ⟨_, rfl, ll, lb, _, _, rfl, rfl, ell, eb, Nat.le_of_lt (zj (by rw [List.length_map, List.length_range]; omega)), fun l2 h2 => ?_⟩
 have ePl : ((List.range many).map fun k : Nat => V.int (k : Int)) ++ outV (bendP many us) = outV (List.range many ++ bendP many us) := by
  unfold outV
  rw [List.map_append]
 rw [ePl]
 clear ePl
 have f := qy h2 (.lst (outV (List.range many ++ bendP many us)))
 have e2 := qv (H := HD) (a := l2) (o := .lst (outV (List.range many ++ bendP many us)))
 generalize upd HD l2 (.lst (outV (List.range many ++ bendP many us))) = HE at *
 have gD := gD.trans f
 clear f h2
 have lPl : (List.range many ++ bendP many us).length = many + opens (opnC us) := by rw [List.length_append, List.length_range, Yy, opens_opn]
 have cPl := places_cp wf shr
 generalize List.range many ++ bendP many us = Pl at *
 have td := td.mono gD
 have NB := NB.mono gD
 have ec := gD _ _ ec
 have er := gD _ _ er
 have rr := rr.mono gD
 have ep := gD _ _ ep
 have rp := rp.mono gD
 have em := gD _ _ em
 have rm := rm.mono gD
 have eb := gD _ _ (show HC lb = some (.lst (outV (bendP many us))) by assumption)
 have g9 := g9.trans gD
 clear gD
 have loV : (outV Pl).length = Pl.length := by unfold outV; rw [List.length_map]
 have lzp : (Pl.zip M).length = many + opens (opnC us) := by rw [List.length_zip]; omega
 refine ⟨_, rfl, l2, lm, rfl, ⟨_, SqL.of e2⟩, ⟨_, SqL.of em⟩, jq (n := many + opens (opnC us)) (fun i ys H' => Same HE H' ∧ TL K H' ys ((Pl.zip M).take i)) ⟨Same.refl _, .nil⟩ (zj (by omega)) ?_ ?_ ?_⟩
 case refine_2 =>
  rintro i ys H' hi ⟨g, _⟩
  exact ⟨_, _, _, _, SqL.of (g _ _ e2), SqL.of (g _ _ em), gE9 (by omega), gE9 (by omega)⟩
 case refine_3 =>
  rintro i m' ys H' cc x H2 hi ⟨g, r⟩ ⟨p, x1, x2, hp, rfl, rfl, y1, y2⟩ nx _
  have y1 := y1 _ (SqL.of (g _ _ e2))
  obtain ⟨qa, ea, pa, rfl, ha⟩ := rm.get (y2 _ (SqL.of (g _ _ em)))
  have e1 : Pl[i]? = some Pl[i] := gE9 (by omega)
  unfold outV at y1
  rw [List.getElem?_map, e1] at y1
  have y1 := Option.some.inj y1
  subst y1
  have f1 := qy hp (.tup [.int (Pl[i] : Int), .ref pa])
  have ez : (Pl.zip M)[i]? = some (Pl[i], qa) := by rw [List.getElem?_zip_eq_some]; exact ⟨e1, ea⟩
  refine ⟨p, _, rfl, SqT.of qv, rfl, _, _, rfl, _, _, rfl, rfl, Or.inl ⟨rfl, _, rfl, _, rfl, y9, fun t2 ht2 => nx _ _ ?_⟩⟩
  have f2 := qy ht2 (.tup [.int (Pl[i] : Int), .ref pa])
  have f12 := f1.trans f2
  refine ⟨g.trans f12, ?_⟩
  rw [zY ez]
  exact Paired.snoc (TL.mono r f12) ⟨t2, pa, rfl, SqT.of qv, (g.trans f12).tup ha⟩
 rintro vt HF ⟨gF, rt⟩
 refine ⟨⟨_, _, SqL.of (gF _ _ e2), SqL.of (gF _ _ em), .inl (by omega)⟩, fun pt hpt => ?_⟩
 rw [List.take_of_length_le (by omega)] at rt
 have f := qy hpt (.lst vt)
 have et := qv (H := HF) (a := pt) (o := .lst vt)
 have rt := TL.mono rt f
 have gF := gF.trans f
 generalize upd HF pt (.lst vt) = HG at *
 clear f hpt
 have ctz : ∀ x ∈ Pl.zip M, CP44 many us x.1 ∧ Bq 29 2165 x.2 := fun x hx => ⟨cPl x.1 (List.of_mem_zip hx).1, bM x.2 (List.of_mem_zip hx).2⟩
 generalize Pl.zip M = ts at *
 clear cPl loV e2 lPl
 have td := td.mono gF
 have NB := NB.mono gF
 have ec := gF _ _ ec
 have er := gF _ _ er
 have rr := rr.mono gF
 have ep := gF _ _ ep
 have rp := rp.mono gF
 have em := gF _ _ em
 have rm := rm.mono gF
 have eb := gF _ _ eb
 have g9 := g9.trans gF
 clear gF
 obtain ⟨vb, hvb⟩ : ∃ v, vm[many + opens (opnC us)]? = some v := ⟨_, gE9 (by omega)⟩
 obtain ⟨bd, ebd, pm, rfl, hpm⟩ := rm.get hvb
 have aL : atI vm (-1) = some (.ref pm) := at_end lvm hvb
 have bbd := bM bd (List.mem_of_getElem? ebd)
 clear bM
 refine ⟨_, rfl, _, rfl, lm, _, _, _, rfl, rfl, SqL.of em, aL, y9, fun s0 k0 => ?_⟩
 have gB := qy k0 (.tup (T2 0 1))
 have es0 := qv (H := HG) (a := s0) (o := .tup (T2 0 1))
 generalize upd HG s0 (.tup (T2 0 1)) = W1 at *
 clear k0
 refine ⟨y9, fun s1 k1 => ?_⟩
 have f := qy k1 (.tup (T2 0 1))
 have es1 := qv (H := W1) (a := s1) (o := .tup (T2 0 1))
 have es0 := f _ _ es0
 have gB := gB.trans f
 generalize upd W1 s1 (.tup (T2 0 1)) = W2 at *
 clear f k1
 refine ⟨y9, fun s2 k2 => ?_⟩
 have f := qy k2 (.tup (T2 1 3))
 have es2 := qv (H := W2) (a := s2) (o := .tup (T2 1 3))
 have es0 := f _ _ es0
 have es1 := f _ _ es1
 have gB := gB.trans f
 generalize upd W2 s2 (.tup (T2 1 3)) = W3 at *
 clear f k2
 refine ⟨(show 3 ≤ sizeLine by decide), fun lO k3 => ?_⟩
 have f := qy k3 (.lst [.ref s0, .ref s1, .ref s2])
 have eO := qv (H := W3) (a := lO) (o := .lst [.ref s0, .ref s1, .ref s2])
 have es0 := f _ _ es0
 have es1 := f _ _ es1
 have es2 := f _ _ es2
 have gB := gB.trans f
 generalize upd W3 lO (.lst [.ref s0, .ref s1, .ref s2]) = W4 at *
 clear f k3
 have hat : ∃ p' v, atI [V.ref s0, V.ref s1, V.ref s2] (m % 3) = some (.ref p') ∧ SqT K W4 p' (TQ v) ∧ Bq 1 40 v := by
  have c1 := Int.emod_nonneg m (show (3 : Int) ≠ 0 by decide)
  have c2 := Int.emod_lt_of_pos m (show (0 : Int) < 3 by decide)
  have cc : m % 3 = 0 ∨ m % 3 = 1 ∨ m % 3 = 2 := by omega
  rcases cc with cc | cc | cc <;> rw [cc]
  ·exact ⟨s0, 0, rfl, SqT.of es0, Bq.zero _ _⟩
  ·exact ⟨s1, 0, rfl, SqT.of es1, Bq.zero _ _⟩
  ·have kr := n_rat (t := 1) (b := 3) (by decide)
   refine ⟨s2, Rat.divInt 1 3, rfl, ?_, small_part (by decide) (by decide) (.inr (.inr (.inl rfl)))⟩
   have e : T2 (nt 1 3) (nb 1 3) = T2 1 3 := rfl
   unfold TQ
   rw [← kr.1, ← kr.2, e]
   exact SqT.of es2
 obtain ⟨p', vv, ha, hv, bv⟩ := hat
 refine ⟨_, rfl, _, _, rfl, rfl, (by show (0 : Int) < 3; decide), lO, _, _, _, rfl, rfl, SqL.of eO, ha, ?_⟩
 refine ⟨pm, p', bd, vv, rfl, gB.tup hpm, hv, bbd.s4r (by decide) (by decide), bv.sm.mono (by decide), fun pbb W5 g5 e5 => ?_⟩
 have bbb : Bq 29 2210 (bd + vv) := (bbd.add (bv.mono (by decide) (by decide))).mono (Nat.le_refl _) (by decide)
 have e5 : W5 pbb = some (.tup (TQ (bd + vv))) := e5
 generalize bd + vv = bound at *
 have gB := gB.trans g5
 have td := td.mono gB
 have NB := NB.mono gB
 have ec := gB _ _ ec
 have er := gB _ _ er
 have rr := rr.mono gB
 have ep := gB _ _ ep
 have rp := rp.mono gB
 have eb := gB _ _ eb
 have et := gB _ _ et
 have rt := TL.mono rt gB
 have hbd : SqT K W5 pbb (TQ bound) := SqT.of e5
 have g9 := g9.trans gB
 clear gB g5 es0 es1 es2 eO ha hv bv em rm hpm aL ebd hvb bbd e5
 delta gName
 dsimp only
 change tSeq _ _ _ [some (.ref sa), some (.ref t), some (.ref xn), some (.ref xb), some (.ref lb), some (.ref lc), some (.ref lr), some (.int ld), some (.int (0 + (i0 : Int))), some (.int m), some (.ref lp), some (.ref lm), some (.ref pt), some (.ref pbb), u14] W5
 refine seq_cut fun N hN => ?_
 have tail : ∀ (pt' : Addr) (vt' : List V) (ts' : List (Nat × Rat)) (G : Hp), Same W5 G → G pt' = some (.lst vt') → TL K G vt' ts' → (∀ x ∈ ts', CP44 many us x.1 ∧ Bq 29 2165 x.2) → ts'.length ≤ 40 → N [some (.ref sa), some (.ref t), some (.ref xn), some (.ref xb), some (.ref lb), some (.ref lc), some (.ref lr), some (.int ld), some (.int (0 + (i0 : Int))), some (.int m), some (.ref lp), some (.ref lm), some (.ref pt'), some (.ref pbb), u14] G := by
  subst hN
  clear et rt ctz
  intro pt' vt' ts' G gG et rt ct l40
  have NB := NB.mono gG
  have ec := gG _ _ ec
  have ep := gG _ _ ep
  have rp := rp.mono gG
  have hbd := gG.tup hbd
  have g9 := g9.trans gG
  clear gG
  refine ⟨_, rfl, _, _, rfl, rfl, cdivB (n := 10) (by decide) (by unfold Sm; decide), _, rfl, _, rfl, _, rfl, _, pt', pbb, lp, vt', vp, ts', bound, ps, CP44 many us, rfl, et, rt, ct, l40, hbd, bbb, ep, rp, zp, by omega, by omega, fun tS pt2 pb2 vt2 ts2 bd2 v o G2 gS hS2 hpt2 rt2 ct2 l60 hb2 bb2 pr => ?_⟩
  have NB := NB.mono gS
  have ec := gS _ _ ec
  have g9 := g9.trans gS
  refine ⟨tS, _, rfl, hS2, rfl, _, _, rfl, _, _, rfl, _, _, rfl, rfl, ?_⟩
  refine ⟨_, rfl, _, rfl, _, rfl, _, rfl, y9, fun say ksay => ?_⟩
  have f := qy ksay (.tup [.ref pt2, .ref pb2])
  have esay := qv (H := G2) (a := say) (o := .tup [.ref pt2, .ref pb2])
  generalize upd G2 say (.tup [.ref pt2, .ref pb2]) = G3 at *
  refine ⟨_, rfl, y9, fun tr ktr => ?_⟩
  have f2 := qy ktr (.tup [.str "leaf", v])
  have etr := qv (H := G3) (a := tr) (o := .tup [.str "leaf", v])
  have esay := f2 _ _ esay
  generalize upd G3 tr (.tup [.str "leaf", v]) = G4 at *
  have gT := f.trans f2
  have tw : ∀ x ∈ ts2, TermW (many + opens (opnC us)) (runF many (many + opens (opnC us)) (opnC us) us).1 x := fun x hx => ⟨(ct2 x hx).1.1, (ct2 x hx).1.2, (ct2 x hx).2⟩
  have sayF : ∀ {Z : Hp}, Same G2 Z → SqL K Z pt2 vt2 ∧ TL K Z vt2 ts2 ∧ SqT K Z pb2 (TQ bd2) := fun gz => ⟨gz.seq hpt2, TL.mono rt2 gz, gz.tup hb2⟩
  refine ⟨xn, xb, say, tr, v, many, us, outs, ss, ts2, bd2, o, rfl, ⟨NB.mono gT, SqT.of etr, ⟨pt2, pb2, vt2, SqT.of esay, (sayF gT).1, (sayF gT).2.1, (sayF gT).2.2⟩, pr.mono gT, NC, lss, sz, tw, l60, bb2⟩, fun G5 gU => ?_⟩
  have gV := gT.trans gU
  refine ⟨_, rfl, _, _, _, rfl, IsI.blBool _, _, rfl, iteF ?_⟩
  refine ⟨_, rfl, _, rfl, _, rfl, _, rfl, _, rfl, y9, fun say2 ksay2 => ?_⟩
  have f3 := qy ksay2 (.tup [.ref pt2, .ref pb2])
  have es3 := qv (H := G5) (a := say2) (o := .tup [.ref pt2, .ref pb2])
  generalize upd G5 say2 (.tup [.ref pt2, .ref pb2]) = G6 at *
  have gW := gV.trans f3
  refine ⟨_, rfl, _, rfl, xn, xb, say2, lc, v, many, us, outs, ss, opnC us, ts2, bd2, o, rfl, ⟨NB.mono gW, SqL.of (gW _ _ ec), ⟨pt2, pb2, vt2, SqT.of es3, (sayF gW).1, (sayF gW).2.1, (sayF gW).2.2⟩, pr.mono gW, NC, lss, sz, tw, l60, bb2⟩, fun G7 gX => ?_⟩
  exact ⟨rfl, _, rfl, iteNS rfl ⟨g9.trans (gW.trans gX), _, _, _, _, _, _, _, rfl⟩⟩
 clear hN
 refine ⟨_, rfl, _, _, rfl, rfl, cdivB (n := 10) (by decide) (by unfold Sm; decide), _, _, rfl, rfl, (by show (0 : Int) < 4; decide), rfl, _, rfl, iteD (fun c1 => ?_) (fun c1 => tail pt vt ts W5 (Same.refl _) et rt ctz (by omega))⟩
 refine ⟨(show 0 ≤ sizeLine by decide), fun le ke => ?_⟩
 exact tail le [] [] _ (qy ke _) qv .nil (fun x hx => nomatch hx) (by decide)
end
theorem all_mk {l : PySem.W.OpenLaw} {w : World} {K : Fg9} {h : Heap} {mg : Str → Option Value} {fa : Addr} (X : K.In h) (G : h.Ns mainGlobals mg) (hfa : mg "law" = some (.ref fa)) (pins : Pins K) :
  ∃ fd : FuncData, (∀ (s : Shared) (v : Value), BindsTo s fd ⟨[v], []⟩ [("_law_script", v)]) ∧ ∀ base : Heap, K.In base → base.Ns mainGlobals mg → FnOk l.prog w K mg base CX0 11 fa fd ["_law_script"] (spLaw K) := by
 refine pins _ ?_
 intro CC_Box CC_Net f0 od0 an0 sl0 oc0 kV0 dc0 pm0 cd0 ct0 f1 od1 an1 sl1 oc1 kV1 dc1 pm1 cd1 ct1 f2 od2 an2 sl2 oc2 kV2 dc2 pm2 cd2 ct2 f3 od3 an3 sl3 oc3 kV3 dc3 pm3 cd3 ct3 f4 od4 an4 sl4 oc4 kV4 dc4 pm4 cd4 ct4 f5 od5 an5 sl5 oc5 kV5 dc5 pm5 cd5 ct5 f6 od6 an6 sl6 oc6 kV6 dc6 pm6 cd6 ct6 f7 od7 an7 sl7 oc7 kV7 dc7 pm7 cd7 ct7 f8 od8 an8 sl8 oc8 kV8 dc8 pm8 cd8 ct8 f9 od9 an9 sl9 oc9 kV9 dc9 pm9 cd9 ct9 f10 od10 an10 sl10 oc10 kV10 dc10 pm10 cd10 ct10 f11 od11 an11 sl11 oc11 kV11 dc11 pm11 cd11 ct11 f12 od12 an12 sl12 oc12 kV12 dc12 pm12 cd12 ct12 f13 od13 an13 sl13 oc13 kV13 dc13 pm13 cd13 ct13 f14 od14 an14 sl14 oc14 kV14 dc14 pm14 cd14 ct14 f15 od15 an15 sl15 oc15 kV15 dc15 pm15 cd15 ct15 f16 od16 an16 sl16 oc16 kV16 dc16 pm16 cd16 ct16 f17 od17 an17 sl17 oc17 kV17 dc17 pm17 cd17 ct17 f18 od18 an18 sl18 oc18 kV18 dc18 pm18 cd18 ct18 f19 od19 an19 sl19 oc19 kV19 dc19 pm19 cd19 ct19 f20 od20 an20 sl20 oc20 kV20 dc20 pm20 cd20 ct20 f21 od21 an21 sl21 oc21 kV21 dc21 pm21 cd21 ct21 f22 od22 an22 sl22 oc22 kV22 dc22 pm22 cd22 ct22 f23 od23 an23 sl23 oc23 kV23 dc23 pm23 cd23 ct23 f24 od24 an24 sl24 oc24 kV24 dc24 pm24 cd24 ct24 f25 od25 an25 sl25 oc25 kV25 dc25 pm25 cd25 ct25 f26 od26 an26 sl26 oc26 kV26 dc26 pm26 cd26 ct26 f27 od27 an27 sl27 oc27 kV27 dc27 pm27 cd27 ct27 f28 od28 an28 sl28 oc28 kV28 dc28 pm28 cd28 ct28 f29 od29 an29 sl29 oc29 kV29 dc29 pm29 cd29 ct29 f30 od30 an30 sl30 oc30 kV30 dc30 pm30 cd30 ct30 f31 od31 an31 sl31 oc31 kV31 dc31 pm31 cd31 ct31 f32 od32 an32 sl32 oc32 kV32 dc32 pm32 cd32 ct32 f33 od33 an33 sl33 oc33 kV33 dc33 pm33 cd33 ct33 f34 od34 an34 sl34 oc34 kV34 dc34 pm34 cd34 ct34 f35 od35 an35 sl35 oc35 kV35 dc35 pm35 cd35 ct35 f36 od36 an36 sl36 oc36 kV36 dc36 pm36 cd36 ct36 f37 od37 an37 sl37 oc37 kV37 dc37 pm37 cd37 ct37 f38 od38 an38 sl38 oc38 kV38 dc38 pm38 cd38 ct38 f39 od39 an39 sl39 oc39 kV39 dc39 pm39 cd39 ct39 f40 od40 an40 sl40 oc40 kV40 dc40 pm40 cd40 ct40 f41 od41 an41 sl41 oc41 kV41 dc41 pm41 cd41 ct41 f42 od42 an42 sl42 oc42 kV42 dc42 pm42 cd42 ct42 f43 od43 an43 sl43 oc43 kV43 dc43 pm43 cd43 ct43 f44 od44 an44 sl44 oc44 kV44 dc44 pm44 cd44 ct44 f45 od45 an45 sl45 oc45 kV45 dc45 pm45 cd45 ct45 f46 od46 an46 sl46 oc46 kV46 dc46 pm46 cd46 ct46 f47 od47 an47 sl47 oc47 kV47 dc47 pm47 cd47 ct47 f48 od48 an48 sl48 oc48 kV48 dc48 pm48 cd48 ct48 f49 od49 an49 sl49 oc49 kV49 dc49 pm49 cd49 ct49 f50 od50 an50 sl50 oc50 kV50 dc50 pm50 cd50 ct50 f51 od51 an51 sl51 oc51 kV51 dc51 pm51 cd51 ct51 f52 od52 an52 sl52 oc52 kV52 dc52 pm52 cd52 ct52 f53 od53 an53 sl53 oc53 kV53 dc53 pm53 cd53 ct53 f54 od54 an54 sl54 oc54 kV54 dc54 pm54 cd54 ct54 f55 od55 an55 sl55 oc55 kV55 dc55 pm55 cd55 ct55 f56 od56 an56 sl56 oc56 kV56 dc56 pm56 cd56 ct56 f57 od57 an57 sl57 oc57 kV57 dc57 pm57 cd57 ct57 f58 od58 an58 sl58 oc58 kV58 dc58 pm58 cd58 ct58 f59 od59 an59 sl59 oc59 kV59 dc59 pm59 cd59 ct59 f60 od60 an60 sl60 oc60 kV60 dc60 pm60 cd60 ct60 f61 od61 an61 sl61 oc61 kV61 dc61 pm61 cd61 ct61 f62 od62 an62 sl62 oc62 kV62 dc62 pm62 cd62 ct62 f63 od63 an63 sl63 oc63 kV63 dc63 pm63 cd63 ct63 f64 od64 an64 sl64 oc64 kV64 dc64 pm64 cd64 ct64 f65 od65 an65 sl65 oc65 kV65 dc65 pm65 cd65 ct65 f66 od66 an66 sl66 oc66 kV66 dc66 pm66 cd66 ct66 f67 od67 an67 sl67 oc67 kV67 dc67 pm67 cd67 ct67 f68 od68 an68 sl68 oc68 kV68 dc68 pm68 cd68 ct68 f69 od69 an69 sl69 oc69 kV69 dc69 pm69 cd69 ct69 f70 od70 an70 sl70 oc70 kV70 dc70 pm70 cd70 ct70 f71 od71 an71 sl71 oc71 kV71 dc71 pm71 cd71 ct71 tk_MOST_BENDS tk_MOST_UNITS tk_MOST_OUTS tk_MOST_INS tk_MOST_SIDES gg_MINUS_ONE go_MINUS_ONE gn_MINUS_ONE gs_MINUS_ONE gt0_MINUS_ONE gt1_MINUS_ONE gg_NOUGHT go_NOUGHT gn_NOUGHT gs_NOUGHT gt0_NOUGHT gt1_NOUGHT gg_ONE go_ONE gn_ONE gs_ONE gt0_ONE gt1_ONE a0 l0 c0 k0 a1 l1 c1 k1 a2 l2 c2 k2 a3 l3 c3 k3 a4 l4 c4 k4 a5 l5 c5 k5 a6 l6 c6 k6 a7 l7 c7 k7 a8 l8 c8 k8 a9 l9 c9 k9 a10 l10 c10 k10 a11 l11 c11 k11 a12 l12 c12 k12 a13 l13 c13 k13 a14 l14 c14 k14 a15 l15 c15 k15 a16 l16 c16 k16 a17 l17 c17 k17 a18 l18 c18 k18 a19 i19 l19 c19 k19 a20 l20 c20 k20 a21 l21 c21 k21 a22 i22 l22 c22 k22 a23 l23 c23 k23 a24 l24 c24 k24 a25 i25 l25 c25 k25 a26 l26 c26 k26 a27 i27 l27 c27 k27 a28 l28 c28 k28 a29 l29 c29 k29 a30 l30 c30 k30 a31 l31 c31 k31 a32 l32 c32 k32 a33 l33 c33 k33 a34 l34 c34 k34 a35 l35 c35 k35 a36 l36 c36 k36 a37 l37 c37 k37 a38 l38 c38 k38 a39 l39 c39 k39 a40 l40 c40 k40 a41 l41 c41 k41 a42 l42 c42 k42 a43 l43 c43 k43 a44 l44 c44 k44 a45 l45 c45 k45 a46 i46 l46 c46 k46 a47 l47 c47 k47 a48 l48 c48 k48 a49 l49 c49 k49 a50 l50 c50 k50 a51 l51 c51 k51 a52 l52 c52 k52 a53 l53 c53 k53 a54 l54 c54 k54 a55 l55 c55 k55 a56 l56 c56 k56 a57 l57 c57 k57 a58 l58 c58 k58 a59 l59 c59 k59 a60 l60 c60 k60 a61 l61 c61 k61 a62 l62 c62 k62 a63 l63 c63 k63 a64 l64 c64 k64 a65 l65 c65 k65 a66 l66 c66 k66 a67 l67 c67 k67 a68 l68 c68 k68 a69 l69 c69 k69 a70 l70 c70 k70 a71 l71 c71 k71 z0 z1 z2 z3 z4 z5 z6 z7 z8 z9 z10 z11 z12 z13 z14 z15 gBox pgBox hdBox poBox saBox mkBox kcBox naBox_sides gNet pgNet hdNet poNet saNet mkNet kcNet naNet_many naNet_units naNet_outs qMOST_BENDS qMOST_UNITS qMOST_OUTS qMOST_INS qMOST_SIDES qMINUS_ONE qlMINUS_ONE qNOUGHT qlNOUGHT qONE qlONE
 have e := hfa.symm.trans (PySem.W.mg_of X G a71)
 cases e
 have F0 := zV (st := x9) l0 c0 k0
 have b0 := F0.binds (ps := ["_law_script", "_law_k"]) fun _ _ _ _ _ _ us hl => match us, hl with | [_, _], _ => rfl
 have F1 := zV (st := QJ) l1 c1 k1
 have b1 := F1.binds (ps := ["_law_cell", "_law_k"]) fun _ _ _ _ _ _ us hl => match us, hl with | [_, _], _ => rfl
 have F2 := zV (st := Zq) l2 c2 k2
 have b2 := F2.binds (ps := ["_law_number", "_law_k"]) fun _ _ _ _ _ _ us hl => match us, hl with | [_, _], _ => rfl
 have F3 := zV (st := jz) l3 c3 k3
 have b3 := F3.binds (ps := ["_law_script", "_law_start", "_law_many_here"]) fun _ _ _ _ _ _ us hl => match us, hl with | [_, _, _], _ => rfl
 have F4 := zV (st := Zz) l4 c4 k4
 have b4 := F4.binds (ps := ["_law_top", "_law_bottom"]) fun _ _ _ _ _ _ us hl => match us, hl with | [_, _], _ => rfl
 have F5 := zV (st := v9) l5 c5 k5
 have b5 := F5.binds (ps := ["_law_number", "_law_great"]) fun _ _ _ _ _ _ us hl => match us, hl with | [_, _], _ => rfl
 have F6 := zV (st := QQ) l6 c6 k6
 have b6 := F6.binds (ps := ["_law_number", "_law_great"]) fun _ _ _ _ _ _ us hl => match us, hl with | [_, _], _ => rfl
 have F7 := zV (st := jX) l7 c7 k7
 have b7 := F7.binds (ps := ["_law_number", "_law_places", "_law_bent", "_law_great"]) fun _ _ _ _ _ _ us hl => match us, hl with | [_, _, _, _], _ => rfl
 have F8 := zV (st := yV) l8 c8 k8
 have b8 := F8.binds (ps := ["_law_script", "_law_start", "_law_most_bends"]) fun _ _ _ _ _ _ us hl => match us, hl with | [_, _, _], _ => rfl
 have F9 := zV (st := Jy) l9 c9 k9
 have b9 := F9.binds (ps := ["one", "other"]) fun _ _ _ _ _ _ us hl => match us, hl with | [_, _], _ => rfl
 have F10 := zV (st := Zx) l10 c10 k10
 have b10 := F10.binds (ps := ["thing"]) fun _ _ _ _ _ _ us hl => match us, hl with | [_], _ => rfl
 have F11 := zV (st := Zk) l11 c11 k11
 have b11 := F11.binds (ps := ["thing"]) fun _ _ _ _ _ _ us hl => match us, hl with | [_], _ => rfl
 have F12 := zV (st := wQ) l12 c12 k12
 have b12 := F12.binds (ps := ["place", "end"]) fun _ _ _ _ _ _ us hl => match us, hl with | [_, _], _ => rfl
 have F13 := zV (st := s_plain) l13 c13 k13
 have b13 := F13.binds (ps := ["one"]) fun _ _ _ _ _ _ us hl => match us, hl with | [_], _ => rfl
 have F14 := zV (st := kq) l14 c14 k14
 have b14 := F14.binds (ps := ["term", "end"]) fun _ _ _ _ _ _ us hl => match us, hl with | [_, _], _ => rfl
 have F15 := zV (st := j8) l15 c15 k15
 have b15 := F15.binds (ps := ["constant", "terms", "end"]) fun _ _ _ _ _ _ us hl => match us, hl with | [_, _, _], _ => rfl
 have F16 := zV (st := j3) l16 c16 k16
 have b16 := F16.binds (ps := ["unit", "end"]) fun _ _ _ _ _ _ us hl => match us, hl with | [_, _], _ => rfl
 have F17 := zV (st := yJ) l17 c17 k17
 have b17 := F17.binds (ps := ["units", "many"]) fun _ _ _ _ _ _ us hl => match us, hl with | [_, _], _ => rfl
 have F18 := zV (st := kz) l18 c18 k18
 have b18 := F18.binds (ps := ["outs", "end"]) fun _ _ _ _ _ _ us hl => match us, hl with | [_, _], _ => rfl
 have F19 := zV (st := wk) l19 c19 k19
 have b19 := F19.binds (ps := ["self", "many", "units", "outs"]) fun _ _ _ _ _ _ us hl => match us, hl with | [_, _, _, _], _ => rfl
 have F20 := zV (st := s_less) l20 c20 k20
 have b20 := F20.binds (ps := ["one", "other"]) fun _ _ _ _ _ _ us hl => match us, hl with | [_, _], _ => rfl
 have F21 := zV (st := j6) l21 c21 k21
 have b21 := F21.binds (ps := ["side"]) fun _ _ _ _ _ _ us hl => match us, hl with | [_], _ => rfl
 have F22 := zV (st := ZQ) l22 c22 k22
 have b22 := F22.binds (ps := ["self", "sides"]) fun _ _ _ _ _ _ us hl => match us, hl with | [_, _], _ => rfl
 have F23 := zV (st := QX) l23 c23 k23
 have b23 := F23.binds (ps := ["_law_net_here"]) fun _ _ _ _ _ _ us hl => match us, hl with | [_], _ => rfl
 have F24 := zV (st := Qx) l24 c24 k24
 have b24 := F24.binds (ps := ["unit"]) fun _ _ _ _ _ _ us hl => match us, hl with | [_], _ => rfl
 have F25 := zV (st := Zw) l25 c25 k25
 have b25 := F25.binds (ps := ["self"]) fun _ _ _ _ _ _ us hl => match us, hl with | [_], _ => rfl
 have F26 := zV (st := xq) l26 c26 k26
 have b26 := F26.binds (ps := ["net"]) fun _ _ _ _ _ _ us hl => match us, hl with | [_], _ => rfl
 have F27 := zV (st := QW) l27 c27 k27
 have b27 := F27.binds (ps := ["self"]) fun _ _ _ _ _ _ us hl => match us, hl with | [_], _ => rfl
 have F28 := zV (st := YJ) l28 c28 k28
 have b28 := F28.binds (ps := ["one", "other"]) fun _ _ _ _ _ _ us hl => match us, hl with | [_, _], _ => rfl
 have F29 := zV (st := s_minus) l29 c29 k29
 have b29 := F29.binds (ps := ["one", "other"]) fun _ _ _ _ _ _ us hl => match us, hl with | [_, _], _ => rfl
 have F30 := zV (st := Qw) l30 c30 k30
 have b30 := F30.binds (ps := ["form", "number"]) fun _ _ _ _ _ _ us hl => match us, hl with | [_, _], _ => rfl
 have F31 := zV (st := Y0) l31 c31 k31
 have b31 := F31.binds (ps := ["one", "other"]) fun _ _ _ _ _ _ us hl => match us, hl with | [_, _], _ => rfl
 have F32 := zV (st := Jw) l32 c32 k32
 have b32 := F32.binds (ps := ["form", "by"]) fun _ _ _ _ _ _ us hl => match us, hl with | [_, _], _ => rfl
 have F33 := zV (st := Qv) l33 c33 k33
 have b33 := F33.binds (ps := ["form", "number"]) fun _ _ _ _ _ _ us hl => match us, hl with | [_, _], _ => rfl
 have F34 := zV (st := Qk) l34 c34 k34
 have b34 := F34.binds (ps := ["form", "side"]) fun _ _ _ _ _ _ us hl => match us, hl with | [_, _], _ => rfl
 have F35 := zV (st := xz) l35 c35 k35
 have b35 := F35.binds (ps := ["one", "other", "by"]) fun _ _ _ _ _ _ us hl => match us, hl with | [_, _, _], _ => rfl
 have F36 := zV (st := wz) l36 c36 k36
 have b36 := F36.binds (ps := ["form", "own", "span"]) fun _ _ _ _ _ _ us hl => match us, hl with | [_, _, _], _ => rfl
 have F37 := zV (st := vj) l37 c37 k37
 have b37 := F37.binds (ps := ["state", "form", "own", "span"]) fun _ _ _ _ _ _ us hl => match us, hl with | [_, _, _, _], _ => rfl
 have F38 := zV (st := wW) l38 c38 k38
 have b38 := F38.binds (ps := ["net", "case", "forms", "widths"]) fun _ _ _ _ _ _ us hl => match us, hl with | [_, _, _, _], _ => rfl
 have F39 := zV (st := wq) l39 c39 k39
 have b39 := F39.binds (ps := ["many", "case"]) fun _ _ _ _ _ _ us hl => match us, hl with | [_, _], _ => rfl
 have F40 := zV (st := yY) l40 c40 k40
 have b40 := F40.binds (ps := ["many", "case"]) fun _ _ _ _ _ _ us hl => match us, hl with | [_, _], _ => rfl
 have F41 := zV (st := Qy) l41 c41 k41
 have b41 := F41.binds (ps := ["number", "many"]) fun _ _ _ _ _ _ us hl => match us, hl with | [_, _], _ => rfl
 have F42 := zV (st := QK) l42 c42 k42
 have b42 := F42.binds (ps := ["constant", "many"]) fun _ _ _ _ _ _ us hl => match us, hl with | [_, _], _ => rfl
 have F43 := zV (st := j9) l43 c43 k43
 have b43 := F43.binds (ps := ["constant", "terms", "found", "count"]) fun _ _ _ _ _ _ us hl => match us, hl with | [_, _, _, _], _ => rfl
 have F44 := zV (st := vV) l44 c44 k44
 have b44 := F44.binds (ps := ["state", "variable", "bent_form", "count"]) fun _ _ _ _ _ _ us hl => match us, hl with | [_, _, _, _], _ => rfl
 have F45 := zV (st := jK) l45 c45 k45
 have b45 := F45.binds (ps := ["net", "case"]) fun _ _ _ _ _ _ us hl => match us, hl with | [_, _], _ => rfl
 have F46 := zV (st := Zy) l46 c46 k46
 have b46 := F46.binds (ps := ["self"]) fun _ _ _ _ _ _ us hl => match us, hl with | [_], _ => rfl
 have F47 := zV (st := Jv) l47 c47 k47
 have b47 := F47.binds (ps := ["pair", "share"]) fun _ _ _ _ _ _ us hl => match us, hl with | [_, _], _ => rfl
 have F48 := zV (st := wj) l48 c48 k48
 have b48 := F48.binds (ps := ["constant", "terms", "found"]) fun _ _ _ _ _ _ us hl => match us, hl with | [_, _, _], _ => rfl
 have F49 := zV (st := s_bent) l49 c49 k49
 have b49 := F49.binds (ps := ["one"]) fun _ _ _ _ _ _ us hl => match us, hl with | [_], _ => rfl
 have F50 := zV (st := QV) l50 c50 k50
 have b50 := F50.binds (ps := ["span"]) fun _ _ _ _ _ _ us hl => match us, hl with | [_], _ => rfl
 have F51 := zV (st := Y1) l51 c51 k51
 have b51 := F51.binds (ps := ["net", "box"]) fun _ _ _ _ _ _ us hl => match us, hl with | [_, _], _ => rfl
 have F52 := zV (st := Yz) l52 c52 k52
 have b52 := F52.binds (ps := ["net", "box", "case"]) fun _ _ _ _ _ _ us hl => match us, hl with | [_, _, _], _ => rfl
 have F53 := zV (st := Yj) l53 c53 k53
 have b53 := F53.binds (ps := ["_law_one", "_law_other"]) fun _ _ _ _ _ _ us hl => match us, hl with | [_, _], _ => rfl
 have F54 := zV (st := vK) l54 c54 k54
 have b54 := F54.binds (ps := ["_law_script", "_law_start", "_law_many_here"]) fun _ _ _ _ _ _ us hl => match us, hl with | [_, _, _], _ => rfl
 have F55 := zV (st := Zj) l55 c55 k55
 have b55 := F55.binds (ps := ["_law_one", "_law_other"]) fun _ _ _ _ _ _ us hl => match us, hl with | [_, _], _ => rfl
 have F56 := zV (st := x8) l56 c56 k56
 have b56 := F56.binds (ps := ["_law_rows_here", "_law_prices", "_law_many_here"]) fun _ _ _ _ _ _ us hl => match us, hl with | [_, _, _], _ => rfl
 have F57 := zV (st := qX) l57 c57 k57
 have b57 := F57.binds (ps := ["_law_number", "_law_terms", "_law_bound", "_law_prices"]) fun _ _ _ _ _ _ us hl => match us, hl with | [_, _, _, _], _ => rfl
 have F58 := zV (st := yx) l58 c58 k58
 have b58 := F58.binds (ps := ["several"]) fun _ _ _ _ _ _ us hl => match us, hl with | [_], _ => rfl
 have F59 := zV (st := s_ratio) l59 c59 k59
 have b59 := F59.binds (ps := ["top", "bottom"]) fun _ _ _ _ _ _ us hl => match us, hl with | [_, _], _ => rfl
 have F60 := zV (st := s_over) l60 c60 k60
 have b60 := F60.binds (ps := ["one", "other"]) fun _ _ _ _ _ _ us hl => match us, hl with | [_, _], _ => rfl
 have F61 := zV (st := xW) l61 c61 k61
 have b61 := F61.binds (ps := ["rows", "prices", "many"]) fun _ _ _ _ _ _ us hl => match us, hl with | [_, _, _], _ => rfl
 have F62 := zV (st := vZ) l62 c62 k62
 have b62 := F62.binds (ps := ["thing", "count"]) fun _ _ _ _ _ _ us hl => match us, hl with | [_, _], _ => rfl
 have F63 := zV (st := yQ) l63 c63 k63
 have b63 := F63.binds (ps := ["net", "widths", "saying", "prices", "case"]) fun _ _ _ _ _ _ us hl => match us, hl with | [_, _, _, _, _], _ => rfl
 have F64 := zV (st := wx) l64 c64 k64
 have b64 := F64.binds (ps := ["net", "widths", "saying", "tree", "case"]) fun _ _ _ _ _ _ us hl => match us, hl with | [_, _, _, _, _], _ => rfl
 have F65 := zV (st := Zv) l65 c65 k65
 have b65 := F65.binds (ps := ["net"]) fun _ _ _ _ _ _ us hl => match us, hl with | [_], _ => rfl
 have F66 := zV (st := xV) l66 c66 k66
 have b66 := F66.binds (ps := ["net", "box", "saying", "tree"]) fun _ _ _ _ _ _ us hl => match us, hl with | [_, _, _, _], _ => rfl
 have F67 := zV (st := QZ) l67 c67 k67
 have b67 := F67.binds (ps := ["_law_number"]) fun _ _ _ _ _ _ us hl => match us, hl with | [_], _ => rfl
 have F68 := zV (st := Yx) l68 c68 k68
 have b68 := F68.binds (ps := ["net", "case", "terms"]) fun _ _ _ _ _ _ us hl => match us, hl with | [_, _, _], _ => rfl
 have F69 := zV (st := jx) l69 c69 k69
 have b69 := F69.binds (ps := ["_law_thing"]) fun _ _ _ _ _ _ us hl => match us, hl with | [_], _ => rfl
 have F70 := zV (st := jv) l70 c70 k70
 have b70 := F70.binds (ps := ["_law_net_here", "_law_box", "_law_saying", "_law_case", "_law_prices"]) fun _ _ _ _ _ _ us hl => match us, hl with | [_, _, _, _, _], _ => rfl
 have F71 := zV (st := s_law) l71 c71 k71
 have b71 := F71.binds (ps := ["_law_script"]) fun _ _ _ _ _ _ us hl => match us, hl with | [_], _ => rfl
 have T : Txt K mg ⟨_, _, _, _, _, _, _, _, _, _, _, _, _, _, _, _, _, _, _, _, _, _, _, _, _, _, _, _, _, _, _, _, _, _, _, _, _, _, _, _, _, _, _, _, _, _, _, _, _, _, _, _, _, _, _, _, _, _, _, _, _, _, _, _, _, _, _, _, _, _, _, _, _, _, _, _, _, _, _, _, _, _, _, _, _, _, _, _, _, _, _, _, _, _, _, _, _, _, _, _, _, _, _, _, _, _, _, _, _, _, _, _, _, _, _, _, _, _, _, _, _, _, _, _, _, _, _, _, _, _, _, _, _, _, _, _, _, _, _, _, _, _, _, _, CC_Box, CC_Net, tk_MOST_BENDS, tk_MOST_UNITS, tk_MOST_OUTS, tk_MOST_INS, tk_MOST_SIDES, gg_MINUS_ONE, gg_NOUGHT, gg_ONE⟩ := ⟨F0, PySem.W.mg_of X G a0, b0, F1, PySem.W.mg_of X G a1, b1, F2, PySem.W.mg_of X G a2, b2, F3, PySem.W.mg_of X G a3, b3, F4, PySem.W.mg_of X G a4, b4, F5, PySem.W.mg_of X G a5, b5, F6, PySem.W.mg_of X G a6, b6, F7, PySem.W.mg_of X G a7, b7, F8, PySem.W.mg_of X G a8, b8, F9, PySem.W.mg_of X G a9, b9, F10, PySem.W.mg_of X G a10, b10, F11, PySem.W.mg_of X G a11, b11, F12, PySem.W.mg_of X G a12, b12, F13, PySem.W.mg_of X G a13, b13, F14, PySem.W.mg_of X G a14, b14, F15, PySem.W.mg_of X G a15, b15, F16, PySem.W.mg_of X G a16, b16, F17, PySem.W.mg_of X G a17, b17, F18, PySem.W.mg_of X G a18, b18, F19, ⟨mkNet, a19, i19, kcNet⟩, b19, F20, PySem.W.mg_of X G a20, b20, F21, PySem.W.mg_of X G a21, b21, F22, ⟨mkBox, a22, i22, kcBox⟩, b22, F23, PySem.W.mg_of X G a23, b23, F24, PySem.W.mg_of X G a24, b24, F25, ⟨a25, i25, k25⟩, b25, F26, PySem.W.mg_of X G a26, b26, F27, ⟨a27, i27, k27⟩, b27, F28, PySem.W.mg_of X G a28, b28, F29, PySem.W.mg_of X G a29, b29, F30, PySem.W.mg_of X G a30, b30, F31, PySem.W.mg_of X G a31, b31, F32, PySem.W.mg_of X G a32, b32, F33, PySem.W.mg_of X G a33, b33, F34, PySem.W.mg_of X G a34, b34, F35, PySem.W.mg_of X G a35, b35, F36, PySem.W.mg_of X G a36, b36, F37, PySem.W.mg_of X G a37, b37, F38, PySem.W.mg_of X G a38, b38, F39, PySem.W.mg_of X G a39, b39, F40, PySem.W.mg_of X G a40, b40, F41, PySem.W.mg_of X G a41, b41, F42, PySem.W.mg_of X G a42, b42, F43, PySem.W.mg_of X G a43, b43, F44, PySem.W.mg_of X G a44, b44, F45, PySem.W.mg_of X G a45, b45, F46, ⟨a46, i46, k46⟩, b46, F47, PySem.W.mg_of X G a47, b47, F48, PySem.W.mg_of X G a48, b48, F49, PySem.W.mg_of X G a49, b49, F50, PySem.W.mg_of X G a50, b50, F51, PySem.W.mg_of X G a51, b51, F52, PySem.W.mg_of X G a52, b52, F53, PySem.W.mg_of X G a53, b53, F54, PySem.W.mg_of X G a54, b54, F55, PySem.W.mg_of X G a55, b55, F56, PySem.W.mg_of X G a56, b56, F57, PySem.W.mg_of X G a57, b57, F58, PySem.W.mg_of X G a58, b58, F59, PySem.W.mg_of X G a59, b59, F60, PySem.W.mg_of X G a60, b60, F61, PySem.W.mg_of X G a61, b61, F62, PySem.W.mg_of X G a62, b62, F63, PySem.W.mg_of X G a63, b63, F64, PySem.W.mg_of X G a64, b64, F65, PySem.W.mg_of X G a65, b65, F66, PySem.W.mg_of X G a66, b66, F67, PySem.W.mg_of X G a67, b67, F68, PySem.W.mg_of X G a68, b68, F69, PySem.W.mg_of X G a69, b69, F70, PySem.W.mg_of X G a70, b70, F71, PySem.W.mg_of X G a71, b71, PySem.W.mg_none_of X G z0, PySem.W.mg_none_of X G z1, PySem.W.mg_none_of X G z2, PySem.W.mg_none_of X G z3, PySem.W.mg_none_of X G z4, PySem.W.mg_none_of X G z5, PySem.W.mg_none_of X G z6, PySem.W.mg_none_of X G z7, PySem.W.mg_none_of X G z8, PySem.W.mg_none_of X G z9, PySem.W.mg_none_of X G z10, PySem.W.mg_none_of X G z11, PySem.W.mg_none_of X G z12, PySem.W.mg_none_of X G z13, PySem.W.mg_none_of X G z14, PySem.W.mg_none_of X G z15, ⟨pgBox, hdBox, poBox, saBox⟩, PySem.W.mg_of X G gBox, naBox_sides, ⟨pgNet, hdNet, poNet, saNet⟩, PySem.W.mg_of X G gNet, naNet_many, naNet_units, naNet_outs, PySem.W.mg_of X G qMOST_BENDS, PySem.W.mg_of X G qMOST_UNITS, PySem.W.mg_of X G qMOST_OUTS, PySem.W.mg_of X G qMOST_INS, PySem.W.mg_of X G qMOST_SIDES, PySem.W.mg_of X G qMINUS_ONE, fun _ => .inr ⟨_, _, _, qlMINUS_ONE, rfl, rfl, (by show 2 ≤ sizeLine; decide), (.cons ⟨_, rfl⟩ (.cons ⟨_, rfl⟩ .nil))⟩, PySem.W.mg_of X G qNOUGHT, fun _ => .inr ⟨_, _, _, qlNOUGHT, rfl, rfl, (by show 2 ≤ sizeLine; decide), (.cons ⟨_, rfl⟩ (.cons ⟨_, rfl⟩ .nil))⟩, PySem.W.mg_of X G qONE, fun _ => .inr ⟨_, _, _, qlONE, rfl, rfl, (by show 2 ≤ sizeLine; decide), (.cons ⟨_, rfl⟩ (.cons ⟨_, rfl⟩ .nil))⟩⟩
 exact ⟨PySem.W.fnOf "law" "law" (zv s_law) (qJ s_law) (qQ s_law) .none kV71 dc71 pm71 an71 cd71 ct71, fun s v => .of_eq rfl, fun base _ _ => ok_law T⟩
theorem walk {l : PySem.W.OpenLaw} {q : Program} {loose : List Str} {XP : (Str → Option Value) → Heap → Prop} {YP : World → Heap → Prop} {d : DefRec} {K : Params → Fg9} (hn : l.most = some 63) (hdf : d.params.defaults = [])
  (hY : ∀ (w : World) (h : Heap), YP w h → (K w.params).In h)
  (F : ∀ (w : World) (mg : Str → Option Value) (fa : Addr) (h : Heap), (K w.params).In h → h.Ns mainGlobals mg → mg d.name = some (.ref fa) → ∃ fd : FuncData, (∀ (s : Shared) (u : Value), BindsTo s fd ⟨[u], []⟩ [("_law_script", u)]) ∧ ∀ base : Heap, (K w.params).In base → base.Ns mainGlobals mg → FnOk l.prog w (K w.params) mg base CX0 11 fa fd ["_law_script"] (spLaw (K w.params))) :
  PySem.W.WalkO q loose XP YP l.row.toRowW d [] (fun f vs => PySem.call f vs) :=
 L2.walk_of (n := 63) (k := 11) (x := "_law_script") (CX := fun _ => CX0) (sp := fun w => spLaw (K w.params)) hn (by decide) hdf ⟨rfl, by decide, by decide⟩ hY F (fun _ _ a ns hl _ hS => ⟨a, ns, rfl, hS, hl, fun _ => rfl⟩) fun _ _ _ _ _ z => z
end BP
open PySem PySem.W PyProof.Rows
set_option maxRecDepth 100000 in
set_option maxHeartbeats 0 in
theorem PySem.Challenge.cw_bendproof_k44_right_leaves_holds : PySem.Challenge.rw_bendproof_k44_right_leaves.Holds := by
 refine BP.early fun hd hn hY hP => BP.walk (l := PySem.Challenge.rw_bendproof_k44_right_leaves) rfl hd hY fun w mg fa h KX G hmg => ?_
 rw [hn] at hmg
 exact BP.all_mk KX G hmg (hP w)
