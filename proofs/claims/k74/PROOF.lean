import PyProof.Rows.All
import Wide.All
import OpenK.AllK
import Wide.FinOn
import Lean
import PyProof.EqAt
import PyProof.EqKinds
import PyProof.TupleCall
import PySem.Challenge.RW_bendproof_k74_desk_refuses
set_option Elab.async false
set_option linter.all false
set_option maxRecDepth 100000
set_option maxHeartbeats 0
set_option autoImplicit true
section
universe ua ub uc ud ue uf ug uh ui uj uk ul um un uo uq ur
variable {A:Sort ua} {B:Sort ub} {C:Sort uc} {D:Sort ud} {E:Sort ue} {F:Sort uf} {G:Sort ug} {H:Sort uh} {I:Sort ui} {J:Sort uj} {K:Sort uk} {L:Sort ul} {M:Sort um} {N:Sort un} {O:Sort uo} {Q:Sort uq} {R:Sort ur}
inductive Ex2 (p:A->B->Prop):Prop | i a b (h:p a b):Ex2 p
inductive Ex3 (p:A->B->C->Prop):Prop | i a b c (h:p a b c):Ex3 p
inductive Ex4 (p:A->B->C->D->Prop):Prop | i a b c d (h:p a b c d):Ex4 p
inductive Ex5 (p:A->B->C->D->E->Prop):Prop | i a b c d e (h:p a b c d e):Ex5 p
inductive Ex6 (p:A->B->C->D->E->F->Prop):Prop | i a b c d e f (h:p a b c d e f):Ex6 p
inductive Ex7 (p:A->B->C->D->E->F->G->Prop):Prop | i a b c d e f g (h:p a b c d e f g):Ex7 p
inductive Ex8 (p:A->B->C->D->E->F->G->H->Prop):Prop | i a b c d e f g h (h:p a b c d e f g h):Ex8 p
inductive Ex9 (p:A->B->C->D->E->F->G->H->I->Prop):Prop | i a b c d e f g h i (h:p a b c d e f g h i):Ex9 p
inductive Ex10 (p:A->B->C->D->E->F->G->H->I->J->Prop):Prop | i a b c d e f g h i j (h:p a b c d e f g h i j):Ex10 p
inductive Ex17 (p:A->B->C->D->E->F->G->H->I->J->K->L->M->N->O->Q->R->Prop):Prop | i a b c d e f g h i j k l m n o q r (h:p a b c d e f g h i j k l m n o q r):Ex17 p
end
open Lean in
local macro_rules | `(∃ $xs:explicitBinders, $b) => do
  let c := xs.raw[0]
  let v : Array (Syntax × Syntax) := if c.isOfKind ``Lean.unbracketedExplicitBinders then c[0].getArgs.map fun i => (i[0], if c[1].getNumArgs == 0 then mkNode ``Lean.Parser.Term.hole #[mkAtom "_"] else c[1][1]) else c.getArgs.flatMap fun g => g[1].getArgs.map fun i => (i[0], g[3])
  if v.size < 2 || v.size > 17 then Macro.throwUnsupported
  let f <- v.foldrM (fun (i, t) r => `(fun ($(⟨i⟩) : $(⟨t⟩)) => $r)) b
  `($(mkIdent (.mkSimple s!"Ex{v.size}")) $f)
local macro_rules | `(tactic| walk_at "a") => `(tactic| exact ⟨rfl, rfl, rfl, by decide +kernel, rfl, by decide +kernel, by decide +kernel⟩)
set_option hygiene false in
local macro_rules | `(tactic| walk_at "b") => `(tactic| intro cdv A outer s H vs Q E hr h)
local macro_rules | `(tactic| walk_at "c") => `(tactic| (intro vs H Q E h; cases h; rename_i h; cases h; subst_vars; rfl))
local macro_rules | `(tactic| omega) => `(tactic| first | lia | omega (splitDisjunctions := true))
namespace L2
open PySem
def vW (s:Stmt) (j:Nat):Stmt:=match s with
 | .ClassDef _ _ _ body _ _ _ _ _ _ _=>body.getD j (.Pass ⟨0,0,0,0⟩)
 | _=>.Pass ⟨0,0,0,0⟩
def v3 (s:Stmt):Arguments:=match s with
 | .FunctionDef _ a _ _ _ _ _ _ _ _=>a
 | _=>{ posonlyargs:=[],args:=[],vararg:=none,kwonlyargs:=[],kw_defaults:=[],kwarg:=none,defaults:=[] }
def zQ (s:Stmt):List Stmt:=match s with
 | .FunctionDef _ _ b _ _ _ _ _ _ _=>b
 | _=>[]
def qZ (s:Stmt):Scope:=match s with
 | .FunctionDef _ _ _ _ _ _ sc _ _ _=>sc
 | _=>{ kind:=.function,names:=[],isGenerator:=false,isCoroutine:=false }
end L2
namespace BP
open PySem L2
def top (i:Nat):Stmt:=PySem.Challenge.pw_bendproof_k74_desk_refuses.main.body.getD i (.Pass ⟨0,0,0,0⟩)
abbrev syl:Stmt:=top 143
abbrev sz7:Stmt:=vW (top 140) 0
abbrev Qx:Stmt:=top 133
abbrev syq:Stmt:=top 24
abbrev syv:Stmt:=top 19
abbrev sya:Stmt:=top 16
abbrev sye:Stmt:=top 15
abbrev syd:Stmt:=top 18
abbrev kX:Stmt:=top 49
abbrev sz2:Stmt:=vW (top 51) 0
abbrev Qz:Stmt:=top 29
abbrev sx5:Stmt:=top 30
abbrev syy:Stmt:=top 17
abbrev syb:Stmt:=top 27
abbrev sx8:Stmt:=top 28
abbrev syz:Stmt:=top 31
abbrev Qj:Stmt:=top 126
abbrev sxa:Stmt:=top 136
abbrev sxe:Stmt:=top 79
abbrev szq:Stmt:=vW (top 82) 1
abbrev sy2:Stmt:=top 137
abbrev xk:Stmt:=top 125
abbrev syw:Stmt:=top 20
abbrev sxd:Stmt:=top 22
abbrev xx:Stmt:=top 80
abbrev sy1:Stmt:=top 25
abbrev sxf:Stmt:=top 81
abbrev Qk:Stmt:=vW (top 82) 2
abbrev xX:Stmt:=vW (top 82) 3
abbrev syx:Stmt:=top 138
abbrev Qv:Stmt:=vW (top 140) 4
abbrev xw:Stmt:=top 134
abbrev sx4:Stmt:=top 124
abbrev sxb:Stmt:=top 139
abbrev syc:Stmt:=top 116
abbrev xK:Stmt:=vW (top 140) 2
abbrev wv:Stmt:=vW (top 140) 3
abbrev xv:Stmt:=top 128
abbrev wk:Stmt:=top 73
abbrev kJ:Stmt:=top 74
abbrev xJ:Stmt:=top 75
abbrev kZ:Stmt:=top 76
abbrev wx:Stmt:=top 77
abbrev kK:Stmt:=top 78
abbrev szm:Stmt:=vW (top 82) 0
abbrev sx6:Stmt:=top 127
abbrev sx0:Stmt:=top 129
abbrev sys:Stmt:=top 135
abbrev sza:Stmt:=vW (top 140) 1
abbrev zV:Stmt:=top 147
abbrev zY:Stmt:=top 148
abbrev syg:Stmt:=top 145
abbrev xZ:Stmt:=top 149
abbrev xy:Stmt:=top 144
abbrev kQ:Stmt:=top 150
abbrev xQ:Stmt:=top 142
abbrev zz:Stmt:=top 146
abbrev vz:Stmt:=top 151
abbrev syf:Stmt:=top 152
def view:Program:={ PySem.Challenge.pw_bendproof_k74_desk_refuses with main:={ PySem.Challenge.pw_bendproof_k74_desk_refuses.main with body:=[top 152] } }
def others:List Str:=[Str.ofString "_wall",Str.ofString "BendError",Str.ofString "NoRatio",Str.ofString "NoText",Str.ofString "NoBox",Str.ofString "NoNet",Str.ofString "Unlike",Str.ofString "NoLine",Str.ofString "NOUGHT",Str.ofString "ONE",Str.ofString "MINUS_ONE",Str.ofString "FIGURES",Str.ofString "MOST_FIGURES",Str.ofString "is_whole",Str.ofString "common",Str.ofString "ratio",Str.ofString "is_ratio",Str.ofString "plain",Str.ofString "plus",Str.ofString "minus",Str.ofString "times",Str.ofString "over",Str.ofString "less",Str.ofString "bent",Str.ofString "over_one_bottom",Str.ofString "figures",Str.ofString "shown",Str.ofString "read_whole",Str.ofString "read_top",Str.ofString "read",Str.ofString "even_form",Str.ofString "lone_form",Str.ofString "scaled",Str.ofString "added_times",Str.ofString "turned",Str.ofString "sum_span",Str.ofString "bend_span",Str.ofString "spans",Str.ofString "sum_slants",Str.ofString "bend_slants",Str.ofString "slants",Str.ofString "better",Str.ofString "bounds",Str.ofString "MOST_SIDES",Str.ofString "checked_side",Str.ofString "form_ends",Str.ofString "Box",Str.ofString "bent_places",Str.ofString "variables_in",Str.ofString "variable_count",Str.ofString "terms_form",Str.ofString "bend_form",Str.ofString "forms_in",Str.ofString "form_of",Str.ofString "not_above",Str.ofString "not_below",Str.ofString "cap_row",Str.ofString "bend_rows",Str.ofString "side_rows",Str.ofString "first_row",Str.ofString "rows_by",Str.ofString "rows_in",Str.ofString "MOST_INS",Str.ofString "MOST_UNITS",Str.ofString "MOST_BENDS",Str.ofString "MOST_OUTS",Str.ofString "checked_place",Str.ofString "checked_term",Str.ofString "checked_sum",Str.ofString "checked_unit",Str.ofString "checked_units",Str.ofString "checked_outs",Str.ofString "told_unit",Str.ofString "terms_value",Str.ofString "value_of",Str.ofString "Net",Str.ofString "ROUGH_BITS",Str.ofString "swept",Str.ofString "least_quotient",Str.ofString "Tableau",Str.ofString "fitness",Str.ofString "seat_variables",Str.ofString "set_guide",Str.ofString "best_step",Str.ofString "mending_steps",Str.ofString "go_on",Str.ofString "mend",Str.ofString "climbing_steps",Str.ofString "climb",Str.ofString "rough",Str.ofString "likely_heads",Str.ofString "pin",Str.ofString "let_go",Str.ofString "whole_line",Str.ofString "Quest",Str.ofString "begun",Str.ofString "all_open",Str.ofString "with_bend",Str.ofString "Search",Str.ofString "case_prices",Str.ofString "bends_amiss",Str.ofString "bend_to_split",Str.ofString "grown",Str.ofString "whole_tree",Str.ofString "judged",Str.ofString "greatest",Str.ofString "Sketch",Str.ofString "out_forms",Str.ofString "needed_variables",Str.ofString "Draft",Str.ofString "smaller",Str.ofString "read_term",Str.ofString "shown_point",Str.ofString "read_point",Str.ofString "read_unit",Str.ofString "read_places",Str.ofString "read_net",Str.ofString "WORDS",Str.ofString "IN_A_BOX",Str.ofString "line_words",Str.ofString "place_count",Str.ofString "net_of",Str.ofString "side_of",Str.ofString "box_of",Str.ofString "point_of",Str.ofString "terms_of",Str.ofString "Desk",Str.ofString "_law_cell_at",Str.ofString "_law_mixed",Str.ofString "_law_refusal",Str.ofString "_law_ahead",Str.ofString "_law_odd_line",Str.ofString "_law_ratio_odd",Str.ofString "_law_bad",Str.ofString "_law_bad_net",Str.ofString "_law_kept",Str.ofString "_law_walked"]
theorem map_pair {α β γ:Type} {o:Option α} {f:α->β} {g:α->γ} {x:β} {y:γ} (h1:o.map f=some x) (h2:o.map g=some y):o.map (fun s=>(f s,g s))=some (x,y):=by
 cases o with
 | none=>cases h1
 | some s =>
  have a:=Option.some.inj h1;have b:=Option.some.inj h2;rw [<- a,<- b];rfl
open PySem.W in
def Seen (r:OpenRow) (q:Program) (ls:List Str) (N:Nat):Prop:=∀ w,(openEnds treeTable r.prog w N).map (fun s=>openSeen q ls (importedModules r.prog.main.body) (fun s=>xlAt q [] s&&recOk r.toRowW.records s) true s)=some (openGood q ls)
open PySem.W in
theorem left_two {α:Type} {Yf:Shared->α} {Ya:World->α} (A:Seen r q ls N) (B:∀ w,(openEnds treeTable r.prog w N).map Yf=some (Ya w)) :
  LeftO r.prog q ls (fun s=>xlAt q [] s&&recOk r.toRowW.records s) Yf Ya N:=fun w=>map_pair (A w) (B w)
open PySem.W in
theorem head (H:Hook) (N:Nat) (A:Seen r q ls N) (B:∀ w,(openEnds treeTable r.prog w N).map H.obs=some (H.val w)) (df:defOf q r.name=some (d,kwd)) (pd:r.prog.theDef r.name=some (d.params,d.body,d.scope)) (kw:kwWritten? d.params.kwonlyargs d.params.kw_defaults=some kwd) (wr:(!r.writes||r.records.isEmpty)=true) (sd:r.wellSaid=true) (ok:(chainsOk q&&opensWell r.prog&&(frees r.toRowW&&r.within.isEmpty))=true) (br:r.prog.bare) (pr:r.toRowW.promised) (cl:WalkO q ls (XL q []) H.says r.toRowW d kwd fun f vs=>PySem.call f vs):r.Holds :=
 have both:∀ s:Shared,(xlAt q [] s&&recOk r.toRowW.records s)=true->xlAt q [] s=true/\recOk r.toRowW.records s=true:=fun s e=>by simpa using e
 holds_open (left_two A B) H.of H.keeps (fun s e=>xl_of s (both s e).1) XL.keeps df pd kw (fun s e=>recFacts_of (both s e).2) wr sd ok br pr cl
open PySem.W in
noncomputable def topG (st:SharedT->Thread->Option (SharedT×Thread)) (ok:Thread->Bool) (N:Nat):SharedT->Thread->Option SharedT :=
 Nat.rec (fun _ _=>none) (fun _ go s t=>cond (through t) (some s) (cond (ok t) ((st s t).bind fun x=>go x.1 x.2) none)) N
open PySem.W in
theorem topG_of (n:Nat):∀ (s z:SharedT) (t:Thread),topG (stepT (denote tb) p w) (stepOk m ann) n s t=some z->topRun tb p w m ann n s.abs t=some z.abs:=by
 induction n with
 | zero=>intro s z t h; cases h
 | succ n ih =>
  intro s z t h
  replace h:cond (through t) (some s) (cond (stepOk m ann t) ((stepT (denote tb) p w s t).bind fun x=>topG (stepT (denote tb) p w) (stepOk m ann) n x.1 x.2) none)=some z:=h
  unfold topRun
  revert h
  cases through t
  ·cases stepOk m ann t
   ·exact fun h=>nomatch h
   ·cases e:stepT (denote tb) p w s t
    ·exact fun h=>nomatch h
    ·intro h
     rw [stepT_spec e];exact ih _ _ _ h
  ·intro h
   rw [Option.some.inj h]
open PySem.W in
noncomputable def startT (P:Params) (os:OsState):SharedT :=
 ⟨List.rec (motive:=fun _=>BT->Nat->BT) (fun T _=>T) (fun o _ go T n=>go (T.ins n o) (n+1)) (boot_heap P).objs.toList .nil 0,11,(boot_heap P).life,#[],boot_drawn,boot_toks,os⟩
open PySem.W in
theorem start_abs (P:Params) (os:OsState):(startT P os).abs=⟨boot_heap P,#[],boot_drawn,boot_toks,os⟩:=by kernel_rfl
open PySem.W in
noncomputable abbrev runT (p:Program) (N:Nat) (w:World) (os:OsState):Option SharedT :=
 topG (stepT (denote treeTable) p w) (stepOk 11 ((boot_heap w.params).nsMap mainGlobals "__annotations__")) N (startT w.params os) (topStub p)
open PySem.W in
noncomputable def Calm (p:Program) (w:World) (s:Shared):Bool:=staticsOk (importedModules p.main.body) (boot_heap w.params) s.heap&&namesBound p s.heap&&gensDone s&&laidKept (boot_heap w.params) s.heap
open PySem.W in
def Ends (p:Program) (N:Nat):Prop:=∀ w:World,∃ os s,runT p N w os=some s/\openEnds treeTable p w N=some s.abs
open PySem.W in
theorem ends_of {p:Program} {N:Nat} (e:opening p=plainProg p.main.scope.names) (hN:Nat.ble 600 N=true) (f:∀ s,fenceModules? p s=some s)
  {row:String} (A:∀ (b:Bool) (w:World) os,(runT p N (w.withFollow row b) os).map (fun s=>Calm p (w.withFollow row b) s.abs)=some true):Ends p N:=by
 intro w;have A:∀ os,(runT p N w os).map (fun s=>Calm p w s.abs)=some true:=fun os=>by
  have:=A (w.params.followText row) w os
  rwa [World.withFollow_self] at this
 obtain ⟨⟨h,gs,d,k,os⟩,e1,e2⟩:=Option.map_eq_some_iff.mp (boot_open e hN f w);obtain ⟨s,e3,e4⟩:=Option.map_eq_some_iff.mp (A os);refine ⟨os,s,e3,?_⟩;obtain ⟨rfl,rfl,rfl,rfl⟩:h=boot_heap w.params/\gs=Array.mk []/\d=boot_drawn/\k=boot_toks:=by simpa using e2
 have r:=topG_of N _ _ _ e3;rw [start_abs] at r;unfold openEnds;rw [e1];show topFrom treeTable p w N _=_;unfold topFrom;rw [show ((boot_heap w.params).isNs mainGlobals&&(Array.mk []:Array GenState).size==0)=true by kernel_rfl,show (boot_heap w.params).objs.size=11 by rfl];dsimp only;rw [r];show (match Calm p w s.abs with | true=>some s.abs | false=>none)=_;rw [e4]
open PySem.W in
theorem look_of {p:Program} {N:Nat} {α:Type} {f:Shared->α} {v:World->α} {row:String} (E:Ends p N) (A:∀ (b:Bool) (w:World) os,(runT p N (w.withFollow row b) os).map (fun s=>f s.abs)=some (v (w.withFollow row b))) (w:World):(openEnds treeTable p w N).map f=some (v w):=by
 obtain ⟨os,s,e1,e2⟩:=E w;have A:(runT p N w os).map (fun s=>f s.abs)=some (v w):=by
  have:=A (w.params.followText row) w os
  rwa [World.withFollow_self] at this
 rw [e2,<- A,e1];rfl
open PySem.W in
def getT (s:SharedT) (a:Addr):Option Obj:=cond (Nat.blt a s.n) (alive ((s.tree.get a).getD default)) none
open PySem.W in
theorem getT_eq (s:SharedT):s.abs.heap.get?=getT s:=by
 funext a
 unfold getT Heap.get?;rw [show s.abs.heap.objs[a]?=_ from absHeap_at s.tree s.n s.life a]
 by_cases h:a<s.n
 ·rw [if_pos h,show Nat.blt a s.n=true from Nat.ble_eq_true_of_le h]
  show (match some ((s.tree.get a).getD default) with | some ⟨_,_,.freed,_⟩=>none | o=>o)=alive ((s.tree.get a).getD default);generalize (s.tree.get a).getD default=o;obtain ⟨c,d,dt,sl⟩:=o
  cases dt <;> rfl
 ·rw [if_neg h]
  cases q:Nat.blt a s.n
  ·rfl
  ·exact absurd (Nat.le_of_ble_eq_true q) h
open PySem.W in
theorem look_km {p:Program} {N:Nat} {K:Params->Frag} {as:List Addr} {e:∀ P,as=(K P).map (·.1)} {ts:List Addr} {row:String} (E:Ends p N) (A:∀ (b:Bool) (w:World) os,(runT p N (w.withFollow row b) os).map (fun s=>(as.map (getT s),ts.map (getT s)))=some ((K (w.withFollow row b).params).map fun p=>some p.2,ts.map fun _=>some (tabObj #[]))) (w:World):(openEnds treeTable p w N).map (kmHook K as e ts).obs=some ((kmHook K as e ts).val w):=by
 refine look_of (row:=row) E (fun b w os=>?_) w;refine Eq.trans ?_ (A b w os);exact congrArg (fun f=>Option.map f (runT p N (w.withFollow row b) os)) (funext fun s=>by show (as.map s.abs.heap.get?,ts.map s.abs.heap.get?)=_; rw [getT_eq])
theorem plainly_true (w:World) (os:OsState):(runT (PySem.Challenge.rw_bendproof_k74_desk_refuses).row.prog 9000 (w.withFollow "special-get-raises" true) os).map (fun s=>Calm (PySem.Challenge.rw_bendproof_k74_desk_refuses).row.prog (w.withFollow "special-get-raises" true) s.abs)=some true:=by
 delta runT Calm; rw [PySem.W.Fast.te14364793385576792824,PySem.W.Fast.te10156331382660048174,PySem.W.Fast.te11892475500146522536,PySem.W.Fast.te6613529449190102663,PySem.W.Fast.te8920871248978507458,PySem.W.Fast.te5923862056798008813]; kernel_rfl
theorem plainly_false (w:World) (os:OsState):(runT (PySem.Challenge.rw_bendproof_k74_desk_refuses).row.prog 9000 (w.withFollow "special-get-raises" false) os).map (fun s=>Calm (PySem.Challenge.rw_bendproof_k74_desk_refuses).row.prog (w.withFollow "special-get-raises" false) s.abs)=some true:=by
 delta runT Calm; rw [PySem.W.Fast.te14364793385576792824,PySem.W.Fast.te10156331382660048174,PySem.W.Fast.te11892475500146522536,PySem.W.Fast.te6613529449190102663,PySem.W.Fast.te8920871248978507458,PySem.W.Fast.te5923862056798008813]; kernel_rfl
theorem plainly:Ends (PySem.Challenge.rw_bendproof_k74_desk_refuses).row.prog 9000:=ends_of (row := "special-get-raises") (by kernel_rfl) rfl (fun s=>by kernel_rfl) fun b w os=>by
 cases b
 ·exact plainly_false w os
 ·exact plainly_true w os
theorem seen_true (w:World) (os:OsState):(runT (PySem.Challenge.rw_bendproof_k74_desk_refuses).row.prog 9000 (w.withFollow "special-get-raises" true) os).map (fun s=>PySem.W.openSeen view others (importedModules (PySem.Challenge.rw_bendproof_k74_desk_refuses).row.prog.main.body) (fun s=>PySem.W.xlAt view [] s&&PySem.W.recOk (PySem.Challenge.rw_bendproof_k74_desk_refuses).row.toRowW.records s) true s.abs)=some (PySem.W.openGood view others):=by
 delta runT; rw [PySem.W.Fast.te14364793385576792824,PySem.W.Fast.te10156331382660048174,PySem.W.Fast.te11892475500146522536,PySem.W.Fast.te6613529449190102663,PySem.W.Fast.te8920871248978507458,PySem.W.Fast.te5923862056798008813,PySem.W.Fast.te4187177175401517315]; delta PySem.W.Fast.tw4187177175401517315 PySem.W.openGood; dsimp only; kernel_rfl
theorem seen_false (w:World) (os:OsState):(runT (PySem.Challenge.rw_bendproof_k74_desk_refuses).row.prog 9000 (w.withFollow "special-get-raises" false) os).map (fun s=>PySem.W.openSeen view others (importedModules (PySem.Challenge.rw_bendproof_k74_desk_refuses).row.prog.main.body) (fun s=>PySem.W.xlAt view [] s&&PySem.W.recOk (PySem.Challenge.rw_bendproof_k74_desk_refuses).row.toRowW.records s) true s.abs)=some (PySem.W.openGood view others):=by
 delta runT; rw [PySem.W.Fast.te14364793385576792824,PySem.W.Fast.te10156331382660048174,PySem.W.Fast.te11892475500146522536,PySem.W.Fast.te6613529449190102663,PySem.W.Fast.te8920871248978507458,PySem.W.Fast.te5923862056798008813,PySem.W.Fast.te4187177175401517315]; delta PySem.W.Fast.tw4187177175401517315 PySem.W.openGood; dsimp only; kernel_rfl
theorem seen:Seen (PySem.Challenge.rw_bendproof_k74_desk_refuses).row view others 9000:=look_of (row := "special-get-raises") plainly fun b w os=>by
 cases b
 ·exact seen_false w os
 ·exact seen_true w os
def FnP (K:PySem.W.Frag) (x q:Str) (st:Stmt) (f:Addr):Prop:=∃ (oc:Value) (od an:Option Addr) (sl:Array (Option Value)) (kV dc pm cd ct:Value),K.lookup f=some ⟨oc,od,.func (PySem.W.fnOf x q (v3 st) (zQ st) (qZ st) .none kV dc pm an cd ct),sl⟩/\PySem.W.codeIn K cd q=true/\PySem.W.keepIn K (.ref f)=true
def PF (K:PySem.W.Frag) (x:Str) (st:Stmt):Prop:=∃ f,PySem.W.nsIn K mainGlobals x=some (some (.ref f))/\True/\FnP K x x st f
def PM (K:PySem.W.Frag) (C:Addr) (m q:Str) (st:Stmt):Prop:=∃ f,PySem.W.findIn K (.ref C) m=some (some (.ref f))/\PySem.W.isFn K (.ref f)=true/\FnP K m q st f
theorem PF.of {st:Stmt} {kV dc pm cd ct:Value} (a:PySem.W.nsIn K mainGlobals x=some (some (.ref f))) (l:K.lookup f=some ⟨oc,od,.func (PySem.W.fnOf x x (v3 st) (zQ st) (qZ st) .none kV dc pm an cd ct),sl⟩) (c:PySem.W.codeIn K cd x=true) (k:PySem.W.keepIn K (.ref f)=true):PF K x st:=⟨f,a,trivial,_,_,_,_,_,_,_,_,_,l,c,k⟩
theorem PM.of {st:Stmt} {kV dc pm cd ct:Value} (a:PySem.W.findIn K (.ref C) m=some (some (.ref f))) (i:PySem.W.isFn K (.ref f)=true) (l:K.lookup f=some ⟨oc,od,.func (PySem.W.fnOf m q (v3 st) (zQ st) (qZ st) .none kV dc pm an cd ct),sl⟩) (c:PySem.W.codeIn K cd q=true) (k:PySem.W.keepIn K (.ref f)=true):PM K C m q st:=⟨f,a,i,_,_,_,_,_,_,_,_,_,l,c,k⟩
def tupQ (K:PySem.W.Frag):List PySem.PyData->Value->Bool
 | ds,.ref p=>(match K.lookup p with
  | some o=>o.cls==.type "tuple" && (match o.data with | .seq vs _=>PyProof.Rows.KTD.flatsLook ds vs.toList | _=>false)
  | none=>false)
 | _,_=>false
def tab_WORDS:List (Str×List PySem.PyData):=[("net",[.int 1,.none]),("box",[.int 1,.none]),("at",[.int 1,.int 1]),("bounds",[.int 0,.int 0]),("says",[.int 2,.none]),("most",[.int 1,.none]),("smaller",[.int 0,.int 0])]
def Pins (K:PySem.W.Frag) (w:World):Prop:=∀ C:Prop,(∀ {CC_Box:Addr} {CC_Net:Addr} {CC_Desk:Addr} {C0 C1 C2 C3 C4 C5 C6:Addr} {gg_WORDS:Addr} {tk_MOST_SIDES:Tok} {tk_MOST_FIGURES:Tok} {tk_FIGURES:Tok} {gg_NOUGHT:Addr} {go_NOUGHT:Option Addr} {gn_NOUGHT:Nat} {gs_NOUGHT:Array (Option Value)} {gt0_NOUGHT gt1_NOUGHT:Tok} {tk_MOST_BENDS:Tok} {tk_MOST_UNITS:Tok} {tk_MOST_OUTS:Tok} {tk_MOST_INS:Tok} {gg_IN_A_BOX:Addr} {go_IN_A_BOX:Option Addr} {gn_IN_A_BOX:Nat} {gs_IN_A_BOX:Array (Option Value)} {gt0_IN_A_BOX gt1_IN_A_BOX gt2_IN_A_BOX gt3_IN_A_BOX:Tok}
  (gBox:PySem.W.nsIn K mainGlobals "Box" = some (some (.ref CC_Box))) (gNet:PySem.W.nsIn K mainGlobals "Net" = some (some (.ref CC_Net))) (gDesk:PySem.W.nsIn K mainGlobals "Desk" = some (some (.ref CC_Desk))) (z0:PySem.W.nsIn K mainGlobals "isinstance" = some none) (z1:PySem.W.nsIn K mainGlobals "str" = some none) (z2:PySem.W.nsIn K mainGlobals "len" = some none) (z3:PySem.W.nsIn K mainGlobals "int" = some none) (z4:PySem.W.nsIn K mainGlobals "bool" = some none) (z5:PySem.W.nsIn K mainGlobals "tuple" = some none) (z6:PySem.W.nsIn K mainGlobals "abs" = some none) (z7:PySem.W.nsIn K mainGlobals "list" = some none) (z8:PySem.W.nsIn K mainGlobals "all" = some none) (z9:PySem.W.nsIn K mainGlobals "reversed" = some none) (z10:PySem.W.nsIn K mainGlobals "any" = some none) (z11:PySem.W.nsIn K mainGlobals "set" = some none) (z12:PySem.W.nsIn K mainGlobals "enumerate" = some none) (z13:PySem.W.nsIn K mainGlobals "ValueError" = some none) (mC0:PySem.W.nsIn K mainGlobals "BendError" = some (some (.ref C0))) (mC1:PySem.W.nsIn K mainGlobals "NoRatio" = some (some (.ref C1))) (mC2:PySem.W.nsIn K mainGlobals "NoText" = some (some (.ref C2))) (mC3:PySem.W.nsIn K mainGlobals "NoBox" = some (some (.ref C3))) (mC4:PySem.W.nsIn K mainGlobals "NoNet" = some (some (.ref C4))) (mC5:PySem.W.nsIn K mainGlobals "Unlike" = some (some (.ref C5))) (mC6:PySem.W.nsIn K mainGlobals "NoLine" = some (some (.ref C6))) (x0:PySem.W.excIn K C0 [.type "ValueError",.type "Exception",.type "BaseException",.type "object"] "ValueError.__new__" = true) (x1:PySem.W.excIn K C2 [.type "ValueError",.type "Exception",.type "BaseException",.type "object"] "ValueError.__new__" = true) (x2:PySem.W.mroIn K C2 (.ref C0)=some true) (y1:PySem.W.findIn K (.ref C2) "__getattribute__" = some (some (.builtin "BaseException.__getattribute__"))) (y2:PySem.W.findIn K (.ref C2) "__getattr__" = some none) (y3:PySem.W.findIn K (.ref C2) "__class__" = some (some (.builtin "object.__class__"))) (y4:PySem.W.specialIn K (.builtin "object.__class__") "__get__" = some (some (.builtin "getset_descriptor.__get__"))) (y5:PySem.W.takesIn K (.builtin "object.__class__")=some true) (y6:PySem.W.mroIn K C2 (.type "object")=some true) (y7:PySem.W.mroIn K C2 (.type "BaseException")=some true) (w0:PySem.W.kitOne K (.ref C2) (.type "ValueError")=some true) (wC1:PySem.W.kitOne K (.ref C2) (.ref C1)=some false) (wC2:PySem.W.kitOne K (.ref C2) (.ref C2)=some true) (wC3:PySem.W.kitOne K (.ref C2) (.ref C3)=some false) (wC4:PySem.W.kitOne K (.ref C2) (.ref C4)=some false) (wC5:PySem.W.kitOne K (.ref C2) (.ref C5)=some false) (wC6:PySem.W.kitOne K (.ref C2) (.ref C6)=some false) (x1r1:PySem.W.excIn K C4 [.type "ValueError",.type "Exception",.type "BaseException",.type "object"] "ValueError.__new__" = true) (x2r1:PySem.W.mroIn K C4 (.ref C0)=some true) (y1r1:PySem.W.findIn K (.ref C4) "__getattribute__" = some (some (.builtin "BaseException.__getattribute__"))) (y2r1:PySem.W.findIn K (.ref C4) "__getattr__" = some none) (y3r1:PySem.W.findIn K (.ref C4) "__class__" = some (some (.builtin "object.__class__"))) (y4r1:PySem.W.specialIn K (.builtin "object.__class__") "__get__" = some (some (.builtin "getset_descriptor.__get__"))) (y5r1:PySem.W.takesIn K (.builtin "object.__class__")=some true) (y6r1:PySem.W.mroIn K C4 (.type "object")=some true) (y7r1:PySem.W.mroIn K C4 (.type "BaseException")=some true) (w0r1:PySem.W.kitOne K (.ref C4) (.type "ValueError")=some true) (wC1r1:PySem.W.kitOne K (.ref C4) (.ref C1)=some false) (wC2r1:PySem.W.kitOne K (.ref C4) (.ref C2)=some false) (wC3r1:PySem.W.kitOne K (.ref C4) (.ref C3)=some false) (wC4r1:PySem.W.kitOne K (.ref C4) (.ref C4)=some true) (wC5r1:PySem.W.kitOne K (.ref C4) (.ref C5)=some false) (wC6r1:PySem.W.kitOne K (.ref C4) (.ref C6)=some false) (x1r2:PySem.W.excIn K C3 [.type "ValueError",.type "Exception",.type "BaseException",.type "object"] "ValueError.__new__" = true) (x2r2:PySem.W.mroIn K C3 (.ref C0)=some true) (y1r2:PySem.W.findIn K (.ref C3) "__getattribute__" = some (some (.builtin "BaseException.__getattribute__"))) (y2r2:PySem.W.findIn K (.ref C3) "__getattr__" = some none) (y3r2:PySem.W.findIn K (.ref C3) "__class__" = some (some (.builtin "object.__class__"))) (y4r2:PySem.W.specialIn K (.builtin "object.__class__") "__get__" = some (some (.builtin "getset_descriptor.__get__"))) (y5r2:PySem.W.takesIn K (.builtin "object.__class__")=some true) (y6r2:PySem.W.mroIn K C3 (.type "object")=some true) (y7r2:PySem.W.mroIn K C3 (.type "BaseException")=some true) (w0r2:PySem.W.kitOne K (.ref C3) (.type "ValueError")=some true) (wC1r2:PySem.W.kitOne K (.ref C3) (.ref C1)=some false) (wC2r2:PySem.W.kitOne K (.ref C3) (.ref C2)=some false) (wC3r2:PySem.W.kitOne K (.ref C3) (.ref C3)=some true) (wC4r2:PySem.W.kitOne K (.ref C3) (.ref C4)=some false) (wC5r2:PySem.W.kitOne K (.ref C3) (.ref C5)=some false) (wC6r2:PySem.W.kitOne K (.ref C3) (.ref C6)=some false) (x1r3:PySem.W.excIn K C6 [.type "ValueError",.type "Exception",.type "BaseException",.type "object"] "ValueError.__new__" = true) (x2r3:PySem.W.mroIn K C6 (.ref C0)=some true) (y1r3:PySem.W.findIn K (.ref C6) "__getattribute__" = some (some (.builtin "BaseException.__getattribute__"))) (y2r3:PySem.W.findIn K (.ref C6) "__getattr__" = some none) (y3r3:PySem.W.findIn K (.ref C6) "__class__" = some (some (.builtin "object.__class__"))) (y4r3:PySem.W.specialIn K (.builtin "object.__class__") "__get__" = some (some (.builtin "getset_descriptor.__get__"))) (y5r3:PySem.W.takesIn K (.builtin "object.__class__")=some true) (y6r3:PySem.W.mroIn K C6 (.type "object")=some true) (y7r3:PySem.W.mroIn K C6 (.type "BaseException")=some true) (w0r3:PySem.W.kitOne K (.ref C6) (.type "ValueError")=some true) (wC1r3:PySem.W.kitOne K (.ref C6) (.ref C1)=some false) (wC2r3:PySem.W.kitOne K (.ref C6) (.ref C2)=some false) (wC3r3:PySem.W.kitOne K (.ref C6) (.ref C3)=some false) (wC4r3:PySem.W.kitOne K (.ref C6) (.ref C4)=some false) (wC5r3:PySem.W.kitOne K (.ref C6) (.ref C5)=some false) (wC6r3:PySem.W.kitOne K (.ref C6) (.ref C6)=some true) (pgBox:PySem.W.plainGet K CC_Box Str.empty=true) (hdBox:PySem.W.hasDictIn K CC_Box=true) (poBox:PySem.W.plainOver K CC_Box=true) (saBox:PySem.W.findIn K (.ref CC_Box) "__setattr__" = some (some (.builtin "object.__setattr__"))) (mkBox:PySem.W.makesIn K CC_Box=true) (kcBox:PySem.W.keepIn K (.ref CC_Box)=true) (naBox_sides:PySem.W.findIn K (.ref CC_Box) "sides" = some none) (pgNet:PySem.W.plainGet K CC_Net Str.empty=true) (hdNet:PySem.W.hasDictIn K CC_Net=true) (poNet:PySem.W.plainOver K CC_Net=true) (saNet:PySem.W.findIn K (.ref CC_Net) "__setattr__" = some (some (.builtin "object.__setattr__"))) (mkNet:PySem.W.makesIn K CC_Net=true) (kcNet:PySem.W.keepIn K (.ref CC_Net)=true) (naNet_many:PySem.W.findIn K (.ref CC_Net) "many" = some none) (naNet_units:PySem.W.findIn K (.ref CC_Net) "units" = some none) (naNet_outs:PySem.W.findIn K (.ref CC_Net) "outs" = some none) (pgDesk:PySem.W.plainGet K CC_Desk Str.empty=true) (hdDesk:PySem.W.hasDictIn K CC_Desk=true) (poDesk:PySem.W.plainOver K CC_Desk=true) (saDesk:PySem.W.findIn K (.ref CC_Desk) "__setattr__" = some (some (.builtin "object.__setattr__"))) (mkDesk:PySem.W.makesIn K CC_Desk=true) (kcDesk:PySem.W.keepIn K (.ref CC_Desk)=true) (naDesk_net:PySem.W.findIn K (.ref CC_Desk) "net" = some none) (naDesk_box:PySem.W.findIn K (.ref CC_Desk) "box" = some none) (qWORDS:PySem.W.nsIn K mainGlobals "WORDS" = some (some (.ref gg_WORDS))) (vlWORDS:PyProof.Rows.KTD.tabLook (tupQ K) (fun a=>K.lookup a) gg_WORDS tab_WORDS=true) (vhWORDS:PyProof.Rows.KTD.hashesOf (fun a=>K.lookup a) gg_WORDS=tab_WORDS.map fun p=>hashStr w p.1) (qMOST_SIDES:PySem.W.nsIn K mainGlobals "MOST_SIDES" = some (some (.int 6 tk_MOST_SIDES))) (qMOST_FIGURES:PySem.W.nsIn K mainGlobals "MOST_FIGURES" = some (some (.int 60 tk_MOST_FIGURES))) (qFIGURES:PySem.W.nsIn K mainGlobals "FIGURES" = some (some (.str "0123456789" tk_FIGURES))) (qNOUGHT:PySem.W.nsIn K mainGlobals "NOUGHT" = some (some (.ref gg_NOUGHT))) (qlNOUGHT:K.lookup gg_NOUGHT=some ⟨.type "tuple",go_NOUGHT,.seq #[.int 0 gt0_NOUGHT,.int 1 gt1_NOUGHT] gn_NOUGHT,gs_NOUGHT⟩) (qMOST_BENDS:PySem.W.nsIn K mainGlobals "MOST_BENDS" = some (some (.int 20 tk_MOST_BENDS))) (qMOST_UNITS:PySem.W.nsIn K mainGlobals "MOST_UNITS" = some (some (.int 80 tk_MOST_UNITS))) (qMOST_OUTS:PySem.W.nsIn K mainGlobals "MOST_OUTS" = some (some (.int 12 tk_MOST_OUTS))) (qMOST_INS:PySem.W.nsIn K mainGlobals "MOST_INS" = some (some (.int 6 tk_MOST_INS))) (qIN_A_BOX:PySem.W.nsIn K mainGlobals "IN_A_BOX" = some (some (.ref gg_IN_A_BOX))) (qlIN_A_BOX:K.lookup gg_IN_A_BOX=some ⟨.type "tuple",go_IN_A_BOX,.seq #[.str "bounds" gt0_IN_A_BOX,.str "says" gt1_IN_A_BOX,.str "most" gt2_IN_A_BOX,.str "smaller" gt3_IN_A_BOX] gn_IN_A_BOX,gs_IN_A_BOX⟩) (h0:PF K "_law_mixed" syl) (h1:PM K CC_Desk "__init__" "Desk.__init__" sz7) (h2:PF K "line_words" Qx) (h3:PF K "less" syq) (h4:PF K "plain" syv) (h5:PF K "common" sya) (h6:PF K "is_whole" sye) (h7:PF K "is_ratio" syd) (h8:PF K "checked_side" kX) (h9:PM K CC_Box "__init__" "Box.__init__" sz2) (h10:PF K "read_whole" Qz) (h11:PF K "read_top" sx5) (h12:PF K "ratio" syy) (h13:PF K "figures" syb) (h14:PF K "shown" sx8) (h15:PF K "read" syz) (h16:PF K "read_point" Qj) (h17:PF K "side_of" sxa) (h18:PF K "told_unit" sxe) (h19:PM K CC_Net "told" "Net.told" szq) (h20:PF K "box_of" sy2) (h21:PF K "shown_point" xk) (h22:PF K "plus" syw) (h23:PF K "times" sxd) (h24:PF K "terms_value" xx) (h25:PF K "bent" sy1) (h26:PF K "value_of" sxf) (h27:PM K CC_Net "walked" "Net.walked" Qk) (h28:PM K CC_Net "outs_at" "Net.outs_at" xX) (h29:PF K "point_of" syx) (h30:PM K CC_Desk "judge" "Desk.judge" Qv) (h31:PF K "place_count" xw) (h32:PF K "read_term" sx4) (h33:PF K "terms_of" sxb) (h34:PF K "greatest" syc) (h35:PM K CC_Desk "answer" "Desk.answer" xK) (h36:PM K CC_Desk "take_net" "Desk.take_net" wv) (h37:PF K "read_places" xv) (h38:PF K "checked_place" wk) (h39:PF K "checked_term" kJ) (h40:PF K "checked_sum" xJ) (h41:PF K "checked_unit" kZ) (h42:PF K "checked_units" wx) (h43:PF K "checked_outs" kK) (h44:PM K CC_Net "__init__" "Net.__init__" szm) (h45:PF K "read_unit" sx6) (h46:PF K "read_net" sx0) (h47:PF K "net_of" sys) (h48:PM K CC_Desk "say" "Desk.say" sza) (h49:PF K "_law_ratio_odd" zV) (h50:PF K "_law_bad" zY) (h51:PF K "_law_ahead" syg) (h52:PF K "_law_bad_net" xZ) (h53:PF K "_law_refusal" xy) (h54:PF K "_law_kept" kQ) (h55:PF K "_law_cell_at" xQ) (h56:PF K "_law_odd_line" zz) (h57:PF K "_law_walked" vz) (h58:PF K "law" syf),C)->C
end BP
section
open PySem PySem.W PyProof.Rows
local macro_rules | `(tactic| walk_at "e") => `(tactic| ((try rw [PySem.W.Fast.te11788848310118352699]); (try rw [PySem.W.Fast.te2368527892694137696]); (try rw [PySem.W.Fast.te9807087744658564304]); (try rw [PySem.W.Fast.te12862048085361865435]); (try rw [PySem.W.Fast.te8377067652309620493]); (try rw [PySem.W.Fast.te18344453789297297638]); (try rw [PySem.W.Fast.te3471404346716756564]); (try rw [PySem.W.Fast.sDec_eq]); (try rw [PySem.W.Fast.te14412699480532031325]); (try rw [PySem.W.Fast.te8326940854005059898]); (try rw [PySem.W.Fast.te5923862056798008813]); (try rw [PySem.W.Fast.te17691160309236699985]); (try rw [PySem.W.Fast.te13343964577679436407]); (try rw [PySem.W.Fast.te17119622794617984870]); (try rw [PySem.W.Fast.te17868728402115742887]); (try rw [PySem.W.Fast.te9706382859710513879]); (try rw [PySem.W.S.strDecS_eq]); (try rw [PySem.W.Fast.te2357444279172408678]); (try rw [PySem.W.Fast.te4857012375875476094]); (try rw [PySem.W.Fast.named_eq]); (try rw [PySem.W.Fast.te13582783067957832011]); (try rw [PySem.W.Fast.te5318747976498570220]); (try rw [PySem.W.Fast.te4579403493507170074]); (try rw [PySem.W.Fast.te4274047373036748609]); (try rw [PySem.W.Fast.te12749700546528644094]); (try rw [PySem.W.Fast.te10501279942588096481]); (try rw [PySem.W.Fast.te8179353310426384613]); (try rw [PySem.W.Fast.te797321630700447069]); (try rw [PySem.W.Fast.te9572597257264208301]); (try rw [PySem.W.Fast.te9558739934217749035]); (try rw [PySem.W.Fast.te16286561074155671207]); (try rw [PySem.W.Fast.te6984425678791042302]); (try rw [PySem.W.Fast.te12879404354523853263]); (try rw [PySem.W.Fast.te482687673346738481]); (try rw [PySem.W.Fast.te10792542408131684335]); (try rw [PySem.W.Fast.te7723801398212525404]); kernel_rfl))
theorem BP.said1:PySem.W.sreFenced (PySem.Challenge.rw_bendproof_k74_desk_refuses).row.prog.main=true:=by walk_at "e"
theorem BP.said2:PySem.W.namesResolve (PySem.Challenge.rw_bendproof_k74_desk_refuses).row.prog=true:=by walk_at "e"
theorem BP.said3:PySem.W.looksOpen (PySem.Challenge.rw_bendproof_k74_desk_refuses).row.prog=true:=by
 delta PySem.W.looksOpen
 rw [BP.said1,BP.said2]
 walk_at "e"
theorem BP.said:PySem.W.OpenLaw.wellSaid PySem.Challenge.rw_bendproof_k74_desk_refuses=true:=by
 delta PySem.W.OpenLaw.wellSaid PySem.W.OpenRow.wellSaid PySem.W.OpenRow.partSaid
 rw [BP.said3]
 walk_at "e"
local macro_rules | `(tactic| o_head $H) => `(tactic| refine BP.head (q := BP.view) $H 9000 BP.seen ?_ rfl rfl rfl rfl (by assumption) (by decide +kernel) ⟨rfl, rfl, rfl, rfl, rfl, by decide +kernel⟩ ?_ ?_)
set_option maxRecDepth 100000 in
theorem BP.pre (no:False):PySem.Challenge.rw_bendproof_k74_desk_refuses.Holds:=by
 w_on; (refine PySem.W.holds_law BP.said fun said=>?_); k_head
 all_goals exact no.elim
set_option maxRecDepth 100000 in
theorem BP.look_true (w:World) (os:OsState):(BP.runT (PySem.Challenge.rw_bendproof_k74_desk_refuses).row.prog 9000 (w.withFollow "special-get-raises" true) os).map (fun s=>(((BP.pre.heap_1 (w.withFollow "special-get-raises" true).params).map (·.1)).map (BP.getT s),[641].map (BP.getT s)))=some ((BP.pre.heap_1 (w.withFollow "special-get-raises" true).params).map fun p=>some p.2,([641]:List Addr).map fun _=>some (PySem.W.tabObj #[])):=by
 delta BP.runT; rw [PySem.W.Fast.te14364793385576792824,PySem.W.Fast.te10156331382660048174,PySem.W.Fast.te11892475500146522536,PySem.W.Fast.te6613529449190102663,PySem.W.Fast.te8920871248978507458]; kernel_rfl
set_option maxRecDepth 100000 in
theorem BP.look_false (w:World) (os:OsState):(BP.runT (PySem.Challenge.rw_bendproof_k74_desk_refuses).row.prog 9000 (w.withFollow "special-get-raises" false) os).map (fun s=>(((BP.pre.heap_1 (w.withFollow "special-get-raises" false).params).map (·.1)).map (BP.getT s),[641].map (BP.getT s)))=some ((BP.pre.heap_1 (w.withFollow "special-get-raises" false).params).map fun p=>some p.2,([641]:List Addr).map fun _=>some (PySem.W.tabObj #[])):=by
 delta BP.runT; rw [PySem.W.Fast.te14364793385576792824,PySem.W.Fast.te10156331382660048174,PySem.W.Fast.te11892475500146522536,PySem.W.Fast.te6613529449190102663,PySem.W.Fast.te8920871248978507458]; kernel_rfl
set_option maxRecDepth 100000 in
theorem BP.early (fin:∀ {q:Program} {loose:List Str} {XP:(Str->Option Value)->Heap->Prop} {YP:World->Heap->Prop} {d:DefRec} {K:Params->PySem.W.Frag},d.params.defaults=[]->d.name = "law" -> (∀ (w:World) (h:Heap),YP w h->(K w.params).In h)->(∀ w:World,BP.Pins (K w.params) w)->PySem.W.WalkO q loose XP YP (PySem.Challenge.rw_bendproof_k74_desk_refuses).row.toRowW d [] (fun f vs=>PySem.call f vs)):PySem.Challenge.rw_bendproof_k74_desk_refuses.Holds:=by
 w_on; (refine PySem.W.holds_law BP.said fun said=>?_); k_head
 ·refine BP.look_km (row := "special-get-raises") BP.plainly ?_
  intro b w os
  cases b
  ·exact Eq.mp (by kernel_rfl) (BP.look_false w os)
  ·exact Eq.mp (by kernel_rfl) (BP.look_true w os)
 ·w_witness2
 k_fill
 refine fin rfl rfl (fun w h Y=>PySem.W.km_in_of Y) ?F
 case F =>
  intro w C k;refine' k ?gBox ?gNet ?gDesk ?z0 ?z1 ?z2 ?z3 ?z4 ?z5 ?z6 ?z7 ?z8 ?z9 ?z10 ?z11 ?z12 ?z13 ?mC0 ?mC1 ?mC2 ?mC3 ?mC4 ?mC5 ?mC6 ?x0 ?x1 ?x2 ?y1 ?y2 ?y3 ?y4 ?y5 ?y6 ?y7 ?w0 ?wC1 ?wC2 ?wC3 ?wC4 ?wC5 ?wC6 ?x1r1 ?x2r1 ?y1r1 ?y2r1 ?y3r1 ?y4r1 ?y5r1 ?y6r1 ?y7r1 ?w0r1 ?wC1r1 ?wC2r1 ?wC3r1 ?wC4r1 ?wC5r1 ?wC6r1 ?x1r2 ?x2r2 ?y1r2 ?y2r2 ?y3r2 ?y4r2 ?y5r2 ?y6r2 ?y7r2 ?w0r2 ?wC1r2 ?wC2r2 ?wC3r2 ?wC4r2 ?wC5r2 ?wC6r2 ?x1r3 ?x2r3 ?y1r3 ?y2r3 ?y3r3 ?y4r3 ?y5r3 ?y6r3 ?y7r3 ?w0r3 ?wC1r3 ?wC2r3 ?wC3r3 ?wC4r3 ?wC5r3 ?wC6r3 ?pgBox ?hdBox ?poBox ?saBox ?mkBox ?kcBox ?naBox_sides ?pgNet ?hdNet ?poNet ?saNet ?mkNet ?kcNet ?naNet_many ?naNet_units ?naNet_outs ?pgDesk ?hdDesk ?poDesk ?saDesk ?mkDesk ?kcDesk ?naDesk_net ?naDesk_box ?qWORDS ?vlWORDS ?vhWORDS ?qMOST_SIDES ?qMOST_FIGURES ?qFIGURES ?qNOUGHT ?qlNOUGHT ?qMOST_BENDS ?qMOST_UNITS ?qMOST_OUTS ?qMOST_INS ?qIN_A_BOX ?qlIN_A_BOX ?h0 ?h1 ?h2 ?h3 ?h4 ?h5 ?h6 ?h7 ?h8 ?h9 ?h10 ?h11 ?h12 ?h13 ?h14 ?h15 ?h16 ?h17 ?h18 ?h19 ?h20 ?h21 ?h22 ?h23 ?h24 ?h25 ?h26 ?h27 ?h28 ?h29 ?h30 ?h31 ?h32 ?h33 ?h34 ?h35 ?h36 ?h37 ?h38 ?h39 ?h40 ?h41 ?h42 ?h43 ?h44 ?h45 ?h46 ?h47 ?h48 ?h49 ?h50 ?h51 ?h52 ?h53 ?h54 ?h55 ?h56 ?h57 ?h58
  (case gBox=>k_is)
  (case gNet=>k_is)
  (case gDesk=>k_is)
  (case z0=>k_is)
  (case z1=>k_is)
  (case z2=>k_is)
  (case z3=>k_is)
  (case z4=>k_is)
  (case z5=>k_is)
  (case z6=>k_is)
  (case z7=>k_is)
  (case z8=>k_is)
  (case z9=>k_is)
  (case z10=>k_is)
  (case z11=>k_is)
  (case z12=>k_is)
  (case z13=>k_is)
  (case mC0=>k_is)
  (case mC1=>k_is)
  (case mC2=>k_is)
  (case mC3=>k_is)
  (case mC4=>k_is)
  (case mC5=>k_is)
  (case mC6=>k_is)
  (case x0=>k_exc)
  (case x1=>k_exc)
  (case x2=>k_is)
  (case y1=>k_is)
  (case y2=>k_is)
  (case y3=>k_is)
  (case y4=>k_is)
  (case y5=>k_is)
  (case y6=>k_is)
  (case y7=>k_is)
  (case w0=>kit_is)
  (case wC1=>kit_is)
  (case wC2=>kit_is)
  (case wC3=>kit_is)
  (case wC4=>kit_is)
  (case wC5=>kit_is)
  (case wC6=>kit_is)
  (case x1r1=>k_exc)
  (case x2r1=>k_is)
  (case y1r1=>k_is)
  (case y2r1=>k_is)
  (case y3r1=>k_is)
  (case y4r1=>k_is)
  (case y5r1=>k_is)
  (case y6r1=>k_is)
  (case y7r1=>k_is)
  (case w0r1=>kit_is)
  (case wC1r1=>kit_is)
  (case wC2r1=>kit_is)
  (case wC3r1=>kit_is)
  (case wC4r1=>kit_is)
  (case wC5r1=>kit_is)
  (case wC6r1=>kit_is)
  (case x1r2=>k_exc)
  (case x2r2=>k_is)
  (case y1r2=>k_is)
  (case y2r2=>k_is)
  (case y3r2=>k_is)
  (case y4r2=>k_is)
  (case y5r2=>k_is)
  (case y6r2=>k_is)
  (case y7r2=>k_is)
  (case w0r2=>kit_is)
  (case wC1r2=>kit_is)
  (case wC2r2=>kit_is)
  (case wC3r2=>kit_is)
  (case wC4r2=>kit_is)
  (case wC5r2=>kit_is)
  (case wC6r2=>kit_is)
  (case x1r3=>k_exc)
  (case x2r3=>k_is)
  (case y1r3=>k_is)
  (case y2r3=>k_is)
  (case y3r3=>k_is)
  (case y4r3=>k_is)
  (case y5r3=>k_is)
  (case y6r3=>k_is)
  (case y7r3=>k_is)
  (case w0r3=>kit_is)
  (case wC1r3=>kit_is)
  (case wC2r3=>kit_is)
  (case wC3r3=>kit_is)
  (case wC4r3=>kit_is)
  (case wC5r3=>kit_is)
  (case wC6r3=>kit_is)
  (case pgBox=>k_is)
  (case hdBox=>k_is)
  (case poBox=>k_is)
  (case saBox=>k_is)
  (case mkBox=>k_is)
  (case kcBox=>k_is)
  (case naBox_sides=>k_is)
  (case pgNet=>k_is)
  (case hdNet=>k_is)
  (case poNet=>k_is)
  (case saNet=>k_is)
  (case mkNet=>k_is)
  (case kcNet=>k_is)
  (case naNet_many=>k_is)
  (case naNet_units=>k_is)
  (case naNet_outs=>k_is)
  (case pgDesk=>k_is)
  (case hdDesk=>k_is)
  (case poDesk=>k_is)
  (case saDesk=>k_is)
  (case mkDesk=>k_is)
  (case kcDesk=>k_is)
  (case naDesk_net=>k_is)
  (case naDesk_box=>k_is)
  (case qWORDS=>k_is)
  (case vlWORDS=>kernel_rfl)
  (case vhWORDS=>kernel_rfl)
  (case qMOST_SIDES=>k_is)
  (case qMOST_FIGURES=>k_is)
  (case qFIGURES=>k_is)
  (case qNOUGHT=>k_is)
  (case qlNOUGHT=>k_is)
  (case qMOST_BENDS=>k_is)
  (case qMOST_UNITS=>k_is)
  (case qMOST_OUTS=>k_is)
  (case qMOST_INS=>k_is)
  (case qIN_A_BOX=>k_is)
  (case qlIN_A_BOX=>k_is)
  all_goals first | (refine' PF.of ?a ?l ?c ?k; (case a=>k_is); (case l=>k_is); (case c=>k_is); (case k=>k_is)) | (refine' PM.of ?a ?i ?l ?c ?k; (case a=>k_is); (case i=>k_is); (case l=>k_is); (case c=>k_is); (case k=>k_is))
end
theorem A0:type_of% @List.getD_eq_getElem?_getD.{0}:=@List.getD_eq_getElem?_getD
theorem A1:type_of% @List.getElem?_append_right.{0}:=@List.getElem?_append_right
theorem A2:type_of% @List.getElem?_append_left.{0}:=@List.getElem?_append_left
theorem A3:type_of% @Int.mul_fdiv_cancel_left:=@Int.mul_fdiv_cancel_left
theorem A4:type_of% @List.getElem?_eq_getElem.{0}:=@List.getElem?_eq_getElem
theorem A5:type_of% @List.take_of_length_le.{0}:=@List.take_of_length_le
theorem A6:type_of% @List.length_singleton.{0}:=@List.length_singleton
theorem A7:type_of% @List.mem_append_right.{0}:=@List.mem_append_right
theorem A8:type_of% @List.length_replicate.{0}:=@List.length_replicate
theorem A9:type_of% @List.mem_of_getElem?.{0}:=@List.mem_of_getElem?
theorem Aa:type_of% @List.mem_append_left.{0}:=@List.mem_append_left
theorem Ab:type_of% @Nat.pow_le_pow_right:=@Nat.pow_le_pow_right
theorem Ac:type_of% @List.getElem?_set_ne.{0}:=@List.getElem?_set_ne
theorem Ad:type_of% @List.length_append.{0}:=@List.length_append
theorem Ae:type_of% @List.mem_cons_self.{0}:=@List.mem_cons_self
theorem Af:type_of% @Nat.lt_of_lt_of_le:=@Nat.lt_of_lt_of_le
theorem Ag:type_of% @Bool.false_ne_true:=@Bool.false_ne_true
theorem Ah:type_of% @Int.natAbs_natCast:=@Int.natAbs_natCast
theorem Ai:type_of% @Rat.num_divInt_den:=@Rat.num_divInt_den
theorem Aj:type_of% @List.length_take.{0}:=@List.length_take
theorem Ak:type_of% @List.mem_append.{0}:=@List.mem_append
theorem Al:type_of% @List.map_append.{0,0}:=@List.map_append
theorem Am:type_of% @Option.some.inj.{0}:=@Option.some.inj
theorem An:type_of% @Int.natAbs_mul:=@Int.natAbs_mul
theorem Ao:type_of% @Nat.le_trans:=@Nat.le_trans
abbrev Ap:=PySem.W.Frag
namespace L2
open PySem PySem.Spec PyProof.Rows
abbrev Key:=Sum Int Str
def keyIs:Key->Value->Bool
 | .inl k,v=>Value.isInt k v
 | .inr x,v=>Value.isStrOf x v
def keyH (w:World):Key->Int
 | .inl k=>hashInt k
 | .inr x=>hashStr w x
theorem j1:∀ {k:Key} {v:Value},keyIs k v=true->(∃ i t,k=Sum.inl i/\v=Value.int i t)\/(∃ x t,k=Sum.inr x/\v=Value.str x t)
 | .inl i,v,h=>by
  obtain ⟨t,e⟩:=Value.isInt_shape (k:=i) (v:=v) h;exact .inl ⟨i,t,rfl,e⟩
 | .inr x,v,h=>by
  obtain ⟨t,e⟩:=Value.isStrOf_shape (x:=x) (v:=v) h;exact .inr ⟨x,t,rfl,e⟩
theorem key_ll (a b:Int):decide ((Sum.inl a:Key)=Sum.inl b)=(a==b):=by
 by_cases e:a=b
 ·subst e; simp
 ·have h:¬ (Sum.inl a:Key)=Sum.inl b:=fun q=>e (Sum.inl.inj q)
  rw [decide_eq_false h];exact (beq_eq_false_iff_ne.mpr e).symm
theorem key_rr (a b:Str):decide ((Sum.inr a:Key)=Sum.inr b)=decide (a=b):=by
 by_cases e:a=b
 ·subst e; simp
 ·have h:¬ (Sum.inr a:Key)=Sum.inr b:=fun q=>e (Sum.inr.inj q)
  rw [decide_eq_false h,decide_eq_false e]
theorem key_lr (a:Int) (b:Str):decide ((Sum.inl a:Key)=Sum.inr b)=false:=decide_eq_false (fun q=>nomatch q)
theorem key_rl (a:Str) (b:Int):decide ((Sum.inr a:Key)=Sum.inl b)=false:=decide_eq_false (fun q=>nomatch q)
def mixKind (prog:Program) (w:World):PySem.KeyKind prog w Key where
 is:=keyIs
 hash:=keyH w
 inj:=fun v a b ha hb=>by
  rcases j1 ha with ⟨i,t,rfl,rfl⟩ | ⟨x,t,rfl,rfl⟩
  ·rcases j1 hb with ⟨j,u,rfl,e⟩ | ⟨y,u,rfl,e⟩
   ·injection e with e1 _; rw [e1]
   ·exact nomatch e
  ·rcases j1 hb with ⟨j,u,rfl,e⟩ | ⟨y,u,rfl,e⟩
   ·exact nomatch e
   ·injection e with e1 _; rw [e1]
 byValue:=fun k v h=>by
  rcases j1 h with ⟨i,t,rfl,rfl⟩ | ⟨x,t,rfl,rfl⟩ <;> rfl
 pyHash:=fun hv h=>by
  rcases j1 hv with ⟨i,t,rfl,rfl⟩ | ⟨x,t,rfl,rfl⟩
  ·exact wpAny_pyHash_int h
  ·exact wpAny_pyHash_str h
 eqBool:=fun hu hv h=>by
  rcases j1 hu with ⟨i,t,rfl,rfl⟩ | ⟨x,t,rfl,rfl⟩
  ·rcases j1 hv with ⟨j,u,rfl,rfl⟩ | ⟨y,u,rfl,rfl⟩
   ·rw [key_ll] at h; exact wpAny_eqBool_int h
   ·rw [key_lr] at h; exact SeqAt.EqAt.int_str i t y u _ _ _ _ h
  ·rcases j1 hv with ⟨j,u,rfl,rfl⟩ | ⟨y,u,rfl,rfl⟩
   ·rw [key_rl] at h; exact SeqAt.EqAt.str_int x t j u _ _ _ _ h
   ·rw [key_rr] at h; exact wpAny_eqBool_str h
 «strs»:=fun k x t v h=>by
  rcases j1 h with ⟨i,u,rfl,e⟩ | ⟨y,u,rfl,e⟩
  ·exact nomatch e
  ·injection e with e1 _
   subst e1
   cases v <;> rfl
inductive V where
 | non | bl (b:Bool) | int (i:Int) | str (x:Str) | byt (b:Array UInt8) | flt (b:UInt64) | ref (a:Addr) | ty (n:String)
 deriving DecidableEq
def RelV:V->Value->Prop
 | .non,u=>u=Value.none
 | .bl b,u=>u=Value.bool b
 | .int i,u=>∃ t,u=Value.int i t
 | .str x,u=>∃ t,u=Value.str x t
 | .byt b,u=>∃ t,u=Value.bytes b t
 | .flt b,u=>∃ t,u=Value.float b t
 | .ref a,u=>u=Value.ref a
 | .ty n,u=>u=Value.type n
abbrev Vals:List V->List Value->Prop:=Paired RelV
theorem Vals.length (r:Vals xs us):xs.length=us.length:=Paired.length r
theorem Vals.get:∀ {xs:List V} {us:List Value} {i:Nat} {x:V},Vals xs us->xs[i]?=some x->∃ u,us[i]?=some u/\RelV x u
 | _,_,_,_,.nil,e=>by simp at e
 | _,_,0,_,.cons r _,e=>by simp at e; subst e; exact ⟨_,rfl,r⟩
 | _,_,i+1,x,.cons _ t,e=>by
  obtain ⟨u,h1,h2⟩:=Vals.get (i:=i) (x:=x) t (by simpa using e);exact ⟨u,by simpa using h1,h2⟩
theorem Vals.append:∀ {xs ys:List V} {us ws:List Value},Vals xs us->Vals ys ws->Vals (xs++ys) (us++ws)
 | _,_,_,_,.nil,s=>s
 | _,_,_,_,.cons r t,s=>.cons r (Vals.append t s)
theorem Vals.take:∀ {xs:List V} {us:List Value} (n:Nat),Vals xs us->Vals (xs.take n) (us.take n)
 | _,_,0,_=>.nil
 | _,_,_+1,.nil=>.nil
 | _,_,n+1,.cons r t=>.cons r (Vals.take n t)
theorem Vals.drop:∀ {xs:List V} {us:List Value} (n:Nat),Vals xs us->Vals (xs.drop n) (us.drop n)
 | _,_,0,r=>r
 | _,_,_+1,.nil=>.nil
 | _,_,n+1,.cons _ t=>Vals.drop n t
def RelO:Option V->Option Value->Prop
 | some v,some u=>RelV v u
 | none,none=>True
 | _,_=>False
def KV {κ:Type}:List (κ×V)->List (κ×Value)->Prop:=Paired fun (p:κ×V) (q:κ×Value)=>p.1=q.1/\RelV p.2 q.2
def kV:Key->V
 | .inl i=>.int i
 | .inr x=>.str x
inductive HO where
 | lst (xs:List V)
 | tup (xs:List V)
 | dK (kvs:List (Key×V)) | dT (kvs:List (List Key×V))
 | set (S:Int->Bool) (n:Nat)
 | ins (C dx:Addr) (fs:List (Str×V))
 | own (x:Addr)
 | xd (fs:List (Str×V))
 | met (f x:Addr)
 | rng (lo hi:Int)
 | frz (o:Obj) (u:HO)
 | tbl (ps:Array Value)
 | ext (φ:Heap->Prop)
abbrev Hp:=Addr->Option HO
def upd (H:Hp) (a:Addr) (o:HO):Hp:=fun b=>if b=a then some o else H b
theorem qk:upd H a o a=some o:=by unfold upd; rw [if_pos rfl]
theorem zk (h:b≠a):upd H a o b=H b:=by unfold upd; rw [if_neg h]
theorem ne_of {H:Hp} (h:H a=some o) (h':H b=some u) (d:o≠u):a≠b:=by
 intro e; subst e; rw [h] at h'; exact d (Am h')
theorem zW {H:Hp} (h:H a=some o) (h':H b=none):a≠b:=by
 intro e; subst e; rw [h] at h'; cases h'
section
variable (P:Program) (w:World)
def ObjOk (H:Hp) (h:Heap) (a:Addr):HO->Prop
 | .lst xs=>xs.length<=sizeLine/\∃ (its:List Value) (n:Nat),Vals xs its/\h.get? a=some { cls:=.type "list",data:=.seq its.toArray n }
 | .tup xs=>xs.length<=sizeLine/\∃ its:List Value,Vals xs its/\IsTup h a its.toArray
 | .dK kvs=>kvs.length<=sizeLine/\(a==sysModules)=false/\∃ vs,KV kvs vs/\h.DictOf (mixKind P w) a vs
 | .dT kvs=>kvs.length<=sizeLine/\(a==sysModules)=false/\∃ xs:List (List Key×Addr×Value),Paired (fun (p:List Key×V) (q:List Key×Addr×Value)=>p.1=q.1/\H q.2.1=some (.tup (p.1.map kV))/\RelV p.2 q.2.2) kvs xs/\∃ o es ep,h.get? a=some o/\o.ExactDict/\o.data=.dict es ep/\es.toList=xs.map (entryOfKey (tupleKind (mixKind P w)))/\(xs.map (·.1)).Nodup
 | .set S n=>h.SetOf (intKind P w) a S n
 | .ins C dx fs=>H dx=some (.own a)/\fs.length<=1000/\dx≠a/\h.get? a=some (PySem.W.instObj C dx)/\∃ mA,h.Ns1 dx mA/\(∀ f,RelO (fs.lookup f) (mA f))/\PySem.Within mA (fs.map (·.1))
 | .own _=>∃ o,h.get? a=some o
 | .xd fs=>∃ mA,h.Ns1 a mA/\∀ f,RelO (fs.lookup f) (mA f)
 | .rng lo hi=>∃ t u v,h.get? a=some { cls:=.type "range",data:=.fields #[.int lo t,.int hi u,.int 1 v] }
 | .frz o u=>h.get? a=some o/\ObjOk H h a u
 | .tbl ps=>h.get? a=some { cls:=.none,data:=.fields ps }
 | .met f x=>h.get? a=some (PySem.W.methodObj (.ref f) (.ref x))
 | .ext φ=>φ h/\(∃ o,h.get? a=some o)/\∀ h1 h2:Heap,φ h1->(∀ o,h1.get? a=some o->h2.get? a=some o)->φ h2
def HOk (H:Hp) (h:Heap):Prop:=∀ a o,H a=some o->ObjOk P w H h a o
end
section
variable {P:Program} {w:World} {H H':Hp} {h h':Heap} {a:Addr} {o:HO}
theorem ObjOk.lt (x:ObjOk P w H h a o):a<h.objs.size:=by
 cases o with
 | lst xs=>obtain ⟨_,_,_,_,e⟩:=x; exact Heap.lt_size e
 | tup xs=>obtain ⟨_,_,_,p⟩:=x; exact p.lt
 | dK kvs=>obtain ⟨_,_,_,_,o,_,_,e,_⟩:=x; exact Heap.lt_size e
 | dT kvs=>obtain ⟨_,_,_,_,o,_,_,e,_⟩:=x; exact Heap.lt_size e
 | set S n=>obtain ⟨o,_,_,_,e,_⟩:=x; exact Heap.lt_size e
 | ins C dx fs=>obtain ⟨_,_,_,e,_⟩:=x; exact Heap.lt_size e
 | own y=>obtain ⟨_,e⟩:=x; exact Heap.lt_size e
 | xd fs=>obtain ⟨_,⟨_,_,_,e,_⟩,_⟩:=x; exact Heap.lt_size e
 | rng lo hi=>obtain ⟨_,_,_,e⟩:=x; exact Heap.lt_size e
 | frz ob u=>obtain ⟨e,_⟩:=x; exact Heap.lt_size e
 | tbl ps=>exact Heap.lt_size (show h.get? a=some _ from x)
 | met f y=>exact Heap.lt_size (show h.get? a=some _ from x)
 | ext φ=>obtain ⟨_,⟨_,e⟩,_⟩:=x; exact Heap.lt_size e
theorem Paired.mapP {α β:Type} {F G:α->β->Prop}:∀ {l₁:List α} {l₂:List β},Paired F l₁ l₂->(∀ a b,F a b->G a b)->Paired G l₁ l₂
 | _,_,.nil,_=>.nil
 | _,_,.cons r t,f=>.cons (f _ _ r) (Paired.mapP t f)
theorem ObjOk.stay (x:ObjOk P w H h a o) (k:∀ b u,(b=a\/H b=some (.own a))->h.get? b=some u->h'.get? b=some u)
  (ho:∀ b,H b=some (.own a)->H' b=some (.own a)) (ht:∀ b xs,H b=some (.tup xs)->H' b=some (.tup xs)):ObjOk P w H' h' a o:=by
 induction o with
 | lst xs=>obtain ⟨z,its,n,r,e⟩:=x; exact ⟨z,its,n,r,k _ _ (.inl rfl) e⟩
 | tup xs=>obtain ⟨z,its,r,ob,e,c⟩:=x; exact ⟨z,its,r,ob,k _ _ (.inl rfl) e,c⟩
 | dK kvs=>obtain ⟨z,y,vs,r,ob,es,ep,e,c⟩:=x; exact ⟨z,y,vs,r,ob,es,ep,k _ _ (.inl rfl) e,c⟩
 | dT kvs =>
  obtain ⟨z,y,xs,r,ob,es,ep,e,c⟩:=x;exact ⟨z,y,xs,Paired.mapP r fun p q z=>⟨z.1,ht _ _ z.2.1,z.2.2⟩,ob,es,ep,k _ _ (.inl rfl) e,c⟩
 | set S n=>obtain ⟨ob,es,ep,t,e,c⟩:=x; exact ⟨ob,es,ep,t,k _ _ (.inl rfl) e,c⟩
 | ins C dx fs =>
  obtain ⟨d,z,ne,e,mA,⟨od,es,ep,e2,c⟩,r⟩:=x;exact ⟨ho _ d,z,ne,k _ _ (.inl rfl) e,mA,⟨od,es,ep,k _ _ (.inr d) e2,c⟩,r⟩
 | own y=>obtain ⟨ob,e⟩:=x; exact ⟨ob,k _ _ (.inl rfl) e⟩
 | xd fs=>obtain ⟨mA,⟨od,es,ep,e,c⟩,r⟩:=x; exact ⟨mA,⟨od,es,ep,k _ _ (.inl rfl) e,c⟩,r⟩
 | rng lo hi=>obtain ⟨t,u,v,e⟩:=x; exact ⟨t,u,v,k _ _ (.inl rfl) e⟩
 | frz ob u ih=>obtain ⟨e,q⟩:=x; exact ⟨k _ _ (.inl rfl) e,ih q⟩
 | tbl ps =>
  have e:h.get? a=some { cls:=.none,data:=.fields ps }:=x;show h'.get? a=some { cls:=.none,data:=.fields ps };exact k a _ (.inl rfl) e
 | met f y =>
  have e:h.get? a=some (PySem.W.methodObj (.ref f) (.ref y)):=x;show h'.get? a=some (PySem.W.methodObj (.ref f) (.ref y));exact k a _ (.inl rfl) e
 | ext φ=>obtain ⟨p,⟨o,e⟩,st⟩:=x; exact ⟨st _ _ p fun o q=>k _ _ (.inl rfl) q,⟨o,k _ _ (.inl rfl) e⟩,st⟩
theorem HOk.lt (x:HOk P w H h) (e:H a=some o):a<h.objs.size:=(x a o e).lt
theorem HOk.fresh (x:HOk P w H h) (e:h.objs.size<=a):H a=none:=by
 cases q:H a with
 | none=>rfl
 | some u=>exact absurd (Af (x.lt q) e) (Nat.lt_irrefl _)
theorem HOk.kept (x:HOk P w H h) (k:∀ b u,h.get? b=some u->h'.get? b=some u):HOk P w H h':=fun a o e =>
 (x a o e).stay (fun b u _ q=>k b u q) (fun _ q=>q) fun _ _ q=>q
theorem HOk.laid (x:HOk P w H h) (k:∀ b u,h.get? b=some u->h'.get? b=some u) (hp:h.objs.size<=a) (new:ObjOk P w (upd H a o) h' a o):HOk P w (upd H a o) h':=fun b u e=>by
 have hn:=x.fresh hp
 by_cases hb:b=a
 ·subst hb; rw [qk] at e; cases e; exact new
 ·rw [zk hb] at e
  exact (x b u e).stay (fun c v _ q=>k c v q) (fun c q=>by rw [zk (zW q hn)]; exact q) fun c xs q=>by rw [zk (zW q hn)]; exact q
end
def Rd (H:Hp) (a:Addr) (u:HO):Prop:=H a=some u\/∃ o,H a=some (.frz o u)
theorem Rd.ok (r:Rd H a u) (x:HOk P w H h):ObjOk P w H h a u:=by
 rcases r with r | ⟨o,r⟩
 ·exact x a u r
 ·obtain ⟨_,q⟩:=x a _ r
  exact q
def Mut:Option HO->Prop
 | some (.lst _)=>True
 | some (.dK _)=>True
 | some (.dT _)=>True
 | some (.set _ _)=>True
 | some (.ins _ _ _)=>True
 | some (.ext _)=>True
 | _=>False
section
variable {P:Program} {w:World} {H:Hp} {h h':Heap} {x e:Addr} {o':HO}
theorem HOk.write (ok:HOk P w H h) (mu:Mut (H x)) (he:e=x\/H e=some (.own x)) (k:∀ b u,b≠e->h.get? b=some u->h'.get? b=some u) (heo:∃ u,h'.get? e=some u)
  (new:ObjOk P w (upd H x o') h' x o'):HOk P w (upd H x o') h':=fun b u q=>by
 have nown:∀ c y,H c=some (.own y)->c≠x:=fun c y r z=>by subst z; rw [r] at mu; exact mu
 have ntup:∀ c xs,H c=some (.tup xs)->c≠x:=fun c xs r z=>by subst z; rw [r] at mu; exact mu
 by_cases hb:b=x
 ·subst hb; rw [qk] at q; cases q; exact new
 ·rw [zk hb] at q
  by_cases hbe:b=e
  ·have q':H b=some (.own x):=by
    rcases he with z | z
    ·exact absurd (hbe.trans z) hb
    ·rw [hbe]; exact z
   rw [q] at q'; cases q';obtain ⟨v,hv⟩:=heo;exact ⟨v,by rw [hbe]; exact hv⟩
  ·refine (ok b u q).stay (fun c v hc r=>k c v ?_ r) (fun c r=>by rw [zk (nown c b r)]; exact r) fun c xs r=>by rw [zk (ntup c xs r)]; exact r
   rcases hc with rfl | hc
   ·exact hbe
   ·rintro rfl
    rcases he with z | z
    ·exact nown c b hc z
    ·rw [hc] at z; cases z; exact hb rfl
end
structure Un (fs ex:List Addr) (H H':Hp) (h h':Heap):Prop where
 keep:∀ b o,h.get? b=some o->H b=none->b∉fs->b∉ex->h'.get? b=some o
 slot:∀ b o,h.get? b=some o->H b=none->b∈fs->b∉ex->∃ sl,h'.get? b=some { o with slots:=sl }
 free:∀ b o,h.get? b=some o->H b=none->b∉ex->H' b=none
 there:∀ b o,h.get? b=some o->b∉ex->∃ o',h'.get? b=some o'
 tups:∀ b xs,H b=some (.tup xs)->H' b=some (.tup xs)
 frzs:∀ b o u,H b=some (.frz o u)->H' b=some (.frz o u)
 tbls:∀ b ps,H b=some (.tbl ps)->∃ more,H' b=some (.tbl (ps++more))
section
variable {fs fs' ex ex':List Addr} {H H1 H2:Hp} {h h1 h2 h':Heap} {a x e:Addr} {o:HO}
theorem Un.any (u:Un fs ex H H1 h h1) (q:h.get? b=some ob) (n:H b=none) (hx:b∉ex):∃ sl,h1.get? b=some { ob with slots:=sl }:=by
 by_cases hb:b∈fs
 ·exact u.slot b ob q n hb hx
 ·exact ⟨ob.slots,u.keep b ob q n hb hx⟩
theorem Un.kept (k:∀ b u,h.get? b=some u->h'.get? b=some u):Un fs ex H H h h' :=
 ⟨fun b ob q _ _ _=>k b ob q,fun b ob q _ _ _=>⟨ob.slots,k b ob q⟩,fun _ _ _ n _=>n,fun b ob q _=>⟨ob,k b ob q⟩,fun _ _ q=>q,fun _ _ _ q=>q,fun _ ps q=>⟨#[],by rw [q]; simp⟩⟩
theorem Un.refl:Un fs ex H H h h:=Un.kept fun _ _ q=>q
theorem Un.laid (k:∀ b u,h.get? b=some u->h'.get? b=some u) (hp:h.objs.size<=a) (hn:H a=none):Un fs ex H (upd H a o) h h' where
 keep:=fun b u q _ _ _=>k b u q
 slot:=fun b u q _ _ _=>⟨u.slots,k b u q⟩
 free:=fun b u q n _=>by rw [zk (Nat.ne_of_lt (Af (Heap.lt_size q) hp))]; exact n
 there:=fun b u q _=>⟨u,k b u q⟩
 tups:=fun b xs q=>by rw [zk (zW q hn)]; exact q
 frzs:=fun b u xs q=>by rw [zk (zW q hn)]; exact q
 tbls:=fun b ps q=>⟨#[],by rw [zk (zW q hn),q]; simp⟩
theorem Un.write (mu:Mut (H x)) (he:e=x\/H e=some (.own x)) (k:∀ b u,b≠e->h.get? b=some u->h'.get? b=some u) (heo:∃ u,h'.get? e=some u):Un fs ex H (upd H x o) h h':=by
 have hx:∀ b,H b=none->b≠x:=fun b n z=>by subst z; rw [n] at mu; exact mu
 have hb:∀ b,H b=none->b≠e:=fun b n z=>by
  subst z
  rcases he with r | r
  ·exact hx b n r
  ·rw [n] at r; cases r
 have hm:∀ b u,H b=some u->¬ Mut (some u)->b≠x:=fun b u q nm z=>by subst z; rw [q] at mu; exact nm mu
 refine ⟨fun b u q n _ _=>k b u (hb b n) q,fun b u q n _ _=>⟨u.slots,k b u (hb b n) q⟩,fun b u q n _=>by rw [zk (hx b n)]; exact n,fun b u q _=>?_,fun b xs q=>by rw [zk (hm b _ q fun z=>z)]; exact q,fun b u xs q=>by rw [zk (hm b _ q fun z=>z)]; exact q,fun b ps q=>⟨#[],by rw [zk (hm b _ q fun z=>z),q]; simp⟩⟩
 by_cases hbe:b=e
 ·subst hbe; exact heo
 ·exact ⟨u,k b u hbe q⟩
end
def trk (h:Heap) (H:Hp):List Addr:=(List.range h.objs.size).filter fun a=>(H a).isSome
def hidT (h:Heap) (H:Hp):Heap:=PySem.W.hideAll h (trk h H)
theorem hidT_size (h:Heap) (H:Hp):(hidT h H).objs.size=h.objs.size:=PySem.W.hideAll_size _ _
theorem hidT_get (e:h.get? b=some o) (n:H b=none):(hidT h H).get? b=some o :=
 PySem.W.hideAll_get _ e fun hm=>by
  have q:(H b).isSome=true:=(List.mem_filter.mp hm).2;rw [n] at q; simp at q
theorem of_hidT (e:(hidT h H).get? b=some o):h.get? b=some o/\H b=none:=by
 have e':h.get? b=some o:=PySem.W.of_hideAll (trk h H) e;refine ⟨e',?_⟩
 cases q:H b with
 | none=>rfl
 | some x =>
  have hm:b∈trk h H:=List.mem_filter.mpr ⟨List.mem_range.mpr (Heap.lt_size e'),by simp [q]⟩;have z:(hidT h H).get? b=none:=PySem.W.hideAll_none (trk h H) hm;rw [z] at e; cases e
def allNews (g h:Heap) (L:Addr):List (Addr×Obj):=(List.range h.objs.size).filterMap fun a=>if a=L\/(g.get? a).isSome=true then none else (h.get? a).map fun o=>(a,o)
def rest (g h:Heap) (L d:Addr):List (Addr×Obj):=(allNews g h L).filter fun p=>decide (p.1≠d)
structure Mod (K:Ap) (mg:Str->Option Value) (base:Heap):Prop where
 kin:K.In base
 glob:base.Ns mainGlobals mg
 blt:∃ mb,base.Ns builtinsNs mb/\∀ x:Str,x ≠ "__name__" -> mb x=bootBuiltins x
 nolimit:base.NoLimit
structure Cx where
 prog:Program
 w:World
 K:Ap
 mg:Str->Option Value
 base:Heap
 A:Around
 N:List Str
 s₀:Shared
 H₀:Hp
 env:Env
 outer:List Env
 stack:List Env
 ex:List Addr
 fn:Str->Bool
 calm:Bool
 pn:List (Addr×Obj)
 xe:Value->Shared->Prop
def frs (l:List Env):List Addr:=l.filterMap (·.frame)
abbrev Cx.fs (X:Cx):List Addr:=frs X.outer
def Vis (sc:Scope) (x:Str):Prop:=sc.names.lookup x=some .local\/sc.names.lookup x=some .cell\/sc.names.lookup x=some .free
def Loc (sc:Scope) (x:Str):Prop:=sc.names.lookup x=some .local\/sc.names.lookup x=some .cell
def Look (env:Env) (h:Heap) (m:Str->Option Value) (x:Str) (u:Value):Prop :=
 (env.kindOf x=some .local/\m x=some u)\/((env.kindOf x=some .cell\/env.kindOf x=some .free)/\∃ c,env.cells.lookup x=some c/\h.IsCell c (some u))
structure Cx.Ok (X:Cx):Prop where
 mod:Mod X.K X.mg X.base
 kind:X.env.scope.kind=.function
 glob:X.env.globals=mainGlobals
 blt:X.env.builtins=builtinsNs
 above:X.s₀.heap.objs.size<=X.env.locals
 inj:∀ x y c,X.env.cells.lookup x=some c->X.env.cells.lookup y=some c->x=y
 has:∀ x,(X.env.kindOf x=some .cell\/X.env.kindOf x=some .free)->∃ c,X.env.cells.lookup x=some c
 cab:∀ x c,X.fn x=true->X.env.cells.lookup x=some c->X.s₀.heap.objs.size<=c
 hd:X.calm=true->X.A.handled=none
 frames:X.A.frames=some X.stack
 stk:X.stack=X.outer\/(X.stack=X.env::X.outer/\X.env.frame=some X.env.locals)
 exf:∀ b∈X.ex,b≠X.env.locals/\∀ x c,X.env.cells.lookup x=some c->c≠b
 bs:∀ b o,X.base.get? b=some o->X.s₀.heap.get? b=some o/\X.H₀ b=none
 bsz:X.base.objs.size<=X.s₀.heap.objs.size
 noex:∀ b o,X.base.get? b=some o->b∉X.ex
 exfs:∀ b∈X.ex,b∉X.fs
 funs:X.s₀.heap.FunFrames X.base X.outer
 frf:∀ b∈X.fs,X.H₀ b=none
structure Inv (X:Cx) (pins:List (Addr×Obj)) (σ:List (Option V)) (H:Hp) (s:Shared):Prop where
 ok:X.Ok
 os:s.os=X.s₀.os
 bare:AllBare s.gens
 base:Un X.fs X.ex X.H₀ H X.s₀.heap s.heap
 loc:∃ m,s.heap.Ns X.env.locals m/\∀ (i:Nat) (x:Str) (v:V),X.N[i]?=some x->σ[i]?=some (some v)->Vis X.env.scope x->∃ u,RelV v u/\Look X.env s.heap m x u
 cell:∀ x c,X.env.cells.lookup x=some c->∃ v,s.heap.IsCell c v
 free:H X.env.locals=none
 freeC:∀ x c,X.env.cells.lookup x=some c->H c=none
 pin:∀ p∈X.pn++pins,s.heap.get? p.1=some p.2/\H p.1=none/\p.1≠X.env.locals/\p.1∉X.fs/\∀ v,p.2.data≠.cell v
 hok:HOk X.prog X.w H s.heap
 len:σ.length=X.N.length
section
variable {X:Cx} {pins:List (Addr×Obj)} {σ:List (Option V)} {H H':Hp} {s:Shared} {h':Heap}
theorem Cx.Ok.nofr (ok:X.Ok) (e:X.base.get? b=some o):b∉X.fs:=fun hb=>by
 have:=(ok.funs.mem hb).1;rw [e] at this; cases this
theorem Inv.bs (I:Inv X pins σ H s):∀ b o,X.base.get? b=some o->s.heap.get? b=some o/\H b=none:=fun b o e =>
 ⟨I.base.keep b o (I.ok.bs b o e).1 (I.ok.bs b o e).2 (I.ok.nofr e) (I.ok.noex b o e),I.base.free b o (I.ok.bs b o e).1 (I.ok.bs b o e).2 (I.ok.noex b o e)⟩
theorem Inv.bk (I:Inv X pins σ H s):∀ b o,X.base.get? b=some o->s.heap.get? b=some o:=fun b o e=>(I.bs b o e).1
theorem Inv.mod (I:Inv X pins σ H s):Mod X.K X.mg X.base:=I.ok.mod
theorem Inv.kIn (I:Inv X pins σ H s):X.K.In s.heap:=I.ok.mod.kin.keeps I.bk
theorem Inv.lt (I:Inv X pins σ H s):X.env.locals<s.heap.objs.size:=let ⟨_,hn,_⟩:=I.loc; hn.lt
theorem Inv.sz (I:Inv X pins σ H s):X.s₀.heap.objs.size<=s.heap.objs.size:=Ao I.ok.above (Nat.le_of_lt I.lt)
theorem Inv.nofs (I:Inv X pins σ H s) (h:s.heap.objs.size<=a):a∉X.fs:=fun hb=>by
 obtain ⟨_,o,ho,_⟩:=I.ok.funs.mem hb;exact absurd (Af (Heap.lt_size ho) (Ao I.sz h)) (Nat.lt_irrefl _)
theorem Inv.cne (I:Inv X pins σ H s):∀ x c,X.env.cells.lookup x=some c->c≠X.env.locals:=fun x c e z=>by
 obtain ⟨v,o,ho,hd⟩:=I.cell x c e;obtain ⟨m,⟨o',es,ep,ho',hd',_⟩,_⟩:=I.loc;rw [z,ho'] at ho; cases ho; rw [hd'] at hd; cases hd
theorem Inv.funs (I:Inv X pins σ H s):s.heap.FunFrames X.base X.outer:=by
 have all:∀ (l:List Env),(∀ b∈frs l,b∈X.fs)->X.s₀.heap.FunFrames X.base l->s.heap.FunFrames X.base l:=by
  intro l
  induction l with
  | nil=>intro _ _; trivial
  | cons env r ih =>
   intro hs hl;obtain ⟨hk,⟨L,o,hf,hn,ho,hd⟩,hr⟩:=hl;have hL:L∈X.fs:=hs L (by unfold frs; rw [List.filterMap_cons,hf]; exact Ae);obtain ⟨sl,e⟩:=I.base.slot L o ho (I.ok.frf L hL) hL fun z=>I.ok.exfs L z hL
   exact ⟨hk,⟨L,_,hf,hn,e,hd⟩,ih (fun b hb=>hs b (by unfold frs; rw [List.filterMap_cons,hf]; exact List.mem_cons_of_mem _ hb)) hr⟩
 exact all X.outer (fun _ hb=>hb) I.ok.funs
theorem Inv.stack (I:Inv X pins σ H s):s.heap.FunFrames X.base X.stack:=by
 rcases I.ok.stk with e | ⟨e,hf⟩
 ·rw [e]; exact I.funs
 ·rw [e]
  obtain ⟨m,hn,_⟩:=I.loc;refine .cons (by rw [I.ok.kind]; decide) hf hn ?_ I.funs;exact Heap.get?_none_of_le (Ao I.ok.bsz I.ok.above)
theorem Inv.stkSub (I:Inv X pins σ H s):∀ b∈frs X.stack,b∈X.env.locals::X.fs:=fun b hb=>by
 rcases I.ok.stk with e | ⟨e,hf⟩
 ·rw [e] at hb; exact List.mem_cons_of_mem _ hb
 ·rw [e] at hb
  unfold frs at hb;rw [List.filterMap_cons,hf] at hb;exact hb
theorem Inv.stkFree (I:Inv X pins σ H s):∀ b∈frs X.stack,H b=none:=fun b hb=>by
 rcases List.mem_cons.mp (I.stkSub b hb) with e | hb
 ·rw [e]; exact I.free
 ·obtain ⟨_,o,ho,_⟩:=I.ok.funs.mem hb
  exact I.base.free b o ho (I.ok.frf b hb) fun z=>I.ok.exfs b z hb
theorem Inv.step {ch:List Addr} (I:Inv X pins σ H s) (hch:∀ b∈ch,(b∈X.ex\/X.s₀.heap.objs.size<=b)/\b≠X.env.locals/\(∀ x c,X.env.cells.lookup x=some c->c≠b)/\∀ p∈X.pn++pins,p.1≠b) (keep:∀ b o,b≠X.env.locals->b∉X.fs->b∉ch->s.heap.get? b=some o->H b=none->h'.get? b=some o) (slot:∀ b o,b≠X.env.locals->b∈X.fs->b∉ch->s.heap.get? b=some o->H b=none->∃ sl,h'.get? b=some { o with slots:=sl }) (free:∀ b o,b∉ch->s.heap.get? b=some o->H b=none->H' b=none) (there:∀ b o,b∉ch->s.heap.get? b=some o->∃ o',h'.get? b=some o') (tups:∀ b xs,H b=some (.tup xs)->H' b=some (.tup xs)) (frzs:∀ b o u,H b=some (.frz o u)->H' b=some (.frz o u)) (tbls:∀ b ps,H b=some (.tbl ps)->∃ more,H' b=some (.tbl (ps++more))) (ns:∀ m,s.heap.Ns X.env.locals m->h'.Ns X.env.locals m) (hok:HOk X.prog X.w H' h') (hg:AllBare g') :
  Inv X pins σ H' { s with heap:=h',gens:=g',drawn:=d',toks:=t' }:=by
 have neL:∀ b o,X.s₀.heap.get? b=some o->b≠X.env.locals:=fun b o e=>Nat.ne_of_lt (Af (Heap.lt_size e) I.ok.above)
 have neC:∀ b o,X.s₀.heap.get? b=some o->b∉X.ex->b∉ch:=fun b o e hx hb=>by
  rcases (hch b hb).1 with z | z
  ·exact hx z
  ·exact absurd (Af (Heap.lt_size e) z) (Nat.lt_irrefl _)
 have cellK:∀ x c,X.env.cells.lookup x=some c->∀ v,s.heap.IsCell c v->h'.IsCell c v:=fun x c e v ⟨o,ho,hd⟩=>by
  have nch:c∉ch:=fun z=>(hch c z).2.2.1 x c e rfl
  by_cases hc:c∈X.fs
  ·obtain ⟨sl,q⟩:=slot c o (I.cne x c e) hc nch ho (I.freeC x c e)
   exact ⟨_,q,hd⟩
  ·exact ⟨o,keep c o (I.cne x c e) hc nch ho (I.freeC x c e),hd⟩
 refine ⟨I.ok,I.os,hg,⟨fun b o e n hb hx=>?_,fun b o e n hb hx=>?_,fun b o e n hx=>?_,fun b o e hx=>?_,fun b xs e=>tups b xs (I.base.tups b xs e),fun b o xs e=>frzs b o xs (I.base.frzs b o xs e),fun b ps e=>?_⟩,?_,fun x c e=>?_,?_,fun x c e=>?_,fun p hp=>?_,hok,I.len⟩
 ·exact keep b o (neL b o e) hb (neC b o e hx) (I.base.keep b o e n hb hx) (I.base.free b o e n hx)
 ·obtain ⟨sl,e1⟩:=I.base.slot b o e n hb hx
  obtain ⟨sl',e2⟩:=slot b _ (neL b o e) hb (neC b o e hx) e1 (I.base.free b o e n hx);exact ⟨sl',e2⟩
 ·obtain ⟨o',e1⟩:=I.base.there b o e hx
  exact free b o' (neC b o e hx) e1 (I.base.free b o e n hx)
 ·obtain ⟨o',e1⟩:=I.base.there b o e hx
  exact there b o' (neC b o e hx) e1
 ·obtain ⟨m1,e1⟩:=I.base.tbls b ps e
  obtain ⟨m2,e2⟩:=tbls b _ e1;exact ⟨m1++m2,by rw [e2,Array.append_assoc]⟩
 ·obtain ⟨m,hn,hl⟩:=I.loc
  refine ⟨m,ns m hn,fun i x v e1 e2 e3=>?_⟩;obtain ⟨u,r,l⟩:=hl i x v e1 e2 e3;refine ⟨u,r,?_⟩
  rcases l with l | ⟨k,c,e,z⟩
  ·exact .inl l
  ·exact .inr ⟨k,c,e,cellK x c e _ z⟩
 ·obtain ⟨v,z⟩:=I.cell x c e
  exact ⟨v,cellK x c e v z⟩
 ·obtain ⟨m,⟨o,_,_,ho,_⟩,_⟩:=I.loc
  exact free _ o (fun z=>(hch _ z).2.1 rfl) ho I.free
 ·obtain ⟨v,o,ho,hd⟩:=I.cell x c e
  exact free c o (fun z=>(hch c z).2.2.1 x c e rfl) ho (I.freeC x c e)
 ·obtain ⟨e,n,ne,nf,d⟩:=I.pin p hp
  have nch:p.1∉ch:=fun z=>(hch p.1 z).2.2.2 p hp rfl
  exact ⟨keep p.1 p.2 ne nf nch e n,free p.1 p.2 nch e n,ne,nf,d⟩
theorem Inv.un (I:Inv X pins σ H s) (u:Un X.fs [] H H' s.heap h') (hok:HOk X.prog X.w H' h'):Inv X pins σ H' { s with heap:=h',toks:=t' }:=by
 obtain ⟨m,⟨o,es,ep,ho,r⟩,_⟩:=id I.loc;obtain ⟨sl,hL⟩:=u.any ho I.free (by simp);exact I.step (g':=s.gens) (d':=s.drawn) (ch:=[]) (fun _ z=>nomatch z) (fun b o _ hb _ e n=>u.keep b o e n hb (by simp)) (fun b o _ hb _ e n=>u.slot b o e n hb (by simp)) (fun b o _ e n=>u.free b o e n (by simp)) (fun b o _ e=>u.there b o e (by simp)) u.tups u.frzs u.tbls (fun m' hm=>by
  obtain ⟨o',es',ep',ho',r'⟩:=hm;rw [ho] at ho'; cases ho';exact ⟨_,es',ep',hL,r'⟩) hok I.bare
theorem Inv.call (I:Inv X pins σ H s) (u:Un (frs X.stack) ch H H' s.heap h') (hok:HOk X.prog X.w H' h') (hg:AllBare g') (hch:∀ b∈ch,(b∈X.ex\/X.s₀.heap.objs.size<=b)/\b≠X.env.locals/\(∀ x c,X.env.cells.lookup x=some c->c≠b)/\∀ p∈X.pn++pins,p.1≠b) :
  Inv X pins σ H' { s with heap:=h',gens:=g',drawn:=d',toks:=t' }:=by
 obtain ⟨m,⟨o,es,ep,ho,r⟩,_⟩:=id I.loc;obtain ⟨sl,hL⟩:=u.any ho I.free fun z=>(hch _ z).2.1 rfl
 exact I.step (ch:=ch) hch (fun b o hL hb hc e n=>u.keep b o e n (fun z=>(List.mem_cons.mp (I.stkSub b z)).elim hL hb) hc) (fun b o _ _ hc e n=>u.any e n hc) (fun b o hc e n=>u.free b o e n hc) (fun b o hc e=>u.there b o e hc) u.tups u.frzs u.tbls (fun m' hm=>by
  obtain ⟨o',es',ep',ho',r'⟩:=hm;rw [ho] at ho'; cases ho';exact ⟨_,es',ep',hL,r'⟩) hok hg
theorem Inv.turned (I:Inv X pins σ H s) (k:∀ b o,b≠it->s.heap.get? b=some o->h'.get? b=some o) (hn:H it=none) (hL:it≠X.env.locals) (h1:it∈X.ex\/X.s₀.heap.objs.size<=it) (h2:∀ x c,X.env.cells.lookup x=some c->c≠it) (h3:∀ p∈X.pn++pins,p.1≠it):Inv X pins σ H { s with heap:=h',toks:=t' }:=by
 have nit:∀ b u,H b=some u->b≠it:=fun b u e z=>by rw [z,hn] at e; cases e
 refine I.step (g':=s.gens) (d':=s.drawn) (ch:=[it]) (fun b hb=>?_) (fun b o _ _ hc e _=>k b o (fun z=>hc (by simp [z])) e) (fun b o _ _ hc e _=>⟨o.slots,k b o (fun z=>hc (by simp [z])) e⟩) (fun _ _ _ _ n=>n)
  (fun b o hc e=>⟨o,k b o (fun z=>hc (by simp [z])) e⟩) (fun _ _ e=>e) (fun _ _ _ e=>e) (fun b ps e=>⟨#[],by rw [e]; simp⟩) (fun m hm=>?_) (fun b u e=>?_) I.bare
 ·have e:b=it:=by simpa using hb
  subst e;exact ⟨h1,hL,h2,h3⟩
 ·obtain ⟨o,es,ep,ho,r⟩:=hm
  exact ⟨o,es,ep,k _ o (Ne.symm hL) ho,r⟩
 ·refine (I.hok b u e).stay (fun c v hc q=>k c v ?_ q) (fun _ q=>q) fun _ _ q=>q
  rcases hc with z | z
  ·rw [z]; exact nit b u e
  ·exact nit c _ z
theorem Inv.tok (I:Inv X pins σ H s) (t:Nat):Inv X pins σ H { s with toks:=t }:=I.un (h':=s.heap) (t':=t) Un.refl I.hok
theorem Inv.kept (I:Inv X pins σ H s) (k:∀ b u,s.heap.get? b=some u->h'.get? b=some u):Inv X pins σ H { s with heap:=h',toks:=t' }:=I.un (Un.kept k) (I.hok.kept k)
theorem Inv.laid (I:Inv X pins σ H s) (k:∀ b u,s.heap.get? b=some u->h'.get? b=some u) (hp:s.heap.objs.size<=a) (new:ObjOk X.prog X.w (upd H a o) h' a o) :
  Inv X pins σ (upd H a o) { s with heap:=h',toks:=t' }:=I.un (Un.laid k hp (I.hok.fresh hp)) (I.hok.laid k hp new)
theorem Inv.write (I:Inv X pins σ H s) (mu:Mut (H x)) (he:e=x\/H e=some (.own x)) (k:∀ b u,b≠e->s.heap.get? b=some u->h'.get? b=some u) (heo:∃ u,h'.get? e=some u) (new:ObjOk X.prog X.w (upd H x o) h' x o):Inv X pins σ (upd H x o) { s with heap:=h',toks:=t' }:=I.un (Un.write mu he k heo) (I.hok.write mu he k heo new)
theorem Inv.weak (I:Inv X pins σ H s) (hl:σ'.length=σ.length) (w:∀ (i:Nat) v,σ'[i]?=some (some v)->σ[i]?=some (some v)):Inv X pins σ' H s :=
 ⟨I.ok,I.os,I.bare,I.base,let ⟨m,hn,hl'⟩:=I.loc; ⟨m,hn,fun i x v e1 e2 e3=>hl' i x v e1 (w i v e2) e3⟩,I.cell,I.free,I.freeC,I.pin,I.hok,hl.trans I.len⟩
theorem Inv.pins_of {pins':List (Addr×Obj)} (I:Inv X pins σ H s) (h:∀ p∈pins',s.heap.get? p.1=some p.2/\H p.1=none/\p.1≠X.env.locals/\p.1∉X.fs/\∀ v,p.2.data≠.cell v):Inv X pins' σ H s :=
 ⟨I.ok,I.os,I.bare,I.base,I.loc,I.cell,I.free,I.freeC,fun p hp=>(Ak.mp hp).elim (fun z=>I.pin p (Aa _ z)) (h p),I.hok,I.len⟩
theorem nodup_ix {N:List Str} (hN:N.Nodup) {i j:Nat} (a:N[i]?=some x) (b:N[j]?=some x):i=j:=by
 obtain ⟨h1,e1⟩:=List.getElem?_eq_some_iff.mp a;obtain ⟨h2,e2⟩:=List.getElem?_eq_some_iff.mp b;exact (List.getElem_inj hN).mp (e1.trans e2.symm)
theorem store_ok2 (I:Inv X pins σ H s) (hN:X.N.Nodup) (hi:X.N[i]?=some x) (hx:Loc X.env.scope x) (r:RelV v u) (h:∀ s',Inv X pins (σ.set i (some v)) H s'->(∃ a,Heap.SameBut a s.heap s'.heap/\(a=X.env.locals\/X.env.cells.lookup x=some a))->Q () s') (hf:X.fn x=true\/X.env.scope.names.lookup x=some .local:=by first | exact .inl rfl | exact .inr rfl | assumption):wpAny M A (storeName X.env x u) Q E s:=by
 obtain ⟨m,hn,hl⟩:=id I.loc;have hcls:(X.env.scope.kind==.class||(X.env.scope.kind==.module&&X.env.locals != X.env.globals))=false:=by rw [I.ok.kind]; rfl
 have hiσ:i<σ.length:=by rw [I.len]; exact (List.getElem?_eq_some_iff.mp hi).1
 have cne:=I.cne;have tracked:∀ {a:Addr} {h':Heap},(∃ o,s.heap.get? a=some o/\H a=none)->Heap.SameBut a s.heap h'->HOk X.prog X.w H h':=fun {a h'} ha hs b ob e=>by
  obtain ⟨_,_,hfree⟩:=ha;refine (I.hok b ob e).stay (fun c w' hc q=>(hs.2 c ?_).trans q) (fun _ q=>q) fun _ _ q=>q
  rintro rfl
  rcases hc with rfl | hc
  ·rw [hfree] at e; cases e
  ·rw [hfree] at hc; cases hc
 rcases hx with hk | hk
 ·refine wpAny_storeName_local hk hn (fun h' hn' hs=>?_) hcls
  obtain ⟨oL,_,_,hoL,_⟩:=id hn;refine h _ ⟨I.ok,I.os,I.bare,⟨fun b o e n hb hx=>?_,fun b o e n hb hx=>?_,I.base.free,fun b o e hx=>?_,I.base.tups,I.base.frzs,I.base.tbls⟩,⟨_,hn',fun j y v' e1 e2 e3=>?_⟩,fun y c e=>?_,I.free,I.freeC,fun p hp=>?_,tracked ⟨oL,hoL,I.free⟩ hs,by simpa using I.len⟩ ⟨_,hs,.inl rfl⟩
  ·exact (hs.2 b (Nat.ne_of_lt (Af (Heap.lt_size e) I.ok.above))).trans (I.base.keep b o e n hb hx)
  ·obtain ⟨sl,e1⟩:=I.base.slot b o e n hb hx
   exact ⟨sl,(hs.2 b (Nat.ne_of_lt (Af (Heap.lt_size e) I.ok.above))).trans e1⟩
  ·obtain ⟨o',e1⟩:=I.base.there b o e hx
   exact ⟨o',(hs.2 b (Nat.ne_of_lt (Af (Heap.lt_size e) I.ok.above))).trans e1⟩
  ·by_cases hj:j=i
   ·subst hj
    rw [hi] at e1; cases e1;rw [List.getElem?_set_self hiσ] at e2
    cases e2
    exact ⟨u,r,.inl ⟨hk,by simp⟩⟩
   ·rw [Ac (Ne.symm hj)] at e2
    obtain ⟨u',r',q⟩:=hl j y v' e1 e2 e3;refine ⟨u',r',?_⟩
    rcases q with ⟨k,e⟩ | ⟨k,c,e,z⟩
    ·refine .inl ⟨k,?_⟩
     have:y≠x:=fun e=>hj (nodup_ix hN e1 (e ▸ hi))
     simp [this,e]
    ·exact .inr ⟨k,c,e,z.sameBut hs (cne y c e)⟩
  ·obtain ⟨w',z⟩:=I.cell y c e
   exact ⟨w',z.sameBut hs (cne y c e)⟩
  ·obtain ⟨e,n,ne,nf,d⟩:=I.pin p hp
   exact ⟨(hs.2 p.1 ne).trans e,n,ne,nf,d⟩
 ·have hfn:X.fn x=true:=by
   rcases hf with z | z
   ·exact z
   ·rw [z] at hk; cases hk
  obtain ⟨c,hc⟩:=I.ok.has x (.inl hk);obtain ⟨w',z⟩:=I.cell x c hc;refine wpAny_storeName_cell I.ok.kind hk hc z (fun h' hc' hs=>?_);obtain ⟨oc,hoc,hocd⟩:=id z;refine h { s with heap:=h' } ⟨I.ok,I.os,I.bare,⟨fun b o e n hb hx=>?_,fun b o e n hb hx=>?_,I.base.free,fun b o e hx=>?_,I.base.tups,I.base.frzs,I.base.tbls⟩,⟨m,hn.sameBut hs (Ne.symm (cne x c hc)),fun j y v' e1 e2 e3=>?_⟩,fun y c' e=>?_,I.free,I.freeC,fun p hp=>?_,tracked ⟨oc,hoc,I.freeC x c hc⟩ hs,by simpa using I.len⟩ ⟨c,hs,.inr hc⟩
  ·exact (hs.2 b (Nat.ne_of_lt (Af (Heap.lt_size e) (I.ok.cab x c hfn hc)))).trans (I.base.keep b o e n hb hx)
  ·obtain ⟨sl,e1⟩:=I.base.slot b o e n hb hx
   exact ⟨sl,(hs.2 b (Nat.ne_of_lt (Af (Heap.lt_size e) (I.ok.cab x c hfn hc)))).trans e1⟩
  ·obtain ⟨o',e1⟩:=I.base.there b o e hx
   exact ⟨o',(hs.2 b (Nat.ne_of_lt (Af (Heap.lt_size e) (I.ok.cab x c hfn hc)))).trans e1⟩
  ·by_cases hj:j=i
   ·subst hj
    rw [hi] at e1; cases e1;rw [List.getElem?_set_self hiσ] at e2
    cases e2
    exact ⟨u,r,.inr ⟨.inl hk,c,hc,hc'⟩⟩
   ·rw [Ac (Ne.symm hj)] at e2
    obtain ⟨u',r',q⟩:=hl j y v' e1 e2 e3;refine ⟨u',r',?_⟩
    rcases q with q | ⟨k,c',e,z'⟩
    ·exact .inl q
    ·refine .inr ⟨k,c',e,z'.sameBut hs ?_⟩
     rintro rfl;exact hj (nodup_ix hN e1 (I.ok.inj _ _ _ e hc ▸ hi))
  ·by_cases hcc:c'=c
   ·subst hcc; exact ⟨_,hc'⟩
   ·obtain ⟨w2,z2⟩:=I.cell y c' e
    exact ⟨w2,z2.sameBut hs hcc⟩
  ·obtain ⟨e,n,ne,nf,d⟩:=I.pin p hp
   refine ⟨(hs.2 p.1 ?_).trans e,n,ne,nf,d⟩;intro q;rw [q,hoc] at e;have q':oc=p.2:=Am e;exact d w' (by rw [<- q']; exact hocd)
theorem store_ok (I:Inv X pins σ H s) (hN:X.N.Nodup) (hi:X.N[i]?=some x) (hx:Loc X.env.scope x) (r:RelV v u) (h:∀ s',Inv X pins (σ.set i (some v)) H s'->Q () s') (hf:X.fn x=true\/X.env.scope.names.lookup x=some .local:=by first | exact .inl rfl | exact .inr rfl | assumption):wpAny M A (storeName X.env x u) Q E s :=
 store_ok2 I hN hi hx r (fun s' I' _=>h s' I') hf
theorem Inv.call' (I:Inv X pins σ H s) (ho:s'.os=s.os) (u:Un (frs X.stack) ch H H' s.heap s'.heap) (hok:HOk X.prog X.w H' s'.heap) (hg:AllBare s'.gens) (hch:∀ b∈ch,(b∈X.ex\/X.s₀.heap.objs.size<=b)/\b≠X.env.locals/\(∀ x c,X.env.cells.lookup x=some c->c≠b)/\∀ p∈X.pn++pins,p.1≠b):Inv X pins σ H' s':=by
 obtain ⟨h',g',d',t',o'⟩:=s';have e:o'=s.os:=ho;subst e;exact I.call (g':=g') (t':=t') (d':=d') u hok hg hch
end
abbrev XK:=Value->Option Addr->Hp->Prop
abbrev St:=List (Option V)
abbrev VK:=V->Hp->Prop
abbrev TE:=St->Hp->VK->Prop
abbrev TT:=St->Hp->(Bool->Hp->Prop)->Prop
abbrev TA:=St->Hp->(List V->Hp->Prop)->Prop
structure Ends where
 nx:St->Hp->Prop
 rt:VK
 bk:St->Hp->Prop:=fun _ _=>False
 ct:St->Hp->Prop:=fun _ _=>False
abbrev TS:=Ends->St->Hp->Prop
def EP (X:Cx) (pins:List (Addr×Obj)) (σ:St) (Q:VK) (u:Value) (s':Shared):Prop:=∃ v H',Inv X pins σ H' s'/\RelV v u/\Q v H'
def TP (X:Cx) (pins:List (Addr×Obj)) (σ:St) (Q:Bool->Hp->Prop) (b:Bool) (s':Shared):Prop:=∃ H',Inv X pins σ H' s'/\Q b H'
def AP (X:Cx) (pins:List (Addr×Obj)) (σ:St) (Q:List V->Hp->Prop) (us:List Value) (s':Shared):Prop:=∃ vs H',Inv X pins σ H' s'/\Vals vs us/\Q vs H'
def SP (X:Cx) (pins:List (Addr×Obj)) (D:Ends) (f:Flow) (s':Shared):Prop :=
 match f with
 | .next=>∃ σ' H',Inv X pins σ' H' s'/\D.nx σ' H'
 | .brk=>∃ σ' H',Inv X pins σ' H' s'/\D.bk σ' H'
 | .cont=>∃ σ' H',Inv X pins σ' H' s'/\D.ct σ' H'
 | .ret u=>∃ v σ' H',Inv X pins σ' H' s'/\RelV v u/\D.rt v H'
def PE (X:Cx) (e:Expr) (t:TE):Prop :=
 ∀ (pins:List (Addr×Obj)) (s:Shared) (σ:St) (H:Hp) (Q:VK),Inv X pins σ H s->t σ H Q->wpAny (model X.prog X.w) X.A (eval e X.env) (EP X pins σ Q) X.xe s
def PT (X:Cx) (e:Expr) (t:TT):Prop :=
 ∀ (pins:List (Addr×Obj)) (s:Shared) (σ:St) (H:Hp) (Q:Bool->Hp->Prop),Inv X pins σ H s->t σ H Q->wpAny (model X.prog X.w) X.A (isTrue e X.env (eval e X.env)) (TP X pins σ Q) X.xe s
def PW (X:Cx) (e:Expr) (t:TT):Prop :=
 ∀ (whole:Sem Value) (pins:List (Addr×Obj)) (s:Shared) (σ:St) (H:Hp) (Q:Bool->Hp->Prop),Inv X pins σ H s->t σ H Q->wpAny (model X.prog X.w) X.A (isTrue e X.env whole) (TP X pins σ Q) X.xe s
theorem PW.pt (h:PW X e t):PT X e t:=h _
def PA (X:Cx) (es:List Expr) (t:TA):Prop :=
 ∀ (pos:Pos) (pins:List (Addr×Obj)) (s:Shared) (σ:St) (H:Hp) (Q:List V->Hp->Prop),Inv X pins σ H s->t σ H Q->wpAny (model X.prog X.w) X.A (spliced (backTo pos (starEach es X.env))) (AP X pins σ Q) X.xe s
def PS (X:Cx) (st:Stmt) (t:TS):Prop :=
 ∀ (pins:List (Addr×Obj)) (s:Shared) (σ:St) (H:Hp) (D:Ends),Inv X pins σ H s->t D σ H->wpAny (model X.prog X.w) X.A (exec st X.env) (SP X pins D) X.xe s
def PSs (X:Cx) (st:List Stmt) (t:TS):Prop :=
 ∀ (pins:List (Addr×Obj)) (s:Shared) (σ:St) (H:Hp) (D:Ends),Inv X pins σ H s->t D σ H->wpAny (model X.prog X.w) X.A (execs st X.env) (SP X pins D) X.xe s
theorem thn {α:Type} {t:Sem α} {Q Q':α->Shared->Prop} (h:wpAny M A t Q E s) (hQ:∀ a s,Q a s->Q' a s):wpAny M A t Q' E s:=wpAny_mono h hQ fun _ _ x=>x
section
variable {X:Cx}
def tVar (i:Nat):TE:=fun σ H Q=>∃ v,σ[i]?=some (some v)/\Q v H
def tC (v:V):TE:=fun _ H Q=>Q v H
theorem pe_var (hN:X.N[i]?=some x) (hv:Vis X.env.scope x) (hd:(x==("__debug__" : Str))=false:=by decide) (hcd:(x==("__classdict__" : Str))=false:=by decide):PE X (.Name x pos) (tVar i):=by
 intro pins s σ H Q I h;obtain ⟨v,e,h⟩:=h;obtain ⟨m,hn,hl⟩:=I.loc;obtain ⟨u,r,l⟩:=hl i x v hN e hv;have fin:EP X pins σ Q u s:=⟨v,H,I,r,h⟩
 rcases l with ⟨hk,hm⟩ | ⟨hk,c,hc,hcell⟩
 ·exact wpAny_Name (wpAny_loadName_local I.ok.kind hk hn hm fin) hd
 ·rcases hk with hk | hk
  ·exact wpAny_Name (wpAny_loadName_cell I.ok.kind hk hc hcell fin) hd
  ·exact wpAny_Name (wpAny_loadName_free I.ok.kind hk hc hcell fin hcd) hd
theorem qx {i j pos}:PE X (.Constant (.int i) j pos) (tC (.int i)):=fun _ _ _ H _ I h=>wpAny_Constant_int ⟨.int i,H,I.tok _,⟨_,rfl⟩,h⟩
theorem pe_bl {b j pos}:PE X (.Constant (.bool b) j pos) (tC (.bl b)):=fun _ _ _ H _ I h=>Constant_bool ⟨.bl b,H,I,rfl,h⟩
theorem pe_non {j pos}:PE X (.Constant .none j pos) (tC .non):=fun _ _ _ H _ I h=>Constant_none ⟨.non,H,I,rfl,h⟩
theorem qw {x j pos}:PE X (.Constant (.str x) j pos) (tC (.str x)):=fun _ _ _ H _ I h=>Calls.Constant_str ⟨.str x,H,I.tok _,⟨_,rfl⟩,h⟩
def Gl (X:Cx) (x:Str):Prop:=X.env.kindOf x=some .globalImplicit
theorem QJ {σ:St} (I:Inv X pins σ H s) (hg:Gl X x) (hm:X.mg x=some u) (h:Q u s) (hd:(x==("__debug__" : Str))=false:=by decide):wpAny (model X.prog X.w) X.A (eval (.Name x pos) X.env) Q E s :=
 Calls.Name_function_global I.ok.kind hg (Calls.loadGlobal_global (by rw [I.ok.glob]; exact I.mod.glob.keeps I.bk) hm h) hd
theorem ld_blt {σ:St} (I:Inv X pins σ H s) (hg:Gl X x) (hm:X.mg x=none) (hv:bootBuiltins x=some u) (h:Q u s) (hn:x ≠ "__name__" := by decide) (hd:(x==("__debug__" : Str))=false:=by decide):wpAny (model X.prog X.w) X.A (eval (.Name x pos) X.env) Q E s:=by
 obtain ⟨mb,h1,h2⟩:=I.mod.blt;exact Calls.Name_function_global I.ok.kind hg (Calls.loadGlobal_builtin (by rw [I.ok.glob]; exact I.mod.glob.keeps I.bk) hm (by rw [I.ok.blt]; exact h1.keeps I.bk) ((h2 x hn).trans hv) h) hd
theorem yY (hg:Gl X x) (hm:X.mg x=some u) (r:RelV v u) (hd:(x==("__debug__" : Str))=false:=by decide):PE X (.Name x pos) (tC v) :=
 fun _ _ _ H _ I h=>QJ I hg hm ⟨v,H,I,r,h⟩ hd
theorem jq (hg:Gl X x) (hm:X.mg x=none) (hv:bootBuiltins x=some u) (r:RelV v u) (hn:x ≠ "__name__" := by decide) (hd:(x==("__debug__" : Str))=false:=by decide):PE X (.Name x pos) (tC v) :=
 fun _ _ _ H _ I h=>ld_blt I hg hm hv ⟨v,H,I,r,h⟩ hn hd
variable {a b:Expr} {ta tb:TE} {pos:Pos}
def tB (t:TE):TT:=fun σ H Q=>t σ H fun x H1=>∃ c,x=.bl c/\Q c H1
theorem y8 (h:PE X e t) (he:∀ whole,isTrue e X.env whole=(do let v <- whole; standAt e.pos; holding [v] (truthy v)):=by intro _; rfl):PT X e (tB t):=by
 intro pins s σ H Q I hw;refine isTrue_plain (thn (h pins s σ H _ I hw) fun v s1 ⟨x,H1,I1,r1,q1⟩=>?_) (he _);obtain ⟨d,rfl,q⟩:=q1
 cases r1
 exact wpAny_truthy_bool ⟨H1,I1,q⟩
variable {tA tB':TT} {rest:List Expr}
def tAnd (t u:TT):TT:=fun σ H Q=>t σ H fun c H1=>if c=true then u σ H1 Q else Q false H1
def tOr (t u:TT):TT:=fun σ H Q=>t σ H fun c H1=>if c=true then Q true H1 else u σ H1 Q
def tNot (t:TT):TT:=fun σ H Q=>t σ H fun c H1=>Q (!c) H1
theorem vX (ha:PT X a tA):PW X (.BoolOp .And [a] pos) tA:=by
 intro wh pins s σ H Q I h;refine isTrue_and (thn (ha pins s σ H Q I h) fun c s1 e=>?_)
 cases c with
 | true=>exact isTrue_and_nil e
 | false=>exact e
theorem vx (ha:PT X a tA):PW X (.BoolOp .Or [a] pos) tA:=by
 intro wh pins s σ H Q I h;refine isTrue_or (thn (ha pins s σ H Q I h) fun c s1 e=>?_)
 cases c with
 | false=>exact isTrue_or_nil e
 | true=>exact e
theorem kW (ha:PT X a tA) (hb:PW X (.BoolOp .And (b::rest) pos) tB'):PW X (.BoolOp .And (a::b::rest) pos) (tAnd tA tB'):=by
 intro wh pins s σ H Q I h;refine isTrue_and (thn (ha pins s σ H _ I h) fun c s1 ⟨H1,I1,q1⟩=>?_)
 cases c with
 | true=>exact hb wh pins s1 σ H1 Q I1 q1
 | false=>exact ⟨H1,I1,q1⟩
theorem pw_or (ha:PT X a tA) (hb:PW X (.BoolOp .Or (b::rest) pos) tB'):PW X (.BoolOp .Or (a::b::rest) pos) (tOr tA tB'):=by
 intro wh pins s σ H Q I h;refine isTrue_or (thn (ha pins s σ H _ I h) fun c s1 ⟨H1,I1,q1⟩=>?_)
 cases c with
 | true=>exact ⟨H1,I1,q1⟩
 | false=>exact hb wh pins s1 σ H1 Q I1 q1
theorem yy (ha:PT X a tA):PT X (.UnaryOp .Not a pos) (tNot tA):=by
 intro pins s σ H Q I h;exact isTrue_not (ha pins s σ H (fun c H1=>Q (!c) H1) I h)
def tAndV (ta tb:TE):TE:=fun σ H Q=>ta σ H fun x H1=>∃ c,x=.bl c/\if c=true then tb σ H1 Q else Q (.bl false) H1
def tNotV (ta:TE):TE:=fun σ H Q=>ta σ H fun x H1=>∃ c,x=.bl c/\Q (.bl (!c)) H1
theorem pe_one {op} (h:PE X a t):PE X (.BoolOp op [a] pos) t:=fun pins s σ H Q I hw=>BoolOp_one (h pins s σ H Q I hw)
theorem pe_and (ha:PE X a ta) (hb:PE X (.BoolOp .And (b::rest) pos) tb):PE X (.BoolOp .And (a::b::rest) pos) (tAndV ta tb):=by
 intro pins s σ H Q I h;refine BoolOp_and (thn (ha pins s σ H _ I h) fun v s1 ⟨x,H1,I1,r1,q1⟩=>?_);obtain ⟨c,rfl,q1⟩:=q1
 cases r1
 refine wpAny_truthy_bool ?_
 cases c with
 | true=>exact hb pins s1 σ H1 Q I1 q1
 | false=>exact ⟨.bl false,H1,I1,rfl,q1⟩
theorem pe_not (ha:PE X a ta):PE X (.UnaryOp .Not a pos) (tNotV ta):=by
 intro pins s σ H Q I h;refine UnaryOp_ (thn (ha pins s σ H _ I h) fun v s1 ⟨x,H1,I1,r1,q1⟩=>?_);obtain ⟨c,rfl,q1⟩:=q1
 cases r1
 exact not_of (wpAny_truthy_bool ⟨.bl (!c),H1,I1,rfl,q1⟩)
def tIf (t:TT) (ta tb:TE):TE:=fun σ H Q=>t σ H fun c H1=>if c=true then ta σ H1 Q else tb σ H1 Q
theorem pe_ifExp (hc:PT X c tA) (ha:PE X a ta) (hb:PE X b tb):PE X (.IfExp c a b pos) (tIf tA ta tb):=by
 intro pins s σ H Q I h;refine wpAny_IfExp (thn (hc pins s σ H _ I h) fun d s1 ⟨H1,I1,q1⟩=>?_)
 cases d with
 | true=>exact ha pins s1 σ H1 Q I1 q1
 | false=>exact hb pins s1 σ H1 Q I1 q1
end
def SqL (K:Ap) (H:Hp) (a:Addr) (xs:List V):Prop :=
 Rd H a (.lst xs) \/
  ∃ (o:Obj) (its:Array Value) (n:Nat),K.lookup a=some o/\o.cls=.type "list" /\ o.dict=none/\o.data=.seq its n/\its.size<=sizeLine/\Vals xs its.toList
def SqT (K:Ap) (H:Hp) (a:Addr) (xs:List V):Prop :=
 Rd H a (.tup xs) \/
  ∃ (o:Obj) (its:Array Value) (n:Nat),K.lookup a=some o/\o.cls=.type "tuple" /\ o.data=.seq its n/\its.size<=sizeLine/\Vals xs its.toList
def absV:Value->Option V
 | .none=>some .non
 | .bool b=>some (.bl b)
 | .int i _=>some (.int i)
 | .str x _=>some (.str x)
 | .bytes b _=>some (.byt b)
 | .float b _=>some (.flt b)
 | .ref a=>some (.ref a)
 | .type n=>some (.ty n)
 | _=>none
theorem RelV.abs (r:RelV x u):absV u=some x:=by
 cases x with
 | non=>cases r; rfl
 | bl _=>cases r; rfl
 | int _=>obtain ⟨t,rfl⟩:=r; rfl
 | str _=>obtain ⟨t,rfl⟩:=r; rfl
 | byt _=>obtain ⟨t,rfl⟩:=r; rfl
 | flt _=>obtain ⟨t,rfl⟩:=r; rfl
 | ref _=>cases r; rfl
 | ty _=>cases r; rfl
theorem RelV.inj (r:RelV x u) (q:RelV y u):x=y:=Am (r.abs.symm.trans q.abs)
theorem Vals.inj:∀ {xs ys:List V} {us:List Value},Vals xs us->Vals ys us->xs=ys
 | _,_,_,.nil,.nil=>rfl
 | _,_,_,.cons r t,.cons r' t'=>by rw [r.inj r',Vals.inj t t']
section
variable {X:Cx} {pins:List (Addr×Obj)} {σ:St} {H:Hp} {s:Shared} {a:Addr} {xs ys:List V}
theorem SqL.of {K:Ap} (h:H a=some (.lst xs)):SqL K H a xs:=.inl (.inl h)
theorem SqT.of {K:Ap} (h:H a=some (.tup xs)):SqT K H a xs:=.inl (.inl h)
theorem Inv.list (I:Inv X pins σ H s) (h:SqL X.K H a xs):∃ its:List Value,Vals xs its/\PlainL s.heap a its.toArray/\xs.length<=sizeLine:=by
 rcases h with h | ⟨o,its,n,hk,hc,hd,hs,hz,r⟩
 ·obtain ⟨z,its,n,r,e⟩:=h.ok I.hok
  exact ⟨its,r,⟨_,n,e,rfl,rfl,rfl⟩,z⟩
 ·refine ⟨its.toList,r,⟨o,n,I.kIn a o hk,hc,hd,by simpa using hs⟩,?_⟩
  have e:=r.length
  simp only [Array.length_toList] at e
  omega
theorem Inv.tuple (I:Inv X pins σ H s) (h:SqT X.K H a xs):∃ its:List Value,Vals xs its/\IsTup s.heap a its.toArray/\xs.length<=sizeLine:=by
 rcases h with h | ⟨o,its,n,hk,hc,hs,hz,r⟩
 ·obtain ⟨z,its,r,p⟩:=h.ok I.hok
  exact ⟨its,r,p,z⟩
 ·refine ⟨its.toList,r,⟨o,I.kIn a o hk,hc,n,by simpa using hs⟩,?_⟩
  have e:=r.length
  simp only [Array.length_toList] at e
  omega
theorem Inv.list_inj (I:Inv X pins σ H s) (h:SqL X.K H a xs) (h':SqL X.K H a ys):xs=ys:=by
 obtain ⟨its,r,⟨o,n,e,_,_,d⟩,_⟩:=I.list h;obtain ⟨its',r',⟨o',n',e',_,_,d'⟩,_⟩:=I.list h';rw [e] at e'; cases e';rw [d] at d'
 injection d' with d1 _
 have:its=its':=by simpa using congrArg Array.toList d1
 subst this;exact r.inj r'
theorem Inv.tuple_inj (I:Inv X pins σ H s) (h:SqT X.K H a xs) (h':SqT X.K H a ys):xs=ys:=by
 obtain ⟨its,r,⟨o,e,_,n,d⟩,_⟩:=I.tuple h;obtain ⟨its',r',⟨o',e',_,n',d'⟩,_⟩:=I.tuple h';rw [e] at e'; cases e';rw [d] at d'
 injection d' with d1 _
 have:its=its':=by simpa using congrArg Array.toList d1
 subst this;exact r.inj r'
end
abbrev Cx.wish (X:Cx) (E:Value->Shared->Prop):Cx:={ X with xe:=E }
abbrev Cx.nox (X:Cx):Cx:=X.wish fun _ _=>False
theorem Cx.Ok.wish {X:Cx} (ok:X.Ok) (E:Value->Shared->Prop):(X.wish E).Ok :=
 ⟨ok.mod,ok.kind,ok.glob,ok.blt,ok.above,ok.inj,ok.has,ok.cab,ok.hd,ok.frames,ok.stk,ok.exf,ok.bs,ok.bsz,ok.noex,ok.exfs,ok.funs,ok.frf⟩
theorem Cx.Ok.unwish {X:Cx} (ok:(X.wish E).Ok):X.Ok :=
 ⟨ok.mod,ok.kind,ok.glob,ok.blt,ok.above,ok.inj,ok.has,ok.cab,ok.hd,ok.frames,ok.stk,ok.exf,ok.bs,ok.bsz,ok.noex,ok.exfs,ok.funs,ok.frf⟩
section
variable {X:Cx} {pins:List (Addr×Obj)} {σ:St} {H:Hp} {s:Shared} {E:Value->Shared->Prop}
theorem Inv.wish (I:Inv X pins σ H s) (E:Value->Shared->Prop):Inv (X.wish E) pins σ H s:=⟨I.ok.wish E,I.os,I.bare,I.base,I.loc,I.cell,I.free,I.freeC,I.pin,I.hok,I.len⟩
theorem Inv.unwish (I:Inv (X.wish E) pins σ H s):Inv X pins σ H s:=⟨I.ok.unwish,I.os,I.bare,I.base,I.loc,I.cell,I.free,I.freeC,I.pin,I.hok,I.len⟩
theorem SP.unwish (h:SP (X.wish E) pins D f s'):SP X pins D f s':=by
 cases f with
 | next=>obtain ⟨σ',H',I,q⟩:=h; exact ⟨σ',H',I.unwish,q⟩
 | brk=>obtain ⟨σ',H',I,q⟩:=h; exact ⟨σ',H',I.unwish,q⟩
 | cont=>obtain ⟨σ',H',I,q⟩:=h; exact ⟨σ',H',I.unwish,q⟩
 | ret u=>obtain ⟨v,σ',H',I,r,q⟩:=h; exact ⟨v,σ',H',I.unwish,r,q⟩
theorem PSs.nox {st:List Stmt} (h:PSs X.nox st t):PSs X st t:=fun pins s σ H D I hw =>
 wpAny_mono (h pins s σ H D (I.wish _) hw) (fun _ _ q=>q.unwish) fun _ _ z=>False.elim z
end
section
variable {X:Cx} {st:Stmt} {rest:List Stmt} {t u:TS} {e:Expr} {te:TE} {pos:Pos}
def tNext:TS:=fun D σ H=>D.nx σ H
def tSeq (t u:TS):TS:=fun D σ H=>t { D with nx:=u D } σ H
theorem qY:PSs X [] tNext:=fun _ _ σ H _ I h=>wpAny_execs_nil ⟨σ,H,I,h⟩
theorem qK (h1:PS X st t) (h2:PSs X rest u):PSs X (st::rest) (tSeq t u):=by
 intro pins s σ H D I h;refine wpAny_execs_cons (thn (h1 pins s σ H { D with nx:=u D } I h) fun f s1 q=>?_)
 cases f with
 | next =>
  obtain ⟨σ',H',I',q⟩:=q;exact h2 pins s1 σ' H' D I' q
 | ret v=>exact q
 | brk=>exact q
 | cont=>exact q
theorem qJ (h1:PS X st t):PSs X [st] t:=by
 intro pins s σ H D I h;refine wpAny_execs_cons (thn (h1 pins s σ H D I h) fun f s1 q=>?_)
 cases f with
 | next=>exact wpAny_execs_nil q
 | ret v=>exact q
 | brk=>exact q
 | cont=>exact q
theorem Inv.quiet {σ:St} (I:Inv X pins σ H s):interactive X.env=false:=by simp [interactive,I.ok.kind]
def tDrop (te:TE):TS:=fun D σ H=>te σ H fun _ H1=>D.nx σ H1
theorem ps_expr (he:PE X e te) (hs:swapsWith e none pos.line X.env=pure false:=by rfl):PS X (.Expr e pos) (tDrop te):=by
 intro pins s σ H D I h;exact wpAny_Expr_any (thn (he pins s σ H _ I h) fun v s1 ⟨x,H1,I1,r1,q1⟩=>⟨σ,H1,I1,q1⟩) I.quiet hs
def tRet (te:TE):TS:=fun D σ H=>te σ H D.rt
theorem zj (he:PE X e te):PS X (.Return (some e) pos) (tRet te):=by
 intro pins s σ H D I h;exact wpAny_Return_some (thn (he pins s σ H _ I h) fun v s1 ⟨x,H1,I1,r1,q1⟩=>⟨x,σ,H1,I1,r1,q1⟩)
def tIfS (c:TT) (t u:TS):TS:=fun D σ H=>c σ H fun b H1=>if b=true then t D σ H1 else u D σ H1
theorem ps_if (hc:PT X c tc) (ha:PSs X a t) (hb:PSs X b u):PS X (.If c a b pos) (tIfS tc t u):=by
 intro pins s σ H D I h;refine wpAny_If (thn (hc pins s σ H _ I h) fun d s1 ⟨H1,I1,q1⟩=>?_)
 cases d with
 | true=>exact ha pins s1 σ H1 D I1 q1
 | false=>exact hb pins s1 σ H1 D I1 q1
def tNever:TS:=fun _ _ _=>False
theorem ps_never:PS X st tNever:=fun _ _ _ _ _ _ h=>h.elim
theorem pss_never:PSs X sts tNever:=fun _ _ _ _ _ _ h=>h.elim
end
abbrev TG:=V->St->Hp->(St->Hp->Prop)->Prop
abbrev TGs:=List V->St->Hp->(St->Hp->Prop)->Prop
def PG (X:Cx) (target:Expr) (t:TG):Prop :=
 ∀ (pins:List (Addr×Obj)) (s:Shared) (σ:St) (H:Hp) (v:V) (u:Value) (Q:St->Hp->Prop),Inv X pins σ H s->RelV v u->t v σ H Q->wpAny (model X.prog X.w) X.A (assign target X.env u) (fun _ s'=>∃ σ' H',Inv X pins σ' H' s'/\Q σ' H') X.xe s
def PGs (X:Cx) (ts:List Expr) (t:TGs):Prop :=
 ∀ (pins:List (Addr×Obj)) (s:Shared) (σ:St) (H:Hp) (vs:List V) (us:List Value) (Q:St->Hp->Prop),Inv X pins σ H s->Vals vs us->t vs σ H Q->wpAny (model X.prog X.w) X.A (assignInOrder ((assignEach ts X.env).map (·.2)) us) (fun _ s'=>∃ σ' H',Inv X pins σ' H' s'/\Q σ' H') X.xe s
section
variable {X:Cx} {pos:Pos}
def gName (i:Nat):TG:=fun v σ H Q=>Q (σ.set i (some v)) H
theorem pg_name (hN:X.N.Nodup) (hi:X.N[i]?=some x) (hx:Loc X.env.scope x) (hf:X.fn x=true\/X.env.scope.names.lookup x=some .local:=by first | exact .inl rfl | exact .inr rfl | assumption):PG X (.Name x pos) (gName i):=by
 intro pins s σ H v u Q I r h;exact wpAny_assign_Name (store_ok I hN hi hx r (fun s' I'=>⟨_,H,I',h⟩) hf)
def gNil:TGs:=fun vs σ H Q=>vs=[]/\Q σ H
def gCons (t:TG) (u:TGs):TGs:=fun vs σ H Q=>∃ v r,vs=v::r/\t v σ H fun σ' H'=>u r σ' H' Q
theorem pgs_nil:PGs X [] gNil:=by
 intro pins s σ H vs us Q I r h;obtain ⟨e,h⟩:=h;subst e
 cases r
 exact assignInOrder_nil ⟨σ,H,I,h⟩
theorem j6 (h1:PG X e t) (h2:PGs X es u) (hs:(assignEach (e::es) X.env).map (·.2)=assign e X.env::(assignEach es X.env).map (·.2):=by rfl):PGs X (e::es) (gCons t u):=by
 intro pins s σ H vs us Q I r h;obtain ⟨v,vr,e1,h⟩:=h;subst e1
 cases r with
 | cons r rr =>
  rw [hs];refine assignInOrder_cons (thn (h1 pins s σ H _ _ _ I r h) fun _ s1 ⟨σ1,H1,I1,q1⟩=>?_);exact h2 pins s1 σ1 H1 _ _ Q I1 rr q1
def gTup (K:Ap) (n:Nat) (t:TGs):TG:=fun v σ H Q=>∃ a xs,v=.ref a/\SqT K H a xs/\xs.length=n/\t xs σ H Q
theorem pg_tup (hc:X.calm=true) (h:PGs X es t) (hn:(assignEach es X.env).length=n:=by rfl) (hst:(assignEach es X.env).findIdx? (·.1)=none:=by rfl):PG X (.Tuple es k pos) (gTup X.K n t):=by
 intro pins s σ H v u Q I r hw;obtain ⟨a,xs,e1,hq,hl,hw⟩:=hw;subst e1
 cases r
 obtain ⟨its,rv,ht,hz⟩:=I.tuple hq;refine assign_Tuple_tuple (I.ok.hd hc) ht (by simp [hn,<- hl,rv.length]) hst fun h' hx=>?_
 have I1:Inv X pins σ H { s with heap:=h' }:=I.kept (t':=s.toks) fun b o e=>hx b o (Nat.ne_of_lt (Heap.lt_size e)) e
 exact h pins _ σ H xs _ Q I1 (by simpa using rv) hw
def tAsg (te:TE) (g:TG):TS:=fun D σ H=>te σ H fun x H1=>g x σ H1 D.nx
theorem ps_asg (he:PE X e te) (hg:PG X tg g) (hs:swapsWithSole [tg] e pos.line X.env=pure false:=by rfl) (hw:swappedStores [tg] e X.env=pure none:=by rfl) (h1:(assignEach [tg] X.env).map (·.2)=[assign tg X.env]:=by rfl):PS X (.Assign [tg] e pos) (tAsg te g):=by
 intro pins s σ H D I h;refine wpAny_Assign_stores (thn (he pins s σ H _ I h) fun v s1 ⟨x,H1,I1,r1,q1⟩=>?_) hs hw;rw [h1];exact thn (hg pins s1 σ H1 x v _ I1 r1 q1) fun _ s2 q=>q
theorem ps_set (hN:X.N.Nodup) (hi:X.N[i]?=some x) (hx:Loc X.env.scope x) (he:PE X e te) (hs:swapsWith e (some (.Name x pos')) pos.line X.env=pure false:=by rfl) (hf:X.fn x=true\/X.env.scope.names.lookup x=some .local:=by first | exact .inl rfl | exact .inr rfl | assumption) :
  PS X (.Assign [.Name x pos'] e pos) (tAsg te (gName i)):=by
 intro pins s σ H D I h;refine wpAny_Assign_Name (thn (he pins s σ H _ I h) fun v s1 ⟨y,H1,I1,r1,q1⟩=>?_) hs;exact store_ok I1 hN hi hx r1 (fun s2 I2=>⟨_,H1,I2,q1⟩) hf
end
section
variable {X:Cx} {pos:Pos}
def tWhile (c:TT) (tb:TS):TS:=fun D σ H=>∃ W:Nat->St->Hp->Prop,(∃ m,W m σ H)/\∀ m σ H,W m σ H->c σ H fun b H1=>if b=true then ∃ N:St->Hp->Prop,(∀ σ' H',N σ' H'->∃ m',m'<m/\W m' σ' H')/\tb { D with nx:=N,ct:=N,bk:=D.nx } σ H1 else D.nx σ H1
theorem ps_while (hp:PassesOwn (model X.prog X.w) X.A X.env X.xe) (hc:PT X c tc) (hb:PSs X body tb):PS X (.While c body [] pos) (tWhile tc tb):=by
 intro pins s σ H D I h;obtain ⟨W,⟨m0,w0⟩,turn⟩:=h;refine wpAny_While (codeAny_whileLoop (fun n s'=>∃ σ' H',Inv X pins σ' H' s'/\W n σ' H') ?_ m0 ⟨σ,H,I,w0⟩);rintro n s1 ⟨σ1,H1,I1,w1⟩;refine wpAny_passesOwn hp (thn (hc pins s1 σ1 H1 _ I1 (turn n σ1 H1 w1)) fun b s2 ⟨H2,I2,q2⟩=>?_)
 cases b with
 | true =>
  obtain ⟨N,hN,q2⟩:=q2;rw [if_pos rfl];refine wpAny_passesOwn hp (thn (hb pins s2 σ1 H2 _ I2 q2) fun f s3 q3=>?_)
  cases f with
  | next =>
   obtain ⟨σ3,H3,I3,n3⟩:=q3;obtain ⟨m',hm,w3⟩:=hN σ3 H3 n3;exact ⟨m',hm,σ3,H3,I3,w3⟩
  | cont =>
   obtain ⟨σ3,H3,I3,n3⟩:=q3;obtain ⟨m',hm,w3⟩:=hN σ3 H3 n3;exact ⟨m',hm,σ3,H3,I3,w3⟩
  | brk=>exact q3
  | ret v=>exact q3
 | false =>
  rw [if_neg Ag];exact wpAny_execs_nil ⟨σ1,H2,I2,q2⟩
end
structure It where
 go:Nat->Hp->Prop
 yld:Nat->Hp->V->Hp->Prop
 stop:Nat->Hp->Prop
def FpOk (X:Cx) (pins:List (Addr×Obj)) (H:Hp) (b:Addr):Prop :=
 H b=none/\b≠X.env.locals/\b∉X.fs/\(b∈X.ex\/X.s₀.heap.objs.size<=b)/\(∀ x c,X.env.cells.lookup x=some c->c≠b)/\∀ p∈X.pn++pins,p.1≠b
theorem Inv.fpOk {σ:St} (I:Inv X pins σ H s) (hb:s.heap.objs.size<=b) (hn:H' b=none):FpOk X pins H' b:=by
 refine ⟨hn,Nat.ne_of_gt (Af I.lt hb),I.nofs hb,.inr (Ao I.sz hb),fun x c e z=>?_,fun p hp z=>?_⟩
 ·obtain ⟨v,q⟩:=I.cell x c e
  exact absurd (Af q.lt (by rw [z]; exact hb)) (Nat.lt_irrefl _)
 ·exact absurd (Af (Heap.lt_size (I.pin p hp).1) (by rw [z]; exact hb)) (Nat.lt_irrefl _)
structure Turn (P:Program) (w:World) (K:Ap) (tg:Expr) (J:It) (fp:List Addr) (it:Addr) (tn:Nat->Heap->Prop):Prop where
 mem:it∈fp
 obj:∀ i h,tn i h->∀ b∈fp,∃ o,h.get? b=some o/\∀ v,o.data≠.cell v
 keep:∀ i h h',tn i h->(∀ b∈fp,∀ o,h.get? b=some o->h'.get? b=some o)->tn i h'
 item:∀ (X:Cx),X.prog=P->X.w=w->X.K=K->X.calm=true->∀ (i:Nat) (pins:List (Addr×Obj)) (s:Shared) (σ:St) (H:Hp) (E:Value->Shared->Prop),Inv X pins σ H s->(∀ b∈fp,FpOk X pins H b)->tn i s.heap->J.go i H->wpAny (model P w) X.A (pyNext (.ref it)) (fun r s1=>∃ u,r=some u/\wpAny (model P w) X.A (letOwnedTupleGo tg (.ref it) u) (fun _ s2=>∃ x H',Inv X pins σ H' s2/\RelV x u/\J.yld i H x H'/\tn (i+1) s2.heap/\∀ b∈fp,H' b=none) E s1) E s
 done:∀ (X:Cx),X.prog=P->X.w=w->X.K=K->X.calm=true->∀ (i:Nat) (pins:List (Addr×Obj)) (s:Shared) (σ:St) (H:Hp) (E:Value->Shared->Prop),Inv X pins σ H s->(∀ b∈fp,FpOk X pins H b)->tn i s.heap->J.stop i H->wpAny (model P w) X.A (pyNext (.ref it)) (fun r s1=>r=none/\Inv X pins σ H s1) E s
 self:∀ (A:Around) (i:Nat) (s:Shared) (Q:Value->Shared->Prop) (E:Value->Shared->Prop),tn i s.heap->Q (.ref it) s->wpAny (model P w) A (pyIter (.ref it)) Q E s
abbrev TI:=St->Hp->(It->Hp->Prop)->Prop
def PIE (X:Cx) (pins:List (Addr×Obj)) (σ:St) (tg:Expr) (R:It->Hp->Prop) (itv:Value) (s2:Shared):Prop :=
 ∃ (it:Addr) (fp:List Addr) (tn:Nat->Heap->Prop) (J:It) (H':Hp),itv=.ref it/\Inv X pins σ H' s2/\Turn X.prog X.w X.K tg J fp it tn/\tn 0 s2.heap/\(∀ b∈fp,FpOk X pins H' b)/\R J H'
def PI (X:Cx) (tg iter:Expr) (wi:TI):Prop :=
 ∀ (pins:List (Addr×Obj)) (s:Shared) (σ:St) (H:Hp) (R:It->Hp->Prop),Inv X pins σ H s->wi σ H R->wpAny (model X.prog X.w) X.A (eval iter X.env) (fun v s1=>wpAny (model X.prog X.w) X.A (pyIter v) (PIE X pins σ tg R) X.xe s1) X.xe s
theorem go_of (ho:s.heap.get? it=some o) (hc:o.cls=.type n) (hd:o.data=.fields vs) (hn:["enumerate", "zip", "dict_itemiterator", "dict_reverseitemiterator", "odict_iterator", "itertools.zip_longest", "itertools.pairwise"].contains n=false) (hQ:Q () s):wpAny M A (letOwnedTupleGo tg (.ref it) u) Q E s:=by
  unfold letOwnedTupleGo
  cases tg <;> first
    | exact wpAny_pure hQ
    | (cases u <;> first
        | exact wpAny_pure hQ
        | (refine wpAny_bind (wpAny_load ho ?_)
           rw [hc,hd];show wpAny M A (if (["enumerate", "zip", "dict_itemiterator", "dict_reverseitemiterator", "odict_iterator", "itertools.zip_longest", "itertools.pairwise"].contains n&&vs[0]?==some (rawInt _))=true then _ else _) Q E s;rw [if_neg (by intro h; rw [hn,Bool.false_and] at h; cases h)];exact wpAny_pure hQ))
def Itl (K:Ap) (a:Addr):It :=
 ⟨fun i H=>∃ xs x,SqL K H a xs/\xs[i]?=some x,fun i H x H'=>H'=H/\∀ xs,SqL K H a xs->xs[i]?=some x,fun i H=>∃ xs,SqL K H a xs/\xs.length<=i⟩
def Itt (K:Ap) (a:Addr):It :=
 ⟨fun i H=>∃ xs x,SqT K H a xs/\xs[i]?=some x,fun i H x H'=>H'=H/\∀ xs,SqT K H a xs->xs[i]?=some x,fun i H=>∃ xs,SqT K H a xs/\xs.length<=i⟩
theorem turn_list {P:Program} {w:World} {K:Ap} {tg:Expr} (a it:Addr):Turn P w K tg (Itl K a) [it] it (fun i h=>h.IsListIter it a i) where
 mem:=by simp
 obj:=fun i h st b hb=>by
  have e:b=it:=by simpa using hb
  subst e;obtain ⟨o,e,c,d⟩:=st;exact ⟨o,e,fun v z=>by rw [d] at z; cases z⟩
 keep:=fun i h h' st k=>st.at fun o e=>k it (by simp) o e
 item:=by
  intro X hP hw hK hc i pins s σ H E I hf st hg;subst hP hw hK;obtain ⟨xs,x,hq,hx⟩:=hg;obtain ⟨its,rv,p,hz⟩:=I.list hq;obtain ⟨u,hu,ru⟩:=rv.get hx;obtain ⟨f0,f1,f2,f3,f4,f5⟩:=hf it (by simp);refine wpAny_pyNext_list_item st p.isList (x:=u) (by simpa using hu) fun h' st' sb=>?_
  have I1:Inv X pins σ H { s with heap:=h' }:=I.turned (t':=s.toks) (fun b o hb e=>(sb.2 b hb).trans e) f0 f1 f3 f4 f5;obtain ⟨o,e,c,d⟩:=id st';exact ⟨u,rfl,go_of (s:={ s with heap:=h' }) e c d (by decide) ⟨x,H,I1,ru,⟨rfl,fun ys hy=>by rw [I.list_inj hy hq]; exact hx⟩,st',fun b hb=>(hf b hb).1⟩⟩
 done:=by
  intro X hP hw hK hc i pins s σ H E I hf st hg;subst hP hw hK;obtain ⟨xs,hq,hx⟩:=hg;obtain ⟨its,rv,p,hz⟩:=I.list hq;obtain ⟨f0,f1,f2,f3,f4,f5⟩:=hf it (by simp);have hl:=rv.length;exact wpAny_pyNext_list_end (I.ok.hd hc) st p.isList (by simp; omega) fun h' eb=>⟨rfl,I.turned (t':=s.toks) (fun b o hb e=>eb b o hb e) f0 f1 f3 f4 f5⟩
 self:=fun _ _ _ _ _ st h=>wpAny_pyIter_listiter st h
theorem turn_tuple {P:Program} {w:World} {K:Ap} {tg:Expr} (a it:Addr):Turn P w K tg (Itt K a) [it] it (fun i h=>h.IsTupleIter it a i) where
 mem:=by simp
 obj:=fun i h st b hb=>by
  have e:b=it:=by simpa using hb
  subst e;obtain ⟨o,e,c,d⟩:=st;exact ⟨o,e,fun v z=>by rw [d] at z; cases z⟩
 keep:=fun i h h' st k=>st.at fun o e=>k it (by simp) o e
 item:=by
  intro X hP hw hK hc i pins s σ H E I hf st hg;subst hP hw hK;obtain ⟨xs,x,hq,hx⟩:=hg;obtain ⟨its,rv,p,hz⟩:=I.tuple hq;obtain ⟨u,hu,ru⟩:=rv.get hx;obtain ⟨f0,f1,f2,f3,f4,f5⟩:=hf it (by simp);refine wpAny_pyNext_tuple_item st (show s.heap.IsTuple a its.toArray from p) (x:=u) (by simpa using hu) fun h' st' sb=>?_
  have I1:Inv X pins σ H { s with heap:=h' }:=I.turned (t':=s.toks) (fun b o hb e=>(sb.2 b hb).trans e) f0 f1 f3 f4 f5;obtain ⟨o,e,c,d⟩:=id st';exact ⟨u,rfl,go_of (s:={ s with heap:=h' }) e c d (by decide) ⟨x,H,I1,ru,⟨rfl,fun ys hy=>by rw [I.tuple_inj hy hq]; exact hx⟩,st',fun b hb=>(hf b hb).1⟩⟩
 done:=by
  intro X hP hw hK hc i pins s σ H E I hf st hg;subst hP hw hK;obtain ⟨xs,hq,hx⟩:=hg;obtain ⟨its,rv,p,hz⟩:=I.tuple hq;obtain ⟨f0,f1,f2,f3,f4,f5⟩:=hf it (by simp);have hl:=rv.length;exact wpAny_pyNext_tuple_end (I.ok.hd hc) st (show s.heap.IsTuple a its.toArray from p) (by simp; omega) fun h' eb=>⟨rfl,I.turned (t':=s.toks) (fun b o hb e=>eb b o hb e) f0 f1 f3 f4 f5⟩
 self:=fun _ _ _ _ _ st h=>wpAny_pyIter_tupleiter st h
section
variable {X:Cx} {tg:Expr}
def iList (K:Ap) (tl:TE):TI:=fun σ H R=>tl σ H fun x H1=>∃ a,x=.ref a/\(∃ xs,SqL K H1 a xs)/\R (Itl K a) H1
def iTup (K:Ap) (tl:TE):TI:=fun σ H R=>tl σ H fun x H1=>∃ a,x=.ref a/\(∃ xs,SqT K H1 a xs)/\R (Itt K a) H1
theorem yW (hl:PE X l tl):PI X tg l (iList X.K tl):=by
 intro pins s σ H R I h;refine thn (hl pins s σ H _ I h) fun v s1 ⟨x,H1,I1,r1,q1⟩=>?_
 obtain ⟨a,e,⟨xs,hq⟩,q⟩:=q1;subst e
 cases r1
 obtain ⟨its,rv,p,hz⟩:=I1.list hq;refine wpAny_pyIter_list p.isList ?_;refine ⟨s1.heap.objs.size,[s1.heap.objs.size],_,_,H1,rfl,I1.kept (t':=s1.toks) fun b o e=>Heap.get?_push_of_some _ e,turn_list a _,⟨_,Heap.get?_push_size _ rfl,rfl,rfl⟩,fun b hb=>?_,q⟩;have e:b=s1.heap.objs.size:=by simpa using hb
 subst e;exact I1.fpOk (Nat.le_refl _) (I1.hok.fresh (Nat.le_refl _))
theorem pi_tup (hl:PE X l tl):PI X tg l (iTup X.K tl):=by
 intro pins s σ H R I h;refine thn (hl pins s σ H _ I h) fun v s1 ⟨x,H1,I1,r1,q1⟩=>?_
 obtain ⟨a,e,⟨xs,hq⟩,q⟩:=q1;subst e
 cases r1
 obtain ⟨its,rv,p,hz⟩:=I1.tuple hq;refine wpAny_pyIter_tuple (show s1.heap.IsTuple a its.toArray from p) ?_;refine ⟨s1.heap.objs.size,[s1.heap.objs.size],_,_,H1,rfl,I1.kept (t':=s1.toks) fun b o e=>Heap.get?_push_of_some _ e,turn_tuple a _,⟨_,Heap.get?_push_size _ rfl,rfl,rfl⟩,fun b hb=>?_,q⟩;have e:b=s1.heap.objs.size:=by simpa using hb
 subst e;exact I1.fpOk (Nat.le_refl _) (I1.hok.fresh (Nat.le_refl _))
def tFor (wi:TI) (g:TG) (tb:TS):TS:=fun D σ H=>wi σ H fun J H1=>∃ W:Nat->Nat->St->Hp->Prop,(∃ m,W 0 m σ H1)/\∀ i m σ H,W i m σ H->(J.stop i H/\D.nx σ H)\/(J.go i H/\∃ N:St->Hp->Prop,(∀ σ' H',N σ' H'->∃ m',m'<m/\W (i+1) m' σ' H')/\∀ x H',J.yld i H x H'->g x σ H' fun σ2 H2=>tb { D with nx:=N,ct:=N,bk:=D.nx } σ2 H2)
def Qy (fp:List Addr) (h:Heap):List (Addr×Obj):=fp.filterMap fun b=>(h.get? b).map fun o=>(b,o)
theorem vy (hb:b∈fp) (e:h.get? b=some o):(b,o)∈Qy fp h:=List.mem_filterMap.mpr ⟨b,hb,by rw [e]; rfl⟩
theorem of_pinsAt (hp:p∈Qy fp h):p.1∈fp/\h.get? p.1=some p.2:=by
 obtain ⟨b,hb,e⟩:=List.mem_filterMap.mp hp
 cases q:h.get? b with
 | none=>rw [q] at e; cases e
 | some o =>
  rw [q] at e;have e':(b,o)=p:=Am e;subst e';exact ⟨hb,q⟩
theorem Inv.pinned {σ:St} (I:Inv X pins σ H s) (hf:∀ b∈fp,FpOk X pins H b) (ho:∀ b∈fp,∃ o,s.heap.get? b=some o/\∀ v,o.data≠.cell v):Inv X (pins++Qy fp s.heap) σ H s :=
 I.pins_of fun p hp=>(Ak.mp hp).elim (fun z=>I.pin p (A7 _ z)) fun z=>by
  obtain ⟨hb,e⟩:=of_pinsAt z;obtain ⟨f0,f1,f2,_⟩:=hf p.1 hb;obtain ⟨o,e',d⟩:=ho p.1 hb;rw [e] at e'; cases e';exact ⟨e,f0,f1,f2,d⟩
theorem Inv.unpinned {σ:St} (I:Inv X (pins++pl) σ H s):Inv X pins σ H s:=I.pins_of fun p hp=>I.pin p (A7 _ (Aa _ hp))
theorem ps_for (hp:PassesOwn (model X.prog X.w) X.A X.env X.xe) (hc:X.calm=true) (hi:PI X tg iter wi) (hg:PG X tg g) (hb:PSs X body tb) (hs:∀ x,foldedSetIterable iter X.env x=pure x:=by intro _; rfl):PS X (.For tg iter body [] pos) (tFor wi g tb):=by
 intro pins s σ H D I h;refine wpAny_For (thn (hi pins s σ H _ I h) fun v s1 h1=>thn h1 fun itv s2 h2=>?_) hs;obtain ⟨it,fp,tn,J,H2,e,I2,T,st2,f2,W,⟨m0,w0⟩,turn⟩:=h2;subst e;have stat:∀ {H':Hp},(∀ b∈fp,H' b=none)->∀ b∈fp,FpOk X pins H' b:=fun hn b hb=>⟨hn b hb,(f2 b hb).2⟩
 refine codeAny_forLoop_any (fun n s'=>∃ i σ' H',Inv X pins σ' H' s'/\tn i s'.heap/\(∀ b∈fp,H' b=none)/\W i n σ' H') ?_ m0 ⟨0,σ,H2,I2,st2,fun b hb=>(f2 b hb).1,w0⟩;rintro n s3 ⟨i,σ3,H3,I3,st3,fr3,w3⟩
 rcases turn i n σ3 H3 w3 with ⟨stop,qn⟩ | ⟨go,N,hN,step⟩
 ·refine wpAny_passesOwn hp (thn (T.done X rfl rfl rfl hc i pins s3 σ3 H3 X.xe I3 (stat fr3) st3 stop) fun r s4 ⟨hr,I4⟩=>?_)
  subst hr;exact wpAny_execs_nil ⟨σ3,H3,I4,qn⟩
 ·refine wpAny_passesOwn hp (thn (T.item X rfl rfl rfl hc i pins s3 σ3 H3 X.xe I3 (stat fr3) st3 go) fun r s4 ⟨u,hr,h4⟩=>?_)
  subst hr;refine wpAny_passesOwn hp (thn h4 fun _ s5 ⟨x,H5,I5,r5,y5,st5,fr5⟩=>?_);have I5':=I5.pinned (stat fr5) (T.obj _ _ st5);refine wpAny_passesOwn hp (thn (hg _ s5 σ3 H5 x u _ I5' r5 (step x H5 y5)) fun _ s6 ⟨σ6,H6,I6,q6⟩=>?_);refine wpAny_passesOwn hp (thn (hb _ s6 σ6 H6 _ I6 q6) fun f s7 q7=>?_);have again:∀ {σ7:St} {H7:Hp},Inv X (pins++Qy fp s5.heap) σ7 H7 s7->N σ7 H7->∃ m,m<n/\∃ i σ' H',Inv X pins σ' H' s7/\tn i s7.heap/\(∀ b∈fp,H' b=none)/\W i m σ' H':=fun {σ7 H7} I7 n7=>by
   obtain ⟨m',hm,w7⟩:=hN σ7 H7 n7;refine ⟨m',hm,i+1,σ7,H7,I7.unpinned,T.keep _ _ _ st5 fun b hb o e=>(I7.pin (b,o) (A7 _ (A7 _ (vy hb e)))).1,fun b hb=>?_,w7⟩;obtain ⟨o,e,d⟩:=T.obj _ _ st5 b hb;exact (I7.pin (b,o) (A7 _ (A7 _ (vy hb e)))).2.1
  cases f with
  | next=>obtain ⟨σ7,H7,I7,n7⟩:=q7; exact again I7 n7
  | cont=>obtain ⟨σ7,H7,I7,n7⟩:=q7; exact again I7 n7
  | brk=>obtain ⟨σ7,H7,I7,q7⟩:=q7; exact ⟨σ7,H7,I7.unpinned,q7⟩
  | ret v=>obtain ⟨x7,σ7,H7,I7,r7,q7⟩:=q7; exact ⟨x7,σ7,H7,I7.unpinned,r7,q7⟩
end
theorem while_by {σ:St} (Pv:St->Hp->Prop) (μ:St->Hp->Nat) (h0:Pv σ H) (hs:∀ σ H,Pv σ H->c σ H fun b H1=>if b=true then tb { D with nx:=fun σ' H'=>Pv σ' H'/\μ σ' H'<μ σ H,ct:=fun σ' H'=>Pv σ' H'/\μ σ' H'<μ σ H,bk:=D.nx } σ H1 else D.nx σ H1) (mono:∀ σ H Q Q',(∀ b H1,Q b H1->Q' b H1)->c σ H Q->c σ H Q'):tWhile c tb D σ H:=by
 refine ⟨fun m σ H=>m=μ σ H/\Pv σ H,⟨_,rfl,h0⟩,?_⟩;rintro m σ H ⟨rfl,p⟩;refine mono σ H _ _ (fun b H1 q=>?_) (hs σ H p)
 cases b with
 | true=>exact ⟨_,fun σ' H' ⟨p',l⟩=>⟨_,l,rfl,p'⟩,q⟩
 | false=>exact q
abbrev R2:=V->V->Hp->VK->Prop
def OpR (X:Cx) (f:Value->Value->Sem Value) (r:R2):Prop :=
 ∀ (pins:List (Addr×Obj)) (s:Shared) (σ:St) (H:Hp) (x y:V) (v u:Value) (Q:VK),Inv X pins σ H s->RelV x v->RelV y u->r x y H Q->wpAny (model X.prog X.w) X.A (f v u) (EP X pins σ Q) X.xe s
def UnR (X:Cx) (f:Value->Sem Value) (r:V->Hp->VK->Prop):Prop :=
 ∀ (pins:List (Addr×Obj)) (s:Shared) (σ:St) (H:Hp) (x:V) (v:Value) (Q:VK),Inv X pins σ H s->RelV x v->r x H Q->wpAny (model X.prog X.w) X.A (f v) (EP X pins σ Q) X.xe s
def CallR (X:Cx) (f:Value) (r:List V->Hp->VK->Prop):Prop :=
 ∀ (pins:List (Addr×Obj)) (s:Shared) (σ:St) (H:Hp) (xs:List V) (us:List Value) (Q:VK),Inv X pins σ H s->Vals xs us->r xs H Q->wpAny (model X.prog X.w) X.A (call f us) (EP X pins σ Q) X.xe s
def tOp (r:R2) (ta tb:TE):TE:=fun σ H Q=>ta σ H fun x H1=>tb σ H1 fun y H2=>r x y H2 Q
def tUn (r:V->Hp->VK->Prop) (ta:TE):TE:=fun σ H Q=>ta σ H fun x H1=>r x H1 Q
def rI (C:Int->Int->Prop) (g:Int->Int->V):R2:=fun x y H Q=>∃ i j,x=.int i/\y=.int j/\C i j/\Q (g i j) H
def rI0 (g:Int->Int->V):R2:=fun x y H Q=>∃ i j,x=.int i/\y=.int j/\Q (g i j) H
def rU (g:Int->V):V->Hp->VK->Prop:=fun x H Q=>∃ i,x=.int i/\Q (g i) H
section
variable {X:Cx} {a b c:Expr} {ta tb tc:TE} {pos:Pos}
theorem binT (ha:PE X a ta) (hb:PE X b tb) {σ:St} {R:V->V->Hp->Prop} (I:Inv X pins σ H s) (h:ta σ H fun x H1=>tb σ H1 fun y H2=>R x y H2) {f:Value->Value->Sem Value} (hf:∀ v u s2 x y H2,Inv X pins σ H2 s2->RelV x v->RelV y u->R x y H2->wpAny (model X.prog X.w) X.A (f v u) Q X.xe s2) :
  wpAny (model X.prog X.w) X.A (eval a X.env) (fun v s₁=>wpAny (model X.prog X.w) X.A (eval b X.env) (fun u s₂=>wpAny (model X.prog X.w) X.A (f v u) Q X.xe s₂) X.xe s₁) X.xe s:=by
 refine thn (ha pins s σ H _ I h) fun v s1 ⟨x,H1,I1,r1,q1⟩=>?_
 refine thn (hb pins s1 σ H1 _ I1 q1) fun u s2 ⟨y,H2,I2,r2,q2⟩=>?_
 exact hf v u s2 x y H2 I2 r1 r2 q2
theorem pe_op (ho:OpR X (binaryOp op) r) (ha:PE X a ta) (hb:PE X b tb):PE X (.BinOp a op b pos) (tOp r ta tb):=by
 intro pins s σ H Q I h;exact wpAny_BinOp (binT ha hb I h fun v u s2 x y H2 I2 rx ry q=>ho pins s2 σ H2 x y v u Q I2 rx ry q)
theorem pe_un (ho:UnR X (unaryOp op) r) (ha:PE X a ta):PE X (.UnaryOp op a pos) (tUn r ta):=by
 intro pins s σ H Q I h;exact UnaryOp_ (thn (ha pins s σ H _ I h) fun v s1 ⟨x,H1,I1,r1,q1⟩=>ho pins s1 σ H1 x v Q I1 r1 q1)
theorem opI {g:Int->Int->Int} (rule:∀ (i j:Int) (t u:Tok) (s:Shared) (Q:Value->Shared->Prop) (E:Value->Shared->Prop),C i j->Q (.int (g i j) s.toks) { s with toks:=s.toks+1 }->wpAny (model X.prog X.w) X.A (f (.int i t) (.int j u)) Q E s) :
  OpR X f (rI C fun i j=>.int (g i j)):=by
 intro pins s σ H x y v u Q I rx ry h;obtain ⟨i,j,rfl,rfl,hc,q⟩:=h;obtain ⟨t,rfl⟩:=rx;obtain ⟨t',rfl⟩:=ry;exact rule i j t t' s _ _ hc ⟨.int (g i j),H,I.tok _,⟨_,rfl⟩,q⟩
theorem opI0 {g:Int->Int->Int} (rule:∀ (i j:Int) (t u:Tok) (s:Shared) (Q:Value->Shared->Prop) (E:Value->Shared->Prop),Q (.int (g i j) s.toks) { s with toks:=s.toks+1 }->wpAny (model X.prog X.w) X.A (f (.int i t) (.int j u)) Q E s) :
  OpR X f (rI0 fun i j=>.int (g i j)):=by
 intro pins s σ H x y v u Q I rx ry h;obtain ⟨i,j,rfl,rfl,q⟩:=h;obtain ⟨t,rfl⟩:=rx;obtain ⟨t',rfl⟩:=ry;exact rule i j t t' s _ _ ⟨.int (g i j),H,I.tok _,⟨_,rfl⟩,q⟩
theorem opB0 {g:Int->Int->Bool} (rule:∀ (i j:Int) (t u:Tok) (s:Shared) (Q:Value->Shared->Prop) (E:Value->Shared->Prop),Q (.bool (g i j)) s->wpAny (model X.prog X.w) X.A (f (.int i t) (.int j u)) Q E s) :
  OpR X f (rI0 fun i j=>.bl (g i j)):=by
 intro pins s σ H x y v u Q I rx ry h;obtain ⟨i,j,rfl,rfl,q⟩:=h;obtain ⟨t,rfl⟩:=rx;obtain ⟨t',rfl⟩:=ry;exact rule i j t t' s _ _ ⟨.bl (g i j),H,I,rfl,q⟩
def CPow (i j:Int):Prop:=0<=j/\j<=1000000/\i.natAbs<2^64
theorem jK:OpR X (binaryOp .Add) (rI0 fun i j=>.int (i+j)):=opI0 fun _ _ _ _ _ _ _ q=>add_int q
theorem op_sub:OpR X (binaryOp .Sub) (rI0 fun i j=>.int (i - j)):=opI0 fun _ _ _ _ _ _ _ q=>sub_int q
theorem jk:OpR X (binaryOp .Mod) (rI (fun _ j=>0<j) fun i j=>.int (i%j)):=opI fun i j _ _ _ _ _ hc q=>by
 have h1:(0:Int)<j:=hc;exact mod_int' (by omega) (by rw [Int.fmod_eq_emod_of_nonneg i (by omega)]; exact q)
theorem op_pow:OpR X (binaryOp .Pow) (rI CPow fun i j=>.int (i^j.toNat)):=opI fun _ _ _ _ _ _ _ hc q=>pow_int_small hc.1 hc.2.1 hc.2.2 q
theorem unI {g:Int->Int} (rule:∀ (i:Int) (t:Tok) (s:Shared) (Q:Value->Shared->Prop) (E:Value->Shared->Prop),Q (.int (g i) s.toks) { s with toks:=s.toks+1 }->wpAny (model X.prog X.w) X.A (f (.int i t)) Q E s) :
  UnR X f (rU fun i=>.int (g i)):=by
 intro pins s σ H x v Q I rx h;obtain ⟨i,rfl,q⟩:=h;obtain ⟨t,rfl⟩:=rx;exact rule i t s _ _ ⟨.int (g i),H,I.tok _,⟨_,rfl⟩,q⟩
theorem un_neg:UnR X (unaryOp .USub) (rU fun i=>.int (-i)):=unI fun _ _ _ _ _ q=>neg_int q
end
def scal:V->V->Bool
 | .non,.non=>true | .non,.int _=>true | .int _,.non=>true | .non,.bl _=>true | .bl _,.non=>true | .non,.str _=>true | .str _,.non=>true
 | .int _,.int _=>true | .bl _,.bl _=>true | .str _,.str _=>true | .byt _,.byt _=>true
 | .int _,.str _=>true | .str _,.int _=>true | .bl _,.str _=>true | .str _,.bl _=>true
 | _,_=>false
def rEq:R2:=fun x y H Q=>scal x y=true/\Q (.bl (decide (x=y))) H
def rNe:R2:=fun x y H Q=>scal x y=true/\Q (.bl (!decide (x=y))) H
theorem dec_int:decide (V.int i=V.int j)=(i==j):=by
 rw [Bool.eq_iff_iff]
 simp
theorem dec_bl:decide (V.bl i=V.bl j)=(i==j):=by
 rw [Bool.eq_iff_iff]
 simp
theorem dec_str:decide (V.str i=V.str j)=(i==j):=by
 rw [Bool.eq_iff_iff]
 simp
theorem dec_byt:decide (V.byt i=V.byt j)=(i.toList==j.toList):=by
 rw [Bool.eq_iff_iff]
 cases i
 cases j
 simp
section
variable {X:Cx} {a b c:Expr} {ta tb tc:TE} {pos:Pos}
theorem y9 {σ:St} (I:Inv X pins σ H s) (q:Q (.bl k) H) (e:k=k'):EP X pins σ Q (.bool k') s:=by
 subst e;exact ⟨.bl k,H,I,rfl,q⟩
theorem op_eq:OpR X (compareOp .Eq) rEq:=by
 intro pins s σ H x y v u Q I rx ry h;obtain ⟨hs,q⟩:=h
 cases x with
 | non =>
  cases rx
  cases y with
  | non=>cases ry; exact PySem.EqNone.eq_none_none (y9 I q (by simp))
  | bl j=>cases ry; exact PySem.EqNone.eq_none_bool (y9 I q (by simp))
  | int j=>obtain ⟨t',rfl⟩:=ry; exact PySem.EqNone.eq_none_int (y9 I q (by simp))
  | str j=>obtain ⟨t',rfl⟩:=ry; exact PySem.EqNone.eq_none_str (y9 I q (by simp))
  | _=>exact absurd (show false=true from hs) Ag
 | bl i =>
  cases rx
  cases y with
  | non=>cases ry; exact PySem.EqNone.eq_bool_none (y9 I q (by simp))
  | bl j=>cases ry; exact eq_bool (y9 I q dec_bl)
  | str j=>obtain ⟨t',rfl⟩:=ry; exact PySem.EqMixed.eq_bool_str (y9 I q (by simp))
  | _=>exact absurd (show false=true from hs) Ag
 | int i =>
  obtain ⟨t,rfl⟩:=rx
  cases y with
  | non=>cases ry; exact PySem.EqNone.eq_int_none (y9 I q (by simp))
  | int j=>obtain ⟨t',rfl⟩:=ry; exact eq_int (y9 I q dec_int)
  | str j=>obtain ⟨t',rfl⟩:=ry; exact PySem.EqMixed.eq_int_str (y9 I q (by simp))
  | _=>exact absurd (show false=true from hs) Ag
 | str i =>
  obtain ⟨t,rfl⟩:=rx
  cases y with
  | non=>cases ry; exact PySem.EqNone.eq_str_none (y9 I q (by simp))
  | bl j=>cases ry; exact PySem.EqMixed.eq_str_bool (y9 I q (by simp))
  | int j=>obtain ⟨t',rfl⟩:=ry; exact PySem.EqMixed.eq_str_int (y9 I q (by simp))
  | str j=>obtain ⟨t',rfl⟩:=ry; exact eq_str (y9 I q dec_str)
  | _=>exact absurd (show false=true from hs) Ag
 | byt i =>
  obtain ⟨t,rfl⟩:=rx
  cases y with
  | byt j=>obtain ⟨t',rfl⟩:=ry; exact PySem.W.eq_bytes (y9 I q dec_byt)
  | _=>exact absurd (show false=true from hs) Ag
 | _=>cases y <;> exact absurd (show false=true from hs) Ag
theorem op_ne:OpR X (compareOp .NotEq) rNe:=by
 intro pins s σ H x y v u Q I rx ry h;obtain ⟨hs,q⟩:=h
 cases x with
 | non =>
  cases rx
  cases y with
  | non=>cases ry; exact PySem.EqNone.ne_none_none (y9 I q (by simp))
  | bl j=>cases ry; exact PySem.EqNone.ne_none_bool (y9 I q (by simp))
  | int j=>obtain ⟨t',rfl⟩:=ry; exact PySem.EqNone.ne_none_int (y9 I q (by simp))
  | str j=>obtain ⟨t',rfl⟩:=ry; exact PySem.EqNone.ne_none_str (y9 I q (by simp))
  | _=>exact absurd (show false=true from hs) Ag
 | bl i =>
  cases rx
  cases y with
  | non=>cases ry; exact PySem.EqNone.ne_bool_none (y9 I q (by simp))
  | bl j=>cases ry; exact ne_bool (y9 I q (congrArg not dec_bl))
  | str j=>obtain ⟨t',rfl⟩:=ry; exact PySem.EqMixed.ne_bool_str (y9 I q (by simp))
  | _=>exact absurd (show false=true from hs) Ag
 | int i =>
  obtain ⟨t,rfl⟩:=rx
  cases y with
  | non=>cases ry; exact PySem.EqNone.ne_int_none (y9 I q (by simp))
  | int j=>obtain ⟨t',rfl⟩:=ry; exact ne_int (y9 I q (congrArg not dec_int))
  | str j=>obtain ⟨t',rfl⟩:=ry; exact PySem.EqMixed.ne_int_str (y9 I q (by simp))
  | _=>exact absurd (show false=true from hs) Ag
 | str i =>
  obtain ⟨t,rfl⟩:=rx
  cases y with
  | non=>cases ry; exact PySem.EqNone.ne_str_none (y9 I q (by simp))
  | bl j=>cases ry; exact PySem.EqMixed.ne_str_bool (y9 I q (by simp))
  | int j=>obtain ⟨t',rfl⟩:=ry; exact PySem.EqMixed.ne_str_int (y9 I q (by simp))
  | str j=>obtain ⟨t',rfl⟩:=ry; exact ne_str (y9 I q (congrArg not dec_str))
  | _=>exact absurd (show false=true from hs) Ag
 | byt i =>
  obtain ⟨t,rfl⟩:=rx
  cases y with
  | byt j=>obtain ⟨t',rfl⟩:=ry; exact PySem.W.ne_bytes (y9 I q (congrArg not dec_byt))
  | _=>exact absurd (show false=true from hs) Ag
 | _=>cases y <;> exact absurd (show false=true from hs) Ag
theorem op_lt:OpR X (compareOp .Lt) (rI0 fun i j=>.bl (decide (i<j))):=opB0 fun _ _ _ _ _ _ _ q=>lt_int q
theorem op_gt:OpR X (compareOp .Gt) (rI0 fun i j=>.bl (decide (j<i))):=opB0 fun _ _ _ _ _ _ _ q=>gt_int q
theorem op_ge:OpR X (compareOp .GtE) (rI0 fun i j=>.bl (decide (j<=i))):=opB0 fun _ _ _ _ _ _ _ q=>ge_int q
theorem op_in_str:OpR X (compareOp .In) (fun x y H Q=>∃ i j,x=.str i/\y=.str j/\Q (.bl (!(Builtin.Str.occurrences j i 0 j.length 1).isEmpty)) H):=by
 intro pins s σ H x y v u Q I rx ry h;obtain ⟨i,j,rfl,rfl,q⟩:=h;obtain ⟨t,rfl⟩:=rx;obtain ⟨t',rfl⟩:=ry;exact in_str (y9 I q rfl)
theorem op_isN:OpR X (compareOp .Is) (fun x y H Q=>y=.non/\Q (.bl (decide (x=.non))) H):=by
 intro pins s σ H x y v u Q I rx ry h;obtain ⟨rfl,q⟩:=h
 cases ry
 refine is_none_gen (y9 I q ?_)
 cases x <;> first
  | (cases rx; rfl)
  | (obtain ⟨t,rfl⟩:=rx; rfl)
theorem op_notN:OpR X (compareOp .IsNot) (fun x y H Q=>y=.non/\Q (.bl (!decide (x=.non))) H):=by
 intro pins s σ H x y v u Q I rx ry h;obtain ⟨rfl,q⟩:=h
 cases ry
 refine isnot_none_gen (y9 I q ?_)
 cases x <;> first
  | (cases rx; rfl)
  | (obtain ⟨t,rfl⟩:=rx; rfl)
theorem nomark (b:Expr) (h:op≠.In:=by decide) (h2:op≠.NotIn:=by decide):behindInMarks op b=false:=by
 have e1:(op==CmpOp.In)=false:=by cases op <;> first | rfl | exact absurd rfl h
 have e2:(op==CmpOp.NotIn)=false:=by cases op <;> first | rfl | exact absurd rfl h2
 cases b <;> simp [behindInMarks,e1,e2]
theorem x9 (ho:OpR X (compareOp op) r) (ha:PE X a ta) (hb:PE X b tb) (hm:behindInMarks op b=false:=by exact nomark _):PE X (.Compare a [op] [b] pos) (tOp r ta tb):=by
 intro pins s σ H Q I h;exact wpAny_Compare1 (binT ha hb I h fun v u s2 x y H2 I2 rx ry q=>ho pins s2 σ H2 x y v u Q I2 rx ry q) hm
def tTest (t:TE):TT:=fun σ H Q=>t σ H fun x H'=>∃ k,x=.bl k/\Q k H'
theorem qW (ho:OpR X (compareOp op) r) (ha:PE X a ta) (hb:PE X b tb) (hm:behindInMarks op b=false:=by exact nomark _):PT X (.Compare a [op] [b] pos) (tTest (tOp r ta tb)):=by
 intro pins s σ H Q I h;refine wpAny_isTrue_Compare1 (thn (ha pins s σ H _ I h) fun v s1 ⟨x,H1,I1,r1,q1⟩=>thn (hb pins s1 σ H1 _ I1 q1) fun u s2 ⟨y,H2,I2,r2,q2⟩ =>
  thn (ho pins s2 σ H2 x y v u _ I2 r1 r2 q2) fun c s3 ⟨z,H3,I3,r3,k,e,q3⟩=>?_) hm
 subst e
 cases r3
 exact wpAny_truthy_bool ⟨H3,I3,q3⟩
theorem line63:(sizeLine:Nat)<2^63:=by rw [sizeLine_eq]; decide
theorem qV:OpR X (binaryOp .Add) (fun x y H Q=>∃ i j,x=.str i/\y=.str j/\i.length+j.length<=sizeLine/\Q (.str (i++j)) H):=by
 intro pins s σ H x y v u Q I rx ry h;obtain ⟨i,j,rfl,rfl,hz,q⟩:=h;obtain ⟨t,rfl⟩:=rx;obtain ⟨t',rfl⟩:=ry;exact add_str (fun t' tk=>⟨.str (i++j),H,I.tok _,⟨_,rfl⟩,q⟩) hz
theorem vals1 (r:Vals [x] us):∃ u,us=[u]/\RelV x u:=by
 cases r with
 | cons r1 r2=>cases r2; exact ⟨_,rfl,r1⟩
theorem vals2 (r:Vals [x,y] us):∃ u w',us=[u,w']/\RelV x u/\RelV y w':=by
 cases r with
 | cons r1 r2 =>
  cases r2 with
  | cons r3 r4=>cases r4; exact ⟨_,_,rfl,r1,r3⟩
theorem x4:CallR X (.builtin "abs") (fun xs H Q=>∃ i,xs=[.int i]/\Q (.int (if i<0 then -i else i)) H):=by
 intro pins s σ H xs us Q I r h;obtain ⟨i,rfl,q⟩:=h;obtain ⟨u,rfl,t,rfl⟩:=vals1 r;exact call_abs_int fun u tk=>⟨.int (if i<0 then -i else i),H,I.tok _,⟨_,rfl⟩,q⟩
theorem call_int1:CallR X (.type "int") (fun xs H Q=>(∃ i,xs=[.int i]/\Q (.int i) H)\/∃ k,xs=[.bl k]/\Q (.int (if k then 1 else 0)) H):=by
 intro pins s σ H xs us Q I r h
 rcases h with ⟨i,rfl,q⟩ | ⟨k,rfl,q⟩
 ·obtain ⟨u,rfl,t,rfl⟩:=vals1 r
  exact call_int_int ⟨.int i,H,I,⟨_,rfl⟩,q⟩
 ·obtain ⟨u,rfl,r1⟩:=vals1 r
  cases r1
  exact call_int_bool ⟨.int (if k then 1 else 0),H,I.tok _,⟨_,rfl⟩,q⟩
theorem j2:CallR X (.type "str") (fun xs H Q=>∃ i,xs=[.int i]/\i.natAbs.log2<1920/\Q (.str (toString i)) H):=by
 intro pins s σ H xs us Q I r h;obtain ⟨i,rfl,hz,q⟩:=h;obtain ⟨u,rfl,t,rfl⟩:=vals1 r;exact PySem.P.str_of_int hz ⟨.str _,H,I.tok _,⟨_,rfl⟩,q⟩
end
structure ObjM (h:Heap) (x dx C:Addr) (mA:Str->Option Value):Prop where
 obj:h.get? x=some (PySem.W.instObj C dx)
 ns:h.Ns1 dx mA
 ne:dx≠x
theorem lookIn_ns {h:Heap} (n:h.Ns1 dx mA):∃ od,h.get? dx=some od/\∀ name,PySem.W.lookIn name od=some (mA name):=by
 obtain ⟨o,es,ep,ho,hd,hk,_,hm⟩:=n;refine ⟨o,ho,fun name=>?_⟩;have e:=hm name;unfold nsFind findBy at e;rw [<- Array.find?_toList] at e;unfold PySem.W.lookIn;rw [hd];dsimp only
 split
 ·rename_i y q
  rw [q] at e;exact congrArg some e
 ·rename_i q
  rw [q] at e;have a:es.toList.any (·.refKey)=false:=by
   rw [List.any_eq_false];intro y hy;obtain ⟨z,t,hkey⟩:=hk y (Array.mem_toList_iff.mp hy)
   simp [DictEntry.refKey,hkey]
  have a':¬ es.toList.any (·.refKey)=true:=by rw [a]; exact Ag
  rw [if_neg a'];exact congrArg some e
theorem ObjM.look (I:ObjM h x dx C mA):∃ od,PySem.W.InstAt h x (PySem.W.instObj C dx) C (some od)/\∀ name,PySem.W.lookIn name od=some (mA name) :=
 let ⟨od,ho,hl⟩:=lookIn_ns I.ns
 ⟨od,⟨I.obj,rfl,rfl,ho⟩,hl⟩
section
variable {prog:Program} {w:World} {A:Around} {E:Value->Shared->Prop} {s:Shared} {K:Ap} {x dx C f:Addr} {mA:Str->Option Value} {name:Str} {v:Value}
theorem get_map (X:K.In s.heap) (I:ObjM s.heap x dx C mA) (hg:PySem.W.plainGet K C name=true) (hh:PySem.W.hasDictIn K C=true) (ha:PySem.W.findIn K (.ref C) name=some none) (hv:mA name=some v) (hv':PySem.W.handedIn v=true) (h:Q v { s with toks:=s.toks+1 }) :
  wpAny (model prog w) A (getAttr (.ref x) name expr) Q E s:=by
 obtain ⟨od,J,hl⟩:=I.look;exact PySem.W.get_value X J (PySem.W.plainGet_of hg).1 (PySem.W.findObj_own hh ha rfl (by rw [hl,hv])) hv' h
theorem get_meth (X:K.In s.heap) (I:ObjM s.heap x dx C mA) (hg:PySem.W.plainGet K C name=true) (hf:PySem.W.findIn K (.ref C) name=some (some (.ref f))) (ht:PySem.W.isFn K (.ref f)=true) (hv:mA name=none) (h:Q (.ref f,[.ref x]) s) :
  wpAny (model prog w) A (getMethod (.ref x) name pl) Q E s:=by
 obtain ⟨od,J,hl⟩:=I.look;exact PySem.W.method_fn X J (PySem.W.plainGet_of hg).1 (PySem.W.plainGet_of hg).2 hf (beq_iff_eq.mp ht) (by show (PySem.W.lookIn name od).map (·.isSome)=some false; rw [hl,hv]; rfl) h
theorem set_map (X:K.In s.heap) (I:ObjM s.heap x dx C mA) (hs:PySem.W.findIn K (.ref C) "__setattr__" = some (some (.builtin "object.__setattr__"))) (hp:PySem.W.plainOver K C=true) (ht:PySem.W.takerIn K C name=some none) (hh:PySem.W.hasDictIn K C=true) (hw:PySem.Within mA ns) (hsz:ns.length<=sizeLine) (h:∀ h',ObjM h' x dx C (fun y=>if y=name then some v else mA y)->Heap.SameBut dx s.heap h'->Q () { s with heap:=h',toks:=s.toks+2 }) :
  wpAny (model prog w) A (setAttr (.ref x) name v) Q E s:=by
 obtain ⟨od,J,hl⟩:=I.look;refine PySem.W.set_plain X J hs (PySem.W.osa_open (s:={ s with toks:=s.toks+1 }) (r:=none) X J hp ht fun b=>?_);obtain ⟨cd,hc,hd'⟩:=PySem.W.any_some hh;have hx:s.heap.get? x=some ⟨.ref C,some dx,.plain,#[]⟩:=I.obj;refine wpAny_bind (wpAny_pure (wpAny_bind (wpAny_bind (wpAny_loadPart hx (wpAny_bind (PySem.W.Looks.here (s:={ s with toks:=s.toks+1 }) (PySem.W.looks_clsIn X hc) ?_))))));rw [hd'];refine wpAny_pure (a:=some dx) (wpAny_bind (wpAny_pure (wpAny_bind ?_)));refine wpAny_nsSet1 (s:={ s with toks:=s.toks+1 }) I.ns fun h' hn2 hs2=>?_
 obtain ⟨oD,esD,epD,hoD,hdD,hcD⟩:=hn2.count (PySem.Within.cons name v hw);refine wpAny_bind (wpAny_lookBehind hoD (by rw [hdD]; exact pastItsLine_dict (Ao hcD (by rw [List.length_cons]; omega))) ?_);exact wpAny_pure (h _ ⟨(hs2.2 _ (Ne.symm I.ne)).trans I.obj,hn2,I.ne⟩ hs2)
theorem make_map (X:K.In s.heap) (hm:PySem.W.makesIn K C=true) (hi:PySem.W.findIn K (.ref C) "__init__" = some (some (.ref f))) (hf:PySem.W.typeIn K (.ref f)=some (.type "function")) (h:codeAny (model prog w) (A.under (.builtin "type.__call__" ⟨.ref C::vs,kw⟩)) (.call (.ref f) ⟨.ref (s.heap.objs.size+1)::vs,kw⟩) (PySem.W.InitBack (s.heap.objs.size+1) R)
   { s with heap:=(s.heap.push PySem.W.emptyDict).push (PySem.W.instObj C s.heap.objs.size) }) :
  codeAny (model prog w) A (.call (.ref C) ⟨vs,kw⟩) R s:=by
 obtain ⟨hh,g,d,t,os⟩:=s;exact PySem.W.make_core (PySem.W.makes_of X hm) (PySem.W.looks_findIn X hi) (fun self=>PySem.W.bind_fn X self hf) (.inl rfl) h
end
def putF (f:Str) (v:V):List (Str×V)->List (Str×V)
 | []=>[(f,v)]
 | (g,x)::r=>if g=f then (g,v)::r else (g,x)::putF f v r
theorem lookup_putF (f g:Str) (v:V):∀ fs:List (Str×V),(putF f v fs).lookup g=if g=f then some v else fs.lookup g
 | []=>by
  show List.lookup g [(f,v)]=_
  by_cases h:g=f
  ·have hb:(g==f)=true:=beq_iff_eq.mpr h
   simp only [List.lookup,hb,if_pos h]
  ·have hb:(g==f)=false:=beq_eq_false_iff_ne.mpr h
   simp only [List.lookup,hb,if_neg h]
 | (k,x)::r=>by
  have ih:=lookup_putF f g v r;rw [show putF f v ((k,x)::r)=(if k=f then (k,v)::r else (k,x)::putF f v r) from rfl]
  by_cases hk:k=f
  ·rw [if_pos hk]
   by_cases h:g=k
   ·have hb:(g==k)=true:=beq_iff_eq.mpr h
    simp only [List.lookup,hb,if_pos (h.trans hk)]
   ·have hb:(g==k)=false:=beq_eq_false_iff_ne.mpr h
    simp only [List.lookup,hb,if_neg (fun e:g=f=>h (e.trans hk.symm))]
  ·rw [if_neg hk]
   by_cases h:g=k
   ·have hb:(g==k)=true:=beq_iff_eq.mpr h
    simp only [List.lookup,hb,if_neg (fun e:g=f=>hk (h.symm.trans e))]
   ·have hb:(g==k)=false:=beq_eq_false_iff_ne.mpr h
    simp only [List.lookup,hb]
    exact ih
theorem keys_putF (f:Str) (v:V):∀ fs:List (Str×V),f∈(putF f v fs).map (·.1)/\∀ g,g∈fs.map (·.1)->g∈(putF f v fs).map (·.1)
 | []=>⟨by simp [putF],fun g h=>by simp at h⟩
 | (k,x)::r=>by
  obtain ⟨i1,i2⟩:=keys_putF f v r;rw [show putF f v ((k,x)::r)=(if k=f then (k,v)::r else (k,x)::putF f v r) from rfl]
  by_cases hk:k=f
  ·rw [if_pos hk]
   subst hk;exact ⟨by simp,fun g h=>by simpa using h⟩
  ·rw [if_neg hk]
   refine ⟨?_,fun g h=>?_⟩
   ·rw [List.map_cons]
    exact List.mem_cons_of_mem _ i1
   ·rw [List.map_cons] at h ⊢
    rcases List.mem_cons.mp h with e | e
    ·exact List.mem_cons.mpr (.inl e)
    ·exact List.mem_cons_of_mem _ (i2 g e)
theorem length_putF (f:Str) (v:V):∀ fs:List (Str×V),(putF f v fs).length<=fs.length+1
 | []=>by simp [putF]
 | (k,x)::r=>by
  have ih:=length_putF f v r;rw [show putF f v ((k,x)::r)=(if k=f then (k,v)::r else (k,x)::putF f v r) from rfl]
  by_cases hk:k=f
  ·rw [if_pos hk,List.length_cons,List.length_cons]; omega
  ·rw [if_neg hk,List.length_cons,List.length_cons]; omega
theorem RelO.some_of (r:RelO (some v) o):∃ u,o=some u/\RelV v u:=by
 cases o with
 | none=>exact (show False from r).elim
 | some u=>exact ⟨u,rfl,r⟩
theorem RelO.none_of (r:RelO none o):o=none:=by
 cases o with
 | none=>rfl
 | some u=>exact (show False from r).elim
theorem handed_of (r:RelV v u):PySem.W.handedIn u=true:=by
 cases v with
 | non=>cases (show u=Value.none from r); rfl
 | bl b=>cases (show u=Value.bool b from r); rfl
 | int i=>obtain ⟨t,e⟩:=(show ∃ t,u=Value.int i t from r); cases e; rfl
 | str x=>obtain ⟨t,e⟩:=(show ∃ t,u=Value.str x t from r); cases e; rfl
 | byt b=>obtain ⟨t,e⟩:=(show ∃ t,u=Value.bytes b t from r); cases e; rfl
 | flt b=>obtain ⟨t,e⟩:=(show ∃ t,u=Value.float b t from r); cases e; rfl
 | ref a=>cases (show u=Value.ref a from r); rfl
 | ty n=>cases (show u=Value.type n from r); rfl
section
variable {P:Program} {w:World} {H H':Hp} {h h':Heap} {a C dx:Addr} {fs fs':List (Str×V)}
theorem ins_get (hok:HOk P w H h) (e:H a=some (.ins C dx fs)):∃ mA,ObjM h a dx C mA/\(∀ f,RelO (fs.lookup f) (mA f))/\PySem.Within mA (fs.map (·.1))/\fs.length<=1000/\H dx=some (.own a):=by
 obtain ⟨d,z,ne,ob,mA,n,r,q⟩:=(show ObjOk P w H h a (.ins C dx fs) from hok a _ e);exact ⟨mA,⟨ob,n,ne⟩,r,q,z,d⟩
end
structure Cls (K:Ap) (C:Addr):Prop where
 pg:PySem.W.plainGet K C Str.empty=true
 hd:PySem.W.hasDictIn K C=true
 po:PySem.W.plainOver K C=true
 sa:PySem.W.findIn K (.ref C) "__setattr__" = some (some (.builtin "object.__setattr__"))
theorem Cls.get {K:Ap} (c:Cls K C) (f:Str):PySem.W.plainGet K C f=true:=c.pg
def wX (K:Ap) (C:Addr) (f:Str):Prop:=PySem.W.findIn K (.ref C) f=some none
theorem wX.taker {K:Ap} (n:wX K C f):PySem.W.takerIn K C f=some none:=by
 unfold PySem.W.takerIn;rw [show PySem.W.findIn K (.ref C) f=some none from n];rfl
structure Con (K:Ap) (C:Addr) (f:Str) (v:V) (u:Value):Prop where
 at_:PySem.W.findIn K (.ref C) f=some (some u)
 rel:RelV v u
 get:PySem.W.specialIn K u "__get__" = some none
 cp:PySem.W.copiedNames.contains f=false
structure Meth (K:Ap) (C:Addr) (m:Str) (f:Addr):Prop where
 at_:PySem.W.findIn K (.ref C) m=some (some (.ref f))
 fn:PySem.W.isFn K (.ref f)=true
 kp:PySem.W.keepIn K (.ref f)=true
section
variable {X:Cx} {pins:List (Addr×Obj)} {σ:St} {H:Hp} {s:Shared} {a C dx:Addr} {fs:List (Str×V)} {f:Str} {v:V} {A:Around} {E:Value->Shared->Prop}
theorem getattr_ok (I:Inv X pins σ H s) (e:H a=some (.ins C dx fs)) (c:Cls X.K C) (n:wX X.K C f) (l:fs.lookup f=some v) (h:∀ u s',Inv X pins σ H s'->RelV v u->Q u s'):wpAny (model X.prog X.w) A (getAttr (.ref a) f b) Q E s:=by
 obtain ⟨mA,O,r,_,_,_⟩:=ins_get I.hok e;obtain ⟨u,hu,ru⟩:=RelO.some_of (v:=v) (o:=mA f) (by rw [<- l]; exact r f);exact get_map I.kIn O (c.get f) c.hd n hu (handed_of ru) (h u _ (I.tok _) ru)
theorem getmeth_ok (I:Inv X pins σ H s) (e:H a=some (.ins C dx fs)) (c:Cls X.K C) (k:Meth X.K C m g) (l:fs.lookup m=none) (h:Q (.ref g,[.ref a]) s):wpAny (model X.prog X.w) A (getMethod (.ref a) m pl) Q E s:=by
 obtain ⟨mA,O,r,_,_,_⟩:=ins_get I.hok e;have hn:mA m=none:=RelO.none_of (by rw [<- l]; exact r m);exact get_meth I.kIn O (c.get m) k.at_ k.fn hn h
theorem setattr_ok (I:Inv X pins σ H s) (e:H a=some (.ins C dx fs)) (c:Cls X.K C) (n:wX X.K C f) (hl:fs.length<1000) (ry:RelV y u) (h:∀ s',Inv X pins σ (upd H a (.ins C dx (putF f y fs))) s'->Q () s'):wpAny (model X.prog X.w) A (setAttr (.ref a) f u) Q E s:=by
 obtain ⟨mA,O,r,wi,_,ho⟩:=ins_get I.hok e;have hz:(fs.map (·.1)).length<=sizeLine:=by rw [List.length_map,sizeLine_eq]; omega
 refine set_map I.kIn O c.sa c.po n.taker c.hd wi hz fun h' O' sb=>h _ ?_
 have hd:∃ o,h'.get? dx=some o:=let ⟨o,_,_,e',_⟩:=O'.ns; ⟨o,e'⟩
 refine I.write (x:=a) (e:=dx) (by rw [e]; exact True.intro) (.inr ho) (fun b q hb z=>(sb.2 b hb).trans z) hd ?_;refine ⟨by rw [zk O.ne]; exact ho,?_,O.ne,O'.obj,_,O'.ns,fun g=>?_,fun g hg=>?_⟩
 ·have:=length_putF f y fs; omega
 ·show RelO ((putF f y fs).lookup g) (if g=f then some u else mA g)
  rw [lookup_putF]
  by_cases q:g=f
  ·rw [if_pos q,if_pos q]; exact ry
  ·rw [if_neg q,if_neg q]; exact r g
 ·by_cases q:g=f
  ·rw [q]; exact (keys_putF f y fs).1
  ·refine (keys_putF f y fs).2 g (wi g fun z=>hg ?_)
   show (if g=f then some u else mA g)=none;rw [if_neg q]; exact z
theorem Inv.made (I:Inv X pins σ H s):Inv X pins σ (upd (upd H s.heap.objs.size (.own (s.heap.objs.size+1))) (s.heap.objs.size+1) (.ins C s.heap.objs.size []))
  { s with heap:=(s.heap.push PySem.W.emptyDict).push (PySem.W.instObj C s.heap.objs.size) }:=by
 have e1:(s.heap.push PySem.W.emptyDict).get? s.heap.objs.size=some PySem.W.emptyDict:=Heap.get?_push_size s.heap rfl;have e2:((s.heap.push PySem.W.emptyDict).push (PySem.W.instObj C s.heap.objs.size)).get? (s.heap.objs.size+1)=some (PySem.W.instObj C s.heap.objs.size):=by
  have:=Heap.get?_push_size (s.heap.push PySem.W.emptyDict) (o:=PySem.W.instObj C s.heap.objs.size) rfl
  rwa [Heap.size_push] at this
 have e3:(s.heap.push PySem.W.emptyDict).Ns s.heap.objs.size (fun _=>none):=⟨PySem.W.emptyDict,#[],_,e1,rfl,(fun e he=>absurd he (by simp)),fun _=>rfl⟩;have I1:=I.laid (a:=s.heap.objs.size) (o:=.own (s.heap.objs.size+1)) (h':=s.heap.push PySem.W.emptyDict) (t':=s.toks) (fun b u q=>Heap.get?_push_of_some _ q) (Nat.le_refl _) ⟨_,e1⟩;refine I1.laid (a:=s.heap.objs.size+1) (o:=.ins C s.heap.objs.size []) (t':=s.toks) (fun b u q=>Heap.get?_push_of_some _ q) (Nat.le_of_eq (Heap.size_push _ _)) ?_;have ne:s.heap.objs.size≠s.heap.objs.size+1:=Nat.ne_of_lt (Nat.lt_succ_self _);refine ⟨by rw [zk ne,qk],Nat.zero_le _,ne,e2,fun _=>none,(Heap.Ns1.of_empty e3).at fun o q=>Heap.get?_push_of_some _ q,fun _=>True.intro,fun y hy=>absurd rfl hy⟩
theorem attr_of (hb:attributeBase e f env (eval e env)=eval e env) (h:wpAny (model prog w) A (eval e env) (fun o s₁=>wpAny (model prog w) A (getAttr o f true) Q E s₁) E s):wpAny (model prog w) A (eval (.Attribute e f pos) env) Q E s :=
 Attribute_any_ h (by rw [arm_eval_Attribute,hb])
end
def tFld (K:Ap) (ta:TE) (f:Str):TE:=fun σ H Q=>ta σ H fun x H1=>∃ a C dx fs v,x=.ref a/\H1 a=some (.ins C dx fs)/\Cls K C/\wX K C f/\fs.lookup f=some v/\Q v H1
def sFld (K:Ap) (ta tv:TE) (f:Str):TS:=fun D σ H=>tv σ H fun y H1=>ta σ H1 fun x H2=>∃ a C dx fs,x=.ref a/\H2 a=some (.ins C dx fs)/\Cls K C/\wX K C f/\fs.length<1000/\D.nx σ (upd H2 a (.ins C dx (putF f y fs)))
section
variable {X:Cx} {o e value:Expr} {f:Str} {pos pos' tpos:Pos} {ta tv:TE}
theorem jX (he:PE X e ta) (hb:attributeBase e f X.env (eval e X.env)=eval e X.env):PE X (.Attribute e f pos) (tFld X.K ta f):=by
 intro pins s σ H Q I h;refine attr_of hb (thn (he pins s σ H _ I h) fun u s1 ⟨x,H1,I1,rx,a,C,dx,fs,v,ex,ea,c,n,l,q⟩=>?_);subst ex;obtain rfl:u=Value.ref a:=rx;exact getattr_ok I1 ea c n l fun u' s2 I2 ru=>⟨v,H1,I2,ru,q⟩
theorem Qw (ha:PE X o ta) (hv:PE X value tv) (hs:swapsWith value (some (.Attribute o f pos')) pos.line X.env=pure false):PS X (.Assign [.Attribute o f pos'] value pos) (sFld X.K ta tv f):=by
 intro pins s σ H D I h;refine plainObj_wpAny_Assign_Attribute (thn (hv pins s σ H _ I h) fun u s1 ⟨y,H1,I1,ry,q⟩=>thn (ha pins s1 σ H1 _ I1 q) fun ov s2 ⟨x,H2,I2,rx,a,C,dx,fs,ex,ea,c,n,l,q2⟩=>?_) hs;subst ex;obtain rfl:ov=Value.ref a:=rx;exact setattr_ok I2 ea c n l ry fun s3 I3=>⟨σ,_,I3,q2⟩
end
section
variable {X:Cx} {pins:List (Addr×Obj)} {σ:St} {H:Hp} {s:Shared} {A:Around} {E:Value->Shared->Prop} {Q:Value->Shared->Prop} {c:Value} {b:Bool}
inductive TyOf (K:Ap) (H:Hp):V->Value->Prop where
 | non:TyOf K H .non (.type "NoneType")
 | bl (x:Bool):TyOf K H (.bl x) (.type "bool")
 | int (i:Int):TyOf K H (.int i) (.type "int")
 | str (x:Str):TyOf K H (.str x) (.type "str")
 | flt (x:UInt64):TyOf K H (.flt x) (.type "float")
 | lst {a:Addr} {xs:List V} (e:H a=some (.lst xs)):TyOf K H (.ref a) (.type "list")
 | frz {a:Addr} {o:Obj} {xs:List V} (e:H a=some (.frz o (.lst xs))):TyOf K H (.ref a) (.type "list")
 | tup {a:Addr} {xs:List V} (e:H a=some (.tup xs)):TyOf K H (.ref a) (.type "tuple")
 | dK {a:Addr} {kvs:List (Key×V)} (e:H a=some (.dK kvs)):TyOf K H (.ref a) (.type "dict")
 | dT {a:Addr} {kvs:List (List Key×V)} (e:H a=some (.dT kvs)):TyOf K H (.ref a) (.type "dict")
 | ins {a C dx:Addr} {fs:List (Str×V)} (e:H a=some (.ins C dx fs)) (cl:Cls K C) (ha:PySem.W.findIn K (.ref C) "__class__" = some (some (.builtin "object.__class__")))
   (hn:PySem.W.specialIn K (.builtin "object.__class__") "__get__" = some (some (.builtin "getset_descriptor.__get__"))) (htk:PySem.W.takesIn K (.builtin "object.__class__")=some true)
   (hm:PySem.W.mroIn K C (.type "object")=some true):TyOf K H (.ref a) (.ref C)
end
structure Room (k:Nat) (A:Around):Prop where
 hd:A.handled=none
 dp:A.depth+3*k+5<recursionLimit
 un:A.units+16*k+200<cLine
theorem Room.mono (r:Room k A) (h:j<=k):Room j A:=⟨r.hd,by have:=r.dp; omega,by have:=r.un; omega⟩
theorem Room.deeper (r:Room (k+1) A) (env:Env):Room k (A.deeper env) :=
 ⟨r.hd,by have:=r.dp; show A.depth+1+3*k+5<_; omega,by have:=r.un; show A.units+3+16*k+200<_; omega⟩
theorem make_depth {A:Around}:(A.under (.builtin "type.__call__" ⟨.ref C::us,kw⟩)).depth=A.depth+1:=by
 first | rfl | simp [Around.under,Code.weight,Code.isCreation,Code.isGuard,Code.isCaller,Code.frames,Code.isFrame,guardIds]
theorem make_units {A:Around}:(A.under (.builtin "type.__call__" ⟨.ref C::us,kw⟩)).units=A.units+1:=by
 first | rfl | simp [Around.under,Code.cUnits,Code.frames,Code.isFrame]
theorem Room.make (r:Room (k+1) A) (C:Addr) (us:List Value) (kw:List (Str×Value)):Room k (A.under (.builtin "type.__call__" ⟨.ref C::us,kw⟩)) :=
 ⟨r.hd,by have:=r.dp; rw [make_depth]; omega,by have:=r.un; rw [make_units]; omega⟩
theorem Room.depth (r:Room k A):A.depth<recursionLimit:=by have:=r.dp; omega
def tNil:TA:=fun _ H Q=>Q [] H
def tCons (ta:TE) (tr:TA):TA:=fun σ H Q=>ta σ H fun x H1=>tr σ H1 fun xs H2=>Q (x::xs) H2
section
variable {X:Cx} {e:Expr} {es:List Expr} {te:TE} {t:TA} {pos:Pos}
theorem qj:PA X [] tNil:=fun _ _ _ _ H Q I h=>Calls.spliced_nil ⟨[],H,I,.nil,h⟩
theorem pa_cons (ha:PE X e te) (hr:PA X es t) (hs:starEach (e::es) X.env=(false,eval e X.env)::starEach es X.env:=by rfl):PA X (e::es) (tCons te t):=by
 intro pos pins s σ H Q I h;rw [hs];show wpAny _ _ (spliced ((false,eval e X.env)::backTo pos (starEach es X.env))) _ _ s;refine Calls.spliced_cons (thn (ha pins s σ H _ I h) fun u s1 ⟨x,H1,I1,r1,q1⟩=>?_);exact thn (hr pos pins s1 σ H1 _ I1 q1) fun us s2 ⟨xs,H2,I2,r2,q2⟩=>⟨x::xs,H2,I2,.cons r1 r2,q2⟩
def tTup (t:TA):TE:=fun σ H Q=>t σ H fun xs H1=>xs.length<=sizeLine/\∀ p,H1 p=none->Q (.ref p) (upd H1 p (.tup xs))
def tLst (t:TA):TE:=fun σ H Q=>t σ H fun xs H1=>xs.length<=sizeLine/\∀ p,H1 p=none->Q (.ref p) (upd H1 p (.lst xs))
theorem j9 {x1} (h:PA X es t):PE X (.Tuple es x1 pos) (tTup t):=by
 intro pins s σ H Q I hq;refine wpAny_Tuple_spliced (thn (h pos pins s σ H _ I hq) fun us s1 ⟨xs,H1,I1,r,z,q⟩=>⟨by rw [<- r.length]; exact z,?_⟩);have hf:H1 s1.heap.objs.size=none:=I1.hok.fresh (Nat.le_refl _);refine ⟨.ref s1.heap.objs.size,upd H1 s1.heap.objs.size (.tup xs),I1.laid (t':=s1.toks) (fun b u e=>Heap.get?_push_of_some _ e) (Nat.le_refl _) ?_,rfl,q _ hf⟩;exact ⟨z,us,r,⟨_,Heap.get?_push_size _ rfl,rfl,_,rfl⟩⟩
theorem yK (h:PA X es t):PE X (.List es pos) (tLst t):=by
 intro pins s σ H Q I hq;refine wpAny_List_spliced (thn (h pos pins s σ H _ I hq) fun us s1 ⟨xs,H1,I1,r,z,q⟩=>⟨by rw [<- r.length]; exact z,?_⟩);have hf:H1 s1.heap.objs.size=none:=I1.hok.fresh (Nat.le_refl _);refine ⟨.ref s1.heap.objs.size,upd H1 s1.heap.objs.size (.lst xs),I1.laid (t':=s1.toks) (fun b u e=>Heap.get?_push_of_some _ e) (Nat.le_refl _) ?_,rfl,q _ hf⟩;exact ⟨z,us,0,r,Heap.get?_push_size _ rfl⟩
end
abbrev Sp:=List V->Hp->VK->XK->Prop
abbrev CXT:=List Env->Hp->Shared->XK->Value->Shared->Prop
structure Env0 (P:Program) (w:World) (K:Ap) (mg:Str->Option Value) (base:Heap) (A:Around) (outer:List Env) (s:Shared) (H:Hp):Prop where
 frames:A.frames=some outer
 mod:Mod K mg base
 bs:∀ b o,base.get? b=some o->s.heap.get? b=some o/\H b=none
 bsz:base.objs.size<=s.heap.objs.size
 funs:s.heap.FunFrames base outer
 frf:∀ b∈frs outer,H b=none
 hok:HOk P w H s.heap
 bare:AllBare s.gens
def CE (outer:List Env) (P:Program) (w:World) (H:Hp) (s:Shared) (Q:VK) (u:Value) (s':Shared):Prop :=
 ∃ v H',s'.os=s.os/\AllBare s'.gens/\Un (frs outer) [] H H' s.heap s'.heap/\HOk P w H' s'.heap/\RelV v u/\Q v H'
def CR (CX:CXT) (outer:List Env) (P:Program) (w:World) (H:Hp) (s:Shared) (Q:VK) (E:XK) (r:Result) (s':Shared):Prop :=
 match r with
 | .ok (.ret u)=>CE outer P w H s Q u s'
 | .ok _=>False
 | .error e=>CX outer H s E e s'
structure FnOk (P:Program) (w:World) (K:Ap) (mg:Str->Option Value) (base:Heap) (CX:CXT) (k:Nat) (f:Addr) (fd:FuncData) (ps:List Str) (sp:Sp):Prop where
 len:∀ vs H Q E,sp vs H Q E->vs.length=ps.length
 run:∀ (A:Around) (outer:List Env) (s:Shared) (H:Hp) (args:Args) (us:List Value) (vs:List V) (Q:VK) (E:XK),Room k A->Env0 P w K mg base A outer s H->BindsTo s fd args (ps.zip us)->Vals vs us->sp vs H Q E->codeAny (model P w) A (.call (.ref f) args) (CR CX outer P w H s Q E) s
theorem FnOk.imp {K:Ap} (F:FnOk P w K mg base CX k f fd ps sp) (h:∀ vs H Q E,sp' vs H Q E->sp vs H Q E):FnOk P w K mg base CX k f fd ps sp' :=
 ⟨fun vs H Q E q=>F.len vs H Q E (h _ _ _ _ q),fun A outer s H args us vs Q E hr he hb hv hs=>F.run A outer s H args us vs Q E hr he hb hv (h _ _ _ _ hs)⟩
theorem Env0.make {K:Ap} {outer:List Env} (e:Env0 P w K mg base A outer s H) (C:Addr) (us:List Value) (kw:List (Str×Value)) :
  Env0 P w K mg base (A.under (.builtin "type.__call__" ⟨.ref C::us,kw⟩)) outer s H:=⟨by first | exact e.frames | (simpa [Around.under,Code.envs,Code.isFrame,pushEnvs] using e.frames),e.mod,e.bs,e.bsz,e.funs,e.frf,e.hok,e.bare⟩
section
variable {X:Cx} {pins:List (Addr×Obj)} {σ:St} {H:Hp} {s s':Shared}
theorem Inv.env0 (I:Inv X pins σ H s):Env0 X.prog X.w X.K X.mg X.base X.A X.stack s H :=
 ⟨I.ok.frames,I.ok.mod,I.bs,Ao I.ok.bsz I.sz,I.stack,I.stkFree,I.hok,I.bare⟩
theorem Inv.after (I:Inv X pins σ H s) (h:CE X.stack X.prog X.w H s Q u s'):EP X pins σ Q u s':=by
 obtain ⟨v,H',os,bare,un,hok,r,q⟩:=h;obtain ⟨hh,g,d,t,os'⟩:=s';obtain rfl:os'=s.os:=os;exact ⟨v,H',I.call (h':=hh) (g':=g) (d':=d) (t':=t) (ch:=[]) un hok bare (fun b z=>absurd z (by simp)),r,q⟩
end
def tCall (sp:Sp) (dvs:List V) (E:XK) (t:TA):TE:=fun σ H Q=>t σ H fun vs H1=>sp (vs++dvs) H1 Q E
def tMeth (C:Addr) (m:Str) (sp:Sp) (dvs:List V) (E:XK) (ta:TE) (t:TA):TE:=fun σ H Q=>ta σ H fun x H1=>∃ a dx fs,x=.ref a/\H1 a=some (.ins C dx fs)/\fs.lookup m=none/\t σ H1 fun vs H2=>sp (x::(vs++dvs)) H2 Q E
def tMake (C:Addr) (sp:Sp) (dvs:List V) (E:XK) (t:TA):TE:=fun σ H Q=>t σ H fun vs H1=>∀ x dx,H1 x=none->H1 dx=none->dx≠x->sp (.ref x::(vs++dvs)) (upd (upd H1 dx (.own x)) x (.ins C dx [])) (fun v H2=>v=.non/\Q (.ref x) H2) E
def Binds (K:Ap) (fd:FuncData) (ps:List Str) (ds:List Value):Prop :=
 ∀ (s:Shared) (us:List Value),K.In s.heap->(us++ds).length=ps.length->BindsTo s fd ⟨us,[]⟩ (ps.zip (us++ds))
theorem Binds.all {K:Ap} (h:∀ us:List Value,us.length=ps.length->bindArgs fd ⟨us,[]⟩=pure (ps.zip us)):Binds K fd ps []:=fun s us _ hl=>by
 rw [List.append_nil] at hl ⊢;exact .of_eq (h us hl)
def wJ (CX:CXT) (X:Cx) (E:XK):Prop:=∀ (pins:List (Addr×Obj)) (σ:St) (H:Hp) (s:Shared) (e:Value) (s':Shared),Inv X pins σ H s->CX X.stack H s E e s'->X.xe e s'
section
variable {X:Cx} {CX:CXT} {k:Nat} {f C:Addr} {fd:FuncData} {ps:List Str} {sp:Sp} {dvs:List V} {ds:List Value} {E:XK} {x m:Str} {p pos apos:Pos} {e o:Expr} {es:List Expr} {ta:TE} {t:TA}
theorem run_fn {σ:St} (F:FnOk X.prog X.w X.K X.mg X.base CX k f fd ps sp) (hr:Room k X.A) (hb:Binds X.K fd ps ds) (hd:Vals dvs ds) (hx:wJ CX X E) (I:Inv X pins σ H s) (r:Vals vs us) (h:sp (vs++dvs) H Q E):wpAny (model X.prog X.w) X.A (call (.ref f) us) (EP X pins σ Q) X.xe s:=by
 have r2:Vals (vs++dvs) (us++ds):=r.append hd;have hl:(us++ds).length=ps.length:=by rw [<- r2.length]; exact F.len _ _ _ _ h
 refine wpAny_call (codeAny_mono (F.run X.A X.stack s H ⟨us,[]⟩ (us++ds) (vs++dvs) Q E hr I.env0 (hb s us I.kIn hl) r2 h) fun r s' hq=>?_)
 cases r with
 | error e=>exact hx pins σ H s e s' I hq
 | ok fl =>
  cases fl with
  | ret u=>exact I.after hq
  | next=>exact False.elim hq
  | brk=>exact False.elim hq
  | cont=>exact False.elim hq
theorem zy (F:FnOk X.prog X.w X.K X.mg X.base CX k f fd ps sp) (hr:Room k X.A) (hg:Gl X x) (hm:X.mg x=some (.ref f)) (hk:PySem.W.keepIn X.K (.ref f)=true) (hb:Binds X.K fd ps ds) (hd:Vals dvs ds) (hx:wJ CX X E)
  (ha:PA X (e::es) t) (hdb:(x==("__debug__" : Str))=false:=by decide) (he:starEach (e::es) X.env=(false,eval e X.env)::starEach es X.env:=by exact qz rfl _ _) (hpl:(backTo pos (starEach es X.env)).any (·.1)=false:=by exact qQ rfl) :
  PE X (.Call (.Name x p) (e::es) [] pos) (tCall sp dvs E t):=by
 intro pins s σ H Q I h;refine wpAny_Call_Name_kw (QJ I hg hm ?_ hdb);refine PySem.W.callWith_K (h₀:=X.base) I.ok.mod.kin hk (thn (ha pos pins s σ H _ I h) fun us s1 ⟨vs,H1,I1,r,q⟩=>⟨I1.kIn,?_⟩) he hpl;exact run_fn F hr hb hd hx I1 r q
theorem x6 (he:PE X o ta) (c:Cls X.K C) (hm:Meth X.K C m f) (F:FnOk X.prog X.w X.K X.mg X.base CX k f fd ps sp) (hr:Room k X.A) (hb:Binds X.K fd ps ds) (hd:Vals dvs ds) (hx:wJ CX X E) (ha:PA X (e::es) t) (hst:starEach (e::es) X.env=(false,eval e X.env)::starEach es X.env:=by exact qz rfl _ _) (hpl:(backTo pos (starEach es X.env)).any (·.1)=false:=by exact qQ rfl) (ht:eval (.Call (.Attribute o m apos) (e::es) [] pos) X.env=(do
   let ov <- eval o X.env
   standAt apos.atName
   let (f,first) <- holding [ov] (getMethod ov m pl)
   callWith pos f first (backTo pos (starEach (e::es) X.env)) (backToKw pos (keywordEach [] X.env))):=by rfl) :
  PE X (.Call (.Attribute o m apos) (e::es) [] pos) (tMeth C m sp dvs E ta t):=by
 intro pins s σ H Q I h;refine PySem.W.methodCall_KW (pl:=pl) (thn (he pins s σ H _ I h) fun u s1 ⟨x,H1,I1,rx,a,dx,fs,ex,ea,l,q⟩=>?_) ht;subst ex;obtain rfl:u=Value.ref a:=rx;refine getmeth_ok I1 ea c hm l ?_;refine PySem.W.callWith_K (first:=[.ref a]) (h₀:=X.base) I.ok.mod.kin hm.kp (thn (ha pos pins s1 σ H1 _ I1 q) fun us s2 ⟨vs,H2,I2,r,q2⟩=>⟨I2.kIn,?_⟩) hst hpl;exact run_fn (us:=.ref a::us) (vs:=.ref a::vs) F hr hb hd hx I2 (.cons rfl r) q2
theorem pe_meth0 (he:PE X o ta) (c:Cls X.K C) (hm:Meth X.K C m f) (F:FnOk X.prog X.w X.K X.mg X.base CX k f fd ps sp) (hr:Room k X.A) (hb:Binds X.K fd ps ds) (hd:Vals dvs ds) (hx:wJ CX X E) (ht:eval (.Call (.Attribute o m apos) [] [] pos) X.env=(do
   let ov <- eval o X.env
   standAt apos.atName
   let (f,first) <- holding [ov] (getMethod ov m pl)
   callWith pos f first (backTo pos (starEach [] X.env)) (backToKw pos (keywordEach [] X.env))):=by rfl) :
  PE X (.Call (.Attribute o m apos) [] [] pos) (tMeth C m sp dvs E ta tNil):=by
 intro pins s σ H Q I h;refine PySem.W.methodCall_KW (pl:=pl) (thn (he pins s σ H _ I h) fun u s1 ⟨x,H1,I1,rx,a,dx,fs,ex,ea,l,q⟩=>?_) ht;subst ex;obtain rfl:u=Value.ref a:=rx;refine getmeth_ok I1 ea c hm l ?_;exact PySem.W.callWith_K0 (first:=[.ref a]) I1.kIn hm.kp (run_fn (us:=[.ref a]) (vs:=[.ref a]) F hr hb hd hx I1 (.cons rfl .nil) q)
structure Mk (K:Ap) (C f:Addr):Prop where
 makes:PySem.W.makesIn K C=true
 init:PySem.W.findIn K (.ref C) "__init__" = some (some (.ref f))
 fn:PySem.W.isFn K (.ref f)=true
 kp:PySem.W.keepIn K (.ref C)=true
theorem run_make {σ:St} (M:Mk X.K C f) (F:FnOk X.prog X.w X.K X.mg X.base CX k f fd ps sp) (hr:Room (k+1) X.A) (hb:Binds X.K fd ps ds) (hd:Vals dvs ds) (hx:wJ CX X E) (I:Inv X pins σ H s) (r:Vals vs us) (h:∀ x dx,H x=none->H dx=none->dx≠x->sp (.ref x::(vs++dvs)) (upd (upd H dx (.own x)) x (.ins C dx [])) (fun v H2=>v=.non/\Q (.ref x) H2) E) :
  wpAny (model X.prog X.w) X.A (call (.ref C) us) (EP X pins σ Q) X.xe s:=by
 have hq:=h (s.heap.objs.size+1) s.heap.objs.size (I.hok.fresh (Nat.le_succ _)) (I.hok.fresh (Nat.le_refl _)) (Nat.ne_of_lt (Nat.lt_succ_self _));have I2:=Inv.made (C:=C) I;have r2:Vals (V.ref (s.heap.objs.size+1)::(vs++dvs)) (Value.ref (s.heap.objs.size+1)::(us++ds)):=.cons rfl (r.append hd);have hl:(Value.ref (s.heap.objs.size+1)::us++ds).length=ps.length:=by
  have e:=r2.length;rw [F.len _ _ _ _ hq] at e;exact e.symm
 refine wpAny_call (make_map (f:=f) I.kIn M.makes M.init (beq_iff_eq.mp M.fn) (codeAny_mono (F.run _ X.stack _ _ ⟨Value.ref (s.heap.objs.size+1)::us,[]⟩ (Value.ref (s.heap.objs.size+1)::(us++ds)) _ _ E (hr.make C us [])
  (I2.env0.make C us []) (hb _ (Value.ref (s.heap.objs.size+1)::us) I2.kIn hl) r2 hq) fun r s' hq'=>?_))
 cases r with
 | error e=>exact hx pins σ _ _ e s' I2 hq'
 | ok fl =>
  cases fl with
  | ret u =>
   obtain ⟨v,H',I3,rv,ev,q3⟩:=I2.after hq';subst ev;exact ⟨rv,⟨V.ref (s.heap.objs.size+1),H',I3,rfl,q3⟩⟩
  | next=>exact False.elim hq'
  | brk=>exact False.elim hq'
  | cont=>exact False.elim hq'
theorem pe_make (M:Mk X.K C f) (F:FnOk X.prog X.w X.K X.mg X.base CX k f fd ps sp) (hr:Room (k+1) X.A) (hg:Gl X x) (hm:X.mg x=some (.ref C)) (hb:Binds X.K fd ps ds) (hd:Vals dvs ds) (hx:wJ CX X E)
  (ha:PA X (e::es) t) (hdb:(x==("__debug__" : Str))=false:=by decide) (he:starEach (e::es) X.env=(false,eval e X.env)::starEach es X.env:=by exact qz rfl _ _) (hpl:(backTo pos (starEach es X.env)).any (·.1)=false:=by exact qQ rfl) :
  PE X (.Call (.Name x p) (e::es) [] pos) (tMake C sp dvs E t):=by
 intro pins s σ H Q I h;refine wpAny_Call_Name_kw (QJ I hg hm ?_ hdb);refine PySem.W.callWith_K (h₀:=X.base) I.ok.mod.kin M.kp (thn (ha pos pins s σ H _ I h) fun us s1 ⟨vs,H1,I1,r,q⟩=>⟨I1.kIn,?_⟩) he hpl;exact run_make M F hr hb hd hx I1 r q
theorem pe_make0 (M:Mk X.K C f) (F:FnOk X.prog X.w X.K X.mg X.base CX k f fd ps sp) (hr:Room (k+1) X.A) (hg:Gl X x) (hm:X.mg x=some (.ref C)) (hb:Binds X.K fd ps ds) (hd:Vals dvs ds) (hx:wJ CX X E)
  (hdb:(x==("__debug__" : Str))=false:=by decide):PE X (.Call (.Name x p) [] [] pos) (tMake C sp dvs E tNil):=by
 intro pins s σ H Q I h;refine wpAny_Call_Name_kw (QJ I hg hm ?_ hdb);exact PySem.W.callWith_K0 I.kIn M.kp (run_make (us:=[]) M F hr hb hd hx I .nil h)
end
section
variable {X:Cx} {CX:CXT} {k:Nat} {f C:Addr} {fd:FuncData} {ps ks:List Str} {sp:Sp} {E:XK} {x m:Str} {p pos apos kpos:Pos} {e o:Expr} {es:List Expr} {kws:List Keyword} {te ta:TE} {t tk:TA} {nm:Option Str}
structure KBinds (K:Ap) (fd:FuncData) (ps ks:List Str) (g:List Value->List Value->List Value) (gV:List V->List V->List V):Prop where
 to:∀ (s:Shared) (us ws:List Value),K.In s.heap->(g us ws).length=ps.length->BindsTo s fd ⟨us,ks.zip ws⟩ (ps.zip (g us ws))
 rel:∀ {vs:List V} {us:List Value} {zs:List V} {ws:List Value},Vals vs us->Vals zs ws->Vals (gV vs zs) (g us ws)
variable {g:List Value->List Value->List Value} {gV:List V->List V->List V}
end
structure FnScope (N P:List Str) (sc:Scope):Prop where
 kind:sc.kind=.function
 co:sc.isCoroutine=false
 gen:sc.isGenerator=false
 nd:N.Nodup
 pre:N.take P.length=P
 par:∀ x∈P,sc.names.lookup x=some .local\/sc.names.lookup x=some .cell
 nofree:∀ y∈sc.names,y.2≠.free
theorem bindL_out {kindOf:Str->Option NameKind}:∀ {binds:List (Str×Value)} {m:Str->Option Value},(∀ v,(x,v)∉binds)->bindL kindOf binds m x=m x
 | [],_,_=>rfl
 | (n,v)::r,m,h=>by
  unfold bindL;rw [bindL_out fun w hw=>h w (List.mem_cons_of_mem _ hw)]
  split
  ·have:x≠n:=by rintro rfl; exact h v Ae
   simp [this]
  ·rfl
theorem bindC_out {kindOf:Str->Option NameKind}:∀ {binds:List (Str×Value)} {m:Str->Option Value},(∀ v,(x,v)∉binds)->bindC kindOf binds m x=m x
 | [],_,_=>rfl
 | (n,v)::r,m,h=>by
  unfold bindC;rw [bindC_out fun w hw=>h w (List.mem_cons_of_mem _ hw)]
  split
  ·rfl
  ·have:x≠n:=by rintro rfl; exact h v Ae
   simp [this]
theorem bindL_get {kindOf:Str->Option NameKind}:∀ {P:List Str} {vs:List Value} {i:Nat} {m:Str->Option Value},P.Nodup->P[i]?=some x->vs[i]?=some v->kindOf x=some .local->bindL kindOf (P.zip vs) m x=some v
 | [],_,_,_,_,h,_,_=>by simp at h
 | _::_,[],_,_,_,_,h,_=>by simp at h
 | p::P,w::vs,0,m,nd,h1,h2,hk=>by
  simp at h1 h2; subst h1; subst h2
  show bindL kindOf ((p,w)::P.zip vs) m p=_;unfold bindL;rw [bindL_out fun v hv=>(List.nodup_cons.mp nd).1 (List.of_mem_zip hv).1,if_pos hk]
  simp
 | p::P,w::vs,i+1,m,nd,h1,h2,hk=>by
  show bindL kindOf ((p,w)::P.zip vs) m x=_;unfold bindL;exact bindL_get (i:=i) (List.nodup_cons.mp nd).2 (by simpa using h1) (by simpa using h2) hk
theorem bindC_get {kindOf:Str->Option NameKind}:∀ {P:List Str} {vs:List Value} {i:Nat} {m:Str->Option Value},P.Nodup->P[i]?=some x->vs[i]?=some v->kindOf x≠some .local->bindC kindOf (P.zip vs) m x=some v
 | [],_,_,_,_,h,_,_=>by simp at h
 | _::_,[],_,_,_,_,h,_=>by simp at h
 | p::P,w::vs,0,m,nd,h1,h2,hk=>by
  simp at h1 h2; subst h1; subst h2
  show bindC kindOf ((p,w)::P.zip vs) m p=_;unfold bindC;rw [bindC_out fun v hv=>(List.nodup_cons.mp nd).1 (List.of_mem_zip hv).1,if_neg hk]
  simp
 | p::P,w::vs,i+1,m,nd,h1,h2,hk=>by
  show bindC kindOf ((p,w)::P.zip vs) m x=_;unfold bindC;exact bindC_get (i:=i) (List.nodup_cons.mp nd).2 (by simpa using h1) (by simpa using h2) hk
def start (N:List Str) (vs:List V):St:=vs.map some++List.replicate (N.length - vs.length) none
def cxOf (CX:CXT) (P:Program) (w:World) (K:Ap) (mg:Str->Option Value) (base:Heap) (N:List Str) (qual:Str) (scope:Scope) (f:Addr) (cd:Value) (A:Around) (outer:List Env) (s:Shared) (H:Hp) (E:XK):Cx where
 prog:=P
 w:=w
 K:=K
 mg:=mg
 base:=base
 A:=A.deeper (envOfC qual scope s.heap.objs.size f cd)
 N:=N
 s₀:=s
 H₀:=H
 env:=envOfC qual scope s.heap.objs.size f cd
 outer:=outer
 stack:=envOfC qual scope s.heap.objs.size f cd::outer
 ex:=[]
 calm:=true
 fn:=fun _=>true
 pn:=[]
 xe:=fun e s'=>wpAny (model P w) (A.deeper (envOfC qual scope s.heap.objs.size f cd)) (leaving (envOfC qual scope s.heap.objs.size f cd) e) (fun _ s''=>CX outer H s E e s'') (fun e' s''=>CX outer H s E e' s'') s'
theorem cell_has {sc:Scope} (h:sc.names.lookup x=some .cell):∃ c,(cellsFrom n sc.names []).lookup x=some c:=by
 have q:=PySem.W.cellsFrom_some sc.names n [] (.inl h);exact Option.isSome_iff_exists.mp q
theorem inv_start {K:Ap} {scope:Scope} {outer:List Env} (S:FnScope N ps scope) (hd:A.handled=none) (e0:Env0 P w K mg base A outer s H) (hl:vs.length=ps.length) (r:Vals vs us) (x:InCallC s s.heap.objs.size (bindL (envOfC qual scope s.heap.objs.size f cd).kindOf (ps.zip us) fun _=>none) (cellsFrom (s.heap.objs.size+1) scope.names []) (bindC (envOfC qual scope s.heap.objs.size f cd).kindOf (ps.zip us) fun _=>none) s1) :
  Inv (cxOf CX P w K mg base N qual scope f cd A outer s H E) [] (start N vs) H s1:=by
 have hpl:ps.length<=N.length:=by have:=congrArg List.length S.pre; rw [Aj] at this; omega
 obtain ⟨h1,tk,rfl,hk⟩:=x.done;have noA:∀ b:Addr,b∉(cxOf CX P w K mg base N qual scope f cd A outer s H E).ex:=fun b z=>absurd (show b∈([]:List Addr) from z) (by simp)
 refine ⟨⟨e0.mod,S.kind,rfl,rfl,Nat.le_refl _,fun y z c h1 h2=>?_,fun y hy=>?_,fun y c _ h=>?_,fun _=>hd,Around.frames_deeper e0.frames,.inr ⟨rfl,rfl⟩,fun b z=>absurd z (noA b),e0.bs,e0.bsz,fun b _ _=>noA b,fun b z=>absurd z (noA b),e0.funs,e0.frf⟩,rfl,e0.bare,Un.kept hk,⟨_,x.toInCall.ns,fun i y v h1 h2 h3=>?_⟩,fun y c h=>⟨_,x.cell y c h⟩,e0.hok.fresh (Nat.le_refl _),fun y c h=>?_,fun p hp=>absurd (show p∈([]:List (Addr×Obj)) from hp) (by simp),e0.hok.kept hk,?_⟩
 ·exact name_of_addr x.apart (PySem.mem_of_lookup h1) (PySem.mem_of_lookup h2)
 ·have hy:scope.names.lookup y=some .cell\/scope.names.lookup y=some .free:=hy
  rcases hy with hy | hy
  ·exact cell_has hy
  ·exact absurd rfl (S.nofree _ (PySem.mem_of_lookup hy))
 ·exact Nat.le_of_lt (x.above y c (PySem.mem_of_lookup h))
 ·have hi:i<vs.length:=by
   unfold start at h2
   by_cases hi:i<vs.length
   ·exact hi
   ·rw [A1 (by simpa using hi)] at h2
    rw [List.getElem?_replicate] at h2
    split at h2 <;> cases h2
  have ha:vs[i]?=some v:=by
   unfold start at h2;rw [A2 (by simpa using hi),List.getElem?_map] at h2
   cases e:vs[i]? with
   | none=>rw [e] at h2; cases h2
   | some a=>rw [e] at h2; cases h2; rfl
  obtain ⟨u,hu,rv⟩:=r.get ha;have hp:ps[i]?=some y:=by
   rw [<- S.pre,List.getElem?_take_of_lt (by omega)]; exact h1
  have ndP:ps.Nodup:=by rw [<- S.pre]; exact S.nd.sublist (List.take_sublist _ _)
  refine ⟨u,rv,?_⟩
  rcases S.par y (A9 hp) with k | k
  ·exact .inl ⟨k,bindL_get ndP hp hu k⟩
  ·obtain ⟨c,e⟩:=cell_has (n:=s.heap.objs.size+1) k
   refine .inr ⟨.inl k,c,e,?_⟩;have q:=x.cell y c e;rw [bindC_get ndP hp hu (by show scope.names.lookup y≠_; rw [k]; decide)] at q;exact q
 ·exact e0.hok.fresh (Nat.le_of_lt (x.above y c (PySem.mem_of_lookup h)))
 ·unfold start
  show _=N.length;rw [Ad,List.length_map,A8];omega
theorem fn_of {K:Ap} {params:Arguments} {scope:Scope} {dV kV doc pm cdv ct oc:Value} (lk:K.lookup f=some ⟨oc,od,.func (PySem.W.fnOf name qual params body scope dV kV doc pm an cdv ct),osl⟩) (hcd:PySem.W.codeIn K cdv qual=true) (S:FnScope N ps scope) (len:∀ vs H Q E,sp vs H Q E->vs.length=ps.length) (hbody:∀ (A:Around) (outer:List Env) (s:Shared) (H:Hp) (vs:List V) (Q:VK) (E:XK),Room k (A.deeper (envOfC qual scope s.heap.objs.size f cdv))->sp vs H Q E->∃ t,PSs (cxOf CX P w K mg base N qual scope f cdv A outer s H E) body t/\t { nx:=fun _ H'=>Q .non H',rt:=Q } (start N vs) H) :
  FnOk P w K mg base CX (k+1) f (PySem.W.fnOf name qual params body scope dV kV doc pm an cdv ct) ps sp:=by
 refine ⟨len,fun A outer s H args us vs Q E hr e0 hb r hsp=>?_⟩;have hl:=len _ _ _ _ hsp;have KX:K.In s.heap:=e0.mod.kin.keeps fun b o e=>(e0.bs b o e).1
 have lim:s.heap.NoLimit:=e0.mod.nolimit.keeps fun b o e=>(e0.bs b o e).1
 have hkind:∀ y∈ps.zip us,scope.names.lookup y.1=some .local\/(scope.names.lookup y.1=some .cell/\((cellsFrom (s.heap.objs.size+1) scope.names []).lookup y.1).isSome=true):=fun ⟨n,v⟩ hy=>by
  rcases S.par n (List.of_mem_zip hy).1 with q | q
  ·exact .inl q
  ·exact .inr ⟨q,PySem.W.cellsFrom_some _ _ _ (.inl q)⟩
 refine codeAny_call_function hr.depth (KX _ _ lk) rfl S.co S.gen rfl (PySem.W.codeRec_of KX hcd) (hb _ _ _ _ ?_);refine wpAny_newFunctionEnv_cells S.kind hkind fun env he s1 x=>?_
 subst he;refine ⟨lim.keeps x.toInCall.keep,codeAny_func ?_⟩;obtain ⟨t,ht,hq⟩:=hbody A outer s H vs Q E (hr.deeper _) hsp;have I:Inv (cxOf CX P w K mg base N qual scope f cdv A outer s H E) [] (start N vs) H s1:=inv_start S hr.hd e0 hl r x;refine wpAny_mono (ht [] s1 (start N vs) H _ I hq) (fun fl s' hs=>?_) fun e s' hs=>hs
 have fin:∀ {σ':St} {H':Hp} {v:V} {u:Value},Inv (cxOf CX P w K mg base N qual scope f cdv A outer s H E) [] σ' H' s'->RelV v u->Q v H'->CE outer P w H s Q u s' :=
  fun {σ' H' v u} J rv q=>⟨v,H',J.os,J.bare,J.base,J.hok,rv,q⟩
 cases fl with
 | ret u =>
  obtain ⟨v,σ',H',J,rv,q⟩:=hs;exact fin J rv q
 | next =>
  obtain ⟨σ',H',J,q⟩:=hs;exact fin (v:=V.non) (u:=Value.none) J rfl q
 | brk =>
  obtain ⟨_,_,_,q⟩:=hs;exact False.elim q
 | cont =>
  obtain ⟨_,_,_,q⟩:=hs;exact False.elim q
section
variable {X:Cx} {x:Str} {p pos:Pos} {e:Expr} {es:List Expr} {t:TA} {id T:String} {r:List V->Hp->VK->Prop}
def tCB (r:List V->Hp->VK->Prop) (t:TA):TE:=fun σ H Q=>t σ H fun vs H1=>r vs H1 Q
theorem qX (hc:CallR X (.builtin id) r) (hg:Gl X x) (hm:X.mg x=none) (hv:bootBuiltins x=some (.builtin id)) (ha:PA X (e::es) t) (hn:x ≠ "__name__" := by decide) (hdb:(x==("__debug__" : Str))=false:=by decide)
  (he:starEach (e::es) X.env=(false,eval e X.env)::starEach es X.env:=by exact qz rfl _ _) (hpl:(backTo pos (starEach es X.env)).any (·.1)=false:=by exact qQ rfl):PE X (.Call (.Name x p) (e::es) [] pos) (tCB r t):=by
 intro pins s σ H Q I h;refine wpAny_Call_Name_kw (ld_blt I hg hm hv ?_ hn hdb);exact PyProof.Rows.callWith_builtin1 (thn (ha pos pins s σ H _ I h) fun us s1 ⟨vs,H1,I1,r1,q1⟩=>hc pins s1 σ H1 vs us Q I1 r1 q1) he hpl
theorem yq (hc:CallR X (.type T) r) (hg:Gl X x) (hm:X.mg x=none) (hv:bootBuiltins x=some (.type T)) (ha:PA X (e::es) t) (hn:x ≠ "__name__" := by decide) (hdb:(x==("__debug__" : Str))=false:=by decide)
  (he:starEach (e::es) X.env=(false,eval e X.env)::starEach es X.env:=by exact qz rfl _ _) (hpl:(backTo pos (starEach es X.env)).any (·.1)=false:=by exact qQ rfl):PE X (.Call (.Name x p) (e::es) [] pos) (tCB r t):=by
 intro pins s σ H Q I h;refine wpAny_Call_Name_kw (ld_blt I hg hm hv ?_ hn hdb);exact PyProof.Rows.callWith_type1 (thn (ha pos pins s σ H _ I h) fun us s1 ⟨vs,H1,I1,r1,q1⟩=>hc pins s1 σ H1 vs us Q I1 r1 q1) he hpl
end
end L2
namespace HT
open PySem PyProof.Rows
section
open PySem.SeqAt
open PySem.AutoSeq1 (wpAny_loadPart')
open PySem.MeetsSeq PySem.MeetsSeq2 PySem.MeetsSeq3
end
section
variable {prog:Program} {w:World} {A:Around} {E:Value->Shared->Prop} {s:Shared}
def sIx (n d:Nat):Option Int->Nat
 | none=>d
 | some v=>if v<0 then (v+(n:Int)).toNat else min v.toNat n
theorem sIx_none (n d:Nat):sIx n d none=d:=rfl
theorem sIx_nat (n d k:Nat):sIx n d (some (k:Int))=min k n:=by
 show (if (k:Int)<0 then ((k:Int)+(n:Int)).toNat else min (k:Int).toNat n)=min k n;rw [if_neg (by omega),Int.toNat_natCast]
end
end HT
namespace L2
open PySem PySem.Spec PyProof.Rows
abbrev TO:=St->Hp->(Option Int->Hp->Prop)->Prop
def PO (X:Cx) (e:Option Expr) (t:TO):Prop :=
 ∀ (pins:List (Addr×Obj)) (s:Shared) (σ:St) (H:Hp) (Q:Option Int->Hp->Prop),Inv X pins σ H s->t σ H Q->wpAny (model X.prog X.w) X.A (evalPart e X.env) (fun u s'=>∃ o H',Inv X pins σ H' s'/\IsPart u o/\Q o H') X.xe s
def tNoPart:TO:=fun _ H Q=>Q none H
def tPart (t:TE):TO:=fun σ H Q=>t σ H fun x H1=>∃ i,x=.int i/\Q (some i) H1
section
variable {X:Cx} {e:Expr} {te:TE} {lo hi:Option Expr} {tl th:TO} {pos p2:Pos}
theorem po_none:PO X none tNoPart:=by
 intro pins s σ H Q I h;rw [evalPart_none];exact wpAny_pure ⟨none,H,I,.none,h⟩
theorem vK (h:PE X e te):PO X (some e) (tPart te):=by
 intro pins s σ H Q I hw;rw [evalPart_some];refine thn (h pins s σ H _ I hw) fun u s1 ⟨x,H1,I1,r1,q1⟩=>?_
 obtain ⟨i,rfl,q⟩:=q1;obtain ⟨t,rfl⟩:=r1;exact ⟨some i,H1,I1,.int i t,q⟩
def SlR (X:Cx) (r:V->Option Int->Option Int->Hp->VK->Prop):Prop :=
 ∀ (pins:List (Addr×Obj)) (s:Shared) (σ:St) (H:Hp) (x:V) (v vl vu:Value) (lo hi:Option Int) (sl:Addr) (Q:VK),Inv X pins σ H s->RelV x v->s.heap.IsSliceOf sl vl vu .none->IsPart vl lo->IsPart vu hi->r x lo hi H Q->∃ T id,typeLookup (.type T) "__getitem__" = pure (some (.builtin id))/\s.TypeIs v T/\wpAny (model X.prog X.w) X.A (getItem v (.ref sl)) (EP X pins σ Q) X.xe s
def tSl (r:V->Option Int->Option Int->Hp->VK->Prop) (te:TE) (tl th:TO):TE:=fun σ H Q=>te σ H fun x H1=>tl σ H1 fun l H2=>th σ H2 fun u H3=>r x l u H3 Q
theorem w6 (hr:SlR X r) (he:PE X e te) (hl:PO X lo tl) (hu:PO X hi th):PE X (.Subscript e (.Slice lo hi none p2) pos) (tSl r te tl th):=by
 intro pins s σ H Q I h;refine Subscript_ (thn (he pins s σ H _ I h) fun v s1 ⟨x,H1,I1,r1,q1⟩=>?_);refine wpAny_Slice (thn (hl pins s1 σ H1 _ I1 q1) fun vl s2 ⟨l,H2,I2,pl,q2⟩=>thn (hu pins s2 σ H2 _ I2 q2) fun vu s3 ⟨u,H3,I3,pu,q3⟩=>?_);rw [evalPart_none];refine wpAny_pure ?_;have I4:Inv X pins σ H3 { s3 with heap:=s3.heap.push { cls:=.type "slice",data:=.fields #[vl,vu,.none] } }:=I3.kept (t':=s3.toks) fun b ob q=>Heap.get?_push_of_some _ q
 obtain ⟨T,id,hT,ht,hg⟩:=hr pins { s3 with heap:=s3.heap.push { cls:=.type "slice",data:=.fields #[vl,vu,.none] } } σ H3 x v vl vu l u s3.heap.objs.size Q I4 r1 (Heap.IsSliceOf.new ..) pl pu q3;show wpAny (model X.prog X.w) X.A (subscriptTail e (.Slice lo hi none p2) v (.ref s3.heap.objs.size)) (EP X pins σ Q) X.xe { s3 with heap:=s3.heap.push { cls:=.type "slice",data:=.fields #[vl,vu,.none] } };exact tail_any (ops:=[.ref s3.heap.objs.size,v]) ht hT hg (by with_unfolding_all rfl)
def cutV (xs:List V) (lo hi:Option Int):List V:=(xs.drop (HT.sIx xs.length 0 lo)).take (HT.sIx xs.length xs.length hi - HT.sIx xs.length 0 lo)
theorem cutV_length (xs:List V) (lo hi:Option Int):(cutV xs lo hi).length<=xs.length:=by
 unfold cutV;rw [Aj,List.length_drop];omega
end
def ixN (n:Nat) (i:Int):Option Nat:=if 0<=i then (if i<n then some i.toNat else none) else if -(n:Int)<=i then some (i+n).toNat else none
def atI {α:Type} (xs:List α) (i:Int):Option α:=(ixN xs.length i).bind fun j=>xs[j]?
theorem ixN_seq (h:ixN n i=some j):seqIndex? i n=some j/\j<n /\ -(n:Int)<=i/\i<n:=by
 unfold ixN at h
 by_cases h0:0<=i
 ·rw [if_pos h0] at h
  by_cases h1:i<n
  ·rw [if_pos h1] at h
   have e:i.toNat=j:=Am h;exact ⟨by rw [seqIndex_of h0 h1,e],by omega,by omega,h1⟩
  ·rw [if_neg h1] at h; cases h
 ·rw [if_neg h0] at h
  by_cases h1 : -(n:Int)<=i
  ·rw [if_pos h1] at h
   have e:(i+n).toNat=j:=Am h;exact ⟨by rw [seqIndex_neg (by omega) h1,e],by omega,h1,by omega⟩
  ·rw [if_neg h1] at h; cases h
theorem atI_get {α:Type} {xs:List α} {v:α} (h:atI xs i=some v):∃ j,seqIndex? i xs.length=some j/\xs[j]?=some v/\j<xs.length /\ -(xs.length:Int)<=i/\i<xs.length:=by
 unfold atI at h
 cases e:ixN xs.length i with
 | none=>rw [e] at h; cases h
 | some j =>
  rw [e] at h;obtain ⟨h1,h2,h3,h4⟩:=ixN_seq e;exact ⟨j,h1,h,h2,h3,h4⟩
def PlainIx (b:Expr):Prop:=∀ o i,subscripted b false o i=operate [o,i] (getItem o i)
def IxR (X:Cx) (r:R2):Prop :=
 ∀ (value slice:Expr) (pins:List (Addr×Obj)) (s:Shared) (σ:St) (H:Hp) (x y:V) (v u:Value) (Q:VK),Inv X pins σ H s->RelV x v->RelV y u->r x y H Q->subscripted slice false v u=operate [v,u] (getItem v u)->wpAny (model X.prog X.w) X.A (subscriptTail value slice v u) (EP X pins σ Q) X.xe s
def MtR (X:Cx) (id:String) (r:V->List V->Hp->VK->Prop):Prop :=
 ∀ (pins:List (Addr×Obj)) (s:Shared) (σ:St) (H:Hp) (x:V) (xs:List V) (v:Value) (us:List Value) (Q:VK),Inv X pins σ H s->RelV x v->Vals xs us->r x xs H Q->wpAny (model X.prog X.w) X.A (call (.builtin id) (v::us)) (EP X pins σ Q) X.xe s
section
variable {X:Cx} {a b:Expr} {ta tb:TE} {pos:Pos}
theorem pe_ix (hr:IxR X r) (ha:PE X a ta) (hb:PE X b tb) (hs:PlainIx b:=by exact fun _ _=>rfl):PE X (.Subscript a b pos) (tOp r ta tb):=by
 intro pins s σ H Q I h;exact Subscript_ (binT ha hb I h fun v u s2 x y H2 I2 rx ry q=>hr a b pins s2 σ H2 x y v u Q I2 rx ry q (hs _ _))
def rIxL (K:Ap):R2:=fun x y H Q=>∃ p xs i v,x=.ref p/\y=.int i/\SqL K H p xs/\atI xs i=some v/\Q v H
def rIxT (K:Ap):R2:=fun x y H Q=>∃ p xs i v,x=.ref p/\y=.int i/\SqT K H p xs/\atI xs i=some v/\Q v H
theorem zJ:IxR X (rIxL X.K):=by
 intro value slice pins s σ H x y v u Q I rx ry h hs;obtain ⟨p,xs,i,z,rfl,rfl,hq,he,q⟩:=h
 cases rx
 obtain ⟨t,rfl⟩:=ry;obtain ⟨its,r,pl,hz⟩:=I.list hq;obtain ⟨j,h1,h2,h3,h4,h5⟩:=atI_get he;obtain ⟨w,ew,rw'⟩:=r.get h2;have hl:=r.length;have hn:=line63;have fin:EP X pins σ Q w s:=⟨z,H,I,rw',q⟩
 by_cases h0:0<=i
 ·have hj:i.toNat=j:=by
   rw [seqIndex_of h0 h5] at h1;exact Am h1
  exact item_listR pl.isList h0 (by omega) (by rw [hj]; simpa using ew) fin hs
 ·have hj:(i+(its.toArray.size:Int)).toNat=j:=by
   rw [seqIndex_neg (by omega) h4] at h1;rw [List.size_toArray,<- hl];exact Am h1
  exact subscriptTail_builtinR (x:=w) pl.isList.typeIs slot_list_getitem.lookup
   (wpAny_getItem_list_neg (Q:=fun r s'=>r=w/\EP X pins σ Q r s') pl.isList (by omega) (by rw [List.size_toArray] <;> omega) (by omega) (by rw [hj]; simpa using ew) ⟨rfl,fin⟩) hs
theorem zq:IxR X (rIxT X.K):=by
 intro value slice pins s σ H x y v u Q I rx ry h hs;obtain ⟨p,xs,i,z,rfl,rfl,hq,he,q⟩:=h
 cases rx
 obtain ⟨t,rfl⟩:=ry;obtain ⟨its,r,pl,hz⟩:=I.tuple hq;obtain ⟨j,h1,h2,h3,h4,h5⟩:=atI_get he;obtain ⟨w,ew,rw'⟩:=r.get h2;have hl:=r.length;have hn:=line63;have fin:EP X pins σ Q w s:=⟨z,H,I,rw',q⟩;exact subscriptTail_builtinR (x:=w) pl.typeIs slot_tuple_getitem.lookup
  (getItem_tuple (j:=j) (Q:=fun r s'=>r=w/\EP X pins σ Q r s') pl (by omega) (by omega) (by rw [List.size_toArray,<- hl]; exact h1) (by simpa using ew) ⟨rfl,fin⟩) hs
theorem Q8 (lo hi:Option Int) (n:Nat):(sliceBounds lo hi none n).1=((HT.sIx n 0 lo:Nat):Int)/\(sliceBounds lo hi none n).2.1=((HT.sIx n n hi:Nat):Int)/\(sliceBounds lo hi none n).2.2=1:=by
 refine ⟨?_,?_,rfl⟩
 ·cases lo with
  | none=>simp [sliceBounds,HT.sIx]
  | some i =>
   simp only [sliceBounds,HT.sIx,Option.getD_none,show (1:Int)>0 by decide,if_true]
   by_cases h:i<0
   ·simp only [h,if_true] <;> omega
   ·simp only [h,if_false] <;> omega
 ·cases hi with
  | none=>simp [sliceBounds,HT.sIx]
  | some i =>
   simp only [sliceBounds,HT.sIx,Option.getD_none,show (1:Int)>0 by decide,if_true]
   by_cases h:i<0
   ·simp only [h,if_true] <;> omega
   ·simp only [h,if_false] <;> omega
theorem slicePick_cut (its:List Value) (lo hi:Option Int):slicePick its.toArray lo hi none=((its.drop (HT.sIx its.length 0 lo)).take (HT.sIx its.length its.length hi - HT.sIx its.length 0 lo)).toArray:=by
 obtain ⟨h1,h2,h3⟩:=Q8 lo hi its.toArray.size;unfold slicePick;rw [h1,h2,h3]
 simp only [sliceRange_one,pick_run,List.size_toArray] <;> rfl
def rSlL (K:Ap):V->Option Int->Option Int->Hp->VK->Prop:=fun x lo hi H Q=>∃ a xs,x=.ref a/\SqL K H a xs/\∀ p,H p=none->Q (.ref p) (upd H p (.lst (cutV xs lo hi)))
theorem Q9:SlR X (rSlL X.K):=by
 intro pins s σ H x v vl vu lo hi sl Q I rx hs pl pu h;obtain ⟨a,xs,rfl,hx,q⟩:=h
 cases rx
 obtain ⟨its,r,ht,hz⟩:=I.list hx;have hlen:=r.length;refine ⟨"list",_,slot_list_getitem.lookup,ht.isList.typeIs,?_⟩;refine wpAny_getItem_list_slice ht.isList hs pl pu .none (by simp) ?_ (by rw [List.size_toArray] <;> omega);rw [slicePick_cut,<- hlen];refine ⟨.ref s.heap.objs.size,_,I.laid (t':=s.toks) (o:=.lst (cutV xs lo hi)) (fun b ob q=>Heap.get?_push_of_some _ q) (Nat.le_refl _) ?_,rfl,q _ (I.hok.fresh (Nat.le_refl _))⟩;exact ⟨Ao (cutV_length xs lo hi) hz,_,0,(r.drop (HT.sIx xs.length 0 lo)).take (HT.sIx xs.length xs.length hi - HT.sIx xs.length 0 lo),Heap.get?_push_size _ rfl⟩
def flatV:V->Bool
 | .non=>true
 | .bl _=>true
 | .int _=>true
 | .str _=>true
 | _=>false
def eqV:V->V->Bool
 | .non,.non=>true
 | .bl a,.bl b=>a==b
 | .bl a,.int b=>(if a then 1 else 0)==b
 | .int a,.bl b=>a==(if b then 1 else 0)
 | .int a,.int b=>a==b
 | .str a,.str b=>a==b
 | _,_=>false
theorem eqAt_V (ry:RelV y u) (rx:RelV x v) (fy:flatV y=true) (fx:flatV x=true):SeqAt.EqAt A s u v (eqV y x):=by
 cases y with
 | non =>
  cases ry
  cases x with
  | non=>cases rx; exact SeqAt.EqAt.same _
  | bl b=>cases rx; exact SeqAt.EqAt.none_bool b
  | int b=>obtain ⟨t,rfl⟩:=rx; exact SeqAt.EqAt.none_int b t
  | str b=>obtain ⟨t,rfl⟩:=rx; exact SeqAt.EqAt.none_str b t
  | _=>exact absurd (show false=true from fx) Ag
 | bl a =>
  cases ry
  cases x with
  | non=>cases rx; exact SeqAt.EqAt.bool_none a
  | bl b=>cases rx; exact SeqAt.EqAt.bool_bool a b
  | int b=>obtain ⟨t,rfl⟩:=rx; exact SeqAt.EqAt.bool_int a b t
  | str b=>obtain ⟨t,rfl⟩:=rx; exact SeqAt.EqAt.bool_str a b t
  | _=>exact absurd (show false=true from fx) Ag
 | int a =>
  obtain ⟨t',rfl⟩:=ry
  cases x with
  | non=>cases rx; exact SeqAt.EqAt.int_none a t'
  | bl b=>cases rx; exact SeqAt.EqAt.int_bool a t' b
  | int b=>obtain ⟨t,rfl⟩:=rx; exact SeqAt.EqAt.int_int a t' b t
  | str b=>obtain ⟨t,rfl⟩:=rx; exact SeqAt.EqAt.int_str a t' b t
  | _=>exact absurd (show false=true from fx) Ag
 | str a =>
  obtain ⟨t',rfl⟩:=ry
  cases x with
  | non=>cases rx; exact SeqAt.EqAt.str_none a t'
  | bl b=>cases rx; exact SeqAt.EqAt.str_bool a t' b
  | int b=>obtain ⟨t,rfl⟩:=rx; exact SeqAt.EqAt.str_int a t' b t
  | str b=>obtain ⟨t,rfl⟩:=rx; exact SeqAt.EqAt.str_str a t' b t
  | _=>exact absurd (show false=true from fx) Ag
 | _=>exact absurd (show false=true from fy) Ag
def eqU (x:V) (u:Value):Bool:=match u with
 | .none=>eqV .non x
 | .bool b=>eqV (.bl b) x
 | .int i _=>eqV (.int i) x
 | .str z _=>eqV (.str z) x
 | _=>false
theorem eqU_of (r:RelV y u) (f:flatV y=true):eqU x u=eqV y x:=by
 cases y with
 | non=>cases r; rfl
 | bl b=>cases r; rfl
 | int i=>obtain ⟨t,rfl⟩:=r; rfl
 | str z=>obtain ⟨t,rfl⟩:=r; rfl
 | _=>exact absurd (show false=true from f) Ag
theorem any_eqU:∀ {xs:List V} {us:List Value},Vals xs us->xs.all flatV=true->us.any (eqU x)=xs.any fun y=>eqV y x
 | _,_,.nil,_=>rfl
 | y::xs,u::us,.cons r t,f=>by
  rw [List.all_cons,Bool.and_eq_true] at f;rw [List.any_cons,List.any_cons,eqU_of r f.1,any_eqU t f.2]
theorem mem_eqAt (rx:RelV x v) (fx:flatV x=true):∀ {xs:List V} {us:List Value},Vals xs us->xs.all flatV=true->∀ u∈us,SeqAt.EqAt A s u v (eqU x u)
 | _,_,.nil,_=>fun u hu=>by cases hu
 | y::xs,u::us,.cons r t,f=>fun u' hu=>by
  rw [List.all_cons,Bool.and_eq_true] at f
  rcases List.mem_cons.mp hu with rfl | hu
  ·rw [eqU_of r f.1]; exact eqAt_V r rx f.1 fx
  ·exact mem_eqAt rx fx t f.2 u' hu
def inV (x:V) (xs:List V):Bool:=xs.any fun y=>eqV y x
def rIn (K:Ap) (neg:Bool):R2:=fun x y H Q=>∃ p xs,y=.ref p/\(SqL K H p xs\/SqT K H p xs)/\flatV x=true/\xs.all flatV=true/\Q (.bl (if neg then !inV x xs else inV x xs)) H
theorem op_in_seq:OpR X (compareOp .In) (rIn X.K false):=by
 intro pins s σ H x y v u Q I rx ry h;obtain ⟨p,xs,rfl,hq,fx,fs,q⟩:=h
 cases ry
 rcases hq with hq | hq
 ·obtain ⟨its,r,pl,hz⟩:=I.list hq
  refine SeqAt.in_listAt (eqU x) pl.isList (fun w hw=>mem_eqAt rx fx r fs w (by simpa using hw)) ⟨.bl _,H,I,rfl,?_⟩;rw [show its.toArray.any (eqU x)=its.any (eqU x) by simp,any_eqU r fs];exact q
 ·obtain ⟨its,r,pl,hz⟩:=I.tuple hq
  refine SeqAt.in_tupleAt (eqU x) pl (fun w hw=>mem_eqAt rx fx r fs w (by simpa using hw)) ⟨.bl _,H,I,rfl,?_⟩;rw [show its.toArray.any (eqU x)=its.any (eqU x) by simp,any_eqU r fs];exact q
theorem zx:CallR X (.builtin "len") (fun xs H Q=>∃ p ys,xs=[.ref p]/\(SqL X.K H p ys\/SqT X.K H p ys)/\Q (.int ys.length) H):=by
 intro pins s σ H xs us Q I r h;obtain ⟨p,ys,rfl,hq,q⟩:=h;obtain ⟨u,rfl,rx⟩:=vals1 r
 cases rx
 have hn:=line63
 rcases hq with hq | hq
 ·obtain ⟨its,r',pl,hz⟩:=I.list hq
  have hlen:=r'.length;exact Calls.call_len_list pl.isList (by simp only [List.size_toArray] <;> omega) ⟨.int ys.length,H,I.tok _,⟨s.toks+1,by rw [List.size_toArray,hlen]⟩,q⟩
 ·obtain ⟨its,r',pl,hz⟩:=I.tuple hq
  have hlen:=r'.length;exact len_tuple pl (by simp only [List.size_toArray] <;> omega) ⟨.int ys.length,H,I.tok _,⟨s.toks+1,by rw [List.size_toArray,hlen]⟩,q⟩
theorem call_len_str:CallR X (.builtin "len") (fun xs H Q=>∃ z,xs=[.str z]/\z.length<=sizeLine/\Q (.int z.length) H):=by
 intro pins s σ H xs us Q I r h;obtain ⟨z,rfl,hz,q⟩:=h;obtain ⟨u,rfl,t,rfl⟩:=vals1 r;have hn:=line63;exact len_str (by omega) ⟨.int z.length,H,I.tok _,⟨_,rfl⟩,q⟩
theorem QY:CallR X (.type "list") (fun xs H Q=>∃ p ys,xs=[.ref p]/\(SqL X.K H p ys\/SqT X.K H p ys)/\∀ l,H l=none->Q (.ref l) (upd H l (.lst ys))):=by
 intro pins s σ H xs us Q I r h;obtain ⟨p,ys,rfl,hq,q⟩:=h;obtain ⟨u,rfl,rx⟩:=vals1 r
 cases rx
 have fin:∀ (its:List Value),Vals ys its->ys.length<=sizeLine->∀ (h':Heap) (c':Nat),(∀ b o',s.heap.get? b=some o'->h'.get? b=some o')->h'.get? s.heap.objs.size=some { cls:=.type "list",dict:=none,data:=.seq its.toArray c',slots:=#[] }->EP X pins σ Q (.ref s.heap.objs.size) { s with heap:=h' }:=fun its r' hz h' c' kp e =>
  ⟨.ref s.heap.objs.size,_,I.laid (t':=s.toks) kp (Nat.le_refl _) (show ObjOk X.prog X.w _ h' _ (.lst ys) from ⟨hz,its,c',r',e⟩),rfl,q _ (I.hok.fresh (Nat.le_refl _))⟩
 rcases hq with hq | hq
 ·obtain ⟨its,r',pl,hz⟩:=I.list hq
  have hlen:=r'.length;obtain ⟨o,ho,hc,n,hd⟩:=pl.isList;exact call_list_seq p (.inl rfl) ho hc hd (fun h' c' kp e=>fin its r' hz h' c' kp e) (by simp only [List.size_toArray] <;> omega)
 ·obtain ⟨its,r',pl,hz⟩:=I.tuple hq
  have hlen:=r'.length;obtain ⟨o,ho,hc,n,hd⟩:=pl;exact call_list_seq p (.inr rfl) ho hc hd (fun h' c' kp e=>fin its r' hz h' c' kp e) (by simp only [List.size_toArray] <;> omega)
theorem call_tuple_of:CallR X (.type "tuple") (fun xs H Q=>∃ p ys,xs=[.ref p]/\((SqL X.K H p ys/\∀ l,H l=none->Q (.ref l) (upd H l (.tup ys)))\/(SqT X.K H p ys/\Q (.ref p) H))):=by
 intro pins s σ H xs us Q I r h;obtain ⟨p,ys,rfl,h⟩:=h;obtain ⟨u,rfl,rx⟩:=vals1 r
 cases rx
 rcases h with ⟨hq,q⟩ | ⟨hq,q⟩
 ·obtain ⟨its,r',pl,hz⟩:=I.list hq
  have hlen:=r'.length;refine call_tuple_list pl.isList (fun h' kp=>?_) (by simp only [List.size_toArray] <;> omega);have I1:Inv X pins σ H { s with heap:=h' }:=I.kept (t':=s.toks) kp;have I2:Inv X pins σ (upd H h'.objs.size (.tup ys)) { s with heap:=h'.push { cls:=.type "tuple",data:=.seq its.toArray } } :=
   I1.laid (t':=s.toks) (fun b o e=>Heap.get?_push_of_some _ e) (Nat.le_refl _) (show ObjOk X.prog X.w _ _ _ (.tup ys) from ⟨hz,its,r',IsTup.new _ _⟩)
  exact ⟨.ref h'.objs.size,_,I2,rfl,q _ (I1.hok.fresh (Nat.le_refl _))⟩
 ·obtain ⟨its,r',pl,hz⟩:=I.tuple hq
  exact call_tuple_same pl ⟨.ref p,H,I,rfl,q⟩
def tyV (K:Ap) (T:String) (x:V) (H:Hp):Prop:=match x with
 | .str _=>T = "str"
 | .int _=>T = "int"
 | .ref p=>(T = "list" /\ ∃ xs,SqL K H p xs)\/(T = "tuple" /\ ∃ o,K.lookup p=some o/\o.cls=.type "tuple" /\ o.dict=none) \/
   (T = "dict" /\ ((∃ kvs,H p=some (.dK kvs))\/∃ kvs,H p=some (.dT kvs)))\/(T = "set" /\ ∃ S n,H p=some (.set S n))
 | _=>False
theorem tyV_is {σ:St} (I:Inv X pins σ H s) (r:RelV x v) (ty:tyV X.K T x H) :
  s.TypeIs v T/\∀ a,v=.ref a->∃ ob,s.heap.get? a=some ob/\ob.dict=none:=by
 cases x with
 | str z =>
  obtain ⟨t,rfl⟩:=r
  cases (show T = "str" from ty)
  exact ⟨typeIs_str s z t,fun _ e=>nomatch e⟩
 | int i =>
  obtain ⟨t,rfl⟩:=r
  cases (show T = "int" from ty)
  exact ⟨typeIs_int s i t,fun _ e=>nomatch e⟩
 | ref p =>
  cases r
  rcases ty with ⟨rfl,xs,hq⟩ | ⟨rfl,o,hk,hc,hd⟩ | ⟨rfl,hk⟩ | ⟨rfl,S,n,hk⟩
  ·obtain ⟨its,_,pl,_⟩:=I.list hq
   refine ⟨pl.isList.typeIs,fun a e=>?_⟩
   cases e
   obtain ⟨o,n,e,c,hd,_⟩:=pl;exact ⟨o,e,hd⟩
  ·refine ⟨⟨o,I.kIn p o hk,hc⟩,fun a e=>?_⟩
   cases e
   exact ⟨o,I.kIn _ o hk,hd⟩
  ·have z:∃ o,s.heap.get? p=some o/\o.ExactDict:=by
    rcases hk with ⟨kvs,hk⟩ | ⟨kvs,hk⟩
    ·obtain ⟨_,_,_,_,o,_,_,e,ex,_⟩:=I.hok p _ hk
     exact ⟨o,e,ex⟩
    ·obtain ⟨_,_,_,_,o,_,_,e,ex,_⟩:=I.hok p _ hk
     exact ⟨o,e,ex⟩
   obtain ⟨o,e,ex⟩:=z;refine ⟨⟨o,e,ex.1⟩,fun a e2=>?_⟩
   cases e2
   exact ⟨o,e,ex.2.1⟩
  ·obtain ⟨o,_,_,_,e,ex,_⟩:=I.hok p _ hk
   refine ⟨⟨o,e,ex.1⟩,fun a e2=>?_⟩
   cases e2
   exact ⟨o,e,ex.2.1⟩
 | _=>exact False.elim ty
def tBM (K:Ap) (T:String) (r:V->List V->Hp->VK->Prop) (to:TE) (t:TA):TE:=fun σ H Q=>to σ H fun x H1=>tyV K T x H1/\t σ H1 fun xs H2=>r x xs H2 Q
variable {o e:Expr} {es:List Expr} {to:TE} {t:TA} {name:Str} {apos cpos:Pos} {T id:String} {r:V->List V->Hp->VK->Prop}
theorem pe_bm (pa:PlainAttrs T) (slot:Slot T name id) (hty:typeOf (.builtin id)=pure (.type "method_descriptor")) (hm:MtR X id r) (ho:PE X o to) (ha:PA X (e::es) t)
  (hbase:attributeBase o name X.env (eval o X.env)=eval o X.env:=by rfl)
  (hfew:((backTo cpos (starEach (e::es) X.env)).all (fun x=>!x.1)&&(backToKw cpos (keywordEach [] X.env)).all (fun x=>x.1.isSome)
   && decide ((e::es).length+([]:List Keyword).length+(if ([]:List Keyword).isEmpty then 0 else 1)<30))=true:=by rfl)
  (hline:(apos.endLine==cpos.line)=true:=by rfl) (hs:starEach (e::es) X.env=(false,eval e X.env)::starEach es X.env:=by exact qz rfl _ _) (hplain:(backTo cpos (starEach es X.env)).any (·.1)=false:=by rfl) :
  PE X (.Call (.Attribute o name apos) (e::es) [] cpos) (tBM X.K T r to t):=by
 intro pins s σ H Q I h;refine wpAny_Call_method_late hbase hfew hline rfl (thn (ho pins s σ H _ I h) fun v s1 ⟨x,H1,I1,r1,ty,q1⟩=>?_);obtain ⟨h1,h2⟩:=tyV_is I1 r1 ty;refine ⟨T,id,pa,slot,hty,h1,h2,?_⟩;have hA:=ha cpos pins s1 σ H1 _ I1 q1;rw [hs] at hA ⊢;refine Calls.callWith_builtin (by show (false||(backTo cpos (starEach es X.env)).any (·.1))=false; rw [hplain] <;> rfl) (Calls.evalArgs_plain ?_);exact thn hA fun us s2 ⟨vs,H2,I2,r2,q2⟩=>hm pins s2 σ H2 x vs v us Q I2 r1 r2 q2
end
def MtM (X:Cx) (id:String) (r:V->List V->Hp->VK->Prop):Prop :=
 ∀ (pins:List (Addr×Obj)) (s:Shared) (σ:St) (H:Hp) (x:V) (xs:List V) (v:Value) (us:List Value) (Q:VK),Inv X pins σ H s->RelV x v->Vals xs us->r x xs H Q->wpAny (model X.prog X.w) X.A (call (.builtin id) (v::us)) (EP X pins σ Q) X.xe s
theorem Vals.one:∀ {x:V} {us:List Value},Vals [x] us->∃ u,us=[u]/\RelV x u
 | _,_,.cons r .nil=>⟨_,rfl,r⟩
theorem Vals.rep (h:Vals xs us):∀ k:Nat,Vals (List.replicate k xs).flatten (List.replicate k us).flatten
 | 0=>.nil
 | k+1=>by
  rw [List.replicate_succ,List.replicate_succ,List.flatten_cons,List.flatten_cons];exact Vals.append h (Vals.rep h k)
theorem foldl_rep (its:List Value):∀ (k:Nat) (acc:List Value),List.foldl (fun x1 x2=>x1++x2) acc.toArray (List.replicate k its.toArray)=(acc++(List.replicate k its).flatten).toArray
 | 0,acc=>by simp
 | k+1,acc=>by
  have e:acc.toArray++its.toArray=(acc++its).toArray:=by simp
  have e2:(acc++its)++(List.replicate k its).flatten=acc++(List.replicate (k+1) its).flatten:=by
   rw [List.replicate_succ,List.flatten_cons,List.append_assoc]
  rw [<- e2,<- foldl_rep its k (acc++its),<- e,List.replicate_succ,List.foldl_cons]
section
variable {X:Cx} {pins:List (Addr×Obj)} {σ:St} {H:Hp} {s:Shared} {l b:Addr} {xs ys zs:List V}
theorem Inv.lset {its its':List Value} (I:Inv X pins σ H s) (hH:H l=some (.lst xs)) (e:s.heap.get? l=some { cls:=.type "list",data:=.seq its.toArray n }) (hf:f its.toArray=its'.toArray) (hv:Vals ys its') (hz:ys.length<=sizeLine) :
  Inv X pins σ (upd H l (.lst ys)) { s with heap:=s.heap.update l (Obj.mapSeq f),toks:=t' }:=by
 have q:=PySem.IsL.update e f;rw [hf] at q;refine I.write (x:=l) (e:=l) (by rw [hH]; exact trivial) (.inl rfl) (fun b' u hb hu=>(Heap.get?_update_other s.heap (Obj.mapSeq f) (Ne.symm hb)).trans hu) ⟨_,q⟩ ?_;exact ⟨hz,its',_,hv,q⟩
theorem Inv.lnew (I:Inv X pins σ H s) (hv:Vals ys its) (hz:ys.length<=sizeLine) :
  Inv X pins σ (upd H s.heap.objs.size (.lst ys)) { s with heap:=s.heap.push { cls:=.type "list",data:=.seq its.toArray },toks:=t' } :=
 I.laid (fun _ _ q=>Heap.get?_push_of_some _ q) (Nat.le_refl _) ⟨hz,its,0,hv,Heap.get?_push_size _ rfl⟩
theorem Inv.fresh (I:Inv X pins σ H s):H s.heap.objs.size=none:=I.hok.fresh (Nat.le_refl _)
theorem Inv.lstM (I:Inv X pins σ H s) (hH:H l=some (.lst xs)):xs.length<=sizeLine/\∃ (its:List Value) (n:Nat),Vals xs its/\xs.length=its.length/\s.heap.get? l=some { cls:=.type "list",data:=.seq its.toArray n }:=by
 obtain ⟨z,its,n,r,e⟩:=I.hok l _ hH;exact ⟨z,its,n,r,r.length,e⟩
theorem notLongL (h:n<=sizeLine):Builtin.List.listTooLong n=false:=by
 unfold Builtin.List.listTooLong;exact decide_eq_false (by omega)
end
section
variable {X:Cx}
def rAppend:V->List V->Hp->VK->Prop:=fun x vs H Q=>∃ l xs y,x=.ref l/\vs=[y]/\H l=some (.lst xs)/\xs.length<sizeLine/\Q .non (upd H l (.lst (xs++[y])))
theorem mt_append:MtM X "list.append" rAppend:=by
 intro pins s σ H x vs v us Q I rx rv h;obtain ⟨l,xs,y,rfl,rfl,hH,hz,q⟩:=h
 cases rx
 obtain ⟨u,rfl,ru⟩:=rv.one;obtain ⟨z,its,n,r,hl,e⟩:=I.lstM hH;refine call_meets F.slot_list_append ⟨_,e,rfl⟩ F.entry_list_append (F.args_list_append_2 _ _) (PySem.list_append l its.toArray n u (by rw [List.size_toArray]; omega)) ⟨e,?_⟩;refine ⟨.non,_,I.lset (its':=its++[u]) hH e (by simp) (r.append (.cons ru .nil)) ?_,rfl,q⟩;rw [Ad,A6];omega
def rCat:R2:=fun x y H Q=>∃ l b xs zs,x=.ref l/\y=.ref b/\H l=some (.lst xs)/\H b=some (.lst zs)/\xs.length+zs.length<=sizeLine/\∀ p,H p=none->Q (.ref p) (upd H p (.lst (xs++zs)))
theorem ww:OpR X (binaryOp .Add) rCat:=by
 intro pins s σ H x y v u Q I rx ry h;obtain ⟨l,b,xs,zs,rfl,rfl,hH,hB,hz,q⟩:=h
 cases rx
 cases ry
 obtain ⟨z,its,n,r,hl,e⟩:=I.lstM hH;obtain ⟨z2,its2,n2,r2,hl2,e2⟩:=I.lstM hB;refine PySem.P.add_list e e2 ?_ (by rw [List.size_toArray,List.size_toArray]; omega);have ea:its.toArray++its2.toArray=(its++its2).toArray:=by simp
 rw [ea];exact ⟨.ref _,_,I.lnew (t':=s.toks) (r.append r2) (by rw [Ad]; omega),rfl,q _ I.fresh⟩
def rRep:R2:=fun x y H Q=>∃ l k xs,x=.ref l/\y=.int k/\H l=some (.lst xs) /\ -(2^63)<=k/\k<2^63/\xs.length*k.toNat<=sizeLine/\∀ p,H p=none->Q (.ref p) (upd H p (.lst (List.replicate k.toNat xs).flatten))
theorem len_rep {α:Type} (xs:List α) (k:Nat):(List.replicate k xs).flatten.length=k*xs.length:=by
 induction k with
 | zero=>simp
 | succ k ih=>rw [List.replicate_succ,List.flatten_cons,Ad,ih,Nat.succ_mul,Nat.add_comm]
theorem kY:OpR X (binaryOp .Mult) rRep:=by
 intro pins s σ H x y v u Q I rx ry h;obtain ⟨l,k,xs,rfl,rfl,hH,h1,h2,hz,q⟩:=h
 cases rx
 obtain ⟨t,rfl⟩:=ry;obtain ⟨z,its,n,r,hl,e⟩:=I.lstM hH;have hlen:its.toArray.size*k.toNat<=sizeLine:=by rw [List.size_toArray,<- hl]; exact hz
 have hcap:¬ its.toArray.size*k.toNat>(2^63 - 1)/8:=by
  have:(sizeLine:Nat)<=(2^63 - 1)/8:=by decide
  omega
 have hfit:¬ (!Builtin.List.listFitsIndex k)=true:=by
  rw [fitsIndex_both h1 h2];exact Ag
 have hlong:¬ Builtin.List.listTooLong (its.toArray.size*k.toNat)=true:=by
  rw [notLongL hlen];exact Ag
 have hnew:List.foldl (fun x1 x2=>x1++x2) #[] (List.replicate (if its.toArray.isEmpty=true then 0 else k.toNat) its.toArray)=(List.replicate k.toNat its).flatten.toArray:=by
  have f0:∀ m:Nat,List.foldl (fun x1 x2=>x1++x2) #[] (List.replicate m its.toArray)=(List.replicate m its).flatten.toArray:=fun m=>by
   have:=foldl_rep its m [];rw [List.nil_append] at this;exact this
  rw [f0]
  cases its with
  | nil=>simp
  | cons a r'=>rw [if_neg (by simp)]
 refine wpAny_binaryOp_repeat_ref (T := "list") (U := "int") (by decide) ⟨_,e,rfl⟩ (fun s'=>typeIs_int s' k t) noFill_list_mul F.fills_int_mul F.slot_int_rmul repeat_list F.slot_int_index.lookup
  (call_meets F.slot_int_rmul (typeIs_int s k t) F.entry_int_rmul (F.args_int_rmul_2 _ _) (int___rmul___int_list k t l its.toArray n)
   ⟨e,rfl,⟨_,e,rfl⟩,call_meets F.slot_list_mul ⟨_,e,rfl⟩ F.entry_list_mul (F.args_list_mul_2 _ _) (AutoListH.list___mul___list_int_3 l its.toArray n k t hfit hcap hlong) ⟨e,?_⟩⟩)
 rw [hnew];exact ⟨.ref _,_,I.lnew (t':=s.toks) (r.rep k.toNat) (by rw [len_rep,Nat.mul_comm]; exact hz),rfl,q _ I.fresh⟩
end
section
variable {prog:Program} {w:World} {A:Around} {E:Value->Shared->Prop} {s:Shared}
end
section
variable {X:Cx}
end
end L2
namespace Att
open PySem PySem.W PySem.Calls PyProof.Rows
theorem ints_of_wellAll:∀ (ns:List Int) (vs:List Value),WellAll P h vs (ns.map WData.int)->IntsAre vs ns:=by
 intro ns
 induction ns with
 | nil =>
  intro vs w;rw [List.map_nil] at w
  cases w
  exact .nil
 | cons n ns ih =>
  intro vs w;rw [List.map_cons] at w
  cases w with
  | cons a b =>
   cases a
   exact .cons _ _ (ih _ b)
theorem script_of {l:OpenLaw} (hn:l.most=some n) (hpre:l.row.toRowW.claim.pre args=true) (hwl:WellAll P h vals args) :
  ∃ a vs ns,vals=[Value.ref a]/\args=[WData.list (ns.map WData.int)]/\h.get? a=some { cls:=.type "list",data:=.seq vs.toArray }/\IntsAre vs ns/\ns.length<=n:=by
 have hsh:WShape.hasAll [] args [.list .int]=true:=(pre_splitW hpre).1;have hc:l.pre.holds [] { args:=args }=true:=(pre_splitW hpre).2;obtain ⟨d,r,rfl,h1,h2⟩:=hasAllW_cons hsh;obtain rfl:=hasAllW_nil h2;obtain ⟨xs,rfl,h3⟩:=hasW_list h1;obtain ⟨ns,rfl⟩:=items_int h3;have hlen:ns.length<=n:=by
  unfold OpenLaw.pre at hc;have h4:(WTm.not (.lt (.lit (.int (n:Int))) (.len (.arg 0)))).holds [] { args:=[.list (ns.map .int)] }=true:=by
   have h4:=(holds_andW hc).1;rw [hn] at h4;exact h4
  have h5:=condW_of h4 (w_not (w_lt w_lit (w_len_list (w_arg rfl))));rw [List.length_map] at h5;refine Nat.le_of_not_lt fun q=>?_
  have q':(n:Int)<((ns.length:Nat):Int):=by omega
  first
   | (rw [decide_eq_true q'] at h5; exact absurd h5 (by decide))
   | (simp at h5; omega)
 cases hwl with
 | cons w1 w2 =>
  cases w2
  cases w1 with
  | list ho hall=>exact ⟨_,_,ns,rfl,rfl,ho,ints_of_wellAll ns _ hall,hlen⟩
theorem post_true (l:OpenLaw) (args:List WData):l.row.toRowW.claim.post args (.bool true) args=true :=
 postW_of (r:=l.row.toRowW) (X:=(true==true))
  (show WShape.has [] (.bool true) .bool=true by first | rfl | decide | simp [WShape.has,WShape.arms,WShape.armsAll])
  (show (WTm.eq .res (.lit (.bool true))).value [] { args:=args,res:=some (.bool true),after:=args }=some (.bool (true==true)) from w_eq_bool (w_res rfl) w_lit) rfl
theorem attach_call {l:OpenLaw} {loose:List Str} (hn:l.most=some n) (hdf:d.params.defaults=[]) (call:∀ (w:World) (s₀ s₁:Shared) (mg mb:Str->Option Value) (fa:Addr) (o:Obj) (pm cd doc:Value) (a:Addr) (vs:List Value) (ns:List Int),Ground q loose [] XP w s₀ mg mb s₁.heap->YP w s₁.heap->s₁.heap.get? fa=some o->o.data=.func (docDef d.name d.params d.body d.scope pm cd doc)->s₁.heap.CodeRec cd d.name->mg d.name=some (.ref fa)->s₁.heap.get? a=some { cls:=.type "list",data:=.seq vs.toArray }->IntsAre vs ns->ns.length<=n->s₁.gens=#[]->codeAny (model l.prog w) callerA (.call (.ref fa) ⟨[.ref a],[]⟩) (fun r s'=>r=.ok (.ret (.bool true))/\OldK s₁.heap s'.heap/\s'.os=s₁.os/\AllBare s'.gens) s₁) :
  WalkO q loose XP YP l.row.toRowW d [] (fun f vs=>PySem.call f vs):=by
 intro w s₀ s₁ mg mb G Y fa o pm cd doc dV kV ho hd hcd hD hmg hg args vals as hpre hlay hrd hwl hlo;obtain rfl:dV=.none:=Dflts.none hD hdf;obtain rfl:kV=.none:=Dflts.noKw hD;obtain ⟨a,vs,ns,rfl,rfl,hobj,hints,hlen⟩:=script_of hn hpre hwl;refine enter_call (codeAny_mono (call w s₀ s₁ mg mb fa o pm cd doc a vs ns G Y ho (fd_plain hd) hcd hmg hobj hints hlen hg) fun r s' hq=>?_);obtain ⟨rfl,h2,h3,h4⟩:=hq;exact ⟨.inl ⟨.bool true,.bool true,[],rfl,fun _=>rfl,.bool true,post_true l _,fun _=>⟨List.Pairwise.nil,fun _ hm=>(nomatch hm)⟩⟩,h2,h3,h4⟩
section
variable {prog:Program} {w:World} {A:Around} {E:Value->Shared->Prop} {s:Shared} {K:Frag}
def ledger (h:Heap) (L d:Addr):List (Addr×Obj):=(List.range h.objs.size).filterMap fun a=>if a=L\/a=d then none else (h.get? a).map fun o=>(a,o)
end
end Att
namespace L2
open PySem PySem.Spec PyProof.Rows
theorem vals_ints:∀ {vs:List Value} {ns:List Int},IntsAre vs ns->Vals (ns.map V.int) vs
 | _,_,.nil=>.nil
 | _,_,.cons n t h=>.cons ⟨t,rfl⟩ (vals_ints h)
def Only (H:Hp):Prop:=∀ b,H b=none\/∃ o xs,H b=some (.frz o (.lst xs))
theorem law_call {P:Program} {w:World} {K:Ap} {mg mb:Str->Option Value} {CX:CXT} {k:Nat} {fa a:Addr} {fd:FuncData} {x:Str} {sp:Sp} {s₁:Shared} {vs:List Value} {ns:List Int}
  (KX:K.In s₁.heap) (hns:s₁.heap.Ns mainGlobals mg) (hb:s₁.heap.Ns builtinsNs mb) (hbb:∀ x:Str,x ≠ "__name__" -> mb x=bootBuiltins x) (hlim:s₁.heap.NoLimit) (hg:s₁.gens=#[])
  (ha:s₁.heap.get? a=some { cls:=.type "list",data:=.seq vs.toArray }) (hi:IntsAre vs ns) (hl:ns.length<=sizeLine) (hr:Room k callerA)
  (F:∀ base:Heap,K.In base->base.Ns mainGlobals mg->FnOk P w K mg base CX k fa fd [x] sp) (hbind:∀ (s:Shared) (u:Value),BindsTo s fd ⟨[u],[]⟩ [(x,u)])
  (hsp:∀ H:Hp,Only H->SqL K H a (ns.map V.int)->sp [.ref a] H (fun v _=>v=.bl true) fun _ _ _=>False)
  (hCX:∀ H e s',CX [] H s₁ (fun _ _ _=>False) e s'->False) :
  codeAny (model P w) callerA (.call (.ref fa) ⟨[.ref a],[]⟩) (fun r s'=>r=.ok (.ret (.bool true))/\OldK s₁.heap s'.heap/\s'.os=s₁.os/\AllBare s'.gens) s₁:=by
 have rv:=vals_ints hi;have lenV:=hi.length;have core:∀ H:Hp,Only H->SqL K H a (ns.map V.int)->HOk P w H s₁.heap->(∀ b,H b≠none->b=a)->(H a≠none->K.lookup a=none)->codeAny (model P w) callerA (.call (.ref fa) ⟨[.ref a],[]⟩) (fun r s'=>r=.ok (.ret (.bool true))/\OldK s₁.heap s'.heap/\s'.os=s₁.os/\AllBare s'.gens) s₁:=by
  intro H hO hS hok hA hK;have base_of:∀ {b:Addr} {o:Obj},s₁.heap.get? b=some o->H b=none->(hidT s₁.heap H).get? b=some o:=fun e n=>hidT_get e n
  have noA:∀ {b:Addr} {o:Obj} {es:Array DictEntry} {ep:Nat},s₁.heap.get? b=some o->o.data=.dict es ep->H b=none:=fun {b o es ep} e d=>by
   cases q:H b with
   | none=>rfl
   | some u =>
    have e':b=a:=hA b (by rw [q]; simp);subst e';rw [ha] at e; cases e;have d':Data.seq vs.toArray _=Data.dict es ep:=d
    cases d'
  have nsK:∀ {b:Addr} {m:Str->Option Value},s₁.heap.Ns b m->(hidT s₁.heap H).Ns b m:=fun {b m} ⟨o,es,ep,e,d,r⟩=>⟨o,es,ep,base_of e (noA e d),d,r⟩
  have hKb:K.In (hidT s₁.heap H):=fun b o e=>base_of (KX b o e) (by
   cases q:H b with
   | none=>rfl
   | some u =>
    have e':b=a:=hA b (by rw [q]; simp);subst e';rw [hK (by rw [q]; simp)] at e; cases e)
  have hM:Mod K mg (hidT s₁.heap H):=⟨hKb,nsK hns,⟨mb,nsK hb,hbb⟩,let ⟨mc,h1,h2⟩:=hlim; ⟨mc,nsK h1,h2⟩⟩;have e0:Env0 P w K mg (hidT s₁.heap H) callerA [] s₁ H:=⟨rfl,hM,fun b o e=>of_hidT e,Nat.le_of_eq (hidT_size _ _),trivial,fun b hb=>absurd (show b∈([]:List Addr) from hb) (by simp),hok,.of_eq hg⟩;refine codeAny_mono ((F _ hKb (nsK hns)).run callerA [] s₁ H ⟨[.ref a],[]⟩ [.ref a] [.ref a] _ _ hr e0 (hbind s₁ (.ref a)) (.cons rfl .nil) (hsp H hO hS)) fun r s' h=>?_
  cases r with
  | error e=>exact (hCX H e s' h).elim
  | ok fl =>
   cases fl with
   | next=>exact False.elim h
   | brk=>exact False.elim h
   | cont=>exact False.elim h
   | ret u =>
    obtain ⟨v,H',os,bare,un,hok',r',q⟩:=h;have q':v=.bl true:=q;subst q';obtain rfl:u=Value.bool true:=r';refine ⟨rfl,OldK.of_keep fun b o e=>?_,os,bare⟩
    cases q:H b with
    | none=>exact un.keep b o e q (by intro z; exact absurd (show b∈([]:List Addr) from z) (by simp)) (by simp)
    | some u =>
     rcases hO b with z | ⟨ob,xs,z⟩
     ·rw [q] at z; cases z
     ·have z2:=un.frzs b ob _ z
      obtain ⟨e1,_⟩:=hok b _ z;obtain ⟨e2,_⟩:=hok' b _ z2;rw [e] at e1; cases e1;exact e2
 cases hk:K.lookup a with
 | some o =>
  have e:=KX a o hk;rw [ha] at e
  cases e
  refine core (fun _=>none) (fun _=>.inl rfl) (.inr ⟨_,vs.toArray,_,hk,rfl,rfl,rfl,by rw [List.size_toArray,lenV]; exact hl,by simpa using rv⟩) (fun b u z=>by have z':(none:Option HO)=some u:=z; cases z') (fun b z=>absurd rfl z) fun z=>absurd rfl z
 | none =>
  refine core (fun b=>if b=a then some (.frz { cls:=.type "list",data:=.seq vs.toArray } (.lst (ns.map V.int))) else none) (fun b=>?_) (.inl (.inr ⟨{ cls:=.type "list",data:=.seq vs.toArray },if_pos rfl⟩)) (fun b u z=>?_) (fun b z=>?_) fun _=>hk
  ·by_cases hb:b=a
   ·exact .inr ⟨_,_,if_pos hb⟩
   ·exact .inl (if_neg hb)
  ·by_cases hb:b=a
   ·have z':=(if_pos hb).symm.trans z
    cases z'
    subst hb;exact ⟨ha,by rw [List.length_map]; exact hl,vs,_,rv,ha⟩
   ·have z':=(if_neg hb).symm.trans z
    cases z'
  ·by_cases hb:b=a
   ·exact hb
   ·exact absurd (if_neg hb) z
abbrev KOf {K:Ap} {h:Heap} (_:K.In h):Ap:=K
theorem walk_of {l:PySem.W.OpenLaw} {n k:Nat} {q:Program} {loose:List Str} {XP:(Str->Option Value)->Heap->Prop} {YP:World->Heap->Prop} {d:DefRec} {K:Params->Ap} {CX:World->CXT} {sp:World->Sp} {x:Str}
  (hn:l.most=some n) (hn2:n<=sizeLine) (hdf:d.params.defaults=[]) (hr:Room k callerA)
  (hY:∀ (w:World) (h:Heap),YP w h->(K w.params).In h)
  (F:∀ (w:World) (mg:Str->Option Value) (fa:Addr) (h:Heap),(K w.params).In h->h.Ns mainGlobals mg->mg d.name=some (.ref fa)->∃ fd:FuncData,(∀ (s:Shared) (u:Value),BindsTo s fd ⟨[u],[]⟩ [(x,u)])/\∀ base:Heap,(K w.params).In base->base.Ns mainGlobals mg->FnOk l.prog w (K w.params) mg base (CX w) k fa fd [x] (sp w))
  (hsp:∀ (w:World) (H:Hp) (a:Addr) (ns:List Int),ns.length<=n->Only H->SqL (K w.params) H a (ns.map V.int)->sp w [.ref a] H (fun v _=>v=.bl true) fun _ _ _=>False)
  (hCX:∀ (w:World) (H:Hp) (s:Shared) (e:Value) (s':Shared),CX w [] H s (fun _ _ _=>False) e s'->False) :
  PySem.W.WalkO q loose XP YP l.row.toRowW d [] (fun f vs=>PySem.call f vs):=by
 refine Att.attach_call hn hdf fun w s₀ s₁ mg mb fa o pm cd doc a vs ns G Y ho hd hcd hmg hobj hints hlen hg=>?_
 have KX:=hY w _ Y;obtain ⟨fd,hb,hF⟩:=F w mg fa _ KX G.T.g hmg;exact law_call KX G.T.g G.T.b G.T.builtins G.T.nolimit hg hobj hints (Ao hlen hn2) hr hF hb (fun H hO hS=>hsp w H a ns hlen hO hS) fun H e s'=>hCX w H s₁ e s'
abbrev CX0:CXT:=fun _ _ _ _ _ _=>False
abbrev E0:XK:=fun _ _ _=>False
theorem pass0:wJ CX0 X E0:=fun _ _ _ _ _ _ _ h=>h.elim
structure Fun (K:Ap) (x qual:Str) (st:Stmt) (f:Addr) (fd:FuncData):Prop where
 ex:∃ (oc:Value) (od:Option Addr) (kV doc pm:Value) (an:Option Addr) (cdv ct:Value) (osl:Array (Option Value)),fd=PySem.W.fnOf x qual (v3 st) (zQ st) (qZ st) .none kV doc pm an cdv ct/\K.lookup f=some ⟨oc,od,.func fd,osl⟩/\PySem.W.codeIn K cdv qual=true
 kp:PySem.W.keepIn K (.ref f)=true
section
variable {P:Program} {w:World} {K:Ap} {mg:Str->Option Value} {base:Heap}
theorem Fun.ok {st:Stmt} (F:Fun K x qual st f fd) (S:FnScope N ps (qZ st)) (len:∀ vs H Q E,sp vs H Q E->vs.length=ps.length) (hbody:∀ (cdv:Value) (A:Around) (outer:List Env) (s:Shared) (H:Hp) (vs:List V) (Q:VK) (E:XK),Room k (A.deeper (envOfC qual (qZ st) s.heap.objs.size f cdv))->sp vs H Q E->∃ t,PSs (cxOf CX0 P w K mg base N qual (qZ st) f cdv A outer s H E).nox (zQ st) t/\t { nx:=fun _ H'=>Q .non H',rt:=Q } (start N vs) H):FnOk P w K mg base CX0 (k+1) f fd ps sp:=by
 obtain ⟨oc,od,kV,doc,pm,an,cdv,ct,osl,rfl,lk,hcd⟩:=F.ex;refine fn_of lk hcd S len fun A outer s H vs Q E hr hsp=>?_
 obtain ⟨t,h,q⟩:=hbody cdv A outer s H vs Q E hr hsp;exact ⟨t,h.nox,q⟩
theorem Fun.binds {st:Stmt} (F:Fun K x qual st f fd) (h:∀ (kV doc pm:Value) (an:Option Addr) (cdv ct:Value) (us:List Value),us.length=ps.length->bindArgs (PySem.W.fnOf x qual (v3 st) (zQ st) (qZ st) .none kV doc pm an cdv ct) ⟨us,[]⟩=pure (ps.zip us)):Binds K fd ps []:=by
 obtain ⟨oc,od,kV,doc,pm,an,cdv,ct,osl,rfl,lk,hcd⟩:=F.ex;exact .all (h kV doc pm an cdv ct)
theorem fun_mk {st:Stmt} {kV doc pm cdv ct:Value} (l:K.lookup f=some ⟨oc,od,.func (PySem.W.fnOf x qual (v3 st) (zQ st) (qZ st) .none kV doc pm an cdv ct),osl⟩) (c:PySem.W.codeIn K cdv qual=true) (k:PySem.W.keepIn K (.ref f)=true):Fun K x qual st f (PySem.W.fnOf x qual (v3 st) (zQ st) (qZ st) .none kV doc pm an cdv ct):=⟨⟨oc,od,kV,doc,pm,an,cdv,ct,osl,rfl,l,c⟩,k⟩
end
theorem yj (h:n<=1000):n<sizeLine:=Nat.lt_of_le_of_lt h (by decide)
section
variable {X:Cx}
theorem pv (i:Nat) (hN:X.N[i]?=some x:=by rfl) (hv:Vis X.env.scope x:=by first | exact Or.inl rfl | exact Or.inr (Or.inl rfl) | exact Or.inr (Or.inr rfl)) (hd:(x==("__debug__" : Str))=false:=by decide) (hcd:(x==("__classdict__" : Str))=false:=by decide):PE X (.Name x pos) (tVar i):=pe_var hN hv hd hcd
end
theorem iteF {A B:Prop} (h:B):if false=true then A else B:=by
 rw [if_neg Ag];exact h
theorem iteT {A B:Prop} (h:A):if true=true then A else B:=by
 rw [if_pos rfl];exact h
theorem iteNS {c A B:Prop} [Decidable c] (hc:c) (h:B):if (!decide c)=true then A else B:=by
 rw [decide_eq_true hc];exact iteF h
def Same (H H':Hp):Prop:=∀ b o,H b=some o->H' b=some o
theorem Same.refl (H:Hp):Same H H:=fun _ _ h=>h
theorem Same.trans (a:Same H H1) (b:Same H1 H2):Same H H2:=fun c o h=>b c o (a c o h)
theorem Same.seq {K:Ap} (e:Same H H') (h:SqL K H a xs):SqL K H' a xs:=by
 rcases h with (h | ⟨o,h⟩) | h
 ·exact .inl (.inl (e _ _ h))
 ·exact .inl (.inr ⟨o,e _ _ h⟩)
 ·exact .inr h
end L2
namespace BP
def Sm (n:Nat) (x:Int):Prop:=x.natAbs<2^n
theorem Sm.mono (h:Sm m x) (l:m<=n):Sm n x:=Af h (Ab (by decide) l)
theorem Sm.le (h:Sm n y) (l:x.natAbs<=y.natAbs):Sm n x:=Nat.lt_of_le_of_lt l h
theorem Sm.log2 (h:Sm n x) (hn:0<n):x.natAbs.log2<n:=by
 by_cases h0:x.natAbs=0
 ·rw [h0]; simpa using hn
 ·exact (Nat.log2_lt h0).mpr h
structure IsR (x y:Int):Prop where
 pos:0<y
 low:Int.gcd x y=1
def sg (t b:Int):Int:=if b<0 then -(Int.gcd t b:Int) else (Int.gcd t b:Int)
theorem gcd_pos (hb:b≠0):0<Int.gcd t b:=Nat.pos_of_ne_zero fun h=>hb (Int.gcd_eq_zero_iff.mp h).2
theorem sg_ne (hb:b≠0):sg t b≠0:=by
 have:=gcd_pos (t:=t) hb;unfold sg; split <;> omega
theorem sg_dvd_left (t b:Int):sg t b∣t:=by
 unfold sg; split
 ·exact Int.neg_dvd.mpr (Int.gcd_dvd_left t b)
 ·exact Int.gcd_dvd_left t b
theorem sg_dvd_right (t b:Int):sg t b∣b:=by
 unfold sg; split
 ·exact Int.neg_dvd.mpr (Int.gcd_dvd_right t b)
 ·exact Int.gcd_dvd_right t b
def nt (t b:Int):Int:=t.fdiv (sg t b)
def nb (t b:Int):Int:=b.fdiv (sg t b)
theorem sg_nt (t b:Int):sg t b*nt t b=t:=Int.mul_fdiv_cancel' (sg_dvd_left t b)
theorem sg_nb (t b:Int):sg t b*nb t b=b:=Int.mul_fdiv_cancel' (sg_dvd_right t b)
theorem sg_abs (t b:Int):(sg t b).natAbs=Int.gcd t b:=by
 unfold sg; split <;> omega
theorem nb_pos (hb:b≠0):0<nb t b:=by
 have e:=sg_nb t b;have g:=gcd_pos (t:=t) hb
 by_cases h:b<0
 ·have hs:sg t b<0:=by unfold sg; rw [if_pos h]; omega
  rcases Int.lt_trichotomy (nb t b) 0 with z | z | z
  ·have:=Int.mul_pos_of_neg_of_neg hs z; omega
  ·rw [z] at e; omega
  ·exact z
 ·have hs:0<sg t b:=by unfold sg; rw [if_neg h]; omega
  rcases Int.lt_trichotomy (nb t b) 0 with z | z | z
  ·have:=Int.mul_neg_of_pos_of_neg hs z; omega
  ·rw [z] at e; omega
  ·exact z
theorem n_low (hb:b≠0):Int.gcd (nt t b) (nb t b)=1:=by
 have g:=gcd_pos (t:=t) hb;have h:=Int.gcd_mul_left (sg t b) (nt t b) (nb t b);rw [sg_nt,sg_nb,sg_abs] at h;exact (Nat.eq_of_mul_eq_mul_left g (by rw [Nat.mul_one]; exact h)).symm
theorem n_isR (hb:b≠0):IsR (nt t b) (nb t b):=⟨nb_pos hb,n_low hb⟩
theorem n_cross (t b:Int):nt t b*b=t*nb t b:=by
 have h1:=sg_nt t b;have h2:=sg_nb t b
 calc nt t b*b=nt t b*(sg t b*nb t b):=by rw [h2]
  _=(sg t b*nt t b)*nb t b:=by ac_rfl
  _=t*nb t b:=by rw [h1]
theorem isR_unique (a:IsR x y) (b:IsR u v) (h:x*v=u*y):x=u/\y=v:=by
 have hy:=a.pos;have hv:=b.pos;have ca:Nat.Coprime y.natAbs x.natAbs:=by
  have:=a.low;rw [Int.gcd_comm] at this;exact this
 have cb:Nat.Coprime v.natAbs u.natAbs:=by
  have:=b.low;rw [Int.gcd_comm] at this;exact this
 have hn:x.natAbs*v.natAbs=u.natAbs*y.natAbs:=by rw [<- An,<- An,h]
 have d1:y.natAbs∣v.natAbs:=ca.dvd_of_dvd_mul_left ⟨u.natAbs,by rw [hn,Nat.mul_comm]⟩;have d2:v.natAbs∣y.natAbs:=cb.dvd_of_dvd_mul_left ⟨x.natAbs,by rw [<- hn,Nat.mul_comm]⟩;have e:y.natAbs=v.natAbs:=Nat.dvd_antisymm d1 d2;have ey:y=v:=by omega
 subst ey;exact ⟨Int.eq_of_mul_eq_mul_right (by omega) h,rfl⟩
theorem nt_le (t b:Int) (hb:b≠0):(nt t b).natAbs<=t.natAbs:=by
 have h:=congrArg Int.natAbs (sg_nt t b);rw [An,sg_abs] at h;have g:=gcd_pos (t:=t) hb;rw [<- h];exact Nat.le_mul_of_pos_left _ g
theorem nb_le (t b:Int) (hb:b≠0):(nb t b).natAbs<=b.natAbs:=by
 have h:=congrArg Int.natAbs (sg_nb t b);rw [An,sg_abs] at h;have g:=gcd_pos (t:=t) hb;exact Ao (Nat.le_mul_of_pos_left _ g) (Nat.le_of_eq h)
theorem gcd_step:Int.gcd b (a%b)=Int.gcd a b:=by
 have h:a%b=a+b*(-(a/b)):=by
  have:=Int.emod_add_mul_ediv a b;rw [Int.mul_neg];omega
 rw [h,Int.gcd_add_mul_left_right,Int.gcd_comm]
theorem gcd_end (h:0<=a):((Int.gcd a 0:Nat):Int)=a:=by
 rw [Int.gcd_zero_right]; omega
theorem abs_gcd (t b:Int):Int.gcd (if t<0 then -t else t) (if b<0 then -b else b)=Int.gcd t b:=by
 split <;> split <;> simp [Int.gcd_neg,Int.neg_gcd]
theorem abs_nn (t:Int):0<=(if t<0 then -t else t):=by split <;> omega
theorem plus_way {x y u v g t r:Int} (R1:IsR x y) (R2:IsR u v) (hg:g=(Int.gcd y v:Nat)) (ht:t=x*v.fdiv g+u*y.fdiv g) (hr:r=(Int.gcd t g:Nat)) :
  IsR (t.fdiv r) (y.fdiv g*v.fdiv r)/\t.fdiv r*(y*v)=(x*v+u*y)*(y.fdiv g*v.fdiv r):=by
 have hy:=R1.pos;have hv:=R2.pos;have gp:0<g:=by
  have:=Int.gcd_pos_of_ne_zero_left v (show y≠0 by omega);omega
 have rp:0<r:=by
  have:=Int.gcd_pos_of_ne_zero_right t (show g≠0 by omega);omega
 have gy:g∣y:=by rw [hg]; exact Int.gcd_dvd_left y v
 have gv:g∣v:=by rw [hg]; exact Int.gcd_dvd_right y v
 have rt:r∣t:=by rw [hr]; exact Int.gcd_dvd_left t g
 have rg:r∣g:=by rw [hr]; exact Int.gcd_dvd_right t g
 obtain ⟨y',ey⟩:=gy;obtain ⟨v',ev⟩:=gv;obtain ⟨t',et⟩:=rt;obtain ⟨g',eg⟩:=rg;have gne:g≠0:=by omega
 have rne:r≠0:=by omega
 have dy:y.fdiv g=y':=by rw [ey]; exact A3 y' gne
 have dv:v.fdiv g=v':=by rw [ev]; exact A3 v' gne
 have dt:t.fdiv r=t':=by rw [et]; exact A3 t' rne
 have evr:v=r*(g'*v'):=by rw [ev,eg,Int.mul_assoc]
 have dvr:v.fdiv r=g'*v':=by rw [evr]; exact A3 _ rne
 rw [dy,dv] at ht;rw [dy,dvr,dt];have py:0<y':=by
  rcases Int.lt_trichotomy y' 0 with z | z | z
  ·have:=Int.mul_neg_of_pos_of_neg gp z; omega
  ·rw [z] at ey; omega
  ·exact z
 have pv:0<v':=by
  rcases Int.lt_trichotomy v' 0 with z | z | z
  ·have:=Int.mul_neg_of_pos_of_neg gp z; omega
  ·rw [z] at ev; omega
  ·exact z
 have pg:0<g':=by
  rcases Int.lt_trichotomy g' 0 with z | z | z
  ·have:=Int.mul_neg_of_pos_of_neg rp z; omega
  ·rw [z] at eg; omega
  ·exact z
 have c1:Int.gcd y' v'=1:=by
  have h:=Int.gcd_mul_left g y' v';rw [<- ey,<- ev] at h;have h2:Int.gcd y v=g.natAbs:=by omega
  rw [h2] at h;have:0<g.natAbs:=by omega
  exact (Nat.eq_of_mul_eq_mul_left this (by rw [Nat.mul_one]; exact h)).symm
 have c2:Int.gcd t' g'=1:=by
  have h:=Int.gcd_mul_left r t' g';rw [<- et,<- eg] at h;have h2:Int.gcd t g=r.natAbs:=by omega
  rw [h2] at h;have:0<r.natAbs:=by omega
  exact (Nat.eq_of_mul_eq_mul_left this (by rw [Nat.mul_one]; exact h)).symm
 have cop:∀ {a b c:Int},Int.gcd a b=1->c∣b->Int.gcd a c=1:=fun {a b c} h d=>by
  have k:Int.gcd a c∣Int.gcd a b:=Int.gcd_dvd_gcd_of_dvd_right a d;rw [h] at k;exact Nat.eq_one_of_dvd_one k
 have copl:∀ {a b c:Int},Int.gcd b a=1->c∣b->Int.gcd c a=1:=fun {a b c} h d=>by
  rw [Int.gcd_comm] at h ⊢;exact cop h d
 have c3:Int.gcd x y'=1:=cop R1.low ⟨g,by rw [ey,Int.mul_comm]⟩;have c4:Int.gcd u v'=1:=cop R2.low ⟨g,by rw [ev,Int.mul_comm]⟩;have mulr:∀ {a b c:Int},Int.gcd a b=1->Int.gcd a c=1->Int.gcd a (b*c)=1:=fun {a b c} h1 h2=>by
  have k:Nat.Coprime a.natAbs (b.natAbs*c.natAbs):=Nat.Coprime.mul_right h1 h2;show Nat.gcd a.natAbs (b*c).natAbs=1;rw [An];exact k
 have mull:∀ {a b c:Int},Int.gcd b a=1->Int.gcd c a=1->Int.gcd (b*c) a=1:=fun {a b c} h1 h2=>by
  rw [Int.gcd_comm] at h1 h2 ⊢;exact mulr h1 h2
 have c1':Int.gcd v' y'=1:=by rw [Int.gcd_comm]; exact c1
 have c5:Int.gcd t y'=1:=by
  have h:Int.gcd (x*v') y'=1:=mull c3 c1';have e:t=x*v'+u*y':=ht;rw [e,Int.gcd_comm,Int.gcd_add_mul_right_right,Int.gcd_comm];exact h
 have c6:Int.gcd t v'=1:=by
  have h:Int.gcd (u*y') v'=1:=mull c4 c1;have e:t=u*y'+x*v':=by rw [ht,Int.add_comm]
  rw [e,Int.gcd_comm,Int.gcd_add_mul_right_right,Int.gcd_comm];exact h
 have d':t'∣t:=⟨r,by rw [et,Int.mul_comm]⟩;refine ⟨⟨Int.mul_pos py (Int.mul_pos pg pv),mulr (copl c5 d') (mulr c2 (copl c6 d'))⟩,?_⟩;have k1:x*v+u*y=g*t:=by
  rw [ht,Int.mul_add];have a1:x*v=g*(x*v'):=by rw [ev]; ac_rfl
  have a2:u*y=g*(u*y'):=by rw [ey]; ac_rfl
  rw [a1,a2]
 rw [k1]
 calc t'*(y*v)=t'*(g*y'*(r*(g'*v'))):=by rw [<- evr,<- ey]
  _=g*(r*t')*(y'*(g'*v')):=by ac_rfl
  _=g*t*(y'*(g'*v')):=by rw [<- et]
theorem n_of (hb:b≠0) (R:IsR x y) (h:x*b=t*y):x=nt t b/\y=nb t b:=by
 refine isR_unique R (n_isR hb) ?_;have c:=n_cross t b;refine Int.eq_of_mul_eq_mul_right hb ?_
 calc x*nb t b*b=x*b*nb t b:=by ac_rfl
  _=t*y*nb t b:=by rw [h]
  _=t*nb t b*y:=by ac_rfl
  _=nt t b*b*y:=by rw [c]
  _=nt t b*y*b:=by ac_rfl
theorem times_way {x y u v g k:Int} (R1:IsR x y) (R2:IsR u v) (hg:g=(Int.gcd x v:Nat)) (hk:k=(Int.gcd u y:Nat)) :
  IsR (x.fdiv g*u.fdiv k) (y.fdiv k*v.fdiv g)/\(x.fdiv g*u.fdiv k)*(y*v)=(x*u)*(y.fdiv k*v.fdiv g):=by
 have hy:=R1.pos;have hv:=R2.pos;have gp:0<g:=by
  have:=Int.gcd_pos_of_ne_zero_right x (show v≠0 by omega);omega
 have kp:0<k:=by
  have:=Int.gcd_pos_of_ne_zero_right u (show y≠0 by omega);omega
 have gx:g∣x:=by rw [hg]; exact Int.gcd_dvd_left x v
 have gv:g∣v:=by rw [hg]; exact Int.gcd_dvd_right x v
 have ku:k∣u:=by rw [hk]; exact Int.gcd_dvd_left u y
 have ky:k∣y:=by rw [hk]; exact Int.gcd_dvd_right u y
 obtain ⟨x',ex⟩:=gx;obtain ⟨v',ev⟩:=gv;obtain ⟨u',eu⟩:=ku;obtain ⟨y',ey⟩:=ky;have gne:g≠0:=by omega
 have kne:k≠0:=by omega
 have dx:x.fdiv g=x':=by rw [ex]; exact A3 x' gne
 have dv:v.fdiv g=v':=by rw [ev]; exact A3 v' gne
 have du:u.fdiv k=u':=by rw [eu]; exact A3 u' kne
 have dy:y.fdiv k=y':=by rw [ey]; exact A3 y' kne
 rw [dx,dv,du,dy];have py:0<y':=by
  rcases Int.lt_trichotomy y' 0 with z | z | z
  ·have:=Int.mul_neg_of_pos_of_neg kp z; omega
  ·rw [z] at ey; omega
  ·exact z
 have pv:0<v':=by
  rcases Int.lt_trichotomy v' 0 with z | z | z
  ·have:=Int.mul_neg_of_pos_of_neg gp z; omega
  ·rw [z] at ev; omega
  ·exact z
 have c1:Int.gcd x' v'=1:=by
  have h:=Int.gcd_mul_left g x' v';rw [<- ex,<- ev] at h;have h2:Int.gcd x v=g.natAbs:=by omega
  rw [h2] at h;have:0<g.natAbs:=by omega
  exact (Nat.eq_of_mul_eq_mul_left this (by rw [Nat.mul_one]; exact h)).symm
 have c2:Int.gcd u' y'=1:=by
  have h:=Int.gcd_mul_left k u' y';rw [<- eu,<- ey] at h;have h2:Int.gcd u y=k.natAbs:=by omega
  rw [h2] at h;have:0<k.natAbs:=by omega
  exact (Nat.eq_of_mul_eq_mul_left this (by rw [Nat.mul_one]; exact h)).symm
 have cop2:∀ {a b c d:Int},Int.gcd a b=1->c∣a->d∣b->Int.gcd c d=1:=fun {a b c d} h h1 h2=>by
  have k:Int.gcd c d∣Int.gcd a b:=Nat.dvd_trans (Int.gcd_dvd_gcd_of_dvd_right c h2) (Int.gcd_dvd_gcd_of_dvd_left b h1);rw [h] at k;exact Nat.eq_one_of_dvd_one k
 have c3:Int.gcd x' y'=1:=cop2 R1.low ⟨g,by rw [ex,Int.mul_comm]⟩ ⟨k,by rw [ey,Int.mul_comm]⟩;have c4:Int.gcd u' v'=1:=cop2 R2.low ⟨k,by rw [eu,Int.mul_comm]⟩ ⟨g,by rw [ev,Int.mul_comm]⟩;have mulr:∀ {a b c:Int},Int.gcd a b=1->Int.gcd a c=1->Int.gcd a (b*c)=1:=fun {a b c} h1 h2=>by
  have k:Nat.Coprime a.natAbs (b.natAbs*c.natAbs):=Nat.Coprime.mul_right h1 h2;show Nat.gcd a.natAbs (b*c).natAbs=1;rw [An];exact k
 have mull:∀ {a b c:Int},Int.gcd b a=1->Int.gcd c a=1->Int.gcd (b*c) a=1:=fun {a b c} h1 h2=>by
  rw [Int.gcd_comm] at h1 h2 ⊢;exact mulr h1 h2
 refine ⟨⟨Int.mul_pos py pv,mull (mulr c3 c1) (mulr c2 c4)⟩,?_⟩
 calc x'*u'*(y*v)=x'*u'*(k*y'*(g*v')):=by rw [<- ev,<- ey]
  _=(g*x')*(k*u')*(y'*v'):=by ac_rfl
  _=x*u*(y'*v'):=by rw [<- ex,<- eu]
theorem Sm.gcd_right (hb:b≠0) (h:Sm n b):Sm n ((Int.gcd t b:Nat):Int):=h.le (by
 have:Int.gcd t b<=b.natAbs:=Nat.le_of_dvd (by omega) (Int.natAbs_dvd_natAbs.mpr (Int.gcd_dvd_right t b));omega)
theorem QK (t b:Int):Int.gcd (if t<0 then -t else t) b=Int.gcd t b:=by split <;> simp [Int.neg_gcd]
theorem QX (q:Rat):IsR q.num (q.den:Int):=⟨by have:=q.den_pos; omega,by
 have:=q.reduced;unfold Nat.Coprime at this
 simpa [Int.gcd] using this⟩
theorem rat_of (h:IsR x y):(Rat.divInt x y).num=x/\((Rat.divInt x y).den:Int)=y:=by
 have hy:=h.pos;have ne:y≠0:=by omega
 refine isR_unique (QX _) h ?_;have e:=Ai (Rat.divInt x y);have:=(Rat.divInt_eq_divInt_iff (n₁:=(Rat.divInt x y).num) (n₂:=x) (d₁:=((Rat.divInt x y).den:Int)) (d₂:=y) (by have:=(Rat.divInt x y).den_pos; omega) ne).mp e;exact this
theorem n_rat (hb:b≠0):nt t b=(Rat.divInt t b).num/\nb t b=((Rat.divInt t b).den:Int):=by
 have c:=n_cross t b;have R:=n_isR (t:=t) hb;refine isR_unique R (QX _) ?_;have e:=Ai (Rat.divInt t b);have h1:=(Rat.divInt_eq_divInt_iff (n₁:=(Rat.divInt t b).num) (n₂:=t) (d₁:=((Rat.divInt t b).den:Int)) (d₂:=b) (by have:=(Rat.divInt t b).den_pos; omega) hb).mp e;refine Int.eq_of_mul_eq_mul_right hb ?_
 calc nt t b*((Rat.divInt t b).den:Int)*b=nt t b*b*((Rat.divInt t b).den:Int):=by ac_rfl
  _=t*nb t b*((Rat.divInt t b).den:Int):=by rw [c]
  _=t*((Rat.divInt t b).den:Int)*nb t b:=by ac_rfl
  _=(Rat.divInt t b).num*b*nb t b:=by rw [h1]
  _=(Rat.divInt t b).num*nb t b*b:=by ac_rfl
theorem den_ne (q:Rat):(q.den:Int)≠0:=by have:=q.den_pos; omega
theorem q_plus (a b:Rat):nt (a.num*b.den+b.num*a.den) ((a.den:Int)*b.den)=(a+b).num/\nb (a.num*b.den+b.num*a.den) ((a.den:Int)*b.den)=((a+b).den:Int):=by
 have h:=n_rat (t:=a.num*b.den+b.num*a.den) (b:=(a.den:Int)*b.den) (Int.mul_ne_zero (den_ne a) (den_ne b));rw [<- Rat.divInt_add_divInt _ _ (den_ne a) (den_ne b),Ai,Ai] at h;exact h
theorem q_times (a b:Rat):nt (a.num*b.num) ((a.den:Int)*b.den)=(a*b).num/\nb (a.num*b.num) ((a.den:Int)*b.den)=((a*b).den:Int):=by
 have h:=n_rat (t:=a.num*b.num) (b:=(a.den:Int)*b.den) (Int.mul_ne_zero (den_ne a) (den_ne b));rw [<- Rat.divInt_mul_divInt,Ai,Ai] at h;exact h
theorem q_less (a b:Rat):decide (a.num*b.den<b.num*a.den)=decide (a<b) :=
  decide_eq_decide.mpr (Rat.lt_iff a b).symm
def SmQ (n:Nat) (q:Rat):Prop:=Sm n q.num/\Sm n (q.den:Int)
theorem SmQ.mono (h:SmQ m q) (l:m<=n:=by decide):SmQ n q:=⟨h.1.mono l,h.2.mono l⟩
end BP
namespace L2
open PySem PySem.Spec PyProof.Rows BP
section
variable {X:Cx}
theorem mulOk (hx:Sm m x) (hy:Sm n y) (h:m+n<=134217728:=by decide):IntMulOk x y:=IntMulOk.of_le (intBits_le_iff.mpr hx) (intBits_le_iff.mpr hy) h
theorem vV:OpR X (binaryOp .Mult) (rI IntMulOk fun i j=>.int (i*j)):=opI fun _ _ _ _ _ _ _ hc q=>mul_int q hc
def CDivB (_ j:Int):Prop:=j≠0/\j.natAbs.log2<9000
theorem yw:OpR X (binaryOp .FloorDiv) (rI CDivB fun i j=>.int (i.fdiv j)):=opI fun _ _ _ _ _ _ _ hc q=>floordiv_int hc.1 q (.inl (PyProof.noPylong_of_log2 hc.2))
inductive IsI (K:Ap) (H:Hp):V->String->Bool->Prop where
 | intInt (i:Int):IsI K H (.int i) "int" true
 | intBool (i:Int):IsI K H (.int i) "bool" false
 | blInt (b:Bool):IsI K H (.bl b) "int" true
 | blBool (b:Bool):IsI K H (.bl b) "bool" true
 | nonInt:IsI K H .non "int" false
 | strInt (x:Str):IsI K H (.str x) "int" false
 | strStr (x:Str):IsI K H (.str x) "str" true
 | tupTup {a:Addr} {xs:List V} (h:SqT K H a xs):IsI K H (.ref a) "tuple" true
 | tupInt {a:Addr} {xs:List V} (h:SqT K H a xs):IsI K H (.ref a) "int" false
 | lstList {a:Addr} {xs:List V} (h:SqL K H a xs):IsI K H (.ref a) "list" true
 | lstInt {a:Addr} {xs:List V} (h:SqL K H a xs):IsI K H (.ref a) "int" false
 | dictInt {a:Addr} {kvs:List (Key×V)} (h:H a=some (.dK kvs)):IsI K H (.ref a) "int" false
theorem call_isi:CallR X (.builtin "isinstance") (fun xs H Q=>∃ x T b,xs=[x,.ty T]/\IsI X.K H x T b/\Q (.bl b) H):=by
 intro pins s σ H xs us Q I r h;obtain ⟨x,T,b,rfl,hi,q⟩:=h;obtain ⟨u,u',rfl,rx,rt⟩:=vals2 r
 cases rt
 cases hi with
 | intInt i=>obtain ⟨t,rfl⟩:=rx; exact IsiPair.int_int ⟨.bl true,H,I,rfl,q⟩
 | intBool i=>obtain ⟨t,rfl⟩:=rx; exact IsiPair.int_bool ⟨.bl false,H,I.tok _,rfl,q⟩
 | blInt i=>cases rx; exact IsiPair.bool_int ⟨.bl true,H,I,rfl,q⟩
 | blBool i=>cases rx; exact IsiPair.bool_bool ⟨.bl true,H,I,rfl,q⟩
 | nonInt=>cases rx; exact IsiPair.NoneType_int ⟨.bl false,H,I.tok _,rfl,q⟩
 | strInt i=>obtain ⟨t,rfl⟩:=rx; exact IsiPair.str_int ⟨.bl false,H,I.tok _,rfl,q⟩
 | strStr i=>obtain ⟨t,rfl⟩:=rx; exact IsiPair.str_str ⟨.bl true,H,I,rfl,q⟩
 | tupTup h =>
  cases rx
  obtain ⟨its,_,⟨o,ho,hc,_⟩,_⟩:=I.tuple h;exact IsiPair.tuple_tuple ho hc ⟨.bl true,H,I,rfl,q⟩
 | tupInt h =>
  cases rx
  obtain ⟨its,_,⟨o,ho,hc,_⟩,_⟩:=I.tuple h;exact IsiPair.tuple_int ho hc ⟨.bl false,H,I.tok _,rfl,q⟩
 | lstList h =>
  cases rx
  obtain ⟨its,_,p,_⟩:=I.list h;obtain ⟨o,ho,hc,_⟩:=p.isList;exact IsiPair.list_list ho hc ⟨.bl true,H,I,rfl,q⟩
 | lstInt h =>
  cases rx
  obtain ⟨its,_,p,_⟩:=I.list h;obtain ⟨o,ho,hc,_⟩:=p.isList;exact IsiPair.list_int ho hc ⟨.bl false,H,I.tok _,rfl,q⟩
 | @dictInt ad kvs h =>
  cases rx
  obtain ⟨_,_,vs,_,p⟩:=(show ObjOk X.prog X.w H s.heap ad (.dK kvs) from I.hok ad _ h);obtain ⟨o,es,ep,h1,h2,_⟩:=p;exact IsiPair.dict_int h1 h2.1 ⟨.bl false,H,I.tok _,rfl,q⟩
def tDict0:TE:=fun _ H Q=>∀ p,H p=none->Q (.ref p) (upd H p (.dK []))
theorem pe_dict0 {pos:Pos}:PE X (.Dict [] [] pos) tDict0:=fun pins s σ H Q I h=>by
 have big:sysModules<s.heap.objs.size:=Nat.lt_trans (by decide) (I.mod.glob.keeps I.bk).lt;refine wpAny_Dict_empty ⟨.ref s.heap.objs.size,_,I.laid (a:=s.heap.objs.size) (o:=.dK []) (t':=s.toks) (fun _ _ q=>Heap.get?_push_of_some _ q) (Nat.le_refl _) ?_,rfl,h _ (I.hok.fresh (Nat.le_refl _))⟩;exact ⟨Nat.zero_le _,beq_eq_false_iff_ne.mpr (Ne.symm (Nat.ne_of_lt big)),[],.nil,Heap.DictOf.new s.heap⟩
end
def plainE:Expr->Bool
 | .Starred _ _=>false
 | _=>true
theorem qz (h:plainE e=true) (es:List Expr) (env:Env):starEach (e::es) env=(false,eval e env)::starEach es env:=by
 cases e <;> first | rfl | exact absurd (show false=true from h) Ag
theorem qQ (h:es.all plainE=true):(backTo pos (starEach es env)).any (·.1)=false:=by
 induction es with
 | nil=>rfl
 | cons e es ih =>
  rw [List.all_cons,Bool.and_eq_true] at h;rw [qz h.1];have q:=ih h.2;unfold backTo at q ⊢;rw [List.map_cons,List.any_cons,q];rfl
theorem pa_c (ha:PE X e te) (hr:PA X es t) (hp:plainE e=true:=by rfl):PA X (e::es) (tCons te t):=pa_cons ha hr (qz hp es X.env)
theorem boot_isinstance:bootBuiltins "isinstance" = some (.builtin "isinstance"):=PyProof.Rows.boot_isinstance
theorem boot_int:bootBuiltins "int" = some (.type "int"):=PyProof.Rows.boot_int
theorem boot_bool:bootBuiltins "bool" = some (.type "bool"):=PyProof.Rows.boot_bool
theorem boot_tuple:bootBuiltins "tuple" = some (.type "tuple"):=PyProof.Rows.boot_tuple
theorem boot_list:bootBuiltins "list" = some (.type "list"):=PyProof.Rows.boot_list
theorem boot_str:bootBuiltins "str" = some (.type "str"):=PyProof.Rows.boot_str
theorem boot_abs:bootBuiltins "abs" = some (.builtin "abs"):=PyProof.Rows.boot_abs
theorem qy (h:H p=none) (o:HO):Same H (upd H p o):=fun b u q=>by rw [zk (zW q h)]; exact q
theorem Same.tup {K:Ap} (e:Same H H') (h:SqT K H a xs):SqT K H' a xs:=by
 rcases h with (h | ⟨o,h⟩) | h
 ·exact .inl (.inl (e _ _ h))
 ·exact .inl (.inr ⟨o,e _ _ h⟩)
 ·exact .inr h
def RetT (H:Hp) (Q:VK) (xs:List V):Prop:=∀ p H',Same H H'->H' p=some (.tup xs)->Q (.ref p) H'
theorem RetT.new (h:RetT H Q xs) (hp:H p=none):Q (.ref p) (upd H p (.tup xs)):=h p _ (qy hp _) qk
abbrev T2 (x y:Int):List V:=[.int x,.int y]
theorem vq:2<=sizeLine:=by decide
theorem iteN {c A B:Prop} [Decidable c] (hc:¬ c) (h:B):if decide c=true then A else B:=by
 rw [decide_eq_false hc];exact iteF h
theorem iteP {c A B:Prop} [Decidable c] (hc:c) (h:A):if decide c=true then A else B:=by
 rw [decide_eq_true hc];exact iteT h
theorem iteD {c A B:Prop} [Decidable c] (h1:c->A) (h2:¬ c->B):if decide c=true then A else B:=by
 by_cases h:c
 ·exact iteP h (h1 h)
 ·exact iteN h (h2 h)
theorem iteNP {c A B:Prop} [Decidable c] (hc:¬ c) (h:A):if (!decide c)=true then A else B:=by
 rw [decide_eq_false hc];exact iteT h
section
variable {X:Cx} {pins:List (Addr×Obj)} {σ:St} {H:Hp} {s:Shared}
theorem Inv.track (I:Inv X pins σ H s) (hn:H ea=none) (h0:X.s₀.heap.get? ea=none) (hp:∀ p∈X.pn++pins,p.1≠ea) (hL:ea≠X.env.locals) (hc:∀ x c,X.env.cells.lookup x=some c->c≠ea) (ok:ObjOk X.prog X.w (upd H ea o) s.heap ea o):Inv X pins σ (upd H ea o) s:=by
 refine ⟨I.ok,I.os,I.bare,⟨I.base.keep,I.base.slot,fun b u q n hx=>?_,I.base.there,fun b xs e=>?_,fun b u xs e=>?_,fun b ps e=>?_⟩,I.loc,I.cell,?_,fun x c e=>?_,fun p hp'=>?_,fun b u e=>?_,I.len⟩
 ·rw [zk (fun z=>by rw [z,h0] at q; cases q)]
  exact I.base.free b u q n hx
 ·have z:=I.base.tups b xs e
  rw [zk (zW z hn)];exact z
 ·have z:=I.base.frzs b u xs e
  rw [zk (zW z hn)];exact z
 ·obtain ⟨m,z⟩:=I.base.tbls b ps e
  exact ⟨m,by rw [zk (zW z hn)]; exact z⟩
 ·rw [zk (Ne.symm hL)]
  exact I.free
 ·rw [zk (hc x c e)]
  exact I.freeC x c e
 ·obtain ⟨e,n,r⟩:=I.pin p hp'
  exact ⟨e,by rw [zk (hp p hp')]; exact n,r⟩
 ·by_cases hb:b=ea
  ·subst hb
   rw [qk] at e
   cases e
   exact ok
  ·rw [zk hb] at e
   exact (I.hok b u e).stay (fun c v _ q=>q) (fun c q=>by rw [zk (zW q hn)]; exact q) fun c xs q=>by rw [zk (zW q hn)]; exact q
end
structure CP where
 C:Addr
 fp:List Addr
 s:Shared
 H:Hp
abbrev Cx.comp (X:Cx) (scope:Scope) (cl:List (Str×Addr)) (N:List Str) (c:CP):Cx :=
 { prog:=X.prog,w:=X.w,K:=X.K,mg:=X.mg,base:=X.base,A:=X.A,N:=N,s₀:=c.s,H₀:=c.H,env:=compEnvC scope cl c.C X.env,outer:=X.stack,stack:=X.stack,ex:=c.fp,fn:=fun _=>false,calm:=X.calm,pn:=[],xe:=fun _ _=>False }
def ixS:St->Nat->Option V
 | [],_=>none
 | x::_,0=>x
 | _::r,n+1=>ixS r n
theorem ixS_some:∀ {σ:St} {j:Nat} {v:V},ixS σ j=some v->σ[j]?=some (some v)
 | [],_,_,h=>by cases h
 | x::r,0,v,h=>by
  have h':x=some v:=h;rw [h']; rfl
 | x::r,n+1,v,h=>by
  have q:=ixS_some (σ:=r) (j:=n) (v:=v) h
  simpa using q
def compS:List (Option Nat)->St->St
 | [],_=>[]
 | none::r,σ=>none::compS r σ
 | some j::r,σ=>ixS σ j::compS r σ
theorem compS_len:∀ (ix:List (Option Nat)) (σ:St),(compS ix σ).length=ix.length
 | [],_=>rfl
 | none::r,σ=>congrArg Nat.succ (compS_len r σ)
 | some _::r,σ=>congrArg Nat.succ (compS_len r σ)
def LeS:St->St->Prop
 | [],[]=>True
 | a::r,b::r'=>(a=none\/a=b)/\LeS r r'
 | _,_=>False
theorem LeS.refl:∀ σ:St,LeS σ σ
 | []=>trivial
 | _::r=>⟨.inr rfl,LeS.refl r⟩
theorem LeS.len:∀ {a b:St},LeS a b->a.length=b.length
 | [],[],_=>rfl
 | _::_,_::_,h=>congrArg Nat.succ (LeS.len h.2)
 | [],_::_,h=>h.elim
 | _::_,[],h=>h.elim
theorem LeS.get:∀ {a b:St} {i:Nat} {v:V},LeS a b->a[i]?=some (some v)->b[i]?=some (some v)
 | [],[],_,_,_,e=>by simp at e
 | [],_::_,_,_,h,_=>h.elim
 | _::_,[],_,_,h,_=>h.elim
 | x::r,y::r',0,v,h,e=>by
  have e':x=some v:=by simpa using e
  rcases h.1 with z | z
  ·rw [z] at e'; cases e'
  ·rw [<- z,e']; rfl
 | x::r,y::r',i+1,v,h,e=>by
  have e':r[i]?=some (some v):=by simpa using e
  have q:=LeS.get h.2 e'
  simpa using q
def GOk (g:TG) (σ:St):Prop:=∀ x H Q,g x σ H Q->g x σ H fun σ2 H2=>LeS σ σ2/\Q σ2 H2
theorem leS_set:∀ {σ:St} {i:Nat} {v:V},σ[i]?=some none->LeS σ (σ.set i (some v))
 | [],_,_,h=>by simp at h
 | x::r,0,v,h=>by
  have e:x=none:=by simpa using h
  exact ⟨.inl e,LeS.refl r⟩
 | x::r,i+1,v,h=>by
  have e:r[i]?=some none:=by simpa using h
  exact ⟨.inr rfl,leS_set e⟩
theorem compS_none:∀ {i:Nat} {σ:St},ix[i]?=some none->(compS ix σ)[i]?=some none:=by
 induction ix with
 | nil=>intro i σ h; simp at h
 | cons a r ih =>
  intro i σ h
  cases i with
  | zero =>
   have e:a=none:=by simpa using h
   subst e; rfl
  | succ i =>
   have e:r[i]?=some none:=by simpa using h
   have q:=ih (σ:=σ) e
   cases a <;> (unfold compS; simpa using q)
theorem j3 (h:ix[i]?=some none) (σ:St):GOk (gName i) (compS ix σ):=fun _ _ _ q=>⟨leS_set (compS_none h),q⟩
theorem LeS.trans:∀ {a b c:St},LeS a b->LeS b c->LeS a c
 | [],[],[],_,_=>trivial
 | [],[],_::_,_,h=>h.elim
 | [],_::_,_,h,_=>h.elim
 | _::_,[],_,h,_=>h.elim
 | _::_,_::_,[],_,h=>h.elim
 | x::r,y::r',z::r'',h,k=>by
  refine ⟨?_,LeS.trans h.2 k.2⟩
  rcases h.1 with e | e
  ·exact .inl e
  ·rcases k.1 with e' | e'
   ·exact .inl (e.trans e')
   ·exact .inr (e.trans e')
theorem go_two {K:Ap} (h:ix[i]?=some none) (h':ix[j]?=some none) (hij:i≠j) (σ:St):GOk (gTup K 2 (gCons (gName i) (gCons (gName j) gNil))) (compS ix σ):=by
 intro x H Q q;obtain ⟨a,xs,e1,e2,e3,v,r,e4,v',r',e5,e6,q⟩:=q;have z:(compS ix σ)[i]?=some none:=compS_none h;have z':((compS ix σ).set i (some v))[j]?=some none:=by
  rw [Ac hij];exact compS_none h'
 exact ⟨a,xs,e1,e2,e3,v,r,e4,v',r',e5,e6,(leS_set z).trans (leS_set z'),q⟩
def SubL (cells:List (Str×Addr)):List (Str×Addr)->Prop
 | []=>True
 | p::r=>cells.lookup p.1=some p.2/\SubL cells r
theorem SubL.get {cells:List (Str×Addr)}:∀ {cl:List (Str×Addr)} {x:Str} {c:Addr},SubL cells cl->cl.lookup x=some c->cells.lookup x=some c
 | [],_,_,_,e=>by cases e
 | p::r,x,c,h,e=>by
  rw [List.lookup_cons] at e
  cases hx:x==p.1 with
  | true =>
   rw [hx] at e;have e1:x=p.1:=by simpa using hx
   have e2:p.2=c:=Am e;rw [e1,<- e2];exact h.1
  | false =>
   rw [hx] at e;exact SubL.get h.2 e
def IxOk (X:Cx) (rn:List (Str×NameKind)) (cl:List (Str×Addr)):List Str->List (Option Nat)->Prop
 | [],[]=>True
 | _::N,none::ix=>IxOk X rn cl N ix
 | x::N,some j::ix=>(X.N[j]?=some x/\Vis X.env.scope x/\(X.env.kindOf x≠some .local)/\(cl.lookup x).isSome=true/\(rn.lookup x=some .cell\/rn.lookup x=some .free))/\IxOk X rn cl N ix
 | _,_=>False
theorem IxOk.len:∀ {N:List Str} {ix:List (Option Nat)},IxOk X rn cl N ix->ix.length=N.length
 | [],[],_=>rfl
 | _::_,none::_,h=>congrArg Nat.succ (IxOk.len (show IxOk X rn cl _ _ from h))
 | _::_,some _::_,h=>congrArg Nat.succ (IxOk.len h.2)
 | [],none::_,h=>h.elim
 | [],some _::_,h=>h.elim
 | _::_,[],h=>h.elim
theorem IxOk.get:∀ {N:List Str} {ix:List (Option Nat)} {σ:St} {i:Nat} {x:Str} {v:V},IxOk X rn cl N ix->N[i]?=some x->(compS ix σ)[i]?=some (some v)->∃ j:Nat,X.N[j]?=some x/\σ[j]?=some (some v)/\Vis X.env.scope x/\X.env.kindOf x≠some .local/\(cl.lookup x).isSome=true/\(rn.lookup x=some .cell\/rn.lookup x=some .free)
 | [],[],_,_,_,_,_,e,_=>by simp at e
 | y::N,none::ix,σ,0,x,v,_,_,e=>by
  have z:(none:Option V)=some v:=by simpa [compS] using e
  cases z
 | y::N,none::ix,σ,i+1,x,v,h,e,e'=>IxOk.get (N:=N) (ix:=ix) (σ:=σ) (i:=i) (show IxOk X rn cl N ix from h) (by simpa using e) (by simpa [compS] using e')
 | y::N,some j::ix,σ,0,x,v,h,e,e'=>by
  have z:ixS σ j=some v:=by simpa [compS] using e'
  have y1:y=x:=by simpa using e
  subst y1;exact ⟨j,h.1.1,ixS_some z,h.1.2⟩
 | y::N,some j::ix,σ,i+1,x,v,h,e,e'=>IxOk.get (N:=N) (ix:=ix) (σ:=σ) (i:=i) h.2 (by simpa using e) (by simpa [compS] using e')
 | [],none::_,_,_,_,_,h,_,_=>h.elim
 | [],some _::_,_,_,_,_,h,_,_=>h.elim
 | _::_,[],_,_,_,_,h,_,_=>h.elim
structure CompOk (X:Cx) (scope:Scope) (cl:List (Str×Addr)) (N:List Str) (ix:List (Option Nat)):Prop where
 clos:closureFor scope X.env=pure cl:=by rfl
 kind:scope.kind=.function:=by rfl
 nms:(scope.names.all fun x=>x.2 != .local||scope.names.lookup x.1==some .local)=true:=by rfl
 nocell:(scope.names.all fun x=>x.2 != .cell)=true:=by rfl
 sub:SubL X.env.cells cl
 has:((relabel scope X.env).names.all fun x=>x.2==.local||(cl.lookup x.1).isSome||!(x.2==.cell||x.2==.free))=true:=by rfl
 ixs:IxOk X (relabel scope X.env).names cl N ix
section
variable {X:Cx} {scope:Scope} {cl:List (Str×Addr)} {N:List Str} {ix:List (Option Nat)} {pins:List (Addr×Obj)} {σ:St} {H:Hp} {s:Shared}
theorem lookup_mem:∀ {l:List (Str×NameKind)} {x:Str} {k:NameKind},l.lookup x=some k->(x,k)∈l
 | [],_,_,h=>by cases h
 | (y,k')::r,x,k,h=>by
  rw [List.lookup_cons] at h
  cases hx:x==y with
  | true =>
   rw [hx] at h;have e1:x=y:=by simpa using hx
   have e2:k'=k:=Am h;rw [e1,e2];exact Ae
  | false =>
   rw [hx] at h;exact List.mem_cons_of_mem _ (lookup_mem h)
theorem CompOk.cells (k:CompOk X scope cl N ix) {x:Str} (h:(relabel scope X.env).names.lookup x=some .cell\/(relabel scope X.env).names.lookup x=some .free):∃ c,cl.lookup x=some c:=by
 have all:=List.all_eq_true.mp k.has
 rcases h with h | h
 ·have q:=all _ (lookup_mem h)
  exact Option.isSome_iff_exists.mp (by simpa using q)
 ·have q:=all _ (lookup_mem h)
  exact Option.isSome_iff_exists.mp (by simpa using q)
theorem CompOk.ok (k:CompOk X scope cl N ix) (I:Inv X pins σ H s) {fp:List Addr} {C:Addr} (hf:∀ b∈fp,FpOk X pins H b/\b<s.heap.objs.size) (hC:s.heap.objs.size<=C):(X.comp scope cl N ⟨C,fp,s,H⟩).Ok where
 mod:=I.ok.mod
 kind:=k.kind
 glob:=I.ok.glob
 blt:=I.ok.blt
 above:=hC
 inj:=fun x y c e1 e2=>I.ok.inj x y c (k.sub.get e1) (k.sub.get e2)
 has:=fun x h=>k.cells h
 cab:=fun x c h _=>by cases h
 hd:=I.ok.hd
 frames:=I.ok.frames
 stk:=.inl rfl
 exf:=fun b hb=>⟨Nat.ne_of_lt (Af (hf b hb).2 hC),fun x c e=>(hf b hb).1.2.2.2.2.1 x c (k.sub.get e)⟩
 bs:=fun b o e=>I.bs b o e
 bsz:=Ao I.ok.bsz I.sz
 noex:=fun b o e hb=>by
  obtain ⟨⟨_,_,_,z,_⟩,_⟩:=hf b hb
  rcases z with z | z
  ·exact I.ok.noex b o e z
  ·exact absurd (Af (Heap.lt_size e) (Ao I.ok.bsz z)) (Nat.lt_irrefl _)
 exfs:=fun b hb z=>by
  obtain ⟨⟨_,nl,nf,_⟩,_⟩:=hf b hb
  rcases List.mem_cons.mp (I.stkSub b z) with e | e
  ·exact nl e
  ·exact nf e
 funs:=I.stack
 frf:=I.stkFree
theorem CompOk.enter (k:CompOk X scope cl N ix) (I:Inv X pins σ H s) {fp:List Addr} {C:Addr} {h':Heap} {t':Nat} {m:Str->Option Value} (hf:∀ b∈fp,FpOk X pins H b/\b<s.heap.objs.size) (hC:s.heap.objs.size<=C)
  (keep:∀ b o,s.heap.get? b=some o->h'.get? b=some o) (hn:h'.Ns C m):Inv (X.comp scope cl N ⟨C,fp,s,H⟩) [] (compS ix σ) H { s with heap:=h',toks:=t' } where
 ok:=k.ok I hf hC
 os:=rfl
 bare:=I.bare
 base:=Un.kept keep
 loc:=⟨m,hn,fun i x v e1 e2 _=>by
  obtain ⟨j,h1,h2,h3,h4,h5,h6⟩:=k.ixs.get e1 e2;obtain ⟨m0,_,hl⟩:=I.loc;obtain ⟨u,r,l⟩:=hl j x v h1 h2 h3
  rcases l with ⟨l,_⟩ | ⟨_,c,ec,z⟩
  ·exact absurd l h4
  ·obtain ⟨c',ec'⟩:=Option.isSome_iff_exists.mp h5
   have e3:=k.sub.get ec';rw [ec] at e3;have e4:c=c':=Am e3;subst e4;obtain ⟨o,ho,hd⟩:=z;exact ⟨u,r,.inr ⟨h6,c,ec',o,keep _ _ ho,hd⟩⟩⟩
 cell:=fun x c e=>by
  obtain ⟨v,o,ho,hd⟩:=I.cell x c (k.sub.get e);exact ⟨v,o,keep _ _ ho,hd⟩
 free:=I.hok.fresh hC
 freeC:=fun x c e=>I.freeC x c (k.sub.get e)
 pin:=fun p hp=>by cases hp
 hok:=I.hok.kept keep
 len:=(compS_len ix σ).trans k.ixs.len
end
section
variable {prog:Program} {w:World} {A:Around} {R:Result->Shared->Prop} {s:Shared}
theorem comp_loop {scope:Scope} (J:Nat->Shared->Prop) (turn:∀ n s1,J n s1->∀ E:Value->Shared->Prop,wpAny (model prog w) A (pyNext it) (fun r s2=>(r=none/\R (.ok .next) s2)\/∃ v,r=some v/\wpAny (model prog w) A (letOwnedTupleGo tg it v) (fun _ s3=>wpAny (model prog w) A (assign tg env v) (fun _ s4 =>
    wpAny (model prog w) A (forIn ifs true fun c b=>if b=true then do let ok <- isTrue c env (eval c env); pure (ForInStep.yield ok) else pure (ForInStep.yield b)) (fun ok s5 =>
     (ok=true/\wpAny (model prog w) A (eval elt env) (fun x s6=>wpAny (model prog w) A (call (.builtin "list.append") [acc,x]) (fun _ s7=>∃ m,m<n/\J m s7) E s6) E s5)\/(ok=false/\∃ m,m<n/\J m s5)) E s4) E s3) E s2) E s1) (n:Nat) (h:J n s):codeAny (model prog w) A (.compLoop (.ListComp elt [⟨tg,iter,ifs,0⟩] scope pos) 0 it acc env) R s:=by
 refine codeAny_loop rfl J (fun n s1 hJ=>?_) n h;show wpAny _ _ ((compTurn (.ListComp elt [⟨tg,iter,ifs,0⟩] scope pos) 0 it acc env).onRaise fun x=>do
  noteFrame x env
  theTreesLotGoes x) _ _ s1
 refine wpAny_noted ?_;rw [compTurn_list];refine wpAny_bind (wpAny_standAt (wpAny_bind (thn (turn n s1 hJ _) fun r s2 h2=>?_)))
 rcases h2 with ⟨e,q⟩ | ⟨v,e,q⟩
 ·subst e
  exact wpAny_pure q
 ·subst e
  refine wpAny_bind (thn q fun _ s3 q3=>wpAny_bind (thn q3 fun _ s4 q4=>wpAny_bind (thn q4 fun ok s5 q5=>?_)))
  rcases q5 with ⟨e,q5⟩ | ⟨e,q5⟩
  ·subst e
   exact wpAny_bind (wpAny_bind (thn q5 fun x s6 q6=>wpAny_bind (thn q6 fun _ s7 q7=>wpAny_pure (wpAny_pure ⟨rfl,q7⟩))))
  ·subst e
   exact wpAny_pure ⟨rfl,q5⟩
end
def PIfs (X:Cx) (ifs:List Expr) (t:TT):Prop :=
 ∀ (pins:List (Addr×Obj)) (s:Shared) (σ:St) (H:Hp) (Q:Bool->Hp->Prop),Inv X pins σ H s->t σ H Q->wpAny (model X.prog X.w) X.A (forIn ifs true fun c b=>if b=true then do let ok <- isTrue c X.env (eval c X.env); pure (ForInStep.yield ok) else pure (ForInStep.yield b)) (TP X pins σ Q) X.xe s
def tNoIf:TT:=fun _ H Q=>Q true H
theorem yQ:PIfs X [] tNoIf:=fun _ _ _ H _ I h=>wpAny_tests_nil ⟨H,I,h⟩
theorem pif_one (h:PT X c t):PIfs X [c] t:=fun pins s σ H Q I q=>wpAny_tests_one (h pins s σ H Q I q)
def tCompZ (ix:List (Option Nat)) (wi:TI) (g:CP->TG) (tt:CP->TT) (te:CP->TE) (σ:St) (H:Hp) (Z:List V->Hp->Prop):Prop :=
 wi σ H fun J H1=>∃ W:Nat->Nat->List V->Hp->Prop,(∃ m,W 0 m [] H1)/\∀ i m ys H,W i m ys H->ys.length<sizeLine/\((J.stop i H/\Z ys H)\/(J.go i H/\∀ c x H',J.yld i H x H'->g c x (compS ix σ) H' fun σ2 H2=>tt c σ2 H2 fun b H3 =>
   (b=true/\te c σ2 H3 fun y H4=>∃ m',m'<m/\W (i+1) m' (ys++[y]) H4)\/(b=false/\∃ m',m'<m/\W (i+1) m' ys H3)))
def tComp (ix:List (Option Nat)) (wi:TI) (g:CP->TG) (tt:CP->TT) (te:CP->TE):TE:=fun σ H Q =>
 tCompZ ix wi g tt te σ H fun ys H1=>∀ D,H1 D=none->Q (.ref D) (upd H1 D (.lst ys))
def sComp (ix:List (Option Nat)) (i:Nat) (wi:TI) (g:CP->TG) (tt:CP->TT) (te:CP->TE):TS:=fun D σ H =>
 tCompZ ix wi g tt te σ H fun ys H1=>∀ p,H1 p=none->D.nx (σ.set i (some (.ref p))) (upd H1 p (.lst ys))
theorem comp_run {X:Cx} {scope:Scope} {cl:List (Str×Addr)} {N:List Str} {ix:List (Option Nat)} {elt tg iter:Expr} {ifs:List Expr} {pos pos':Pos} {wi:TI} {g:CP->TG} {tt:CP->TT} {te:CP->TE}
  {pins:List (Addr×Obj)} {σ:St} {H:Hp} {s:Shared} {Z:List V->Hp->Prop} {use:Option (Value->Sem Unit)} {Q0:Value->Shared->Prop}
  (k:CompOk X scope cl N ix) (hc:X.calm=true) (hi:PI X tg iter wi) (hg:∀ c,PG (X.comp scope cl N c) tg (g c)) (ho:∀ c σ,GOk (g c) (compS ix σ)) (ht:∀ c,PIfs (X.comp scope cl N c) ifs (tt c)) (he:∀ c,PE (X.comp scope cl N c) elt (te c))
  (hs:∀ x,foldedSetIterable iter X.env x=pure x) (I:Inv X pins σ H s) (h:tCompZ ix wi g tt te σ H Z)
  (fin:∀ (D C:Addr) (s':Shared) (H':Hp) (ys:List V) (m:Str->Option Value),Inv X pins σ (upd H' D (.lst ys)) s'->FpOk X pins (upd H' D (.lst ys)) C->s'.heap.Ns C m->H' D=none->Z ys H'->compPost (model X.prog X.w) X.A X.xe use Q0 (.ref D) C (.ok .next) s') :
  wpAny (model X.prog X.w) X.A (comprehension (.ListComp elt [⟨tg,iter,ifs,0⟩] scope pos) scope X.env pos' (newList []) false (eval iter X.env) use) Q0 X.xe s:=by
 have hnm:∀ x∈scope.names,x.2=.local->scope.names.lookup x.1=some .local:=fun x hx hl=>by
  have q:=List.all_eq_true.mp k.nms x hx;rw [hl] at q
  simpa using q
 have hnc:∀ x∈scope.names,x.2≠.cell:=fun x hx=>by
  have q:=List.all_eq_true.mp k.nocell x hx
  simpa using q
 refine wpAny_comprehension_free rfl hs k.clos k.kind hnm (thn (hi pins s σ H _ I h) fun v s1 h1=>thn h1 fun itv s2 h2=>?_);obtain ⟨it,fp,tn,J,H2,e,I2,T,st2,f2,W,⟨m0,w0⟩,step⟩:=h2;subst e;refine wpAny_newObj_type (wpAny_newFunctionEnv hnc (by intro y hy; simp at hy) (fun h3 hns hsb=>?_) k.kind);dsimp only at hns hsb ⊢;generalize hD:s2.heap.objs.size=D at hns hsb ⊢;generalize hP:s2.heap.push { cls:=.type "list",dict:=none,data:=.seq ([]:List Value).toArray }=P2 at hns hsb ⊢;generalize hCe:P2.objs.size=C at hns hsb ⊢;have szC:C=D+1:=by rw [<- hCe,<- hP,Heap.size_push,hD]
 have hDC:D≠C:=by rw [szC]; exact Nat.ne_of_lt (Nat.lt_succ_self _)
 have ltD:∀ {b:Addr} {o:Obj},s2.heap.get? b=some o->b<D:=fun e=>hD ▸ Heap.lt_size e
 have pD:P2.get? D=some { cls:=.type "list",dict:=none,data:=.seq ([]:List Value).toArray }:=by rw [<- hP,<- hD]; exact Heap.get?_push_size _ rfl
 have old:∀ b o,s2.heap.get? b=some o->h3.get? b=some o:=fun b o e=>by
  have lb:=ltD e;have nb:b≠C:=by rw [szC]; exact Nat.ne_of_lt (Nat.lt_succ_of_lt lb)
  refine (hsb.2 b nb).trans ?_;refine Heap.get?_push_of_some _ ?_;rw [<- hP];exact Heap.get?_push_of_some _ e
 have lst0:h3.PlainList D #[]:=⟨_,(hsb.2 D hDC).trans (Heap.get?_push_of_some _ pD)⟩;have lt2:∀ b∈fp,b<s2.heap.objs.size:=fun b hb=>let ⟨_,e,_⟩:=T.obj _ _ st2 b hb; Heap.lt_size e
 have f2':∀ b∈fp,FpOk X pins H2 b/\b<s2.heap.objs.size:=fun b hb=>⟨f2 b hb,lt2 b hb⟩
 have leC:s2.heap.objs.size<=C:=by rw [szC,hD]; exact Nat.le_succ _
 have leD:s2.heap.objs.size<=D:=by rw [hD]; exact Nat.le_refl _
 have nD:D∉fp:=fun z=>Nat.lt_irrefl _ (hD ▸ lt2 D z)
 have nC:C∉fp:=fun z=>Nat.lt_irrefl _ (Af (lt2 C z) leC)
 have st3:tn 0 h3:=T.keep _ _ _ st2 fun b _ o e=>old b o e
 generalize hY:X.comp scope cl N ⟨C,fp,s2,H2⟩=Y;have I3:Inv Y [] (compS ix σ) H2 { s2 with heap:=h3,toks:=s2.toks+([]:List (Str×Value)).length }:=hY ▸ k.enter I2 f2' leC old hns;have fpY:∀ {H':Hp},(∀ b∈fp,H' b=none)->∀ b∈fp,FpOk Y [] H' b:=fun {H'} hn b hb=>by
  subst hY;obtain ⟨_,a1,a2,a3,a4,a5⟩:=f2 b hb;refine ⟨hn b hb,Nat.ne_of_lt (Af (lt2 b hb) leC),fun z=>?_,.inl hb,fun x c e=>a4 x c (k.sub.get e),fun p hp=>by cases hp⟩
  rcases List.mem_cons.mp (I2.stkSub b z) with e | e
  ·exact a1 e
  ·exact a2 e
 have nDs:D∉frs X.stack:=fun z=>by
  rcases List.mem_cons.mp (I2.stkSub D z) with e | e
  ·exact absurd I2.lt (by rw [<- e]; exact Nat.not_lt.mpr leD)
  ·exact I2.nofs leD e
 have cD:∀ x c,cl.lookup x=some c->c≠D:=fun x c e z=>by
  obtain ⟨v,o,ho,_⟩:=I2.cell x c (k.sub.get e);exact absurd (Heap.lt_size ho) (by rw [z]; exact Nat.not_lt.mpr leD)
 have prgY:Y.prog=X.prog:=by rw [<- hY]
 have wY:Y.w=X.w:=by rw [<- hY]
 have KY:Y.K=X.K:=by rw [<- hY]
 have AY:Y.A=X.A:=by rw [<- hY]
 have cY:Y.calm=true:=by rw [<- hY]; exact hc
 have xeY:Y.xe=fun _ _=>False:=by rw [<- hY]
 have envY:Y.env=compEnvC scope cl C X.env:=by rw [<- hY]
 have pinD:∀ {σ':St} {H':Hp} {s':Shared} {us:Array Value} {n0:Nat},Inv Y [] σ' H' s'->H' D=none->s'.heap.PlainList D us->s'.heap.get? D=some { cls:=.type "list",data:=.seq us n0 }->Inv Y [(D,{ cls:=.type "list",data:=.seq us n0 })] σ' H' s':=fun I' hn _ e=>I'.pins_of fun p hp=>by
  have e1:p=(D,_):=List.mem_singleton.mp hp;subst e1;exact ⟨e,hn,by rw [<- hY]; exact hDC,by rw [<- hY]; exact nDs,fun v z=>by cases z⟩
 have fpD:∀ {H':Hp},(∀ b∈fp,H' b=none)->∀ (o:Obj),∀ b∈fp,FpOk Y [(D,o)] H' b:=fun {H'} hn o b hb=>by
  obtain ⟨a0,a1,a2,a3,a4,a5⟩:=fpY hn b hb;refine ⟨a0,a1,a2,a3,a4,fun p hp=>?_⟩
  rcases Ak.mp hp with z | z
  ·exact a5 p (Aa _ z)
  ·have e1:p=(D,o):=List.mem_singleton.mp z
   subst e1;exact fun z=>by
    have z':D=b:=z;rw [z'] at nD;exact nD hb
 have leave:∀ {s':Shared} {H':Hp} {ys:List V} {us:Array Value},Inv Y [] (compS ix σ) H' s'->H' D=none->s'.heap.PlainList D us->Vals ys us.toList->ys.length<=sizeLine->Z ys H'->compPost (model X.prog X.w) X.A X.xe use Q0 (.ref D) C (.ok .next) s':=fun {s' H' ys us} I' hn hpl rv hl z=>by
  subst hY;have I4:Inv X pins σ H' s':=I2.call' (ch:=fp) I'.os I'.base I'.hok I'.bare fun b hb=>let ⟨_,a1,_,a3,a4,a5⟩:=f2 b hb; ⟨a3,a1,a4,a5⟩
  have fD:=I2.fpOk (H':=H') leD hn;have ok:ObjOk X.prog X.w (upd H' D (.lst ys)) s'.heap D (.lst ys):=by
   obtain ⟨n,e⟩:=hpl;exact ⟨hl,us.toList,n,rv,by simpa using e⟩
  have I5:Inv X pins σ (upd H' D (.lst ys)) s':=by
   refine I4.track hn ?_ fD.2.2.2.2.2 fD.2.1 fD.2.2.2.2.1 ok;refine Heap.get?_none_of_le (Ao I2.sz leD)
  obtain ⟨m,hm,_⟩:=I'.loc;have hC':upd H' D (.lst ys) C=none:=by
   rw [zk (Ne.symm hDC)];exact I'.free
  exact fin D C s' H' ys m I5 (I2.fpOk leC hC') hm hn z
 have loop:codeAny (model X.prog X.w) X.A (.compLoop (.ListComp elt [⟨tg,iter,ifs,0⟩] scope pos) 0 (.ref it) (.ref D) (compEnvC scope cl C X.env))
   (compPost (model X.prog X.w) X.A X.xe use Q0 (.ref D) C) { s2 with heap:=h3,toks:=s2.toks+([]:List (Str×Value)).length }:=by
  refine comp_loop (fun n s'=>∃ i H' ys us,Inv Y [] (compS ix σ) H' s'/\tn i s'.heap/\(∀ b∈fp,H' b=none)/\H' D=none/\s'.heap.PlainList D us/\Vals ys us.toList/\W i n ys H') ?_ m0
   ⟨0,H2,[],#[],I3,st3,fun b hb=>(f2 b hb).1,I2.hok.fresh leD,lst0,.nil,w0⟩
  rintro n s4 ⟨i,H4,ys,us,I4,st4,fr4,d4,l4,v4,w4⟩ E;obtain ⟨hl,step4⟩:=step i n ys H4 w4
  rcases step4 with ⟨stop,z⟩ | ⟨go,turn⟩
  ·obtain ⟨n0,e0⟩:=l4
   have I4':=pinD I4 d4 ⟨n0,e0⟩ e0;have q:=T.done Y prgY wY KY cY i _ s4 (compS ix σ) H4 E I4' (fpD fr4 _) st4 stop;rw [AY] at q;refine thn q fun r s5 q5=>.inl ⟨q5.1,?_⟩
   have e5:=(q5.2.pin _ (A7 _ Ae)).1;exact leave (q5.2.pins_of fun p hp=>by cases hp) d4 ⟨n0,e5⟩ v4 (Nat.le_of_lt hl) z
  ·obtain ⟨n0,e0⟩:=l4
   have I4':=pinD I4 d4 ⟨n0,e0⟩ e0;have q:=T.item Y prgY wY KY cY i _ s4 (compS ix σ) H4 E I4' (fpD fr4 _) st4 go;rw [AY] at q;refine thn q fun r s5 q5=>.inr ?_
   obtain ⟨v,er,q5⟩:=q5;refine ⟨v,er,thn q5 fun _ s6 q6=>?_⟩;obtain ⟨x,H6,I6,r6,y6,st6,fr6⟩:=q6;have I6':=I6.pinned (fpD fr6 _) (T.obj _ _ st6);have g6:=ho ⟨C,fp,s2,H2⟩ σ x H6 _ (turn ⟨C,fp,s2,H2⟩ x H6 y6);have inD:∀ {l:List (Addr×Obj)},(D,({ cls:=.type "list",data:=.seq us n0 }:Obj))∈Y.pn++([(D,{ cls:=.type "list",data:=.seq us n0 })]++l):=A7 _ (Aa _ Ae);have inF:∀ {b:Addr} {o:Obj},b∈fp->s6.heap.get? b=some o->(b,o)∈Y.pn++([(D,({ cls:=.type "list",data:=.seq us n0 }:Obj))]++Qy fp s6.heap):=fun hb e=>A7 _ (A7 _ (vy hb e))
   have back:∀ {σ7:St} {H7:Hp} {s7:Shared},Inv Y ([(D,{ cls:=.type "list",data:=.seq us n0 })]++Qy fp s6.heap) σ7 H7 s7->LeS (compS ix σ) σ7->Inv Y [] (compS ix σ) H7 s7/\tn (i+1) s7.heap/\(∀ b∈fp,H7 b=none)/\H7 D=none/\s7.heap.PlainList D us:=fun {σ7 H7 s7} I7 le=>by
    refine ⟨(I7.weak le.len fun i v e=>le.get e).pins_of (fun p hp=>(by cases hp)),T.keep _ _ _ st6 fun b hb o e=>(I7.pin _ (inF hb e)).1,fun b hb=>?_,(I7.pin _ inD).2.1,n0,(I7.pin _ inD).1⟩;obtain ⟨o,e,_⟩:=T.obj _ _ st6 b hb;exact (I7.pin _ (inF hb e)).2.1
   have hgY:=hg ⟨C,fp,s2,H2⟩;have htY:=ht ⟨C,fp,s2,H2⟩;have heY:=he ⟨C,fp,s2,H2⟩;rw [hY] at hgY htY heY;have q7:=hgY _ s6 _ H6 x v _ I6' r6 g6;rw [prgY,wY,AY,xeY,envY] at q7;refine wpAny_mono q7 (fun _ s7 q7=>?_) fun _ _ z=>z.elim
   obtain ⟨σ7,H7,I7,le7,t7⟩:=q7;have q8:=htY _ s7 σ7 H7 _ I7 t7;rw [prgY,wY,AY,xeY,envY] at q8;refine wpAny_mono q8 (fun ok s8 q8=>?_) fun _ _ z=>z.elim
   obtain ⟨H8,I8,q8⟩:=q8
   rcases q8 with ⟨eo,q8⟩ | ⟨eo,m',hm,w8⟩
   ·refine .inl ⟨eo,?_⟩
    have q9:=heY _ s8 σ7 H8 _ I8 q8;rw [prgY,wY,AY,xeY,envY] at q9;refine wpAny_mono q9 (fun u s9 q9=>?_) fun _ _ z=>z.elim
    obtain ⟨y,H9,I9,r9,m',hm,w9⟩:=q9;obtain ⟨J9,t9,f9,d9,l9⟩:=back I9 le7;have hsz:us.size<=sizeLine:=by
     have e1:ys.length=us.toList.length:=v4.length;have e2:us.toList.length=us.size:=by simp
     exact Nat.le_of_lt (e2 ▸ e1 ▸ hl)
    refine wpAny_list_append_plain l9 (fun h10 l10 sb=>?_) hsz;have J10:Inv Y [] (compS ix σ) H9 { s9 with heap:=h10 }:=J9.turned (t':=s9.toks) (fun b o hb e=>(sb.2 b hb).trans e) d9 (by rw [<- hY]; exact hDC) (.inr (by rw [<- hY]; exact leD)) (fun x c e=>by rw [<- hY] at e; exact cD x c e) fun p hp=>by rw [<- hY] at hp; cases hp
    refine ⟨m',hm,i+1,H9,ys++[y],us.push u,J10,T.keep _ _ _ t9 fun b hb o e=>(sb.2 b fun z=>nD (z ▸ hb)).trans e,f9,d9,l10,?_,w9⟩;rw [Array.toList_push];exact v4.append (.cons r9 .nil)
   ·refine .inr ⟨eo,m',hm,i+1,H8,ys,us,?_⟩
    obtain ⟨J8,t8,f8,d8,l8⟩:=back I8 le7;exact ⟨J8,t8,f8,d8,l8,v4,w8⟩
 exact codeAny_compStart_list loop (T.self _ 0 _ _ _ st3 loop)
def closL (scope:Scope) (env:Env):List (Str×Addr):=scope.names.foldl (fun cs p=>if p.2==.free then (p.1,(env.cells.lookup p.1).getD 0)::cs else cs) []
theorem ne_loc {k:Option NameKind} (h:k=some .cell):k≠some .local:=fun z=>by rw [h] at z; cases z
theorem x8 {X:Cx} {scope:Scope} {N:List Str} {ix:List (Option Nat)} {elt tg iter:Expr} {ifs:List Expr} {pos:Pos} {wi:TI} {g:CP->TG} {tt:CP->TT} {te:CP->TE}
  (k:CompOk X scope (closL scope X.env) N ix) (hc:X.calm=true) (hi:PI X tg iter wi) (hg:∀ c,PG (X.comp scope (closL scope X.env) N c) tg (g c)) (ho:∀ c σ,GOk (g c) (compS ix σ)) (ht:∀ c,PIfs (X.comp scope (closL scope X.env) N c) ifs (tt c)) (he:∀ c,PE (X.comp scope (closL scope X.env) N c) elt (te c))
  (hs:∀ x,foldedSetIterable iter X.env x=pure x:=by intro _; rfl):PE X (.ListComp elt [⟨tg,iter,ifs,0⟩] scope pos) (tComp ix wi g tt te):=by
 intro pins s σ H Q I h;rw [eval_ListComp];refine comp_run (use:=none) k hc hi hg ho ht he hs I h fun D C s' H' ys m I' fC hm hn z=>?_
 refine ⟨m,hm,fun h' sb=>⟨.ref D,_,I'.turned (t':=s'.toks) (fun b o hb e=>(sb.2 b hb).trans e) fC.1 fC.2.1 fC.2.2.2.1 fC.2.2.2.2.1 fC.2.2.2.2.2,rfl,z D hn⟩⟩
def CW (n:Nat) (Pv:Nat->List V->Hp->Prop) (i m:Nat) (ys:List V) (H:Hp):Prop:=m+i=n/\ys.length<=i/\Pv i ys H
theorem yv {J:It} {g:CP->TG} {tt:CP->TT} {te:CP->TE} {σ:St} {Z:List V->Hp->Prop} (Pv:Nat->List V->Hp->Prop) (h0:Pv 0 [] H1) (hn:n<sizeLine) (stop:∀ ys H,Pv n ys H->J.stop n H/\Z ys H) (go:∀ i ys H,i<n->Pv i ys H->J.go i H) (step:∀ i m ys H c x H',i<n->Pv i ys H->J.yld i H x H'->(∀ y H4,Pv (i+1) (ys++[y]) H4->∃ m',m'<m/\CW n Pv (i+1) m' (ys++[y]) H4)->(∀ H4,Pv (i+1) ys H4->∃ m',m'<m/\CW n Pv (i+1) m' ys H4)->g c x (compS ix σ) H' fun σ2 H2=>tt c σ2 H2 fun b H3=>(b=true/\te c σ2 H3 fun y H4=>∃ m',m'<m/\CW n Pv (i+1) m' (ys++[y]) H4)\/(b=false/\∃ m',m'<m/\CW n Pv (i+1) m' ys H3)) :
  ∃ W:Nat->Nat->List V->Hp->Prop,(∃ m,W 0 m [] H1)/\∀ i m ys H,W i m ys H->ys.length<sizeLine/\((J.stop i H/\Z ys H)\/(J.go i H/\∀ c x H',J.yld i H x H'->g c x (compS ix σ) H' fun σ2 H2=>tt c σ2 H2 fun b H3 =>
    (b=true/\te c σ2 H3 fun y H4=>∃ m',m'<m/\W (i+1) m' (ys++[y]) H4)\/(b=false/\∃ m',m'<m/\W (i+1) m' ys H3))):=by
 refine ⟨CW n Pv,⟨n,by omega,Nat.le_refl _,h0⟩,?_⟩;rintro i m ys H ⟨hm,hl,p⟩;refine ⟨by omega,?_⟩
 by_cases hi:i<n
 ·refine .inr ⟨go i ys H hi p,fun c x H' hy=>step i m ys H c x H' hi p hy (fun y H4 q=>⟨m - 1,by omega,by omega,?_,q⟩) fun H4 q=>⟨m - 1,by omega,by omega,by omega,q⟩⟩
  rw [Ad,A6];omega
 ·have e:i=n:=by omega
  subst e;exact .inl (stop ys H p)
theorem for_by {J:It} {g:TG} {tb:TS} {D:Ends} {σ:St} (Pv:Nat->St->Hp->Prop) (h0:Pv 0 σ H) (stop:∀ σ H,Pv n σ H->J.stop n H/\D.nx σ H) (go:∀ i σ H,i<n->Pv i σ H->J.go i H) (step:∀ i σ H x H',i<n->Pv i σ H->J.yld i H x H'->g x σ H' fun σ2 H2=>tb { D with nx:=Pv (i+1),ct:=Pv (i+1),bk:=D.nx } σ2 H2) :
  ∃ W:Nat->Nat->St->Hp->Prop,(∃ m,W 0 m σ H)/\∀ i m σ H,W i m σ H->(J.stop i H/\D.nx σ H)\/(J.go i H/\∃ N:St->Hp->Prop,(∀ σ' H',N σ' H'->∃ m',m'<m/\W (i+1) m' σ' H')/\∀ x H',J.yld i H x H'->g x σ H' fun σ2 H2=>tb { D with nx:=N,ct:=N,bk:=D.nx } σ2 H2):=by
 refine ⟨fun i m σ H=>m+i=n/\Pv i σ H,⟨n,by omega,h0⟩,?_⟩;rintro i m σ H ⟨hm,p⟩
 by_cases hi:i<n
 ·exact .inr ⟨go i σ H hi p,Pv (i+1),fun σ' H' q=>⟨m - 1,by omega,by omega,q⟩,fun x H' y=>step i σ H x H' hi p y⟩
 ·have e:i=n:=by omega
  subst e;exact .inl (stop σ H p)
theorem boot_all:bootBuiltins "all" = some (.builtin "all"):=PyProof.Rows.boot_all
theorem boot_any:bootBuiltins "any" = some (.builtin "any"):=by decide +kernel
theorem boot_enumerate:bootBuiltins "enumerate" = some (.type "enumerate"):=PyProof.Rows.boot_enumerate
theorem range_all (bs:List Bool) (tr:Nat->Bool) (h:∀ i b,bs[i]?=some b->tr i=b):(List.range bs.length).all tr=bs.all id:=by
 induction bs generalizing tr with
 | nil=>rfl
 | cons b r ih =>
  have q:=ih (fun i=>tr (i+1)) fun i c e=>h (i+1) c (by simpa using e)
  rw [List.length_cons,List.range_succ_eq_map,List.all_cons,List.all_map,List.all_cons,h 0 b rfl];exact congrArg (b&&·) q
theorem range_any (bs:List Bool) (tr:Nat->Bool) (h:∀ i b,bs[i]?=some b->tr i=b):(List.range bs.length).any tr=bs.any id:=by
 induction bs generalizing tr with
 | nil=>rfl
 | cons b r ih =>
  have q:=ih (fun i=>tr (i+1)) fun i c e=>h (i+1) c (by simpa using e)
  rw [List.length_cons,List.range_succ_eq_map,List.any_cons,List.any_map,List.any_cons,h 0 b rfl];exact congrArg (b||·) q
theorem vals_bl:∀ {bs:List Bool} {us:List Value},Vals (bs.map V.bl) us->us=bs.map Value.bool
 | [],_,.nil=>rfl
 | b::r,_,.cons h t=>by
  have e:_=Value.bool b:=h;rw [e,vals_bl t]; rfl
section
variable {X:Cx}
theorem bools_walk {σ:St} {bs:List Bool} (hc:X.calm=true) (I:Inv X pins σ H s) (hq:SqL X.K H p (bs.map V.bl)) {R:(Nat->Bool)->Shared->Prop} (fin:∀ (tr:Nat->Bool) (h':Heap) (tk:Nat),(∀ i b,bs[i]?=some b->tr i=b)->Inv X pins σ H { s with heap:=h',toks:=tk }->R tr { s with heap:=h',toks:=tk }) :
  wpAny (model X.prog X.w) X.A.in1 (pyIter (.ref p)) (fun it s2=>∃ I fp wr n P St tr,it=.ref I/\Walks X.prog X.w X.A.in1 I fp wr n P St/\St 0 s2.heap/\TruthOf X.prog X.w X.A.in1 P tr/\n=bs.length/\∀ h' tk,(∀ b o,b∉wr->s2.heap.get? b=some o->h'.get? b=some o)->R tr { s2 with heap:=h',toks:=tk }) E s:=by
 obtain ⟨its,rv,pl,hz⟩:=I.list hq;have el:=vals_bl rv;refine wpAny_pyIter_list pl.isList ?_;have ne:p≠s.heap.objs.size:=Nat.ne_of_lt pl.lt;refine ⟨s.heap.objs.size,_,_,_,_,_,fun i=>bs.getD i true,rfl,Walks.list (A:=X.A.in1) (I.ok.hd hc) _ p ne its.toArray,⟨⟨_,Heap.get?_push_size _ rfl,rfl,rfl⟩,?_⟩,fun i v s1 Q E' hv q=>?_,?_,fun h' tk k=>?_⟩
 ·obtain ⟨o,e,r⟩:=pl.isList
  exact ⟨o,Heap.get?_push_of_some _ e,r⟩
 ·have hv':its[i]?=some v:=by simpa using hv
  rw [el,List.getElem?_map] at hv'
  cases hb:bs[i]? with
  | none=>rw [hb] at hv'; cases hv'
  | some b =>
   rw [hb] at hv';have e:Value.bool b=v:=Am hv';subst e;have e2:bs.getD i true=b:=by simp [List.getD,hb]
   have q:Q (bs.getD i true) s1:=q;rw [e2] at q;exact wpAny_truthy_bool q
 ·rw [el]; simp
 ·refine fin _ h' tk (fun i b e=>by simp [List.getD,e]) (I.kept fun b u e=>k b u (fun z=>?_) (Heap.get?_push_of_some _ e))
  have e1:b=s.heap.objs.size:=by simpa using z
  exact absurd (Heap.lt_size e) (by rw [e1]; exact Nat.lt_irrefl _)
theorem call_all (hc:X.calm=true):CallR X (.builtin "all") (fun xs H Q=>∃ (p:Addr) (bs:List Bool),xs=[.ref p]/\SqL X.K H p (bs.map V.bl)/\Q (.bl (bs.all id)) H):=by
 intro pins s σ H xs us Q I r h;obtain ⟨p,bs,rfl,hq,q⟩:=h;obtain ⟨u,rfl,rx⟩:=vals1 r
 cases rx
 refine call_all_walk (thn (bools_walk hc I hq (R:=fun tr s'=>EP X pins σ Q (.bool ((List.range bs.length).all tr)) s') fun tr h' tk e I'=>⟨.bl (bs.all id),H,I',by rw [range_all bs tr e]; rfl,q⟩) ?_);rintro it s2 ⟨I',fp,wr,n,P,St,tr,e1,e2,e3,e4,rfl,e6⟩;exact ⟨I',fp,wr,_,P,St,tr,e1,e2,e3,e4,e6⟩
theorem call_any (hc:X.calm=true):CallR X (.builtin "any") (fun xs H Q=>∃ (p:Addr) (bs:List Bool),xs=[.ref p]/\SqL X.K H p (bs.map V.bl)/\Q (.bl (bs.any id)) H):=by
 intro pins s σ H xs us Q I r h;obtain ⟨p,bs,rfl,hq,q⟩:=h;obtain ⟨u,rfl,rx⟩:=vals1 r
 cases rx
 refine call_any_walk (thn (bools_walk hc I hq (R:=fun tr s'=>EP X pins σ Q (.bool ((List.range bs.length).any tr)) s') fun tr h' tk e I'=>⟨.bl (bs.any id),H,I',by rw [range_any bs tr e]; rfl,q⟩) ?_);rintro it s2 ⟨I',fp,wr,n,P,St,tr,e1,e2,e3,e4,rfl,e6⟩;exact ⟨I',fp,wr,_,P,St,tr,e1,e2,e3,e4,e6⟩
end
structure ZipSt (z TI TO i1 i2 a b:Addr) (i:Nat) (h:Heap):Prop where
 nd:[z,TI,TO,i1,i2].Nodup
 zip:IsZip h z TI TO .none
 its:IsPair h TI (.ref i1) (.ref i2)
 out:∃ x y,IsPair h TO x y
 one:h.IsListIter i1 a i
 two:h.IsListIter i2 b i
theorem Inv.turnedAll {σ:St} {fp:List Addr} (I:Inv X pins σ H s) (hf:∀ b∈fp,FpOk X pins H b) (k:∀ b o,b∉fp->s.heap.get? b=some o->h'.get? b=some o):Inv X pins σ H { s with heap:=h',toks:=t' }:=by
 have nf:∀ b u,H b=some u->b∉fp:=fun b u e z=>by rw [(hf b z).1] at e; cases e
 refine I.step (g':=s.gens) (d':=s.drawn) (ch:=fp) (fun b hb=>?_) (fun b o _ _ hc e _=>k b o hc e) (fun b o _ _ hc e _=>⟨o.slots,k b o hc e⟩) (fun _ _ _ _ n=>n)
  (fun b o hc e=>⟨o,k b o hc e⟩) (fun _ _ e=>e) (fun _ _ _ e=>e) (fun b ps e=>⟨#[],by rw [e]; simp⟩) (fun m hm=>?_) (fun b u e=>?_) I.bare
 ·obtain ⟨_,a1,_,a3,a4,a5⟩:=hf b hb
  exact ⟨a3,a1,a4,a5⟩
 ·obtain ⟨o,es,ep,ho,r⟩:=hm
  exact ⟨o,es,ep,k _ o (fun z=>(hf _ z).2.1 rfl) ho,r⟩
 ·refine (I.hok b u e).stay (fun c v hc q=>k c v ?_ q) (fun _ q=>q) fun _ _ q=>q
  rcases hc with z | z
  ·rw [z]; exact nf b u e
  ·exact nf c _ z
theorem pair_ok (e:IsPair h p u v) (rx:RelV x u) (ry:RelV y v):ObjOk P w H h p (.tup [x,y]) :=
 ⟨(show 2<=sizeLine by decide),[u,v],.cons rx (.cons ry .nil),_,e,rfl,_,rfl⟩
def Ite (K:Ap) (a:Addr):It :=
 ⟨fun i H=>∃ xs x,SqL K H a xs/\xs[i]?=some x,fun i H v H'=>∃ p x,H p=none/\v=.ref p/\H'=upd H p (.tup [.int i,x])/\∀ xs,SqL K H a xs->xs[i]?=some x,fun i H=>∃ xs,SqL K H a xs/\xs.length<=i⟩
structure EnumSt (e it a:Addr) (i:Nat) (h:Heap):Prop where
 ne:e≠it
 enm:∃ old,IsEnum h e it i old
 one:h.IsListIter it a i
theorem turn_enum {P:Program} {w:World} {K:Ap} {es:List Expr} {k1:Nat} {pt:Pos} (e it a:Addr):Turn P w K (.Tuple es k1 pt) (Ite K a) [e,it] e (EnumSt e it a) where
 mem:=by simp
 obj:=fun i h t c hc=>by
  obtain ⟨old,e0⟩:=t.enm;obtain ⟨o1,e1,c1,d1⟩:=t.one
  simp only [List.mem_cons,List.not_mem_nil,or_false] at hc
  rcases hc with rfl | rfl
  ·exact ⟨_,e0,fun v q=>by cases q⟩
  ·exact ⟨_,e1,fun v q=>by rw [d1] at q; cases q⟩
 keep:=fun i h h' t k=>by
  obtain ⟨old,e0⟩:=t.enm;exact ⟨t.ne,⟨old,k e (by simp) _ e0⟩,t.one.at fun o q=>k it (by simp) o q⟩
 item:=by
  intro X hP hw hK hc i pins s σ H E I hf t hg;subst hP hw hK;obtain ⟨xs,x,qa,hx⟩:=hg;obtain ⟨as,ra,pa,_⟩:=I.list qa;obtain ⟨u,hu,ru⟩:=ra.get hx;obtain ⟨old,e0⟩:=t.enm;refine wpAny_pyNext_enum_item e0 t.one pa.isList (x:=u) (by simpa using hu) t.ne fun h1 a1 a2 a3 a4 hk=>⟨_,rfl,?_⟩
  refine wpAny_letOwnedTupleGo_enum (s:={ s with heap:=h1,toks:=s.toks+1 }) a1 fun h2 b1 sb=>?_
  have el:e<s.heap.objs.size:=Heap.lt_size e0;have il:it<s.heap.objs.size:=by obtain ⟨_,q,_⟩:=t.one; exact Heap.lt_size q
  have kp:∀ c o,c∉[e,it]->s.heap.get? c=some o->h2.get? c=some o:=fun c o hc q=>by
   simp only [List.mem_cons,List.not_mem_nil,or_false,not_or] at hc
   exact (sb.2 c hc.1).trans (hk c o hc.1 hc.2 q)
  have I1:Inv X pins σ H { s with heap:=h2,toks:=s.toks+1 }:=I.turnedAll hf kp;have np:H s.heap.objs.size=none:=I.hok.fresh (Nat.le_refl _);have pr:IsPair h2 s.heap.objs.size (.int i s.toks) u:=(sb.2 _ (Nat.ne_of_gt el)).trans a3;have I2:Inv X pins σ (upd H s.heap.objs.size (.tup [.int i,x])) { s with heap:=h2,toks:=s.toks+1 }:=by
   have fo:=I.fpOk (H':=H) (Nat.le_refl _) np;refine I1.track np ?_ fo.2.2.2.2.2 fo.2.1 fo.2.2.2.2.1 (pair_ok pr ⟨_,rfl⟩ ru);exact Heap.get?_none_of_le I.sz
  refine ⟨.ref s.heap.objs.size,_,I2,rfl,⟨_,x,np,rfl,rfl,fun zs hz=>by rw [I.list_inj hz qa]; exact hx⟩,⟨t.ne,⟨u,b1⟩,a2.at fun o q=>(sb.2 it (Ne.symm t.ne)).trans q⟩,fun c hc=>?_⟩;obtain ⟨c0,c1,_⟩:=hf c hc;have ne:c≠s.heap.objs.size:=fun q=>by
   simp only [List.mem_cons,List.not_mem_nil,or_false] at hc
   rcases hc with h | h
   ·rw [<- h,q] at el
    exact Nat.lt_irrefl _ el
   ·rw [<- h,q] at il
    exact Nat.lt_irrefl _ il
  rw [zk ne];exact c0
 done:=by
  intro X hP hw hK hc i pins s σ H E I hf t hg;subst hP hw hK;obtain ⟨xs,qa,hl⟩:=hg;obtain ⟨as,ra,pa,_⟩:=I.list qa;obtain ⟨old,e0⟩:=t.enm;have l1:=ra.length;refine wpAny_pyNext_enum_end (I.ok.hd hc) e0 t.one pa.isList (by simp; omega) fun h1 hk=>⟨rfl,?_⟩
  refine I.turnedAll (t':=s.toks) hf fun c o hc q=>?_
  simp only [List.mem_cons,List.not_mem_nil,or_false,not_or] at hc
  exact hk c o hc.2 q
 self:=fun A i s Q E t h=>by
  obtain ⟨old,e0⟩:=t.enm;exact wpAny_pyIter_enum e0 h
def iEnum (K:Ap) (ta:TA):TI:=fun σ H R=>ta σ H fun vs H1=>∃ a,vs=[.ref a]/\(∃ xs,SqL K H1 a xs)/\R (Ite K a) H1
theorem pi_enum (hg:Gl X "enumerate") (hm:X.mg "enumerate" = none) (ha:PA X [e1] ta) (q1:plainE e1=true:=by rfl) :
  PI X (.Tuple es k1 pt) (.Call (.Name "enumerate" p) [e1] [] pos) (iEnum X.K ta):=by
 intro pins s σ H R I h;refine Call_ (ld_blt I hg hm boot_enumerate (PyProof.Rows.callWith_type1 (thn (ha pos pins s σ H _ I h) fun us s1 ⟨vs,H1,I1,r1,q⟩=>?_) (qz q1 _ _) rfl));obtain ⟨a,rfl,⟨xs,qa⟩,q⟩:=q;obtain ⟨u,rfl,ra⟩:=vals1 r1
 cases ra
 obtain ⟨as,_,pa,_⟩:=I1.list qa;refine call_enumerate_list pa.isList fun h2 z1 z2 z3 kp=>?_
 refine wpAny_pyIter_enum z1 ?_;have I2:Inv X pins σ H1 { s1 with heap:=h2,toks:=s1.toks }:=I1.kept kp;refine ⟨_,_,_,_,H1,rfl,I2,turn_enum _ _ a,⟨Nat.succ_ne_self _,⟨_,z1⟩,z2⟩,fun c hc=>?_,q⟩;have hc':s1.heap.objs.size<=c:=by
  simp only [List.mem_cons,List.not_mem_nil,or_false] at hc
  rcases hc with h | h <;> rw [h] <;> first | exact Nat.le_refl _ | exact Nat.le_add_right _ _
 exact I1.fpOk hc' (I1.hok.fresh hc')
inductive DEq (K:Ap) (H:Hp):Nat->V->V->Prop where
 | flat {n:Nat} {x:V} (h:flatV x=true):DEq K H n x x
 | same {n:Nat} (a:Addr):DEq K H n (.ref a) (.ref a)
 | tup {n:Nat} {a b:Addr} {xs ys:List V} (ha:SqT K H a xs) (hb:SqT K H b ys) (hl:xs.length=ys.length) (h:∀ (j:Nat) (x y:V),xs[j]?=some x->ys[j]?=some y->DEq K H n x y):DEq K H (n+1) (.ref a) (.ref b)
 | lst {n:Nat} {a b:Addr} {xs ys:List V} (ha:SqL K H a xs) (hb:SqL K H b ys) (hl:xs.length=ys.length) (h:∀ (j:Nat) (x y:V),xs[j]?=some x->ys[j]?=some y->DEq K H n x y):DEq K H (n+1) (.ref a) (.ref b)
section
variable {X:Cx} {pins:List (Addr×Obj)} {σ:St} {H:Hp} {s:Shared}
end
section
variable {X:Cx}
end
section
variable {X:Cx}
end
section
variable {X:Cx} {pins:List (Addr×Obj)} {σ:St} {H:Hp} {s:Shared}
end
end L2
namespace BP
end BP
namespace L2
open PySem PySem.Spec PyProof.Rows BP
theorem boot_set:bootBuiltins "set" = some (.type "set"):=PyProof.Rows.boot_set
section
variable {X:Cx}
theorem ints_are:∀ {ns:List Int} {us:List Value},Vals (ns.map V.int) us->PyProof.Rows.IntsAre us ns
 | [],_,.nil=>by constructor
 | n::ns,_,.cons h t=>by
  obtain ⟨k,rfl⟩:=h
  constructor
  exact ints_are t
theorem dedup_nodup:∀ (xs acc:List Int),(acc++xs).Nodup->xs.foldl step_dedup acc=acc++xs
 | [],acc,_=>by simp
 | x::xs,acc,h=>by
  have hx:x∉acc:=fun z=>by
   rw [List.nodup_append] at h;exact h.2.2 x z x Ae rfl
  have e:step_dedup acc x=acc++[x]:=by
   unfold step_dedup
   simp [hx]
  rw [List.foldl_cons,e,dedup_nodup xs (acc++[x]) (by simpa using h)]
  simp
theorem firstMet_nodup (h:ns.Nodup):firstMet (fun i=>ns.getD i 0) ns.length=ns:=by
 unfold firstMet;have e:(List.range ns.length).map (fun i=>ns.getD i 0)=ns:=by
  apply List.ext_getElem?
  intro j
  by_cases hj:j<ns.length
  ·simp [hj,List.getD]
  ·simp [hj]
 rw [e,dedup_nodup ns [] (by simpa using h)]
 simp
theorem call_len_setV:CallR X (.builtin "len") (fun xs H Q=>∃ (p:Addr) (S:Int->Bool) (n:Nat),xs=[.ref p]/\H p=some (.set S n)/\n<=100/\Q (.int n) H):=by
 intro pins s σ H xs us Q I r h;obtain ⟨p,S,n,rfl,hp,small,q⟩:=h;obtain ⟨u,rfl,rx⟩:=vals1 r
 cases rx
 obtain ⟨o,es,ep,t,h1,h2,h3,_,_,_,h7,h8⟩:=(show ObjOk X.prog X.w H s.heap p (.set S n) from I.hok p _ hp);exact call_len_set h1 h2 h3 h7 (by omega) ⟨.int n,H,I.tok _,⟨_,by rw [h8]⟩,q⟩
end
end L2
namespace BP
def D0:Nat:=84000000000
def bentQ (q:Rat):Rat:=if 0<q then q else 0
def Bd (D b:Nat) (q:Rat):Prop:=q.den∣D/\q.num.natAbs<=2^b*q.den
theorem Bd.mono (h:Bd D b q) (hd:D∣D') (hb:b<=b'):Bd D' b' q :=
 ⟨Nat.dvd_trans h.1 hd,Ao h.2 (Nat.mul_le_mul_right _ (Ab (by decide) hb))⟩
theorem Bd.sm (h:Bd D b q) (h0:0<D) (hD:D<2^n):SmQ (b+n) q:=by
 have k:q.den<2^n:=Nat.lt_of_le_of_lt (Nat.le_of_dvd h0 h.1) hD
 constructor
 ·show q.num.natAbs<2^(b+n)
  rw [Nat.pow_add];exact Nat.lt_of_le_of_lt h.2 (Nat.mul_lt_mul_of_pos_left k (Nat.pow_pos (by decide)))
 ·show (q.den:Int).natAbs<2^(b+n)
  rw [Ah];exact Af k (Ab (by decide) (by omega))
theorem Bd.of (hm:0<m) (h1:m∣D) (h2:t.natAbs<=2^b*m):Bd D b (Rat.divInt t m):=by
 have hne:(m:Int)≠0:=by omega
 have e:=n_rat (t:=t) (b:=(m:Int)) hne;have s1:=sg_nt t (m:Int);have s2:=sg_nb t (m:Int);rw [e.1] at s1;rw [e.2] at s2;have a1:=congrArg Int.natAbs s1;have a2:=congrArg Int.natAbs s2;rw [An,sg_abs] at a1 a2;have g:=gcd_pos (t:=t) hne;rw [Ah,Ah] at a2;refine ⟨Nat.dvd_trans ⟨Int.gcd t m,by rw [Nat.mul_comm]; exact a2.symm⟩ h1,?_⟩;have h2:Int.gcd t m*(Rat.divInt t m).num.natAbs<=2^b*(Int.gcd t m*(Rat.divInt t m).den):=by rw [a1,a2]; exact h2
 refine Nat.le_of_mul_le_mul_left (c:=Int.gcd t m) ?_ g
 calc Int.gcd t m*(Rat.divInt t m).num.natAbs<=2^b*(Int.gcd t m*(Rat.divInt t m).den):=h2
  _=Int.gcd t m*(2^b*(Rat.divInt t m).den):=by rw [<- Nat.mul_assoc,<- Nat.mul_assoc,Nat.mul_comm (2^b)]
theorem Bd.mul (h:Bd D b x) (k:Bd E c y):Bd (D*E) (b+c) (x*y):=by
 have r:x*y=Rat.divInt (x.num*y.num) ((x.den*y.den:Nat):Int):=by
  rw [Int.natCast_mul,<- Rat.divInt_mul_divInt,Ai,Ai]
 rw [r];refine Bd.of (Nat.mul_pos x.den_pos y.den_pos) (Nat.mul_dvd_mul h.1 k.1) ?_;rw [An,Nat.pow_add]
 calc x.num.natAbs*y.num.natAbs<=(2^b*x.den)*(2^c*y.den):=Nat.mul_le_mul h.2 k.2
  _=2^b*2^c*(x.den*y.den):=by ac_rfl
theorem Bd.add (D0:0<D) (h:Bd D b x) (k:Bd D b y):Bd D (b+1) (x+y):=by
 obtain ⟨p,hp⟩:=h.1;obtain ⟨q,hq⟩:=k.1;have ne:((D:Nat):Int)≠0:=by omega
 have pp:p≠0:=fun z=>by rw [z,Nat.mul_zero] at hp; omega
 have qp:q≠0:=fun z=>by rw [z,Nat.mul_zero] at hq; omega
 have ex:x=Rat.divInt (x.num*(p:Int)) ((D:Nat):Int):=by
  have e:((D:Nat):Int)=(x.den:Int)*(p:Int):=by rw [<- Int.natCast_mul,<- hp]
  rw [e,Rat.divInt_mul_right (by omega),Ai]
 have ey:y=Rat.divInt (y.num*(q:Int)) ((D:Nat):Int):=by
  have e:((D:Nat):Int)=(y.den:Int)*(q:Int):=by rw [<- Int.natCast_mul,<- hq]
  rw [e,Rat.divInt_mul_right (by omega),Ai]
 have s:x+y=Rat.divInt (x.num*(p:Int)+y.num*(q:Int)) ((D:Nat):Int):=by
  have z:=Rat.divInt_add_divInt (x.num*(p:Int)) (y.num*(q:Int)) ne ne;rw [<- ex,<- ey] at z;rw [z];have e:x.num*(p:Int)*((D:Nat):Int)+y.num*(q:Int)*((D:Nat):Int)=(x.num*(p:Int)+y.num*(q:Int))*((D:Nat):Int):=by rw [Int.add_mul]
  rw [e,Rat.divInt_mul_right ne]
 rw [s];refine Bd.of D0 (Nat.dvd_refl _) ?_;have a1:(x.num*(p:Int)).natAbs<=2^b*D:=by
  rw [An,Ah,hp]
  calc x.num.natAbs*p<=2^b*x.den*p:=Nat.mul_le_mul_right _ h.2
   _=2^b*(x.den*p):=Nat.mul_assoc _ _ _
 have a2:(y.num*(q:Int)).natAbs<=2^b*D:=by
  rw [An,Ah,hq]
  calc y.num.natAbs*q<=2^b*y.den*q:=Nat.mul_le_mul_right _ k.2
   _=2^b*(y.den*q):=Nat.mul_assoc _ _ _
 have a3:=Int.natAbs_add_le (x.num*(p:Int)) (y.num*(q:Int));have e:2^(b+1)*D=2^b*D+2^b*D:=by rw [Nat.pow_succ,Nat.mul_comm (2^b) 2,Nat.mul_assoc,Nat.two_mul]
 omega
theorem Bd.zero (D b:Nat):Bd D b 0:=⟨Nat.one_dvd _,Nat.zero_le _⟩
theorem Bd.own {n:Nat} {q:Rat} (h:SmQ n q):Bd q.den n q:=⟨Nat.dvd_refl _,Ao (Nat.le_of_lt h.1) (Nat.le_mul_of_pos_right _ q.den_pos)⟩
theorem Bd.bent (h:Bd D b q):Bd D b (bentQ q):=by
 unfold bentQ
 split
 ·exact h
 ·exact Bd.zero D b
def prodD:List Rat->Nat
 | []=>1
 | q::qs=>q.den*prodD qs
theorem prodD_pos:∀ qs:List Rat,0<prodD qs
 | []=>by decide
 | q::qs=>Nat.mul_pos q.den_pos (prodD_pos qs)
theorem prodD_dvd:∀ {qs:List Rat} {q:Rat},q∈qs->q.den∣prodD qs
 | _::qs,q,h=>by
  rcases List.mem_cons.mp h with e | e
  ·subst e; exact Nat.dvd_mul_right _ _
  ·exact Nat.dvd_trans (prodD_dvd e) (Nat.dvd_mul_left _ _)
theorem prodD_lt {n:Nat}:∀ {qs:List Rat},(∀ q∈qs,SmQ n q)->prodD qs<2^(n*qs.length+1)
 | [],_=>by show 1<2^(n*0+1); simp
 | q::qs,h=>by
  have k:=prodD_lt (qs:=qs) fun x hx=>h x (List.mem_cons_of_mem _ hx)
  have l:q.den<2^n:=by
   have z:=(h q Ae).2;unfold Sm at z
   rwa [Ah] at z
  show q.den*prodD qs<_;rw [List.length_cons,show n*(qs.length+1)+1=n+(n*qs.length+1) by rw [Nat.mul_succ]; omega,Nat.pow_add];exact Nat.mul_lt_mul'' l k
end BP
namespace L2
open PySem PySem.Spec PyProof.Rows BP
end L2
namespace L2
open PySem PySem.Spec PyProof.Rows
section
variable {X:Cx}
end
section
variable {X:Cx}
theorem strs_are:∀ {ys:List Str} {us:List Value},Vals (ys.map V.str) us->StrsAre us ys
 | [],_,.nil=>.nil
 | y::ys,u::us,.cons r t=>by
  obtain ⟨tk,h⟩:=r;subst h;exact .cons _ _ (strs_are t)
end
section
variable {X:Cx}
inductive IsL (K:Ap) (H:Hp):V->String->Bool->Prop where
 | old {v:V} {s:String} {b:Bool} (h:IsI K H v s b):IsL K H v s b
 | lstTup {a:Addr} {xs:List V} (h:SqL K H a xs):IsL K H (.ref a) "tuple" false
 | tupList {a:Addr} {xs:List V} (h:SqT K H a xs):IsL K H (.ref a) "list" false
 | intList (i:Int):IsL K H (.int i) "list" false
 | intTup (i:Int):IsL K H (.int i) "tuple" false
theorem call_isl:CallR X (.builtin "isinstance") (fun xs H Q=>∃ x T b,xs=[x,.ty T]/\IsL X.K H x T b/\Q (.bl b) H):=by
 intro pins s σ H xs us Q I r h;obtain ⟨x,T,b,rfl,hi,q⟩:=h
 cases hi with
 | old h=>exact call_isi pins s σ H _ us Q I r ⟨_,_,_,rfl,h,q⟩
 | lstTup h =>
  obtain ⟨u,u',rfl,rx,rt⟩:=vals2 r
  cases rt
  cases rx
  obtain ⟨its,_,p,_⟩:=I.list h;obtain ⟨o,ho,hc,_⟩:=p.isList;exact IsiPair.list_tuple ho hc ⟨.bl false,H,I.tok _,rfl,q⟩
 | tupList h =>
  obtain ⟨u,u',rfl,rx,rt⟩:=vals2 r
  cases rt
  cases rx
  obtain ⟨its,_,⟨o,ho,hc,_⟩,_⟩:=I.tuple h;exact IsiPair.tuple_list ho hc ⟨.bl false,H,I.tok _,rfl,q⟩
 | intList i =>
  obtain ⟨u,u',rfl,rx,rt⟩:=vals2 r
  cases rt
  obtain ⟨t,rfl⟩:=rx;exact IsiPair.int_list ⟨.bl false,H,I.tok _,rfl,q⟩
 | intTup i =>
  obtain ⟨u,u',rfl,rx,rt⟩:=vals2 r
  cases rt
  obtain ⟨t,rfl⟩:=rx;exact IsiPair.int_tuple ⟨.bl false,H,I.tok _,rfl,q⟩
end
section
variable {prog:Program} {w:World} {A:Around} {E:Value->Shared->Prop} {h:Heap} {gs:Array GenState} {dr:Drawn} {tk:Nat} {os:OsState}
abbrev zobj (I O:Addr) (f0:Value):Obj:={ cls:=.type "zip",dict:=none,data:=.fields #[f0,.bool false,.bool false,.ref I,.ref O],slots:=#[] }
abbrev pobj (x y:Value):Obj:={ cls:=.type "tuple",data:=.seq #[x,y] }
abbrev tobj (b:Addr) (n:Nat):Obj:={ cls:=.type "tuple_iterator",data:=.fields #[.ref b,.int n 0] }
end
structure ZipStT (z I O i j a b:Addr) (n:Nat) (h:Heap):Prop where
 nd:[z,I,O,i,j].Nodup
 zip:h.get? z=some (zobj I O .none)
 its:h.get? I=some (pobj (.ref i) (.ref j))
 out:∃ x y,h.get? O=some (pobj x y)
 one:h.get? i=some (tobj a n)
 two:h.get? j=some (tobj b n)
 far:a≠O/\b≠O
section
variable {X:Cx}
end
open BP
section
variable {P:Program} {w:World} {H:Hp} {h:Heap} {a:Addr} {o:HO}
theorem ObjOk.has (x:ObjOk P w H h a o):∃ u,h.get? a=some u:=by
 cases o with
 | lst xs=>obtain ⟨_,_,_,_,e⟩:=x; exact ⟨_,e⟩
 | tup xs=>obtain ⟨_,_,_,u,e,_⟩:=x; exact ⟨u,e⟩
 | dK kvs=>obtain ⟨_,_,_,_,u,_,_,e,_⟩:=x; exact ⟨u,e⟩
 | dT kvs=>obtain ⟨_,_,_,_,u,_,_,e,_⟩:=x; exact ⟨u,e⟩
 | set S n=>obtain ⟨u,_,_,_,e,_⟩:=x; exact ⟨u,e⟩
 | ins C dx fs=>obtain ⟨_,_,_,e,_⟩:=x; exact ⟨_,e⟩
 | own y=>exact x
 | xd fs=>obtain ⟨_,⟨u,_,_,e,_⟩,_⟩:=x; exact ⟨u,e⟩
 | rng lo hi=>obtain ⟨_,_,_,e⟩:=x; exact ⟨_,e⟩
 | frz ob u=>exact ⟨_,x.1⟩
 | tbl ps=>exact ⟨_,(show h.get? a=some _ from x)⟩
 | met f y=>exact ⟨_,(show h.get? a=some _ from x)⟩
 | ext f=>exact x.2.1
theorem HOk.has (x:HOk P w H h) (e:(H a).isSome=true):∃ u,h.get? a=some u:=by
 obtain ⟨o,e⟩:=Option.isSome_iff_exists.mp e;exact (x a o e).has
end
def Cov (B:Heap) (outer:List Env) (s:Shared) (H':Hp) (h':Heap):Prop :=
 ∀ b o,h'.get? b=some o->((∃ u,s.heap.get? b=some u)\/(H' b).isSome=true)->b∉frs outer->B.get? b=some o
def CXE (P:Program) (w:World):CXT:=fun outer H s E e s' =>
 ∃ (ea C:Addr) (a0:Value) (H':Hp) (B:Heap),e=.ref ea/\s'.os=s.os/\AllBare s'.gens/\Un (frs outer) [] H H' s.heap s'.heap/\HOk P w H' s'.heap/\Heap.FlyingW B outer ea (.ref C) a0 s'.heap/\Cov B outer s H' s'.heap/\H' ea=none/\E (.ref C) none H'
section
variable {X:Cx} {pins:List (Addr×Obj)} {σ:St} {H H':Hp} {s s':Shared} {h' B:Heap}
theorem Inv.inStack (I:Inv X pins σ H s) {b:Addr} {u:Obj} (q:X.s₀.heap.get? b=some u) (hb:b∉X.fs):b∉frs X.stack:=fun z=>by
 rcases List.mem_cons.mp (I.stkSub b z) with e | e
 ·exact absurd (Af (Heap.lt_size q) I.ok.above) (by rw [e]; exact Nat.lt_irrefl _)
 ·exact hb e
theorem Inv.flown (I:Inv X pins σ H' s') (hex:X.ex=[]) (st:B.StaysIn h')
  (cov:∀ b o,s'.heap.get? b=some o->((∃ u,X.s₀.heap.get? b=some u)\/(H' b).isSome=true)->b∉frs X.stack->B.get? b=some o) (up:s'.heap.UpToSlots h') :
  Un X.fs [] X.H₀ H' X.s₀.heap h'/\HOk X.prog X.w H' h'/\Cov B X.outer X.s₀ H' h':=by
 have nex:∀ b:Addr,b∉X.ex:=fun b z=>by rw [hex] at z; cases z
 have fr:∀ b,b∈X.fs->∀ o,s'.heap.get? b=some o->∃ sl,h'.get? b=some { o with slots:=sl }:=fun b hb o e=>by
  obtain ⟨_,o',e',hd⟩:=I.funs.mem hb;rw [e] at e'
  cases e'
  exact up b o e hd
 have tr:∀ c:Addr,(H' c).isSome=true->c∉frs X.stack:=fun c hc z=>by
  rw [I.stkFree c z] at hc
  cases hc
 refine ⟨⟨fun b o q n hb _=>?_,fun b o q n hb _=>?_,fun b o q n _=>I.base.free b o q n (nex b),fun b o q _=>?_,I.base.tups,I.base.frzs,I.base.tbls⟩,fun b u e=>?_,fun b o q hb hn=>?_⟩
 ·exact st b o (cov b o (I.base.keep b o q n hb (nex b)) (.inl ⟨o,q⟩) (I.inStack q hb))
 ·obtain ⟨sl,e⟩:=I.base.slot b o q n hb (nex b)
  obtain ⟨sl',e'⟩:=fr b hb _ e;exact ⟨sl',e'⟩
 ·obtain ⟨o',e⟩:=I.base.there b o q (nex b)
  by_cases hb:b∈X.fs
  ·obtain ⟨sl,e'⟩:=fr b hb _ e
   exact ⟨_,e'⟩
  ·exact ⟨o',st b o' (cov b o' e (.inl ⟨o,q⟩) (I.inStack q hb))⟩
 ·refine (I.hok b u e).stay (fun c v hc q=>?_) (fun _ q=>q) fun _ _ q=>q
  have hs:(H' c).isSome=true:=by
   rcases hc with rfl | hc
   ·rw [e]; rfl
   ·rw [hc]; rfl
  exact st c v (cov c v q (.inr hs) (tr c hs))
 ·have ex:∃ o',s'.heap.get? b=some o':=by
   rcases hb with ⟨u,hu⟩ | hs
   ·exact I.base.there b u hu (nex b)
   ·exact I.hok.has hs
  obtain ⟨o',e⟩:=ex;have hns:b∉frs X.stack:=by
   rcases hb with ⟨u,hu⟩ | hs
   ·exact I.inStack hu hn
   ·exact tr b hs
  have e2:=cov b o' e hb hns;have e3:=st b o' e2;rw [q] at e3
  cases e3
  exact e2
theorem leaveE {E:XK} {e:Value} {E2:Value->Shared->Prop} (I:Inv X pins σ H s) (hst:X.stack=X.env::X.outer) (hfr:X.env.frame=some X.env.locals) (hex:X.ex=[])
  (h:CXE X.prog X.w X.stack H s E e s'):wpAny (model X.prog X.w) X.A (leaving X.env e) (fun _ s''=>CXE X.prog X.w X.outer X.H₀ X.s₀ E e s'') E2 s':=by
 obtain ⟨ea,C,a0,H',B,rfl,os,bare,un,hok,fl,cov,hea,hE⟩:=h;have I2:Inv X pins σ H' s':=I.call' (ch:=[]) os un hok bare (fun b z=>absurd z (by simp));have fl2:Heap.FlyingW B (X.env::X.outer) ea (.ref C) a0 s'.heap:=by rw [<- hst]; exact fl
 refine wpAny_leaves_onW (by rw [I.ok.frames,hst]) hfr fl2 fun h' fl' up=>?_
 obtain ⟨u1,k1,c1⟩:=I2.flown hex fl'.1 (fun b o q hb hn=>cov b o q (hb.imp (fun ⟨u,hu⟩=>I.base.there b u hu (by rw [hex]; simp)) id) hn) up;exact ⟨ea,C,a0,H',B,rfl,I2.os,bare,u1,k1,fl',c1,hea,hE⟩
theorem passE {P:Program} {w:World} {K:Ap} {mg:Str->Option Value} {base:Heap} {N:List Str} {qual:Str} {scope:Scope} {f:Addr} {cd:Value} {A:Around} {outer:List Env} {s:Shared} {H:Hp} {E:XK} :
  wJ (CXE P w) (cxOf (CXE P w) P w K mg base N qual scope f cd A outer s H E) E:=fun _ _ _ _ _ _ I h=>leaveE I rfl rfl rfl h
end
theorem Fun.okE {P:Program} {w:World} {K:Ap} {mg:Str->Option Value} {base:Heap} {x qual:Str} {st:Stmt} {f:Addr} {fd:FuncData} {N ps:List Str} {k:Nat} {sp:Sp} (F:Fun K x qual st f fd) (S:FnScope N ps (qZ st))
  (len:∀ vs H Q E,sp vs H Q E->vs.length=ps.length)
  (hbody:∀ (cdv:Value) (A:Around) (outer:List Env) (s:Shared) (H:Hp) (vs:List V) (Q:VK) (E:XK),Room k (A.deeper (envOfC qual (qZ st) s.heap.objs.size f cdv))->sp vs H Q E->∃ t,PSs (cxOf (CXE P w) P w K mg base N qual (qZ st) f cdv A outer s H E) (zQ st) t/\t { nx:=fun _ H'=>Q .non H',rt:=Q } (start N vs) H):FnOk P w K mg base (CXE P w) (k+1) f fd ps sp:=by
 obtain ⟨oc,od,kV,doc,pm,an,cdv,ct,osl,rfl,lk,hcd⟩:=F.ex;exact fn_of lk hcd S len fun A outer s H vs Q E hr hsp=>hbody cdv A outer s H vs Q E hr hsp
abbrev veB:List Value:=[.type "ValueError",.type "Exception",.type "BaseException",.type "object"]
theorem own_obj {K:Ap} {h:Heap} {C:Addr} {newId:String} (Y:K.In h) (q:PySem.W.excIn K C veB newId=true) :
  ∃ bm N nm qn bs hd sn sub ab col dd k0 k1 k2 k3 k5 mN,h.get? C=some (excClassObj nm qn C N bs bm hd sn sub ab col dd k0 k1 k2 k3 k5 newId)/\h.Ns N mN/\mN "__init__" = none/\OwnTail h veB bm:=by
 unfold PySem.W.excIn at q
 split at q
 next dd cd sl look =>
  split at q
  next C2 bm k0 k1 k2 k3 n2 k5 em es =>
   rw [Bool.and_eq_true,Bool.and_eq_true,Bool.and_eq_true,Bool.and_eq_true,Bool.and_eq_true] at q;obtain ⟨⟨⟨⟨⟨q1,q2⟩,q3⟩,q4⟩,q5⟩,q6⟩:=q;have r1:C2=C:=beq_iff_eq.mp q1;have r2:n2=newId:=beq_iff_eq.mp q2;subst r1 r2;obtain ⟨nm,bs,mro,ns,qn,hd,sn,sub,ab,col,del⟩:=cd;have r3:del=false:=by simpa using q3
   have r4:mro=.ref C2::bm:=em;subst r3 r4;have r5:sl=#[k0,k1,k2,k3,some (.builtin n2),k5]:=by
    cases sl with
    | mk l=>exact congrArg Array.mk es
   subst r5;refine ⟨bm,ns,nm,qn,bs,hd,sn,sub,ab,col,dd,k0,k1,k2,k3,k5,h.nsMap ns,Y _ _ look,?_,?_,?_⟩
   ·exact Heap.Ns.of_isNs (PySem.W.isNs_of_in Y q5)
   ·exact PySem.W.nsMap_none_of_in Y q5 (beq_iff_eq.mp q6)
   ·exact PySem.W.tail_of_in Y q4
  all_goals exact absurd q Ag
 all_goals exact absurd q Ag
section
variable {X:Cx}
def tRaise (C:Addr) (E:XK) (ta:TA):TS:=fun _ σ H=>ta σ H fun vs H1=>vs.length<=sizeLine/\E (.ref C) none H1
theorem zv {E:XK} {x:Str} {C:Addr} {e0:Expr} {es:List Expr} {ta:TA} {np cpos pos:Pos} (hst:X.stack=X.env::X.outer) (hfr:X.env.frame=some X.env.locals) (hex:X.ex=[]) (hcalm:X.calm=true)
  (hxe:X.xe=fun e s'=>wpAny (model X.prog X.w) X.A (leaving X.env e) (fun _ s''=>CXE X.prog X.w X.outer X.H₀ X.s₀ E e s'') (fun e' s''=>CXE X.prog X.w X.outer X.H₀ X.s₀ E e' s'') s')
  (hC:PySem.W.excIn X.K C veB "ValueError.__new__" = true) (hg:Gl X x) (hm:X.mg x=some (.ref C)) (ha:PA X (e0::es) ta)
  (hd:(x==("__debug__" : Str))=false:=by decide) (he:starEach (e0::es) X.env=(false,eval e0 X.env)::starEach es X.env:=by rfl)
  (hpl:(backTo cpos (starEach (e0::es) X.env)).any (·.1)=false:=by rfl) (hpl2:(backTo cpos (starEach es X.env)).any (·.1)=false:=by rfl) :
  PS X (.Raise (some (.Call (.Name x np) (e0::es) [] cpos)) none pos) (tRaise C E ta):=by
 intro pins s σ H D I h;obtain ⟨bm,N,nm,qn,bs,hdc,sn,sub,ab,col,dd,k0,k1,k2,k3,k5,mN,oC,oN,oi,oT⟩:=own_obj I.mod.kin hC;refine wpAny_Raise_call_subT (C:=C) (nm:=nm) (q:=qn) (N:=N) (bs:=bs) (bm:=bm) (hdct:=hdc) (sn:=sn) (sub:=sub) (ab:=ab) (col:=col) (dd:=dd) (k0:=k0) (k1:=k1) (k2:=k2) (k3:=k3) (k5:=k5)
  PySem.F.excBase_ValueError (mN:=mN) (oT.hasType (by decide)) (I.ok.hd hcalm) hpl oi (QJ I hg hm ⟨rfl,?_⟩ hd)
 have pa:=ha cpos pins s σ H _ I h;rw [he] at pa ⊢;refine Calls.evalArgs_plain (wpAny_mono pa (fun us s2 z=>?_) fun _ _ y=>y);obtain ⟨vs,H1,I1,r,hl,hE⟩:=z;refine ⟨rfl,by rw [<- r.length]; exact hl,I1.bk _ _ oC,oN.keeps I1.bk,oT.keeps I1.bk,fun h3 e3 made=>?_⟩;rw [hxe];have I3:Inv X pins σ H1 { s2 with heap:=h3 }:=I1.kept (t':=s2.toks) made.keeps;have stk:s2.heap.FunFrames (PySem.W.hideAll s2.heap (frs X.stack)) (X.env::X.outer):=by
  rw [<- hst];exact PySem.W.funFrames_hide I1.stack fun env hen b hb=>List.mem_filterMap.mpr ⟨env,hen,hb⟩
 refine wpAny_leaves_madeW (base:=PySem.W.hideAll s2.heap (frs X.stack)) (by rw [I1.ok.frames,hst]) hfr (fun b o q=>PySem.W.of_hideAll _ q) stk made fun h4 t fl _ _ up=>?_
 have cov3:∀ b o,h3.get? b=some o->((∃ u,X.s₀.heap.get? b=some u)\/(H1 b).isSome=true)->b∉frs X.stack->(PySem.W.hideAll s2.heap (frs X.stack)).get? b=some o:=fun b o q hb hn=>by
  have ex:∃ o',s2.heap.get? b=some o':=by
   rcases hb with ⟨u,hu⟩ | hs
   ·exact I1.base.there b u hu (by rw [hex]; simp)
   ·exact I1.hok.has hs
  obtain ⟨o',eo⟩:=ex;have eo2:h3.get? b=some o':=made.keeps b o' eo;have eq:some o=some o':=Eq.trans (Eq.symm q) eo2
  cases eq
  exact PySem.W.hideAll_get _ eo hn
 obtain ⟨u1,k1,c1⟩:=I3.flown hex fl.1 cov3 up;refine ⟨e3,C,_,H1,_,rfl,I3.os,I3.bare,u1,k1,fl,c1,?_,hE⟩
 cases z:H1 e3 with
 | none=>rfl
 | some v =>
  obtain ⟨u,hu⟩:=I1.hok.has (a:=e3) (by rw [z]; rfl);rw [made.new] at hu
  cases hu
end
section
variable {X:Cx} {pins:List (Addr×Obj)} {σ:St} {H H1 H':Hp} {s s1 s':Shared} {h' B:Heap}
theorem Inv.fly (I1:Inv X pins σ H1 s1) (I2:Inv X pins σ H' s') (hex:X.ex=[]) (cov:Cov B X.stack s1 H' s'.heap) (st:B.StaysIn h') (up:s'.heap.UpToSlots h'):Inv X pins σ H' { s' with heap:=h' }:=by
 obtain ⟨u1,k1,_⟩:=I2.flown hex st (fun b o q hb hn=>cov b o q (hb.imp (fun ⟨u,hu⟩=>I1.base.there b u hu (by rw [hex]; simp)) id) hn) up;have cl:∀ c v,s'.heap.IsCell c v->h'.IsCell c v:=fun c v z=>by
  obtain ⟨o,ho,hd⟩:=z;obtain ⟨sl,e⟩:=up c o ho (fun vs q=>by rw [hd] at q; cases q);exact ⟨_,e,hd⟩
 refine ⟨I2.ok,I2.os,I2.bare,?_,?_,fun x c e=>?_,I2.free,I2.freeC,fun p hp=>?_,k1,I2.len⟩
 ·rw [hex]
  exact u1
 ·obtain ⟨m,hn,hl⟩:=I2.loc
  refine ⟨m,up.ns hn,fun i x v e1 e2 e3=>?_⟩;obtain ⟨u,r,l⟩:=hl i x v e1 e2 e3;refine ⟨u,r,?_⟩
  rcases l with l | ⟨k,c,e,z⟩
  ·exact .inl l
  ·exact .inr ⟨k,c,e,cl c _ z⟩
 ·obtain ⟨v,z⟩:=I2.cell x c e
  exact ⟨v,cl c v z⟩
 ·obtain ⟨e,n,ne,nf,d⟩:=I2.pin p hp
  obtain ⟨e1,_⟩:=I1.pin p hp;have hns:p.1∉frs X.stack:=fun z=>(List.mem_cons.mp (I2.stkSub _ z)).elim ne nf
  exact ⟨st _ _ (cov _ _ e (.inl ⟨_,e1⟩) hns),n,ne,nf,d⟩
abbrev Cx.inHandler (X:Cx) (ea:Addr):Cx:={ X with A:=X.A.mark (some (.ref ea)),calm:=false,xe:=fun _ _=>False }
theorem Inv.toHandler (I:Inv X pins σ H s) (ea:Addr):Inv (X.inHandler ea) pins σ H s :=
 ⟨⟨I.ok.mod,I.ok.kind,I.ok.glob,I.ok.blt,I.ok.above,I.ok.inj,I.ok.has,I.ok.cab,fun z=>absurd z Ag,I.ok.frames,I.ok.stk,I.ok.exf,I.ok.bs,I.ok.bsz,I.ok.noex,I.ok.exfs,I.ok.funs,I.ok.frf⟩,I.os,I.bare,I.base,I.loc,I.cell,I.free,I.freeC,I.pin,I.hok,I.len⟩
theorem Inv.fromHandler {ea:Addr} (I:Inv (X.inHandler ea) pins σ H s) (ok:X.Ok):Inv X pins σ H s:=⟨ok,I.os,I.bare,I.base,I.loc,I.cell,I.free,I.freeC,I.pin,I.hok,I.len⟩
theorem Inv.goes {M:Model} {A:Around} {E:Value->Shared->Prop} {n:Str} {i:Nat} {pos:Pos} {Q:Unit->Shared->Prop} (I:Inv X pins σ H s) (hN:X.N.Nodup) (hi:X.N[i]?=some n) (hk:X.env.scope.names.lookup n=some .local)
  (h:∀ s',Inv X pins (σ.set i none) H s'->Q () s'):wpAny M A (do bindName X.env n .none; unbindBehindTheSuite X.env n pos) Q E s:=by
 obtain ⟨m,hn,hl⟩:=id I.loc;refine wpAny_nameGoes_keeps hk hn (by rw [I.ok.kind]; rfl) fun h' v hn' hs=>h _ ?_
 have hiσ:i<σ.length:=by rw [I.len]; exact (List.getElem?_eq_some_iff.mp hi).1
 have lt:∀ b o,X.s₀.heap.get? b=some o->b≠X.env.locals:=fun b o e=>Nat.ne_of_lt (Af (Heap.lt_size e) I.ok.above)
 refine ⟨I.ok,I.os,I.bare,⟨fun b o e n hb hx=>(hs.2 b (lt b o e)).trans (I.base.keep b o e n hb hx),fun b o e n hb hx=>?_,I.base.free,fun b o e hx=>?_,I.base.tups,I.base.frzs,I.base.tbls⟩,⟨_,hn',fun j y v' e1 e2 e3=>?_⟩,fun y c e=>?_,I.free,I.freeC,fun p hp=>?_,fun b u e=>?_,by simpa using I.len⟩
 ·obtain ⟨sl,z⟩:=I.base.slot b o e n hb hx
  exact ⟨sl,(hs.2 b (lt b o e)).trans z⟩
 ·obtain ⟨o',z⟩:=I.base.there b o e hx
  exact ⟨o',(hs.2 b (lt b o e)).trans z⟩
 ·by_cases hj:j=i
  ·subst hj
   rw [List.getElem?_set_self hiσ] at e2
   cases e2
  ·rw [Ac (Ne.symm hj)] at e2
   obtain ⟨u',r',q⟩:=hl j y v' e1 e2 e3;refine ⟨u',r',?_⟩
   rcases q with ⟨k,e⟩ | ⟨k,c,e,z⟩
   ·refine .inl ⟨k,?_⟩
    have ny:y≠n:=fun e=>hj (nodup_ix hN e1 (e ▸ hi))
    simp [ny,e]
   ·exact .inr ⟨k,c,e,z.sameBut hs (I.cne y c e)⟩
 ·obtain ⟨w',z⟩:=I.cell y c e
  exact ⟨w',z.sameBut hs (I.cne y c e)⟩
 ·obtain ⟨e,n,ne,nf,d⟩:=I.pin p hp
  exact ⟨(hs.2 p.1 ne).trans e,n,ne,nf,d⟩
 ·have nl:∀ c,(H c).isSome=true->c≠X.env.locals:=fun c hc z=>by
   rw [z,I.free] at hc
   cases hc
  refine (I.hok b u e).stay (fun c w' hc q=>(hs.2 c (nl c ?_)).trans q) (fun _ q=>q) fun _ _ q=>q
  rcases hc with rfl | hc
  ·rw [e]; rfl
  ·rw [hc]; rfl
end
theorem matches_up {K:Ap} {M:Model} {A:Around} {E:Value->Shared->Prop} {h:Heap} {g:Array GenState} {d:Drawn} {t:Nat} {os:OsState} {e C CB:Addr} {oe:Obj} {Q:Bool->Shared->Prop}
  (Y:K.In h) (he:h.get? e=some oe) (hcls:oe.cls=.ref C) (hB:PySem.W.excIn K CB veB "ValueError.__new__" = true) (hm:PySem.W.mroIn K C (.ref CB)=some true)
  (hq:Q true ⟨h,g,d,t,os⟩):wpAny M A (excMatches (.ref e) (.ref CB)) Q E ⟨h,g,d,t,os⟩:=by
 obtain ⟨bm,N,nm,qn,bs,hd,sn,sub,ab,col,dd,k0,k1,k2,k3,k5,mN,oB,_,_,oT⟩:=own_obj Y hB;have a1:(Value.ref CB::bm).contains (.type "BaseException")=true:=by rw [List.contains_cons,oT.hasType (b:=true) (by decide),Bool.or_true]
 have LM:=PySem.W.looks_mroIn (M:=M) Y hm;have nt:=tc_notTuple;unfold excMatches
 repeat (first
  | (with_reducible refine wpAny_loadPart_at he ?_; rw [hcls])
  | with_reducible refine wpAny_loadPart_at oB ?_
  | (with_reducible refine wpAny_isSubtype_exc oB ?_; rw [a1])
  | with_reducible refine PySem.W.Looks.at LM ?_
  | wp_step)
 exact hq
def ExcAt (e C:Addr) (h:Heap):Prop:=∃ ox,h.get? e=some ox/\ox.cls=.ref C
theorem excAt_ok {P:Program} {w:World} {H:Hp} {h:Heap} {e C:Addr} (x:ExcAt e C h):ObjOk P w H h e (.ext (ExcAt e C)):=by
 obtain ⟨ox,h1,h2⟩:=x;exact ⟨⟨ox,h1,h2⟩,⟨ox,h1⟩,fun _ _ ⟨o,a,b⟩ k=>⟨o,k o a,b⟩⟩
structure Under (K:Ap) (C CB:Addr):Prop where
 up:PySem.W.excIn K CB veB "ValueError.__new__" = true
 mro:PySem.W.mroIn K C (.ref CB)=some true
section
variable {X:Cx}
end
open PySem.Calls PySem.Builtin PySem.Builtin.ObjectAttr PySem.Builtin.Getset_descriptor
structure ExcCls (K:Ap) (C:Addr):Prop where
 cls:(PySem.W.clsIn K C).isSome=true
 ga:PySem.W.findIn K (.ref C) "__getattribute__" = some (some (.builtin "BaseException.__getattribute__"))
 hook:PySem.W.findIn K (.ref C) "__getattr__" = some none
 own:PySem.W.findIn K (.ref C) "__class__" = some (some (.builtin "object.__class__"))
 get:PySem.W.specialIn K (.builtin "object.__class__") "__get__" = some (some (.builtin "getset_descriptor.__get__"))
 takes:PySem.W.takesIn K (.builtin "object.__class__")=some true
 obj:PySem.W.mroIn K C (.type "object")=some true
 exc:PySem.W.mroIn K C (.type "BaseException")=some true
theorem QW {K:Ap} {C:Addr} {n:String} (q:PySem.W.excIn K C veB n=true):(PySem.W.clsIn K C).isSome=true:=by
 unfold PySem.W.excIn at q
 split at q
 next dd cd sl look =>
  unfold PySem.W.clsIn;rw [look];rfl
 all_goals exact absurd q Ag
section
variable {K:Ap} {C ea:Addr} {prog:Program} {w:World} {A:Around} {E:Value->Shared->Prop} {s:Shared}
theorem excAt_type {M:Model} {h:Heap} (x:ExcAt ea C h):PySem.W.Looks M h (typeOf (.ref ea)) (.ref C):=by
 obtain ⟨ox,h1,h2⟩:=x;exact h2 ▸ (PySem.W.Looks.ld h1).andThen .now
theorem exc_class_get {R:Result->Shared->Prop} {tp:Value} (Y:K.In s.heap) (x:ExcAt ea C s.heap) (Z:ExcCls K C) (q:R (.ok (.ret (.ref C))) s) :
  codeAny (model prog w) A (.call (.builtin "getset_descriptor.__get__") ⟨[.builtin "object.__class__",.ref ea,tp],[]⟩) R s:=by
 have LT:=excAt_type (M:=model prog w) x;have LO:=PySem.W.looks_mroIn (M:=model prog w) Y Z.obj;obtain ⟨hh,g,dr,t,os⟩:=s;refine codeAny_call_builtin PySem.F.slot_gs_get.plain PySem.F.entry_gs_get
  (PySem.F.slot_gs_get.check _ _ _ _ _ _ _ _ (show (⟨hh,g,dr,t,os⟩:Shared).TypeIs (.builtin "object.__class__") "getset_descriptor" from PySem.F.typeOf_object_class) (PySem.F.args_gs_get _ _ _) ?_)
 unfold Builtin.«getset_descriptor.__get__» descrGet;rw [PySem.W.dga_obj];refine wpAny_bind (wpAny_pure ?_);unfold descrGetter descrCheckInstance descrNameAndClass isInstance
 simp only [PySem.W.KF.owner_class]
 repeat lk
 refine ⟨Code.quiet_builtin _ (by decide +kernel),codeAny_builtin PySem.F.entry_object_class ?_⟩;unfold Builtin.«object.__class__» shownTypeOf
 repeat lk
 exact q
theorem exc_find {M:Model} {h:Heap} (Y:K.In h) (Z:ExcCls K C):PySem.W.Looks M h (find (.ref ea) (.ref C) "__class__") (.bind (.builtin "getset_descriptor.__get__") (.builtin "object.__class__")):=by
 have L1:=PySem.W.looks_findIn (M:=M) Y Z.own;have L2:PySem.W.Looks M h (getOf (some (.builtin "object.__class__"))) (some (.builtin "getset_descriptor.__get__")):=PySem.W.looks_specialIn Y Z.get;have L3:=PySem.W.looks_takesIn (M:=M) Y Z.takes;refine L1.andThen (L2.andThen ?_);refine PySem.W.Looks.andThen (a:=some (Value.builtin "getset_descriptor.__get__",Value.builtin "object.__class__")) ?_ (PySem.W.Looks.tag .now);refine L3.andThen ?_;exact .now
theorem exc_class {Q:Option Value->Shared->Prop} (Y:K.In s.heap) (x:ExcAt ea C s.heap) (Z:ExcCls K C) (q:Q (some (.ref C)) { s with toks:=s.toks+1 }) :
  wpAny (model prog w) A (getAttr? (.ref ea) "__class__") Q E s:=by
 obtain ⟨hh,g,d,t,os⟩:=s;have LT:=excAt_type (M:=model prog w) x;have LG:=PySem.W.looks_findIn (M:=model prog w) Y Z.ga;have LH:=PySem.W.looks_findIn (M:=model prog w) Y Z.hook;have LB:=PySem.W.looks_mroIn (M:=model prog w) Y Z.exc;have LF:=exc_find (M:=model prog w) (ea:=ea) Y Z;unfold getAttr? getAttrBy? getAttrBy;refine wpAny_bind (wpAny_mkText (wpAny_bind (wpAny_attempt ?_)));refine wpAny_holding (wpAny_bind (LT.at ?_));refine wpAny_bind (LG.at ?_);show wpAny _ _ (getAttrByItsOwn _ _ _ _ _ _) _ _ _;unfold getAttrByItsOwn;refine wpAny_bind (LH.at ?_);refine wpAny_bind (wpAny_attempt (wpAny_holding ?_));show wpAny _ _ (boundAndCalled _ _ _) _ _ _;unfold boundAndCalled;rw [PySem.F.excAttr_ValueError.ga.bind (.ref ea)];refine wpAny_bind (wpAny_pure ?_);refine wpAny_call (codeAny_call_builtin PySem.F.excAttr_ValueError.ga.plain PySem.F.entry_bexc_ga ?_);have kd:builtinKind "BaseException.__getattribute__" = some .slot:=by
  decide +kernel
 have sp:splitId "BaseException.__getattribute__" = some ("BaseException", "__getattribute__"):=by
  decide +kernel
 have ok:=PySem.F.args_bexc_ga (.ref ea) (.str "__class__" t)
 simp only [checkBuiltinCall,kd,sp]
 refine wpAny_bind ?_;unfold isInstance
 repeat lk
 refine wpAny_run (h:=none) (c:=.call (.builtin "getset_descriptor.__get__") ⟨[.builtin "object.__class__",.ref ea,.ref C],[]⟩) ?_;refine exc_class_get (s:=⟨hh,g,d,t+1,os⟩) Y x Z ?_
 repeat lk
 exact q
theorem kitx_exc (Z:ExcCls K C):PySem.W.KitX K (.ref ea) (.ref C) (ExcAt ea C) where
 ty:=fun _ _ _ x=>excAt_type x
 it:=fun _ _ Y _=>by
  have z:=Z.cls;unfold PySem.W.clsIn at z
  split at z
  next c' d' cd' sl' ho =>
   intro A' Q' E' s' k q;unfold isType loadHead;refine wpAny_bind ?_;exact wpAny_loadPart (k _ _ (Y _ _ ho)) (wpAny_pure q)
  next=>exact absurd z (by decide)
 ne:=fun h tp dd its n sl Y htp=>by
  have z:=Z.cls;refine Bool.eq_false_iff.mpr fun q=>?_
  have e:C=tp:=Value.ref.inj (beq_iff_eq.mp q);subst e;unfold PySem.W.clsIn at z
  split at z
  next c' d' cd' sl' ho =>
   have y:=Eq.trans (Eq.symm (Y _ _ ho)) htp
   cases y
  next=>exact absurd z (by decide)
 ca:=fun Y x q=>exc_class Y x Z q
end
def clsV:V->Option Value
 | .ref D=>some (.ref D)
 | .ty t=>some (.type t)
 | _=>none
theorem Q6 {X:Cx}:CallR X (.builtin "isinstance") (fun xs H Q=>∃ ea C c cv b,xs=[.ref ea,c]/\clsV c=some cv/\H ea=some (.ext (ExcAt ea C))/\ExcCls X.K C/\PySem.W.kitOne X.K (.ref C) cv=some b/\Q (.bl b) H):=by
 intro pins s σ H xs us Q I r h;obtain ⟨ea,C,c,cv,b,rfl,hc,he,Z,kt,q⟩:=h;obtain ⟨u,u',rfl,rx,rc⟩:=vals2 r
 cases rx
 have ev:u'=cv:=by
  cases c with
  | ref D=>cases rc; exact Am hc
  | ty t=>cases rc; exact Am hc
  | _=>exact absurd hc (by simp [clsV])
 subst ev;obtain ⟨x,_,_⟩:=(show ObjOk X.prog X.w H s.heap ea (.ext (ExcAt ea C)) from I.hok ea _ he);exact PySem.W.kia_one (kitx_exc Z) I.kIn x kt (fun z=>nomatch z) fun tk=>⟨.bl b,H,I.tok tk,rfl,q⟩
theorem passN {P:Program} {w:World} {X:Cx}:wJ (CXE P w) X E0:=fun _ _ _ _ _ _ _ h=>by
 obtain ⟨_,_,_,_,_,_,_,_,_,_,_,_,_,hE⟩:=h;exact hE.elim
theorem boot_ValueError:bootBuiltins "ValueError" = some (.type "ValueError"):=PyProof.Rows.Boot.«ValueError»
end L2
namespace L2
open PySem PySem.Spec PyProof.Rows BP
section
variable {X:Cx} {e stp:Expr} {te:TE} {lo hi:Option Expr} {tl th ts:TO} {pos p2:Pos}
theorem kit_none {K:Ap} {C:Addr}:∀ {Cs:List Addr},(∀ D∈Cs,PySem.W.kitOne K (.ref C) (.ref D)=some false)->PySem.W.kitAny K (.ref C) (Cs.map Value.ref)=some false
 | [],_=>rfl
 | D::Cs,h=>by
  rw [List.map_cons];unfold PySem.W.kitAny;rw [h D (Ae ..)];exact kit_none fun E hE=>h E (List.mem_cons_of_mem _ hE)
theorem vals_refs:∀ {Cs:List Addr} {us:List Value},Vals (Cs.map V.ref) us->us=Cs.map Value.ref
 | [],_,.nil=>rfl
 | _::_,_,.cons h r=>by
  cases h
  rw [vals_refs r];rfl
theorem call_isiN:CallR X (.builtin "isinstance") (fun xs H Q=>∃ (ea C tp:Addr) (Cs:List Addr),xs=[.ref ea,.ref tp]/\H ea=some (.ext (ExcAt ea C))/\ExcCls X.K C/\SqT X.K H tp (Cs.map V.ref)/\(∀ D∈Cs,PySem.W.kitOne X.K (.ref C) (.ref D)=some false)/\Q (.bl false) H):=by
 intro pins s σ H xs us Q I r h;obtain ⟨ea,C,tp,Cs,rfl,he,Z,ht,kt,q⟩:=h;obtain ⟨u,u',rfl,rx,rc⟩:=vals2 r
 cases rx
 cases rc
 obtain ⟨x,_,_⟩:=(show ObjOk X.prog X.w H s.heap ea (.ext (ExcAt ea C)) from I.hok ea _ he);obtain ⟨its,rv,⟨o,ho,hc,hd⟩,_⟩:=I.tuple ht;have ei:=vals_refs rv;subst ei;obtain ⟨c,d,dt,sl⟩:=o
 cases hc
 obtain ⟨n,hn⟩:=hd
 cases hn
 exact PySem.W.kia_tup (kitx_exc Z) I.kIn x ho (kit_none kt) (fun z=>nomatch z) fun tk=>⟨.bl false,H,I.tok tk,rfl,q⟩
end
section
variable {X:Cx} {tg:Expr}
def Its (x:Str):It:=⟨fun i _=>i<x.cps.size,fun i H v H'=>H'=H/\∃ c,x.cps[i]?=some c/\v=.str ⟨#[c]⟩,fun i _=>x.cps.size<=i⟩
theorem turn_str {P:Program} {w:World} {K:Ap} {tg:Expr} (it:Addr) (x:Str) (t:Tok):Turn P w K tg (Its x) [it] it (fun i h=>h.IsStrIter it "str_ascii_iterator" x t i) where
 mem:=List.mem_singleton.mpr rfl
 obj:=fun _ _ st b hb=>by
  rw [List.mem_singleton.mp hb];obtain ⟨o,e,_,d⟩:=st;exact ⟨o,e,fun _ z=>(by rw [d] at z; cases z)⟩
 keep:=fun _ _ _ ⟨o,e,r⟩ k=>⟨o,k it (List.mem_singleton.mpr rfl) o e,r⟩
 item:=by
  intro X hP hw hK hc i pins s σ H E I hf st hg;subst hP hw hK;obtain ⟨f0,f1,_,f3,f4,f5⟩:=hf it (List.mem_singleton.mpr rfl);have hg:i<x.cps.size:=hg;refine wpAny_pyNext_ascii_item st (c:=x.cps[i]) (Array.getElem?_eq_getElem hg) fun h2 st2 sb=>?_
  have I1:Inv X pins σ H { s with heap:=h2,toks:=s.toks+1 }:=I.turned (t':=s.toks+1) (fun b o hb e=>(sb.2 b hb).trans e) f0 f1 f3 f4 f5;obtain ⟨o,e,c,d⟩:=id st2;exact ⟨_,rfl,go_of (s:={ s with heap:=h2,toks:=s.toks+1 }) e c d (by decide) ⟨.str ⟨#[x.cps[i]]⟩,H,I1,⟨_,rfl⟩,⟨rfl,_,Array.getElem?_eq_getElem hg,rfl⟩,st2,fun b hb=>(hf b hb).1⟩⟩
 done:=by
  intro X hP hw hK hc i pins s σ H E I hf st hg;subst hP hw hK;obtain ⟨f0,f1,_,f3,f4,f5⟩:=hf it (List.mem_singleton.mpr rfl);exact wpAny_pyNext_ascii_end (I.ok.hd hc) st (Array.getElem?_eq_none hg) fun h2 eb=>⟨rfl,I.turned (t':=s.toks) (fun b o hb e=>eb b o hb e) f0 f1 f3 f4 f5⟩
 self:=fun _ _ _ _ _ st h=>wpAny_pyIter_striter_ascii st h
def iStr (tl:TE):TI:=fun σ H R=>tl σ H fun v H1=>∃ x:Str,v=.str x/\x.cps.all (·<128)=true/\R (Its x) H1
theorem pi_str {l:Expr} {tl:TE} (hl:PE X l tl):PI X tg l (iStr tl):=by
 intro pins s σ H R I h;refine thn (hl pins s σ H _ I h) fun v s1 ⟨y,H1,I1,r1,x,ey,ha,q⟩=>?_
 subst ey;obtain ⟨t,rfl⟩:=r1;refine wpAny_pyIter_ascii ha ⟨s1.heap.objs.size,[s1.heap.objs.size],_,Its x,H1,rfl,I1.kept (t':=s1.toks) (fun b o e=>Heap.get?_push_of_some _ e),turn_str _ x t,⟨_,Heap.get?_push_size _ rfl,rfl,rfl⟩,fun b hb=>?_,q⟩;rw [List.mem_singleton.mp hb];exact I1.fpOk (Nat.le_refl _) (I1.hok.fresh (Nat.le_refl _))
theorem call_int_str:CallR X (.type "int") (fun xs H Q=>∃ (x:Str) (n:Int),xs=[.str x]/\x.length<=640/\intText? x=some n/\Q (.int n) H):=by
 intro pins s σ H xs us Q I r h;obtain ⟨x,n,rfl,hz,hn,q⟩:=h;obtain ⟨u,rfl,t,rfl⟩:=vals1 r;exact PySem.W.KIN.call_text hn hz ⟨.int n,H,I.tok _,⟨_,rfl⟩,q⟩
theorem mt_startswith:MtR X "str.startswith" (fun x vs H Q=>∃ a b:Str,x=.str a/\vs=[.str b]/\Q (.bl (Txt.startswith a b)) H):=by
 intro pins s σ H x vs v us Q I rx rv h;obtain ⟨a,b,rfl,rfl,q⟩:=h;obtain ⟨t,rfl⟩:=rx;obtain ⟨u,rfl,t2,rfl⟩:=vals1 rv;exact SC.startswith ⟨.bl _,H,I,rfl,q⟩
theorem mt_partition:MtR X "str.partition" (fun x vs H Q=>∃ a b:Str,x=.str a/\vs=[.str b]/\(b.length==0)=false/\a.length<=sizeLine/\∀ p,H p=none->Q (.ref p) (upd H p (.tup [.str (Txt.partition a b).1,.str (Txt.partition a b).2.1,.str (Txt.partition a b).2.2]))):=by
 intro pins s σ H x vs v us Q I rx rv h;obtain ⟨a,b,rfl,rfl,hb,ha,q⟩:=h;obtain ⟨t,rfl⟩:=rx;obtain ⟨u,rfl,t2,rfl⟩:=vals1 rv;have q:=q _ I.fresh;refine call_meets F.slot_str_partition (typeIs_str _ _ _) F.entry_str_partition (F.args_str_partition_2 _ _) (meets_str_partition a b t t2 hb ha) ?_;unfold Txt.partition at q
 cases c:Builtin.Str.occurrences a b 0 a.length 1 with
 | nil =>
  rw [c] at q;refine ⟨.ref s.heap.objs.size,_,?_,rfl,q⟩;exact I.laid (fun _ _ e=>Heap.get?_push_of_some _ e) (Nat.le_refl _) ⟨(show 3<=sizeLine by decide),_,.cons ⟨_,rfl⟩ (.cons ⟨_,rfl⟩ (.cons ⟨_,rfl⟩ .nil)),⟨_,Heap.get?_push_size _ rfl,rfl,_,rfl⟩⟩
 | cons i rest =>
  rw [c] at q;refine ⟨.ref s.heap.objs.size,_,?_,rfl,q⟩;exact I.laid (fun _ _ e=>Heap.get?_push_of_some _ e) (Nat.le_refl _) ⟨(show 3<=sizeLine by decide),_,.cons ⟨_,rfl⟩ (.cons ⟨_,rfl⟩ (.cons ⟨_,rfl⟩ .nil)),⟨_,Heap.get?_push_size _ rfl,rfl,_,rfl⟩⟩
end
section
variable {prog:Program} {w:World} {A:Around} {E:Value->Shared->Prop} {s:Shared} {I l:Addr}
theorem rev_nolen:typeLookup (.type "list_reverseiterator") "__len__" = pure none:=by rw [typeLookup_type,builtinLookup_eq_fast]; kernel_rfl
theorem rev_hint:typeLookup (.type "list_reverseiterator") "__length_hint__" = pure (some (.builtin "list_reverseiterator.__length_hint__")):=by rw [typeLookup_type,builtinLookup_eq_fast]; kernel_rfl
theorem collect_rev {items:Array Value} {Q:List Value->Shared->Prop} (hh:A.handled=none) (hne:l≠I) (hit:s.heap.IsRevIter I l ((items.size:Int) - 1)) (hl:s.heap.IsList l items) (hn:items.size<=sizeLine)
  (hQ:∀ s2 acc,Moved [I] (fun a b=>b=a) s s2->ItemsOf (fun i v=>items[items.size - 1 - i]?=some v) acc items.size->Q acc.toList s2):wpAny (model prog w) A (collect (.ref I)) Q E s:=by
 have W:=(Walks.listRev (prog:=prog) (w:=w) (A:=A.in1) hh I l hne items).toS;have lt:∀ b∈[I,l],b<s.heap.objs.size:=fun b hb=>by
  obtain ⟨o1,e1,_⟩:=id hit;obtain ⟨o2,e2,_⟩:=id hl
  rcases List.mem_cons.mp hb with z | z
  ·rw [z]; exact Heap.lt_size e1
  ·rw [List.mem_singleton.mp z]; exact Heap.lt_size e2
 have nf:s.heap.objs.size∉[I,l]:=fun z=>Nat.lt_irrefl _ (lt _ z)
 have nI:s.heap.objs.size≠I:=fun z=>nf (by rw [z]; exact Ae ..)
 unfold collect;refine wpAny_bind <| wpAny_runValue <| codeAny_builtin F.entry_proto_collect ?_;rw [Around.under_plainId F.plain_proto_collect];change wpAny _ A.in1 (newList [] >>= fun d=>again (.builtin "list.__iadd__" ⟨[d,.ref I],[]⟩)) _ _ s;refine wpAny_bind <| wpAny_newObj_type <| wpAny_pure ⟨plainId_quiet F.plain_list_iadd _,codeAny_builtin F.entry_list_iadd ?_⟩;rw [Around.under_plainId F.plain_list_iadd];have st:=W.frame 0 s (s.heap.push { cls:=.type "list",data:=.seq ([]:List Value).toArray }) s.toks ⟨Nat.zero_le _,by simpa using hit,hl⟩ (Nat.le_refl _) (fun _ _ _ e=>Heap.get?_push_of_some _ e);have hS:(s.heap.push { cls:=.type "list",data:=.seq ([]:List Value).toArray }).get? s.heap.objs.size=some { cls:=.type "list",data:=.seq ([]:List Value).toArray }:=Heap.get?_push_size _ rfl;have ns:Builtin.List.listSameRef (.ref s.heap.objs.size) (.ref I)=false:=by simp [Builtin.List.listSameRef,nI]
 have ty:Shared.TypeIs { s with heap:=s.heap.push { cls:=.type "list",data:=.seq ([]:List Value).toArray } } (.ref I) "list_reverseiterator" := st.2.1.typeIs (s:={ s with heap:=s.heap.push { cls:=.type "list",data:=.seq ([]:List Value).toArray } });change wpAny _ A.in1 (Builtin.List.listExtendWith (.ref s.heap.objs.size) (.ref I) (.ref s.heap.objs.size)) _ _ _;unfold Builtin.List.listExtendWith; refine wpAny_bind <| wpAny_typeOf ty ?_;rw [ns,if_neg (by decide)];refine wpAny_bind <| W.self 0 _ _ _ st <| wpAny_bind <| wpAny_holding ?_;unfold Builtin.List.listLengthHint; refine wpAny_bind <| wpAny_specialOf ty rev_nolen ?_;change wpAny _ A.in1 (specialOf (Value.ref I) (Str.ofString "__length_hint__") >>= _) _ _ _;refine wpAny_bind <| wpAny_specialOf ty rev_hint ?_;generalize hid:("list_reverseiterator.__length_hint__" : String)=id0
 wp_delta
 rw [show splitId id0=some ("list_reverseiterator", "__length_hint__") by subst hid; decide +kernel];subst hid;refine wpAny_bind <| wpAny_isInstance (b:=true) ty (by rw [isSubtype_type]; kernel_rfl) <| wpAny_pure ?_;rw [if_neg (by decide)];refine wpAny_pure ⟨plainId_quiet F.plain_extend_loop _,codeAny_extend_loopS W hn _ nf _ items.size 0 _ _ _ rfl (Nat.zero_le _) st hS (ItemsOf.nil _) fun s2 acc c2 hm e2 ha=>?_⟩;change wpAny _ A (load s.heap.objs.size >>= _) _ _ s2;refine wpAny_bind <| wpAny_load e2 ?_;exact wpAny_pure (hQ s2 acc (Moved.drop_new (o:={ cls:=.type "list",data:=.seq ([]:List Value).toArray }) (tk:=s.toks) hm (Nat.le_refl _)) ha)
theorem join_rev {sep a:Str} {t u:Tok} {n:Nat} {Q:Value->Shared->Prop} (hh:A.handled=none) (hne:l≠I) (hit:s.heap.IsRevIter I l 0) (hl:s.heap.IsList l #[.str a u]) (hz:Builtin.Str.tooLong (0+a.length+sep.length)=false)
  (hQ:∀ s2,Moved [I] (fun a b=>b=a) s s2->Q (.str a u) s2):wpAny (model prog w) A (call (.builtin "str.join") [.str sep t,.ref I]) Q E s:=by
 refine wpAny_call <| codeAny_call_builtin F.slot_str_join.plain F.entry_str_join <| F.slot_str_join.check _ _ _ _ _ _ _ _ (typeIs_str _ _ _) (F.args_str_join_2 _ _) ?_;rw [join_tree_other];refine wpAny_bind <| wpAny_typeOf hit.typeIs ?_;change wpAny _ A.in1 ((pyIter (.ref I)).tryCatch _ >>= fun it=>collect it >>= fun items=>joinTail sep items) _ _ s;refine wpAny_bind <| wpAny_tryCatch <| wpAny_pyIter_revIter hit ?_;refine wpAny_bind (collect_rev (items:=#[.str a u]) hh hne hit hl (show 1<=sizeLine by decide) fun s2 acc hm ha=>?_);have ea:acc.toList=strValues [(a,u)]:=by
  obtain ⟨h1,h2⟩:=ha;have l1:acc.toList.length=1:=h1;obtain ⟨z,ez⟩:=List.length_eq_one_iff.mp l1;have e0:acc[0]?=some z:=by rw [<- Array.getElem?_toList,ez]; rfl
  have z2:=h2 0 z e0;have z3:(Value.str a u)=z:=Am z2;rw [ez,<- z3];rfl
 rw [ea];exact gives_joinTail sep [(a,u)] hz prog w A (wants Q E) s2 (hQ s2 hm)
end
section
variable {X:Cx}
def tJoinRev (sep:Str) (te:TE):TE:=fun σ H Q=>te σ H fun x H1=>∃ (p:Addr) (a:Str),x=.ref p/\H1 p=some (.lst [.str a])/\Builtin.Str.tooLong (0+a.length+sep.length)=false/\Q (.str a) H1
theorem pe_joinRev {e:Expr} {te:TE} {sep:Str} {j:Nat} {kpos apos p p1 cpos:Pos} (hc:X.calm=true) (hg:Gl X "reversed") (hm:X.mg "reversed" = none) (he:PE X e te)
  (hbase:attributeBase (.Constant (.str sep) j kpos) "join" X.env (eval (.Constant (.str sep) j kpos) X.env)=eval (.Constant (.str sep) j kpos) X.env:=by rfl)
  (hline:(apos.endLine==cpos.line)=true:=by rfl) (hs:starEach [e] X.env=[(false,eval e X.env)]:=by rfl) :
  PE X (.Call (.Attribute (.Constant (.str sep) j kpos) "join" apos) [.Call (.Name "reversed" p) [e] [] p1] [] cpos) (tJoinRev sep te):=by
 intro pins s σ H Q I h;refine wpAny_Call_method_late hbase rfl hline rfl (thn (qw (X:=X) pins s σ H (fun x H1=>x=.str sep/\H1=H) I ⟨rfl,rfl⟩) fun v s1 ⟨x,H1,I1,r1,ex,eH⟩=>?_);subst ex eH;obtain ⟨t,rfl⟩:=r1;refine ⟨"str", "str.join",F.plainAttrs_str,F.slot_str_join,F.type_str_join,typeIs_str _ _ _,(fun _ z=>nomatch z),?_⟩;refine Calls.callWith_builtin rfl (Calls.evalArgs_plain (Calls.spliced_cons ?_));refine wpAny_Call_Name_kw (ld_blt I1 hg hm Boot.«reversed» ?_ (by decide) (by decide));refine PyProof.Rows.callWith_type1 (thn (pa_cons he qj hs p1 pins s1 σ H1 (fun vs H2=>match vs with | [x]=>∃ (p:Addr) (a:Str),x=.ref p/\H2 p=some (.lst [.str a])/\Builtin.Str.tooLong (0+a.length+sep.length)=false/\Q (.str a) H2 | _=>False) I1 ?_) fun us s2 ⟨vs,H2,I2,r2,qv⟩=>?_) hs rfl
 ·exact h
 obtain ⟨x2,rfl⟩:∃ x,vs=[x]:=by
  match vs,qv with
  | [x],_=>exact ⟨x,rfl⟩
 obtain ⟨p2,a,ex,hp,hz,q⟩:=qv;subst ex;obtain ⟨u2,rfl,ru⟩:=vals1 r2
 cases ru
 obtain ⟨_,its,k,rv,_,eo⟩:=I2.lstM hp;obtain ⟨u,rfl,t3,rfl⟩:=vals1 rv;have il:s2.heap.IsList p2 #[.str a t3]:=⟨_,eo,rfl,_,rfl⟩;refine call_reversed_list il (Calls.spliced_nil ?_);have f:=I2.fpOk (Nat.le_refl _) (I2.hok.fresh (Nat.le_refl _));have I3:Inv X pins σ H2 { s2 with heap:=s2.heap.push (revObj p2 0) }:=I2.kept (t':=s2.toks) fun b o e=>Heap.get?_push_of_some _ e
 have ne:p2≠s2.heap.objs.size:=Nat.ne_of_lt (Heap.lt_size eo);refine join_rev (s:={ s2 with heap:=s2.heap.push (revObj p2 0) }) (n:=0) (I2.ok.hd hc) ne ⟨_,Heap.get?_push_size _ rfl,rfl,rfl⟩ (il.push _) hz fun s4 hm4=>?_
 obtain ⟨f0,f1,_,f3,f4,f5⟩:=f;have I4:Inv X pins σ H2 { s2 with heap:=s4.heap,toks:=s4.toks }:=I3.turned (t':=s4.toks) (fun b o hb e=>hm4.heap b o (fun z=>hb (List.mem_singleton.mp z)) e) f0 f1 f3 f4 f5;have e4:s4={ s2 with heap:=s4.heap,toks:=s4.toks }:=by
  obtain ⟨h4,g4,d4,t4,o4⟩:=s4;have a1:g4=s2.gens:=hm4.gens;have a2:d4=s2.drawn:=hm4.drawn;have a3:o4=s2.os:=hm4.os;subst a1 a2 a3;rfl
 rw [e4];exact ⟨.str a,H2,I4,⟨_,rfl⟩,q⟩
end
end L2
namespace BP
open PySem PySem.NumText
def figs (n:Nat):Str:=Str.ofString (toString ((n:Nat):Int))
def figL (n:Nat):List Nat:=(Nat.toDigits 10 n).map Char.toNat
theorem kz (n:Nat):(figs n).cps.toList=figL n:=PySem.W.KIN.signs_num n
theorem vZ {a b:Str} (h:a.cps.toList=b.cps.toList):a=b:=by
 obtain ⟨⟨x⟩⟩:=a;obtain ⟨⟨y⟩⟩:=b;have h:x=y:=h;rw [h]
theorem j0 (a:Str):a.length=a.cps.toList.length:=(Array.length_toList ..).symm
theorem x3 {n:Nat} (h:n<10):figL n=[48+n]:=by
 unfold figL;rw [Nat.toDigits_of_lt_base h];have c:∀ d:Nat,d<10->(Nat.digitChar d).toNat=48+d:=by decide
 rw [List.map_cons,c n h];rfl
theorem figL_step {n:Nat} (h:10<=n):figL n=figL (n/10)++[48+n%10]:=by
 have hm:n%10<10:=Nat.mod_lt n (by decide);have t:Nat.toDigits 10 (n/10)++Nat.toDigits 10 (n%10)=Nat.toDigits 10 (10*(n/10)+n%10):=Nat.toDigits_append_toDigits (by decide) (by omega) hm;rw [Nat.div_add_mod] at t;have e:=x3 hm;unfold figL at e ⊢;rw [<- t,Al,e]
theorem figL_all (n:Nat):AllDigits (figL n):=by
 induction n using Nat.strongRecOn with
 | _ n ih =>
  by_cases h:n<10
  ·rw [x3 h]
   intro c hc;rw [List.mem_singleton.mp hc];omega
  ·rw [figL_step (by omega)]
   intro c hc
   rcases Ak.mp hc with z | z
   ·exact ih (n/10) (by omega) c z
   ·rw [List.mem_singleton.mp z]
    omega
theorem figL_head (n:Nat):∃ c cs,figL n=c::cs/\(n≠0->c≠48)/\(n=0->c=48/\cs=[]):=by
 induction n using Nat.strongRecOn with
 | _ n ih =>
  by_cases h:n<10
  ·exact ⟨48+n,[],x3 h,fun _=>by omega,fun z=>⟨by omega,rfl⟩⟩
  ·obtain ⟨c,cs,e,h1,_⟩:=ih (n/10) (by omega)
   exact ⟨c,cs++[48+n%10],by rw [figL_step (by omega),e]; rfl,fun _=>h1 (by omega),fun z=>by omega⟩
theorem figL_len:∀ {k n:Nat},n<10^(k+1)->(figL n).length<=k+1
 | 0,n,h=>by rw [x3 (by omega)]; exact Nat.le_refl _
 | k+1,n,h=>by
  by_cases c:n<10
  ·rw [x3 c]
   show 1<=_;omega
  ·have q:n/10<10^(k+1):=by
    rw [Nat.div_lt_iff_lt_mul (by decide),<- Nat.pow_succ];exact h
   have:=figL_len q;rw [figL_step (by omega),Ad];show _+1<=_;omega
theorem figs_len {n:Nat} (h:n<10^60):1<=(figs n).length/\(figs n).length<=60:=by
 rw [j0,kz];refine ⟨?_,figL_len (k:=59) h⟩;obtain ⟨c,cs,e,_⟩:=figL_head n;rw [e];show 1<=cs.length+1;omega
theorem sub_one {x:Str} {c i:Nat}:Builtin.Str.subAt x ⟨#[c]⟩ i=true↔x.cps.toList[i]?=some c:=by
 unfold Builtin.Str.subAt;rw [beq_iff_eq];show x.cps.extract i (i+1)=#[c]↔_;obtain ⟨⟨l⟩⟩:=x
 constructor
 ·intro h
  have h2:=congrArg Array.toList h
  simp only [Array.toList_extract] at h2
  have h3:(l.drop i).take 1=[c]:=by simpa [List.extract] using h2
  have h4:((l.drop i).take 1)[0]?=some c:=by rw [h3]; rfl
  simpa using h4
 ·intro h
  have h:l[i]?=some c:=h
  apply Array.ext'
  simp only [Array.toList_extract]
  show List.extract l i (i+1)=[c];have hl:=(List.getElem?_eq_some_iff.mp h).1;have e:l.drop i=c::l.drop (i+1):=by
   rw [List.drop_eq_getElem_cons hl]
   congr 1
   exact (List.getElem?_eq_some_iff.mp h).2
  simp [List.extract,e]
theorem at_one {x:Str} {c i:Nat}:StrLaws.At x ⟨#[c]⟩ x.length i↔x.cps.toList[i]?=some c:=by
 unfold StrLaws.At;rw [sub_one]
 constructor
 ·exact fun h=>h.2
 ·intro h
  refine ⟨?_,h⟩;have:=(List.getElem?_eq_some_iff.mp h).1;rw [j0];exact this
theorem part_at {a b:Str} {c:Nat} (h:c∉a.cps.toList):Txt.partition (a++⟨#[c]⟩++b) ⟨#[c]⟩=(a,⟨#[c]⟩,b):=by
 have el:(a++⟨#[c]⟩++b).cps.toList=a.cps.toList++c::b.cps.toList:=by
  rw [PyProof.Rows.cps_toList_append,PyProof.Rows.cps_toList_append,List.append_assoc];rfl
 have hat:StrLaws.At (a++⟨#[c]⟩++b) ⟨#[c]⟩ (a++⟨#[c]⟩++b).length a.cps.toList.length:=at_one.mpr (by rw [el]; simp);unfold Txt.partition
 rcases StrLaws.occ_head (a++⟨#[c]⟩++b) ⟨#[c]⟩ 1 (Nat.le_refl 1) with ⟨_,hn⟩ | ⟨i,r,h0,hi,hn⟩
 ·exact absurd hat (hn _)
 ·rw [h0]
  have hi2:=at_one.mp hi;have ei:i=a.cps.toList.length:=by
   rcases Nat.lt_trichotomy i a.cps.toList.length with z | z | z
   ·rw [el,A2 z] at hi2
    exact absurd (A9 hi2) h
   ·exact z
   ·exact absurd hat (hn _ z)
  subst ei;refine Prod.ext (vZ ?_) (Prod.ext rfl (vZ ?_))
  ·show ((a++⟨#[c]⟩++b).cps.extract 0 a.cps.toList.length).toList=_
   rw [Array.toList_extract,el]
   simp [List.extract]
  ·show ((a++⟨#[c]⟩++b).cps.extract (a.cps.toList.length+1) (a++⟨#[c]⟩++b).length).toList=_
   rw [Array.toList_extract,j0,el];show ((a.cps.toList++c::b.cps.toList).drop (a.cps.toList.length+1)).take _=_;rw [<- List.drop_drop,List.drop_left];show (b.cps.toList).take _=_;rw [A5];rw [Ad,List.length_cons];omega
theorem part_none {a:Str} {c:Nat} (h:c∉a.cps.toList):Txt.partition a ⟨#[c]⟩=(a,Str.empty,Str.empty):=by
 unfold Txt.partition
 rcases StrLaws.occ_head a ⟨#[c]⟩ 1 (Nat.le_refl 1) with ⟨h0,_⟩ | ⟨i,r,_,hi,_⟩
 ·rw [h0]
 ·exact absurd (A9 (at_one.mp hi)) h
theorem starts_one (x:Str) (c:Nat):Txt.startswith x ⟨#[c]⟩=decide (x.cps.toList[0]?=some c):=by
 unfold Txt.startswith
 by_cases h:x.cps.toList[0]?=some c
 ·rw [sub_one.mpr h,decide_eq_true h]
  have:=(List.getElem?_eq_some_iff.mp h).1;rw [<- j0] at this;show (decide (0+1<=x.length)&&true)=true;rw [decide_eq_true (p:=0+1<=x.length) (by omega)];rfl
 ·rw [decide_eq_false h,Bool.eq_false_iff.mpr fun z=>h (sub_one.mp z),Bool.and_false]
end BP
namespace L2
open PySem PySem.Spec PyProof.Rows BP
section
variable {X:Cx}
inductive IsS (K:Ap) (H:Hp):V->Prop where
 | int (i:Int):IsS K H (.int i)
 | bl (b:Bool):IsS K H (.bl b)
 | non:IsS K H .non
 | tup {a:Addr} {xs:List V} (h:SqT K H a xs):IsS K H (.ref a)
 | lst {a:Addr} {xs:List V} (h:SqL K H a xs):IsS K H (.ref a)
 | dict {a:Addr} {kvs:List (Key×V)} (h:H a=some (.dK kvs)):IsS K H (.ref a)
theorem call_iss:CallR X (.builtin "isinstance") (fun xs H Q=>∃ x,xs=[x,.ty "str"]/\((∃ z:Str,x=.str z/\Q (.bl true) H)\/(IsS X.K H x/\Q (.bl false) H))):=by
 intro pins s σ H xs us Q I r h;obtain ⟨x,rfl,h⟩:=h;obtain ⟨u,u',rfl,rx,rt⟩:=vals2 r
 cases rt
 rcases h with ⟨z,rfl,q⟩ | ⟨hi,q⟩
 ·obtain ⟨t,rfl⟩:=rx
  exact IsiPair.str_str ⟨.bl true,H,I,rfl,q⟩
 cases hi with
 | int i=>obtain ⟨t,rfl⟩:=rx; exact IsiPair.int_str ⟨.bl false,H,I.tok _,rfl,q⟩
 | bl b=>cases rx; exact IsiPair.bool_str ⟨.bl false,H,I.tok _,rfl,q⟩
 | non=>cases rx; exact IsiPair.NoneType_str ⟨.bl false,H,I.tok _,rfl,q⟩
 | tup h =>
  cases rx
  obtain ⟨_,_,⟨o,ho,hc,_⟩,_⟩:=I.tuple h;exact IsiPair.tuple_str ho hc ⟨.bl false,H,I.tok _,rfl,q⟩
 | lst h =>
  cases rx
  obtain ⟨_,_,p,_⟩:=I.list h;obtain ⟨o,ho,hc,_⟩:=p.isList;exact IsiPair.list_str ho hc ⟨.bl false,H,I.tok _,rfl,q⟩
 | @dict ad kvs h =>
  cases rx
  obtain ⟨_,_,_,_,o,_,_,h1,h2,_⟩:=(show ObjOk X.prog X.w H s.heap ad (.dK kvs) from I.hok ad _ h);exact IsiPair.dict_str h1 h2.1 ⟨.bl false,H,I.tok _,rfl,q⟩
def cutS (x:Str) (lo hi:Option Int):Str:=⟨((x.cps.toList.drop (HT.sIx x.length 0 lo)).take (HT.sIx x.length x.length hi - HT.sIx x.length 0 lo)).toArray⟩
theorem cut_pick (x:Str) (lo hi:Option Int):(Builtin.Str.strSliceIndices lo hi 1 x.length).filterMap (x.cps[·]?)=(cutS x lo hi).cps.toList:=by
 obtain ⟨h1,h2,_⟩:=Q8 lo hi x.length;have e:Builtin.Str.strSliceIndices lo hi 1 x.length=sliceRange (sliceBounds lo hi none x.length).1 (sliceBounds lo hi none x.length).2.1 1:=rfl;rw [e,h1,h2,sliceRange_one,pick_run];rfl
theorem cut_len (x:Str) (lo hi:Option Int):(cutS x lo hi).cps.toList.length<=x.length:=by
 show ((x.cps.toList.drop _).take _).length<=_;rw [Aj,List.length_drop];have:x.cps.toList.length=x.length:=Array.length_toList ..;omega
theorem cut_whole (x:Str) (lo hi:Option Int) (h:(Builtin.Str.strSliceIndices lo hi 1 x.length).length=x.length):cutS x lo hi=x:=by
 obtain ⟨h1,h2,_⟩:=Q8 lo hi x.length;have e:Builtin.Str.strSliceIndices lo hi 1 x.length=sliceRange (sliceBounds lo hi none x.length).1 (sliceBounds lo hi none x.length).2.1 1:=rfl;rw [e,h1,h2,sliceRange_one,List.length_map,List.length_range] at h;have lx:x.cps.toList.length=x.length:=Array.length_toList ..;have b:HT.sIx x.length x.length hi<=x.length:=by
  unfold HT.sIx
  cases hi with
  | none=>exact Nat.le_refl _
  | some j=>dsimp only; split <;> omega
 apply vZ
 show ((x.cps.toList.drop _).take _)=_
 by_cases z:x.length=0
 ·have:x.cps.toList=[]:=List.length_eq_zero_iff.mp (by omega)
  rw [this]
  simp
 ·rw [show HT.sIx x.length 0 lo=0 by omega,List.drop_zero,A5 (by omega)]
theorem sl_strG:SlR X (fun x lo hi H Q=>∃ a:Str,x=.str a/\a.length<=sizeLine/\Q (.str (cutS a lo hi)) H):=by
 intro pins s σ H x v vl vu lo hi sl Q I rx hs pl pu h;obtain ⟨a,rfl,hz,q⟩:=h;obtain ⟨t,rfl⟩:=rx;have key:∀ l u:Option (Int×Tok),s.heap.IsSlice sl l u none->l.map (·.1)=lo->u.map (·.1)=hi->wpAny (model X.prog X.w) X.A (getItem (.str a t) (.ref sl)) (EP X pins σ Q) X.xe s:=fun l u hsl el eu=>by
  refine wpAny_getItem_str_slice hsl rfl ?_;have ep:slicePicked a l u none=Builtin.Str.strSliceIndices lo hi 1 a.length:=by unfold slicePicked; rw [el,eu]; rfl
  unfold sliceMade;rw [ep]
  by_cases c:(Builtin.Str.strSliceIndices lo hi 1 a.length).length=a.length
  ·rw [if_pos (by rw [c]; simp)]
   rw [cut_whole a lo hi c] at q;exact ⟨.str a,H,I,⟨_,rfl⟩,q⟩
  ·rw [if_neg (by simp [c]),cut_pick]
   refine ⟨?_,.str _,H,I.tok _,⟨_,rfl⟩,q⟩;have:=cut_len a lo hi;exact Ao (show (cutS a lo hi).cps.toList.toArray.size<=_ by rw [List.size_toArray]; exact this) hz
 refine ⟨"str",_,F.slot_str_getitem.lookup,typeIs_str _ _ _,?_⟩
 cases pl with
 | none =>
  cases pu with
  | none=>exact key none none hs rfl rfl
  | int j tj=>exact key none (some (j,tj)) hs rfl rfl
 | int i ti =>
  cases pu with
  | none=>exact key (some (i,ti)) none hs rfl rfl
  | int j tj=>exact key (some (i,ti)) (some (j,tj)) hs rfl rfl
theorem vals_from:∀ (xs:List Str) (k:Nat),Vals (xs.map V.str) (strsFrom k xs)
 | [],_=>.nil
 | _::xs,k=>.cons ⟨_,rfl⟩ (vals_from xs (k+1))
theorem mt_split:MtR X "str.split" (fun x vs H Q=>∃ a b:Str,x=.str a/\vs=[.str b]/\(b.length==0)=false/\a.length+2<=sizeLine/\∀ p,H p=none->Q (.ref p) (upd H p (.lst ((Txt.split a b).map V.str)))):=by
 intro pins s σ H x vs v us Q I rx rv h;obtain ⟨a,b,rfl,rfl,hb,ha,q⟩:=h;obtain ⟨t,rfl⟩:=rx;obtain ⟨u,rfl,t2,rfl⟩:=vals1 rv;have q:=q _ I.fresh;have sl:=split_le a b;unfold Txt.split at q sl
 by_cases h1:(decide (a.length<b.length)||decide (Builtin.Str.strKind a<Builtin.Str.strKind b))=true
 ·rw [if_pos h1] at q
  refine call_meets F.slot_str_split (typeIs_str _ _ _) F.entry_str_split (F.args_str_split_2 _ _) (meets_str_split_cannot_occur a b t t2 h1) ?_;exact ⟨.ref s.heap.objs.size,_,I.lnew (t':=s.toks) (its:=[.str a t]) (ys:=[.str a]) (.cons ⟨_,rfl⟩ .nil) (show 1<=sizeLine by decide),rfl,q⟩
 ·rw [if_neg h1] at q sl
  have h1:=Bool.eq_false_iff.mpr h1
  by_cases h2:(Builtin.Str.occurrences a b 0 a.length (a.length+1)).isEmpty=true
  ·rw [if_pos h2] at q
   refine call_meets F.slot_str_split (typeIs_str _ _ _) F.entry_str_split (F.args_str_split_2 _ _) (meets_str_split_not_found a b t t2 h1 hb h2) ?_;exact ⟨.ref s.heap.objs.size,_,I.lnew (t':=s.toks) (its:=[.str a t]) (ys:=[.str a]) (.cons ⟨_,rfl⟩ .nil) (show 1<=sizeLine by decide),rfl,q⟩
  ·rw [if_neg h2] at q sl
   have hl:(Builtin.Str.partsBetween a (Builtin.Str.occurrences a b 0 a.length (a.length+1)) b.length).length<=sizeLine:=by omega
   refine call_meets F.slot_str_split (typeIs_str _ _ _) F.entry_str_split (F.args_str_split_2 _ _) (meets_str_split_sep a b t t2 h1 hb (Bool.eq_false_iff.mpr h2) (by omega) hl) ?_;exact ⟨.ref s.heap.objs.size,_,I.lnew (t':=s.toks+_) (vals_from _ _) (by rw [List.length_map]; exact hl),rfl,q⟩
theorem op_mul_str:OpR X (binaryOp .Mult) (fun x y H Q=>∃ (a:Str) (n:Int),x=.str a/\y=.int n/\MulOk a n/\Q (.str (Txt.mul a n)) H):=by
 intro pins s σ H x y v u Q I rx ry h;obtain ⟨a,n,rfl,rfl,hok,q⟩:=h;obtain ⟨t,rfl⟩:=rx;obtain ⟨t2,rfl⟩:=ry;exact SB.mul hok fun t3 k=>⟨.str _,H,I.tok _,⟨_,rfl⟩,q⟩
def cV:Expr->Option V
 | .Constant (.str z) _ _ =>
  some (.str z)
 | .Constant (.int n) _ _=>some (.int n)
 | .Constant (.bool b) _ _=>some (.bl b)
 | .Constant .none _ _=>some .non
 | _=>none
def cVs:List Expr->Option (List V)
 | []=>some []
 | e::es=>(cV e).bind fun v=>(cVs es).map (v::·)
theorem pa_one {e:Expr} {es:List Expr} {v:V} {t:TA} (h:cV e=some v) (hr:PA X es t):PA X (e::es) (fun σ H Q=>t σ H fun vs H'=>Q (v::vs) H'):=by
 cases e with
 | Constant k j pos =>
  cases k with
  | str x=>cases h; exact pa_cons qw hr (qz rfl _ _)
  | int n=>cases h; exact pa_cons qx hr (qz rfl _ _)
  | bool b=>cases h; exact pa_cons pe_bl hr (qz rfl _ _)
  | none=>cases h; exact pa_cons pe_non hr (qz rfl _ _)
  | _=>cases h
 | _=>cases h
theorem pa_all:∀ {es:List Expr} {vs:List V},cVs es=some vs->PA X es (fun _ H Q=>Q vs H)
 | [],vs,h=>by cases h; exact qj
 | e::es,vs,h=>by
  unfold cVs at h
  cases h1:cV e with
  | none =>
   rw [h1] at h
   cases h
  | some v =>
   cases h2:cVs es with
   | none =>
    rw [h1,h2] at h
    cases h
   | some ws =>
    rw [h1,h2] at h
    cases h
    exact pa_one h1 (pa_all h2)
theorem pa_cut:∀ (n:Nat) {es:List Expr} {vs:List V} {t:TA},cVs (es.take n)=some vs->PA X (es.drop n) t->PA X es (fun σ H Q=>t σ H fun ws H'=>Q (vs++ws) H')
 | 0,es,vs,t,h,k=>by cases h; exact k
 | n+1,[],vs,t,h,k=>by cases h; exact k
 | n+1,e::es,vs,t,h,k=>by
  rw [List.take_succ_cons] at h;unfold cVs at h
  cases h1:cV e with
  | none =>
   rw [h1] at h
   cases h
  | some v =>
   cases h2:cVs (es.take n) with
   | none =>
    rw [h1,h2] at h
    cases h
   | some ws =>
    rw [h1,h2] at h
    cases h
    exact pa_one h1 (pa_cut n h2 k)
end
end L2
namespace BP
open PySem PySem.NumText L2
def valS (a:Str):Nat:=digitsVal a.cps.toList
def goodS (a:Str):Prop:=1<=a.length/\a.length<=60/\AllDigits a.cps.toList/\(a.cps.toList[0]?=some 48->a=⟨#[48]⟩)
theorem fig_back:∀ (k:Nat) (cs:List Nat),cs.length=k->AllDigits cs->cs≠[]->(cs[0]?=some 48->cs=[48])->figL (digitsVal cs)=cs
 | 0,cs,hk,_,ne,_=>absurd (List.length_eq_zero_iff.mp hk) ne
 | k+1,cs,hk,hd,ne,h0=>by
  obtain ⟨ds,d,e⟩:∃ ds d,cs=ds++[d]:=⟨cs.dropLast,cs.getLast ne,(List.dropLast_concat_getLast ne).symm⟩;subst e;have hdd:48<=d/\d<=57:=hd d (A7 _ (List.mem_singleton.mpr rfl));rw [digitsVal_snoc];have ld:ds.length=k:=by
   rw [Ad] at hk;exact Nat.succ.inj hk
  cases hds:ds with
  | nil =>
   show figL (0*10+(d - 48))=[d];rw [x3 (by omega)];exact congrArg (fun z=>[z]) (by omega)
  | cons c rest =>
   have c48:c≠48:=fun z=>by
    have y:=h0 (by rw [hds,z]; rfl);rw [hds] at y;have y2:=congrArg List.length y
    simp at y2
   have ih:=fig_back k ds ld (fun x hx=>hd x (Aa _ hx)) (by rw [hds]; exact List.cons_ne_nil _ _) (fun z=>by
    rw [hds] at z;exact absurd (Am z) c48)
   rw [<- hds];have pos:1<=digitsVal ds:=by
    rcases Nat.eq_zero_or_pos (digitsVal ds) with z | z
    ·rw [z,x3 (by decide),hds] at ih
     have y:(48:Nat)=c:=(List.cons.inj ih).1;exact absurd y.symm c48
    ·exact z
   rw [figL_step (by omega),show (digitsVal ds*10+(d - 48))/10=digitsVal ds by omega,show 48+(digitsVal ds*10+(d - 48))%10=d by omega,ih]
theorem goodS_figs {a:Str} (h:goodS a):a=figs (valS a):=by
 obtain ⟨h1,_,h3,h4⟩:=h;have ne:a.cps.toList≠[]:=fun z=>by rw [j0,z] at h1; exact absurd h1 (by decide)
 exact vZ (by
  rw [kz];exact (fig_back _ _ rfl h3 ne fun z=>by rw [h4 z]).symm)
theorem val_lt:∀ (k:Nat) (cs:List Nat),cs.length=k->AllDigits cs->digitsVal cs<10^k
 | 0,cs,hk,_=>by
  rw [List.length_eq_zero_iff.mp hk]
  decide
 | k+1,cs,hk,hd=>by
  have ne:cs≠[]:=fun z=>by rw [z] at hk; cases hk
  obtain ⟨ds,d,e⟩:∃ ds d,cs=ds++[d]:=⟨cs.dropLast,cs.getLast ne,(List.dropLast_concat_getLast ne).symm⟩;subst e;have hdd:48<=d/\d<=57:=hd d (A7 _ (List.mem_singleton.mpr rfl));have ld:ds.length=k:=by
   rw [Ad] at hk;exact Nat.succ.inj hk
  have ih:=val_lt k ds ld fun x hx=>hd x (Aa _ hx)
  rw [digitsVal_snoc,Nat.pow_succ];omega
theorem kq {a:Str} (h:goodS a):valS a<10^60:=by
 have z:=val_lt _ _ rfl h.2.2.1;have l:=h.2.1;rw [j0] at l;exact Af z (Ab (by decide) l)
theorem goodS_reads {a:Str} (h:goodS a):intText? a=some (valS a:Int):=by
 have ne:a.cps.toList≠[]:=fun z=>by
  have:=h.1;rw [j0,z] at this;exact absurd this (by decide)
 exact intText_digits h.2.2.1 ne (by have:=h.2.1; omega)
theorem figs_val (n:Nat):valS (figs n)=n:=by
 unfold valS;rw [kz];exact PySem.W.KIN.val_back n
def sgnS (s:Bool):Str:=if s then Str.ofString "-" else Str.empty
def Asc (x:Str):Prop:=∀ c∈x.cps.toList,c<128
theorem Asc.all {x:Str} (h:Asc x):x.cps.all (·<128)=true:=by
 rw [Array.all_eq_true'];exact fun c hc=>decide_eq_true (show c<128 from h c (Array.mem_toList_iff.mpr hc))
structure Pts (x:Str) (s:Bool) (ps:List Str):Prop where
 sg:s=decide (x.cps.toList[0]?=some 45)
 eq:x=sgnS s++Str.join ⟨#[47]⟩ ps
 ne:ps≠[]
 free:∀ p∈ps,47∉p.cps.toList
theorem yx (a b:Str):(a++b).cps.toList=a.cps.toList++b.cps.toList:=PyProof.Rows.cps_toList_append a b
theorem join_mem {c:Nat}:∀ {ps:List Str} {p:Str},p∈ps->c∈p.cps.toList->c∈(Str.join ⟨#[47]⟩ ps).cps.toList
 | [a],p,hp,hc=>by rw [List.mem_singleton.mp hp] at hc; exact hc
 | a::b::r,p,hp,hc=>by
  show c∈(a++⟨#[47]⟩++Str.join ⟨#[47]⟩ (b::r)).cps.toList;rw [yx,yx]
  rcases List.mem_cons.mp hp with z | z
  ·rw [z] at hc
   exact Aa _ (Aa _ hc)
  ·exact A7 _ (join_mem z hc)
theorem Pts.asc {x:Str} {s:Bool} {ps:List Str} (h:Pts x s ps) (hx:Asc x):∀ p∈ps,Asc p:=fun p hp c hc=>hx c (by
 rw [h.eq,yx];exact A7 _ (join_mem hp hc))
theorem pts_split {x y:Str} {s:Bool} (hs:s=decide (x.cps.toList[0]?=some 45)) (e:x=sgnS s++y):Pts x s (Txt.split y ⟨#[47]⟩) :=
 ⟨hs,by rw [StrLaws.join_split]; exact e,fun z=>by
  have:=PyProof.Rows.split_pos y ⟨#[47]⟩;rw [z] at this;exact absurd this (by decide),StrLaws.split_free y 47⟩
def tv (s:Bool) (a:Str):Int:=if s then -(valS a:Int) else (valS a:Int)
open Classical in
noncomputable def outP (s:Bool):List Str->Option (Int×Int)
 | [a]=>if goodS a/\¬ (s=true/\valS a=0) then some (tv s a,1) else none
 | [a,b]=>if goodS a/\goodS b/\¬ (s=true/\valS a=0)/\2<=valS b/\Nat.gcd (valS b) (valS a)=1 then some (tv s a,(valS b:Int)) else none
 | _=>none
theorem out1 {s:Bool} {a:Str} (k:goodS a/\¬ (s=true/\valS a=0)):outP s [a]=some (tv s a,1):=if_pos k
theorem out1n {s:Bool} {a:Str} (k:¬ (goodS a/\¬ (s=true/\valS a=0))):outP s [a]=none:=if_neg k
theorem out2 {s:Bool} {a b:Str} (k:goodS a/\goodS b/\¬ (s=true/\valS a=0)/\2<=valS b/\Nat.gcd (valS b) (valS a)=1):outP s [a,b]=some (tv s a,(valS b:Int)):=if_pos k
theorem out2n {s:Bool} {a b:Str} (k:¬ (goodS a/\goodS b/\¬ (s=true/\valS a=0)/\2<=valS b/\Nat.gcd (valS b) (valS a)=1)):outP s [a,b]=none:=if_neg k
theorem tv_gcd (s:Bool) (a:Str) (m:Nat):Int.gcd (tv s a) (m:Int)=Nat.gcd (valS a) m:=by
 unfold tv
 split
 ·rw [Int.neg_gcd]; rfl
 ·rfl
theorem QZ {s:Bool} {ps:List Str} {t b:Int} (h:outP s ps=some (t,b)):IsR t b:=by
 match ps,h with
 | [a],h =>
  by_cases k:goodS a/\¬ (s=true/\valS a=0)
  ·rw [out1 k] at h
   cases h
   exact ⟨by decide,by simp⟩
  ·rw [out1n k] at h
   cases h
 | [a,c],h =>
  by_cases k:goodS a/\goodS c/\¬ (s=true/\valS a=0)/\2<=valS c/\Nat.gcd (valS c) (valS a)=1
  ·rw [out2 k] at h
   cases h
   refine ⟨by omega,?_⟩;rw [tv_gcd,Nat.gcd_comm];exact k.2.2.2.2
  ·rw [out2n k] at h
   cases h
 | [],h=>cases h
 | _::_::_::_,h=>cases h
end BP
namespace L2
open PySem PySem.Spec PyProof.Rows BP
def OnWay (B:Heap) (l:List Env) (e:Addr) (cls a0:Value) (h:Heap):Prop :=
 B.StaysIn h/\B.get? e=none/\h.FunFrames B l/\∃ fl,h.TracedAtW B e cls a0 fl
theorem third_set {B h:Heap} {l:List Env} {T:Addr} {oT:Obj} {ts:Array Value} (v:Value) (k:B.StaysIn h) (fr:h.FunFrames B l) (nT:B.get? T=none) (hT:h.get? T=some oT) (dT:oT.data=.fields ts) :
  ∃ h',h'=h.update T (Obj.mapFields (·.setIfInBounds 3 v))/\B.StaysIn h'/\h'.FunFrames B l/\(∀ b,b≠T->h'.get? b=h.get? b)/\(∃ oT',h'.get? T=some oT'/\oT'.data=.fields (ts.setIfInBounds 3 v))/\h.UpToSlots h':=by
 have oth:∀ b,b≠T->(h.update T (Obj.mapFields (·.setIfInBounds 3 v))).get? b=h.get? b:=fun b hb=>Heap.get?_update_other _ _ fun z=>hb z.symm
 have ne:∀ {b:Addr} {o:Obj},h.get? b=some o->(∀ vs,o.data≠.fields vs)->b≠T:=by
  intro b o e1 e2 z;subst z;rw [hT] at e1
  cases e1
  exact e2 _ dT
 have dd:=Obj.data_mapFields dT (·.setIfInBounds 3 v);refine ⟨_,rfl,fun b o e=>?_,fr.of_keeps fun b o e1 e2=>⟨o,?_,rfl⟩,oth,⟨_,Heap.get?_update_self _ hT (Obj.isFreed_of_fields dd),dd⟩,fun b o e1 e2=>⟨o.slots,?_⟩⟩
 ·rw [oth b (fun z=>by subst z; rw [nT] at e; cases e)]
  exact k b o e
 ·rw [oth b (ne e1 e2)]
  exact e1
 ·rw [oth b (ne e1 e2)]
  exact e1
section
variable {M:Model} {A:Around} {E:Value->Shared->Prop} {s:Shared} {B:Heap} {l:List Env} {e:Addr} {cls a0:Value}
theorem QV {Q:Unit->Shared->Prop} {f:Option Addr} (w:OnWay B l e cls a0 s.heap) (q:∀ h',OnWay B l e cls a0 h'->s.heap.UpToSlots h'->Q () { s with heap:=h' }):wpAny M A (setFlight (.ref e) f) Q E s:=by
 obtain ⟨k,ne,fr,fl,oe,vs,T,oT,ts,eat,hc,dat,h1,nT,Te,hT,dT,h3⟩:=w;obtain ⟨h',eh,k',fr',oth,⟨oT',hT',dT'⟩,up⟩:=third_set (f.elim Value.none fun f=>rawInt f) k fr nT hT dT;have lt:3<ts.size:=(Array.getElem?_eq_some_iff.mp h3).1;unfold setFlight;refine wpAny_bind (wpAny_field eat dat h1 ?_);rw [if_pos (by simp)];refine wpAny_setField hT dT lt ?_;rw [<- eh];exact q h' ⟨k',ne,fr',f.elim Value.none fun f=>rawInt f,oe,vs,T,oT',_,by rw [oth e (Ne.symm Te)]; exact eat,hc,dat,h1,nT,Te,hT',dT',by rw [Array.getElem?_setIfInBounds_self_of_lt lt]⟩ up
theorem pass_any {what:String} {cenv:Env} {Q:Value->Shared->Prop} (w:OnWay B l e cls a0 s.heap) (q:∀ h',OnWay B l e cls a0 h'->s.heap.UpToSlots h'->E (.ref e) { s with heap:=h' }) :
  wpAny M A (PySem.passOn what (.ref e) cenv:Sem Value) Q E s:=by
 obtain ⟨k,ne,fr,fl,oe,vs,T,oT,ts,eat,hc,dat,h1,nT,Te,hT,dT,h3⟩:=id w;unfold PySem.passOn;refine wpAny_bind (wpAny_field eat dat h1 ?_);rw [if_neg (by simp)]
 first
  | exact wpAny_bind (wpAny_pure (wpAny_bind (QV w fun h' w' up=>wpAny_throw (q h' w' up))))
  | exact wpAny_bind (QV w fun h' w' up=>wpAny_throw (q h' w' up))
theorem leave_any {env:Env} {outer:List Env} {L:Addr} {Q:Unit->Shared->Prop} (hA:A.frames=some (env::outer)) (hf:env.frame=some L) (w:OnWay B (env::outer) e cls a0 s.heap)
  (q:∀ h',Heap.FlyingW B outer e cls a0 h'->s.heap.UpToSlots h'->Q () { s with heap:=h' }):wpAny M A (leaving env (.ref e)) Q E s:=by
 have land:∀ h4,Heap.HeldW B (env::outer) e cls a0 L h4->s.heap.UpToSlots h4->wpAny M A (setFlight (.ref e) none) Q E { s with heap:=h4 }:=fun h4 held up =>
  wpAny_landsW held fun h5 fl up5=>by
   obtain ⟨k1,k2,⟨_,_,k3⟩,k4⟩:=fl;exact q h5 ⟨k1,k2,k3,k4⟩ (up.trans up5)
 have slots0:s.heap.UpToSlots s.heap:=fun b o e1 _=>⟨o.slots,e1⟩
 obtain ⟨k,ne,fr,fl,tr⟩:=w;unfold leaving;refine wpAny_bind ?_
 by_cases hfl:fl=rawInt L
 ·subst hfl
  exact wpAny_noteFrame_againW hf tr (land s.heap ⟨k,ne,fr,tr⟩ slots0)
 ·obtain ⟨oe,vs,T,oT,ts,eat,⟨hc,h0⟩,dat,h1,nT,Te,hT,dT,h3⟩:=tr
  obtain ⟨h',eh,k',fr',oth,⟨oT',hT',dT'⟩,up⟩:=third_set .none k fr nT hT dT;have lt:1<vs.size:=(Array.getElem?_eq_some_iff.mp h1).1;subst hc;unfold noteFrame
  simp only [hf]
  refine wpAny_bind (wpAny_field eat dat h1 ?_);rw [if_pos (by simp)];refine wpAny_bind (wpAny_field hT dT h3 ?_);rw [if_neg (by simpa using hfl)];refine wpAny_bind (wpAny_setField hT dT (Array.getElem?_eq_some_iff.mp h3).1 ?_);rw [<- eh];refine wpAny_entryW hA fr' hf (by rw [oth e (Ne.symm Te)]; exact eat) k' ne dat lt h0 fun h5 note=>?_
  obtain ⟨n1,n2,n3,n4⟩:=note;exact land h5 ⟨n1,ne,n2,n3⟩ (up.trans n4)
theorem OnWay.but {h h':Heap} {C:Addr} {m:Str->Option Value} (w:OnWay B l e cls a0 h) (hn:h.Ns C m) (hC:C∉l.filterMap (·.frame)) (sb:Heap.SameBut C h h'):OnWay (PySem.W.hideAll B [C]) l e cls a0 h':=by
 obtain ⟨o,es,ep,ho,hd,_⟩:=hn;obtain ⟨k,ne,fr,fl,oe,vs,T,oT,ts,he,hc,hde,h1,nT,Te,hT,dT,h3⟩:=w;have rcd:∀ {b:Addr} {o':Obj} {vs:Array Value},h.get? b=some o'->o'.data=.fields vs->b≠C:=by
  intro b o' vs e1 e2 z;subst z;rw [ho] at e1
  cases e1
  rw [hd] at e2
  cases e2
 have hide:∀ {b:Addr},B.get? b=none->(PySem.W.hideAll B [C]).get? b=none:=by
  intro b z
  cases z2:(PySem.W.hideAll B [C]).get? b with
  | none=>rfl
  | some u =>
   rw [PySem.W.of_hideAll _ z2] at z
   cases z
 have frames:∀ (l:List Env),C∉l.filterMap (·.frame)->h.FunFrames B l->h'.FunFrames (PySem.W.hideAll B [C]) l:=by
  intro l
  induction l with
  | nil=>exact fun _ _=>trivial
  | cons env r ih =>
   intro hC ⟨a1,⟨L,oL,a2,a3,a4,a5⟩,a6⟩;rw [List.filterMap_cons,a2] at hC;have n1:C≠L:=fun z=>hC (by rw [z]; exact Ae)
   exact ⟨a1,⟨L,oL,a2,hide a3,by rw [sb.2 L (Ne.symm n1)]; exact a4,a5⟩,ih (fun z=>hC (List.mem_cons_of_mem _ z)) a6⟩
 refine ⟨fun b o' e1=>?_,hide ne,frames l hC fr,fl,oe,vs,T,oT,ts,by rw [sb.2 e (rcd he hde)]; exact he,hc,hde,h1,hide nT,Te,by rw [sb.2 T (rcd hT dT)]; exact hT,dT,h3⟩;have n1:b≠C:=fun z=>by
  rw [z,PySem.W.hideAll_none _ Ae] at e1
  cases e1
 rw [sb.2 b n1];exact k b o' (PySem.W.of_hideAll _ e1)
end
section
variable {X:Cx} {pins:List (Addr×Obj)} {σ:St} {H H':Hp} {s s':Shared} {h' B:Heap}
theorem Inv.flown2 (I:Inv X pins σ H' s') (st:B.StaysIn h')
  (cov:∀ b o,s'.heap.get? b=some o->(((∃ u,X.s₀.heap.get? b=some u)/\b∉X.ex)\/(H' b).isSome=true)->b∉frs X.stack->B.get? b=some o) (up:s'.heap.UpToSlots h') :
  Un X.fs X.ex X.H₀ H' X.s₀.heap h'/\HOk X.prog X.w H' h':=by
 have fr:∀ b,b∈X.fs->∀ o,s'.heap.get? b=some o->∃ sl,h'.get? b=some { o with slots:=sl }:=fun b hb o e=>by
  obtain ⟨_,o',e',hd⟩:=I.funs.mem hb;rw [e] at e'
  cases e'
  exact up b o e hd
 have tr:∀ c:Addr,(H' c).isSome=true->c∉frs X.stack:=fun c hc z=>by
  rw [I.stkFree c z] at hc
  cases hc
 refine ⟨⟨fun b o q n hb hx=>?_,fun b o q n hb hx=>?_,I.base.free,fun b o q hx=>?_,I.base.tups,I.base.frzs,I.base.tbls⟩,fun b u e=>?_⟩
 ·exact st b o (cov b o (I.base.keep b o q n hb hx) (.inl ⟨⟨o,q⟩,hx⟩) (I.inStack q hb))
 ·obtain ⟨sl,e⟩:=I.base.slot b o q n hb hx
  obtain ⟨sl',e'⟩:=fr b hb _ e;exact ⟨sl',e'⟩
 ·obtain ⟨o',e⟩:=I.base.there b o q hx
  by_cases hb:b∈X.fs
  ·obtain ⟨sl,e'⟩:=fr b hb _ e
   exact ⟨_,e'⟩
  ·exact ⟨o',st b o' (cov b o' e (.inl ⟨⟨o,q⟩,hx⟩) (I.inStack q hb))⟩
 ·refine (I.hok b u e).stay (fun c v hc q=>?_) (fun _ q=>q) fun _ _ q=>q
  have hs:(H' c).isSome=true:=by
   rcases hc with rfl | hc
   ·rw [e]; rfl
   ·rw [hc]; rfl
  exact st c v (cov c v q (.inr hs) (tr c hs))
end
abbrev Cx.compE (X:Cx) (E:XK) (scope:Scope) (cl:List (Str×Addr)) (N:List Str) (c:CP):Cx :=
 { X.comp scope cl N c with xe:=fun e s'=>∃ pins σ H1 s1,Inv (X.comp scope cl N c) pins σ H1 s1/\CXE X.prog X.w X.stack H1 s1 E e s' }
theorem passC {X:Cx} {E:XK} {scope:Scope} {cl:List (Str×Addr)} {N:List Str} {c:CP}:wJ (CXE X.prog X.w) (X.compE E scope cl N c) E:=fun _ _ _ _ _ _ I h=>⟨_,_,_,_,I.wish _,h⟩
section
variable {X:Cx} {scope:Scope} {cl:List (Str×Addr)} {N:List Str} {ix:List (Option Nat)} {pins py:List (Addr×Obj)} {σ σy:St} {H1 H2:Hp} {s1 s2 sx:Shared} {E:XK}
theorem comp_err {fp:List Addr} {C:Addr} {e:Value} {use:Option (Value->Sem Unit)} {Q0:Value->Shared->Prop} {acc:Value} {E2:Value->Shared->Prop} (hst:X.stack=X.env::X.outer) (hfr:X.env.frame=some X.env.locals) (hex:X.ex=[])
  (hxe:X.xe=fun e s'=>wpAny (model X.prog X.w) X.A (leaving X.env e) (fun _ s''=>CXE X.prog X.w X.outer X.H₀ X.s₀ E e s'') (fun e' s''=>CXE X.prog X.w X.outer X.H₀ X.s₀ E e' s'') s')
  (k:CompOk X scope cl N ix) (I2:Inv X pins σ H2 s2) (f2:∀ b∈fp,FpOk X pins H2 b/\b<s2.heap.objs.size) (leC:s2.heap.objs.size<=C)
  (I1:Inv (X.comp scope cl N ⟨C,fp,s2,H2⟩) py σy H1 s1) (hx:CXE X.prog X.w X.stack H1 s1 E e sx) :
  wpAny (model X.prog X.w) X.A (noteFrame e (compEnvC scope cl C X.env)) (fun _ s''=>compPost (model X.prog X.w) X.A X.xe use Q0 acc C (.error e) s'') E2 sx:=by
 obtain ⟨ea,Cc,a0,H',B,rfl,os,bare,un,hok,fl,cov,hea,hE⟩:=hx;have J:Inv (X.comp scope cl N ⟨C,fp,s2,H2⟩) py σy H' sx:=I1.call' (ch:=[]) os un hok bare (fun b z=>absurd z (by simp));have nex:∀ b:Addr,b∉X.ex:=fun b z=>by rw [hex] at z; cases z
 have nCs:C∉frs X.stack:=fun z=>by
  rcases List.mem_cons.mp (I2.stkSub C z) with e | e
  ·exact absurd I2.lt (by rw [<- e]; exact Nat.not_lt.mpr leC)
  ·exact I2.nofs leC e
 have fl2:Heap.FlyingW B (X.env::X.outer) ea (.ref Cc) a0 sx.heap:=by rw [<- hst]; exact fl
 show wpAny _ _ (noteFrame (.ref ea) X.env) _ _ sx;refine wpAny_looks_onW (by rw [I2.ok.frames,hst]) hfr fl2 fun h4 held up4=>?_
 obtain ⟨m,hm,_⟩:=J.loc;have hm:sx.heap.Ns C m:=hm;have post:∃ m,h4.Ns C m/\∀ h',Heap.SameBut C h4 h'->∀ cenv:Env,cenv.locals=C->wpAny (model X.prog X.w) X.A (PySem.passOn "comprehension.variables-let-go" (.ref ea) cenv:Sem Value) (fun _ _=>False) X.xe { sx with heap:=h' }:=by
  refine ⟨m,up4.ns hm,fun h5 sb cenv _=>?_⟩;have way:OnWay B (X.env::X.outer) ea (.ref Cc) a0 h4:=⟨held.1,held.2.1,held.2.2.1,_,held.2.2.2⟩;have way5:=way.but (up4.ns hm) (by rw [<- hst]; exact nCs) sb;refine pass_any way5 fun h6 way6 up6=>?_
  rw [hxe];refine leave_any (by rw [I2.ok.frames,hst]) hfr way6 fun h7 fl7 up7=>?_
  have covY:∀ b o,sx.heap.get? b=some o->(((∃ u,s2.heap.get? b=some u)/\b∉fp)\/(H' b).isSome=true)->b∉frs X.stack->B.get? b=some o:=fun b o q hb hn =>
   cov b o q (hb.imp (fun ⟨⟨u,hu⟩,hf⟩=>I1.base.there b u hu hf) id) hn
  obtain ⟨un4,hok4⟩:=Inv.flown2 J held.1 covY up4;have I4:Inv X pins σ H' { sx with heap:=h4 }:=I2.call' (ch:=fp) J.os un4 hok4 bare fun b hb=>let ⟨⟨_,a1,_,a3,a4,a5⟩,_⟩:=f2 b hb; ⟨a3,a1,a4,a5⟩
  have fC:FpOk X pins H' C:=I2.fpOk leC J.free;have I5:Inv X pins σ H' { sx with heap:=h5 }:=I4.turned (t':=sx.toks) (fun b o hb e=>(sb.2 b hb).trans e) fC.1 fC.2.1 fC.2.2.2.1 fC.2.2.2.2.1 fC.2.2.2.2.2;have cov5:∀ b o,h5.get? b=some o->((∃ u,X.s₀.heap.get? b=some u)\/(H' b).isSome=true)->b∉frs X.stack->(PySem.W.hideAll B [C]).get? b=some o:=fun b o q hb hn=>by
   have nC:b≠C:=by
    rcases hb with ⟨u,hu⟩ | hs
    ·exact Nat.ne_of_lt (Af (Heap.lt_size hu) (Ao I2.sz leC))
    ·intro z
     rw [z,show H' C=none from J.free] at hs
     cases hs
   have in2:((∃ u,s2.heap.get? b=some u)/\b∉fp)\/(H' b).isSome=true:=by
    rcases hb with ⟨u,hu⟩ | hs
    ·refine .inl ⟨I2.base.there b u hu (nex b),fun z=>?_⟩
     obtain ⟨⟨_,_,_,a3,_⟩,_⟩:=f2 b z
     rcases a3 with a3 | a3
     ·exact nex b a3
     ·exact absurd (Heap.lt_size hu) (Nat.not_lt.mpr a3)
    ·exact .inr hs
   have inx:∃ o',sx.heap.get? b=some o':=by
    rcases in2 with ⟨⟨u,hu⟩,hf⟩ | hs
    ·exact J.base.there b u hu hf
    ·exact J.hok.has hs
   obtain ⟨o',eo⟩:=inx;have e1:=covY b o' eo in2 hn;have e2:=held.1 b o' e1;rw [sb.2 b nC,e2] at q
   cases q
   exact PySem.W.hideAll_get _ e1 fun z=>nC (List.mem_singleton.mp z)
  obtain ⟨u1,k1,c1⟩:=I5.flown hex fl7.1 cov5 (up6.trans up7);exact ⟨ea,Cc,a0,H',_,rfl,I5.os,bare,u1,k1,fl7,c1,hea,hE⟩
 cases use <;> exact post
end
section
variable {A:Around} {prog:Program} {w:World} {s:Shared} {R:Result->Shared->Prop}
theorem comp_loopE {elt tg iter:Expr} {ifs:List Expr} {scope:Scope} {pos:Pos} {it acc:Value} {env:Env} (J:Nat->Shared->Prop)
  (turn:∀ n s1,J n s1->wpAny (model prog w) A (pyNext it) (fun r s2=>(r=none/\R (.ok .next) s2)\/∃ v,r=some v/\wpAny (model prog w) A (letOwnedTupleGo tg it v) (fun _ s3=>wpAny (model prog w) A (assign tg env v) (fun _ s4 =>
    wpAny (model prog w) A (forIn ifs true fun c b=>if b=true then do let ok <- isTrue c env (eval c env); pure (ForInStep.yield ok) else pure (ForInStep.yield b)) (fun ok s5 =>
     (ok=true/\wpAny (model prog w) A (eval elt env) (fun x s6=>wpAny (model prog w) A (call (.builtin "list.append") [acc,x]) (fun _ s7=>∃ m,m<n/\J m s7) (notedBy (model prog w) A env fun e s'=>R (.error e) s') s6) (notedBy (model prog w) A env fun e s'=>R (.error e) s') s5)\/(ok=false/\∃ m,m<n/\J m s5)) (notedBy (model prog w) A env fun e s'=>R (.error e) s') s4) (notedBy (model prog w) A env fun e s'=>R (.error e) s') s3) (notedBy (model prog w) A env fun e s'=>R (.error e) s') s2) (notedBy (model prog w) A env fun e s'=>R (.error e) s') s1)
  (n:Nat) (h:J n s):codeAny (model prog w) A (.compLoop (.ListComp elt [⟨tg,iter,ifs,0⟩] scope pos) 0 it acc env) R s:=by
 refine codeAny_loop rfl J (fun n s1 hJ=>?_) n h;show wpAny _ _ ((compTurn (.ListComp elt [⟨tg,iter,ifs,0⟩] scope pos) 0 it acc env).onRaise fun x=>do
  noteFrame x env
  theTreesLotGoes x) _ _ s1
 refine wpAny_noted ?_;rw [compTurn_list];refine wpAny_bind (wpAny_standAt (wpAny_bind (thn (turn n s1 hJ) fun r s2 h2=>?_)))
 rcases h2 with ⟨e,q⟩ | ⟨v,e,q⟩
 ·subst e
  exact wpAny_pure q
 ·subst e
  refine wpAny_bind (thn q fun _ s3 q3=>wpAny_bind (thn q3 fun _ s4 q4=>wpAny_bind (thn q4 fun ok s5 q5=>?_)))
  rcases q5 with ⟨e,q5⟩ | ⟨e,q5⟩
  ·subst e
   exact wpAny_bind (wpAny_bind (thn q5 fun x s6 q6=>wpAny_bind (thn q6 fun _ s7 q7=>wpAny_pure (wpAny_pure ⟨rfl,q7⟩))))
  ·subst e
   exact wpAny_pure ⟨rfl,q5⟩
end
theorem comp_runE {X:Cx} {scope:Scope} {cl:List (Str×Addr)} {N:List Str} {ix:List (Option Nat)} {elt tg iter:Expr} {ifs:List Expr} {pos pos':Pos} {wi:TI} {g:CP->TG} {tt:CP->TT} {te:CP->TE}
  {pins:List (Addr×Obj)} {σ:St} {H:Hp} {s:Shared} {Z:List V->Hp->Prop} {E:XK} {use:Option (Value->Sem Unit)} {Q0:Value->Shared->Prop}
  (hst:X.stack=X.env::X.outer) (hfr:X.env.frame=some X.env.locals) (hex:X.ex=[])
  (hxe:X.xe=fun e s'=>wpAny (model X.prog X.w) X.A (leaving X.env e) (fun _ s''=>CXE X.prog X.w X.outer X.H₀ X.s₀ E e s'') (fun e' s''=>CXE X.prog X.w X.outer X.H₀ X.s₀ E e' s'') s')
  (k:CompOk X scope cl N ix) (hc:X.calm=true) (hi:PI X tg iter wi) (hg:∀ c,PG (X.compE E scope cl N c) tg (g c)) (ho:∀ c σ,GOk (g c) (compS ix σ)) (ht:∀ c,PIfs (X.compE E scope cl N c) ifs (tt c)) (he:∀ c,PE (X.compE E scope cl N c) elt (te c))
  (hs:∀ x,foldedSetIterable iter X.env x=pure x) (I:Inv X pins σ H s) (h:tCompZ ix wi g tt te σ H Z)
  (fin:∀ (D C:Addr) (s':Shared) (H':Hp) (ys:List V) (m:Str->Option Value),Inv X pins σ (upd H' D (.lst ys)) s'->FpOk X pins (upd H' D (.lst ys)) C->s'.heap.Ns C m->H' D=none->Z ys H'->compPost (model X.prog X.w) X.A X.xe use Q0 (.ref D) C (.ok .next) s') :
  wpAny (model X.prog X.w) X.A (comprehension (.ListComp elt [⟨tg,iter,ifs,0⟩] scope pos) scope X.env pos' (newList []) false (eval iter X.env) use) Q0 X.xe s:=by
 have hnm:∀ x∈scope.names,x.2=.local->scope.names.lookup x.1=some .local:=fun x hx hl=>by
  have q:=List.all_eq_true.mp k.nms x hx;rw [hl] at q
  simpa using q
 have hnc:∀ x∈scope.names,x.2≠.cell:=fun x hx=>by
  have q:=List.all_eq_true.mp k.nocell x hx
  simpa using q
 refine wpAny_comprehension_free rfl hs k.clos k.kind hnm (thn (hi pins s σ H _ I h) fun v s1 h1=>thn h1 fun itv s2 h2=>?_);obtain ⟨it,fp,tn,J,H2,e,I2,T,st2,f2,W,⟨m0,w0⟩,step⟩:=h2;subst e;refine wpAny_newObj_type (wpAny_newFunctionEnv hnc (by intro y hy; simp at hy) (fun h3 hns hsb=>?_) k.kind);dsimp only at hns hsb ⊢;generalize hD:s2.heap.objs.size=D at hns hsb ⊢;generalize hP:s2.heap.push { cls:=.type "list",dict:=none,data:=.seq ([]:List Value).toArray }=P2 at hns hsb ⊢;generalize hCe:P2.objs.size=C at hns hsb ⊢;have szC:C=D+1:=by rw [<- hCe,<- hP,Heap.size_push,hD]
 have hDC:D≠C:=by rw [szC]; exact Nat.ne_of_lt (Nat.lt_succ_self _)
 have ltD:∀ {b:Addr} {o:Obj},s2.heap.get? b=some o->b<D:=fun e=>hD ▸ Heap.lt_size e
 have pD:P2.get? D=some { cls:=.type "list",dict:=none,data:=.seq ([]:List Value).toArray }:=by rw [<- hP,<- hD]; exact Heap.get?_push_size _ rfl
 have old:∀ b o,s2.heap.get? b=some o->h3.get? b=some o:=fun b o e=>by
  have lb:=ltD e;have nb:b≠C:=by rw [szC]; exact Nat.ne_of_lt (Nat.lt_succ_of_lt lb)
  refine (hsb.2 b nb).trans ?_;refine Heap.get?_push_of_some _ ?_;rw [<- hP];exact Heap.get?_push_of_some _ e
 have lst0:h3.PlainList D #[]:=⟨_,(hsb.2 D hDC).trans (Heap.get?_push_of_some _ pD)⟩;have lt2:∀ b∈fp,b<s2.heap.objs.size:=fun b hb=>let ⟨_,e,_⟩:=T.obj _ _ st2 b hb; Heap.lt_size e
 have f2':∀ b∈fp,FpOk X pins H2 b/\b<s2.heap.objs.size:=fun b hb=>⟨f2 b hb,lt2 b hb⟩
 have leC:s2.heap.objs.size<=C:=by rw [szC,hD]; exact Nat.le_succ _
 have leD:s2.heap.objs.size<=D:=by rw [hD]; exact Nat.le_refl _
 have nD:D∉fp:=fun z=>Nat.lt_irrefl _ (hD ▸ lt2 D z)
 have nC:C∉fp:=fun z=>Nat.lt_irrefl _ (Af (lt2 C z) leC)
 have st3:tn 0 h3:=T.keep _ _ _ st2 fun b _ o e=>old b o e
 generalize hY:X.comp scope cl N ⟨C,fp,s2,H2⟩=Y;have I3:Inv Y [] (compS ix σ) H2 { s2 with heap:=h3,toks:=s2.toks+([]:List (Str×Value)).length }:=hY ▸ k.enter I2 f2' leC old hns;have fpY:∀ {H':Hp},(∀ b∈fp,H' b=none)->∀ b∈fp,FpOk Y [] H' b:=fun {H'} hn b hb=>by
  subst hY;obtain ⟨_,a1,a2,a3,a4,a5⟩:=f2 b hb;refine ⟨hn b hb,Nat.ne_of_lt (Af (lt2 b hb) leC),fun z=>?_,.inl hb,fun x c e=>a4 x c (k.sub.get e),fun p hp=>by cases hp⟩
  rcases List.mem_cons.mp (I2.stkSub b z) with e | e
  ·exact a1 e
  ·exact a2 e
 have nDs:D∉frs X.stack:=fun z=>by
  rcases List.mem_cons.mp (I2.stkSub D z) with e | e
  ·exact absurd I2.lt (by rw [<- e]; exact Nat.not_lt.mpr leD)
  ·exact I2.nofs leD e
 have cD:∀ x c,cl.lookup x=some c->c≠D:=fun x c e z=>by
  obtain ⟨v,o,ho,_⟩:=I2.cell x c (k.sub.get e);exact absurd (Heap.lt_size ho) (by rw [z]; exact Nat.not_lt.mpr leD)
 have prgY:Y.prog=X.prog:=by rw [<- hY]
 have wY:Y.w=X.w:=by rw [<- hY]
 have KY:Y.K=X.K:=by rw [<- hY]
 have AY:Y.A=X.A:=by rw [<- hY]
 have cY:Y.calm=true:=by rw [<- hY]; exact hc
 have xeY:Y.xe=fun _ _=>False:=by rw [<- hY]
 have envY:Y.env=compEnvC scope cl C X.env:=by rw [<- hY]
 have pinD:∀ {σ':St} {H':Hp} {s':Shared} {us:Array Value} {n0:Nat},Inv Y [] σ' H' s'->H' D=none->s'.heap.PlainList D us->s'.heap.get? D=some { cls:=.type "list",data:=.seq us n0 }->Inv Y [(D,{ cls:=.type "list",data:=.seq us n0 })] σ' H' s':=fun I' hn _ e=>I'.pins_of fun p hp=>by
  have e1:p=(D,_):=List.mem_singleton.mp hp;subst e1;exact ⟨e,hn,by rw [<- hY]; exact hDC,by rw [<- hY]; exact nDs,fun v z=>by cases z⟩
 have fpD:∀ {H':Hp},(∀ b∈fp,H' b=none)->∀ (o:Obj),∀ b∈fp,FpOk Y [(D,o)] H' b:=fun {H'} hn o b hb=>by
  obtain ⟨a0,a1,a2,a3,a4,a5⟩:=fpY hn b hb;refine ⟨a0,a1,a2,a3,a4,fun p hp=>?_⟩
  rcases Ak.mp hp with zl | z
  ·exact a5 p (Aa _ zl)
  ·have e1:p=(D,o):=List.mem_singleton.mp z
   subst e1;exact fun z=>by
    have z':D=b:=z;rw [z'] at nD;exact nD hb
 have leave:∀ {s':Shared} {H':Hp} {ys:List V} {us:Array Value},Inv Y [] (compS ix σ) H' s'->H' D=none->s'.heap.PlainList D us->Vals ys us.toList->ys.length<=sizeLine->Z ys H'->compPost (model X.prog X.w) X.A X.xe use Q0 (.ref D) C (.ok .next) s':=fun {s' H' ys us} I' hn hpl rv hl z=>by
  subst hY;have I4:Inv X pins σ H' s':=I2.call' (ch:=fp) I'.os I'.base I'.hok I'.bare fun b hb=>let ⟨_,a1,_,a3,a4,a5⟩:=f2 b hb; ⟨a3,a1,a4,a5⟩
  have fD:=I2.fpOk (H':=H') leD hn;have ok:ObjOk X.prog X.w (upd H' D (.lst ys)) s'.heap D (.lst ys):=by
   obtain ⟨n,e⟩:=hpl;exact ⟨hl,us.toList,n,rv,by simpa using e⟩
  have I5:Inv X pins σ (upd H' D (.lst ys)) s':=by
   refine I4.track hn ?_ fD.2.2.2.2.2 fD.2.1 fD.2.2.2.2.1 ok;refine Heap.get?_none_of_le (Ao I2.sz leD)
  obtain ⟨m,hm,_⟩:=I'.loc;have hC':upd H' D (.lst ys) C=none:=by
   rw [zk (Ne.symm hDC)];exact I'.free
  exact fin D C s' H' ys m I5 (I2.fpOk leC hC') hm hn z
 have errs:∀ (e:Value) (sx:Shared),(X.compE E scope cl N ⟨C,fp,s2,H2⟩).xe e sx->notedBy (model X.prog X.w) X.A (compEnvC scope cl C X.env) (fun e s'=>compPost (model X.prog X.w) X.A X.xe use Q0 (.ref D) C (.error e) s') e sx:=by
  rintro e sx ⟨py,σy,H1,s1,I1,hx⟩;exact comp_err hst hfr hex hxe k I2 f2' leC I1 hx
 have loop:codeAny (model X.prog X.w) X.A (.compLoop (.ListComp elt [⟨tg,iter,ifs,0⟩] scope pos) 0 (.ref it) (.ref D) (compEnvC scope cl C X.env))
   (compPost (model X.prog X.w) X.A X.xe use Q0 (.ref D) C) { s2 with heap:=h3,toks:=s2.toks+([]:List (Str×Value)).length }:=by
  refine comp_loopE (fun n s'=>∃ i H' ys us,Inv Y [] (compS ix σ) H' s'/\tn i s'.heap/\(∀ b∈fp,H' b=none)/\H' D=none/\s'.heap.PlainList D us/\Vals ys us.toList/\W i n ys H') ?_ m0
   ⟨0,H2,[],#[],I3,st3,fun b hb=>(f2 b hb).1,I2.hok.fresh leD,lst0,.nil,w0⟩
  rintro n s4 ⟨i,H4,ys,us,I4,st4,fr4,d4,l4,v4,w4⟩;obtain ⟨hl,step4⟩:=step i n ys H4 w4
  rcases step4 with ⟨stop,z⟩ | ⟨go,turn⟩
  ·obtain ⟨n0,e0⟩:=l4
   have I4':=pinD I4 d4 ⟨n0,e0⟩ e0;have q:=T.done Y prgY wY KY cY i _ s4 (compS ix σ) H4 (notedBy (model X.prog X.w) X.A (compEnvC scope cl C X.env) fun e s'=>compPost (model X.prog X.w) X.A X.xe use Q0 (.ref D) C (.error e) s') I4' (fpD fr4 _) st4 stop;rw [AY] at q;refine thn q fun r s5 q5=>.inl ⟨q5.1,?_⟩
   have e5:=(q5.2.pin _ (A7 _ Ae)).1;exact leave (q5.2.pins_of fun p hp=>by cases hp) d4 ⟨n0,e5⟩ v4 (Nat.le_of_lt hl) z
  ·obtain ⟨n0,e0⟩:=l4
   have I4':=pinD I4 d4 ⟨n0,e0⟩ e0;have q:=T.item Y prgY wY KY cY i _ s4 (compS ix σ) H4 (notedBy (model X.prog X.w) X.A (compEnvC scope cl C X.env) fun e s'=>compPost (model X.prog X.w) X.A X.xe use Q0 (.ref D) C (.error e) s') I4' (fpD fr4 _) st4 go;rw [AY] at q;refine thn q fun r s5 q5=>.inr ?_
   obtain ⟨v,er,q5⟩:=q5;refine ⟨v,er,thn q5 fun _ s6 q6=>?_⟩;obtain ⟨x,H6,I6,r6,y6,st6,fr6⟩:=q6;have I6':=I6.pinned (fpD fr6 _) (T.obj _ _ st6);have g6:=ho ⟨C,fp,s2,H2⟩ σ x H6 _ (turn ⟨C,fp,s2,H2⟩ x H6 y6);have inD:∀ {l:List (Addr×Obj)},(D,({ cls:=.type "list",data:=.seq us n0 }:Obj))∈Y.pn++([(D,{ cls:=.type "list",data:=.seq us n0 })]++l):=A7 _ (Aa _ Ae);have inF:∀ {b:Addr} {o:Obj},b∈fp->s6.heap.get? b=some o->(b,o)∈Y.pn++([(D,({ cls:=.type "list",data:=.seq us n0 }:Obj))]++Qy fp s6.heap):=fun hb e=>A7 _ (A7 _ (vy hb e))
   have back:∀ {σ7:St} {H7:Hp} {s7:Shared},Inv Y ([(D,{ cls:=.type "list",data:=.seq us n0 })]++Qy fp s6.heap) σ7 H7 s7->LeS (compS ix σ) σ7->Inv Y [] (compS ix σ) H7 s7/\tn (i+1) s7.heap/\(∀ b∈fp,H7 b=none)/\H7 D=none/\s7.heap.PlainList D us:=fun {σ7 H7 s7} I7 le=>by
    refine ⟨(I7.weak le.len fun i v e=>le.get e).pins_of (fun p hp=>(by cases hp)),T.keep _ _ _ st6 fun b hb o e=>(I7.pin _ (inF hb e)).1,fun b hb=>?_,(I7.pin _ inD).2.1,n0,(I7.pin _ inD).1⟩;obtain ⟨o,e,_⟩:=T.obj _ _ st6 b hb;exact (I7.pin _ (inF hb e)).2.1
   have hgY:=hg ⟨C,fp,s2,H2⟩;have htY:=ht ⟨C,fp,s2,H2⟩;have heY:=he ⟨C,fp,s2,H2⟩;have I6'':=(hY ▸ I6':Inv (X.comp scope cl N ⟨C,fp,s2,H2⟩) _ _ _ _);have q7:=hgY _ s6 _ H6 x v _ (I6''.wish _) r6 g6;refine wpAny_mono q7 (fun _ s7 q7=>?_) errs;obtain ⟨σ7,H7,I7,le7,t7⟩:=q7;have q8:=htY _ s7 σ7 H7 _ I7 t7;refine wpAny_mono q8 (fun ok s8 q8=>?_) errs;obtain ⟨H8,I8,q8⟩:=q8
   rcases q8 with ⟨eo,q8⟩ | ⟨eo,m',hm,w8⟩
   ·refine .inl ⟨eo,?_⟩
    have q9:=heY _ s8 σ7 H8 _ I8 q8;refine wpAny_mono q9 (fun u s9 q9=>?_) errs;obtain ⟨y,H9,I9,r9,m',hm,w9⟩:=q9;obtain ⟨J9,t9,f9,d9,l9⟩:=back (hY ▸ I9.unwish) le7;have hsz:us.size<=sizeLine:=by
     have e1:ys.length=us.toList.length:=v4.length;have e2:us.toList.length=us.size:=by simp
     exact Nat.le_of_lt (e2 ▸ e1 ▸ hl)
    refine wpAny_list_append_plain l9 (fun h10 l10 sb=>?_) hsz;have J10:Inv Y [] (compS ix σ) H9 { s9 with heap:=h10 }:=J9.turned (t':=s9.toks) (fun b o hb e=>(sb.2 b hb).trans e) d9 (by rw [<- hY]; exact hDC) (.inr (by rw [<- hY]; exact leD)) (fun x c e=>by rw [<- hY] at e; exact cD x c e) fun p hp=>by rw [<- hY] at hp; cases hp
    refine ⟨m',hm,i+1,H9,ys++[y],us.push u,J10,T.keep _ _ _ t9 fun b hb o e=>(sb.2 b fun z=>nD (z ▸ hb)).trans e,f9,d9,l10,?_,w9⟩;rw [Array.toList_push];exact v4.append (.cons r9 .nil)
   ·refine .inr ⟨eo,m',hm,i+1,H8,ys,us,?_⟩
    obtain ⟨J8,t8,f8,d8,l8⟩:=back (hY ▸ I8.unwish) le7;exact ⟨J8,t8,f8,d8,l8,v4,w8⟩
 exact codeAny_compStart_list loop (T.self _ 0 _ _ _ st3 loop)
theorem pe_compE {X:Cx} {E:XK} {scope:Scope} {N:List Str} {ix:List (Option Nat)} {elt tg iter:Expr} {ifs:List Expr} {pos:Pos} {wi:TI} {g:CP->TG} {tt:CP->TT} {te:CP->TE}
  (hst:X.stack=X.env::X.outer) (hfr:X.env.frame=some X.env.locals) (hex:X.ex=[])
  (hxe:X.xe=fun e s'=>wpAny (model X.prog X.w) X.A (leaving X.env e) (fun _ s''=>CXE X.prog X.w X.outer X.H₀ X.s₀ E e s'') (fun e' s''=>CXE X.prog X.w X.outer X.H₀ X.s₀ E e' s'') s')
  (k:CompOk X scope (closL scope X.env) N ix) (hc:X.calm=true) (hi:PI X tg iter wi) (hg:∀ c,PG (X.compE E scope (closL scope X.env) N c) tg (g c)) (ho:∀ c σ,GOk (g c) (compS ix σ)) (ht:∀ c,PIfs (X.compE E scope (closL scope X.env) N c) ifs (tt c)) (he:∀ c,PE (X.compE E scope (closL scope X.env) N c) elt (te c))
  (hs:∀ x,foldedSetIterable iter X.env x=pure x:=by intro _; rfl):PE X (.ListComp elt [⟨tg,iter,ifs,0⟩] scope pos) (tComp ix wi g tt te):=by
 intro pins s σ H Q I h;rw [eval_ListComp];refine comp_runE (use:=none) hst hfr hex hxe k hc hi hg ho ht he hs I h fun D C s' H' ys m I' fC hm hn z=>?_
 refine ⟨m,hm,fun h' sb=>⟨.ref D,_,I'.turned (t':=s'.toks) (fun b o hb e=>(sb.2 b hb).trans e) fC.1 fC.2.1 fC.2.2.2.1 fC.2.2.2.2.1 fC.2.2.2.2.2,rfl,z D hn⟩⟩
section
variable {X:Cx}
def EHof (K:Ap) (i:Nat) (CB:Addr) (ts:Addr->TS) (D:Ends) (σ:St):XK:=fun cls _ H2 =>
 ∃ C,cls=.ref C/\Under K C CB/\∀ ea,H2 ea=none->ts ea { nx:=fun σ' H'=>D.nx (σ'.set i none) H',rt:=fun _ _=>False } (σ.set i (some (.ref ea))) (upd H2 ea (.ext (ExcAt ea C)))
theorem ps_tryX {n bn:Str} {ex:Expr} {tt:Ends->St->Hp->Prop} {ts:Addr->TS} {i:Nat} {CB:Addr} {b0:Stmt} {suite:List Stmt} {p1 hp np p2:Pos}
  (hst:X.stack=X.env::X.outer) (hfr:X.env.frame=some X.env.locals) (hex:X.ex=[]) (hN:X.N.Nodup) (hi:X.N[i]?=some n) (hn:X.env.scope.names.lookup n=some .local)
  (hgB:Gl X bn) (hmB:X.mg bn=some (.ref CB)) (hs:∀ ea,PSs (X.inHandler ea) (b0::suite) (ts ea))
  (body:∀ (pins:List (Addr×Obj)) (s:Shared) (σ:St) (H:Hp) (D:Ends),Inv X pins σ H s->tt D σ H->wpAny (model X.prog X.w) X.A (eval ex X.env) (fun _ s2=>∃ H2,Inv X pins σ H2 s2/\D.nx σ H2)
   (fun e s2=>∃ H1 s1,Inv X pins σ H1 s1/\CXE X.prog X.w X.stack H1 s1 (EHof X.K i CB ts D σ) e s2) s)
  (hdB:(bn==("__debug__" : Str))=false:=by decide) (hsw:swapsWith ex none p1.line X.env=pure false:=by rfl) :
  PS X (.Try [.Expr ex p1] [.ExceptHandler (some (.Name bn np)) (some n) (b0::suite) hp] [] [] p2) tt:=by
 intro pins s σ H D I h;refine wpAny_Try_except ?_;refine wpAny_execs_cons (wpAny_Expr_any (wpAny_mono (body pins s σ H D I h) (fun v s2 z=>?_) fun e2 s2 z=>?_) I.quiet hsw)
 ·obtain ⟨H2,I2,q⟩:=z
  exact wpAny_execs_nil (wpAny_execs_nil ⟨σ,H2,I2,q⟩)
 ·obtain ⟨H1,s1,I1,ea,C,a0,H',B,rfl,os,bare,un,hok,fl,cov,hea,C',ec,und,q⟩:=z
  cases ec
  have I2:Inv X pins σ H' s2:=I1.call' (ch:=[]) os un hok bare (fun b z=>absurd z (by simp));have fl2:Heap.FlyingW B (X.env::X.outer) ea (.ref C) a0 s2.heap:=by rw [<- hst]; exact fl
  have no1:∀ u,s1.heap.get? ea≠some u:=fun u z=>by
   obtain ⟨ox,ws,e1,_,e3,_⟩:=fl2.first
   by_cases hb:ea∈frs X.stack
   ·obtain ⟨_,o',e',hd⟩:=I2.stack.mem hb
    rw [e1] at e'
    cases e'
    exact hd _ e3
   ·have e4:=cov ea ox e1 (.inl ⟨u,z⟩) hb
    rw [fl2.2.1] at e4
    cases e4
  refine wpAny_looks_onW (by rw [I.ok.frames,hst]) hfr fl2 fun h4 held up4=>?_
  refine wpAny_landsW held fun h5 fl5 up5=>?_
  have I5:Inv X pins σ H' { s2 with heap:=h5 }:=I1.fly I2 hex cov fl5.1 (up4.trans up5);obtain ⟨ob,hob,hobc⟩:=fl5.there;refine wpAny_handleBy_cons (codeAny_handlers_test (QJ (X:=X.inHandler ea) (I5.toHandler ea) hgB hmB ?_ hdB)) (by intro z; cases z);refine matches_up (K:=X.K) I5.kIn hob hobc und.up und.mro (codeAny_handlers_suite_as ?_);refine lands_againW fl5 fun h6 fl6 up6=>?_
  have I6:Inv X pins σ H' { s2 with heap:=h6 }:=I1.fly I2 hex cov fl6.1 ((up4.trans up5).trans up6);obtain ⟨ob6,hob6,hobc6⟩:=fl6.there;have n0:X.s₀.heap.get? ea=none:=by
   cases z:X.s₀.heap.get? ea with
   | none=>rfl
   | some u =>
    obtain ⟨u',z'⟩:=I1.base.there ea u z (by rw [hex]; simp);exact absurd z' (no1 u')
  have I7:Inv X pins σ (upd H' ea (.ext (ExcAt ea C))) { s2 with heap:=h6 }:=by
   refine I6.track hea n0 (fun pp hpp z=>?_) (fun z=>?_) (fun y c ec z=>?_) (excAt_ok ⟨ob6,hob6,hobc6⟩)
   ·obtain ⟨e1,_⟩:=I1.pin pp hpp
    rw [z] at e1;exact no1 _ e1
   ·obtain ⟨m,⟨o,_,_,ho,_⟩,_⟩:=I1.loc
    rw [<- z] at ho;exact no1 _ ho
   ·obtain ⟨v,o,ho,_⟩:=I1.cell y c ec
    rw [z] at ho;exact no1 _ ho
  refine store_ok (X:=X.inHandler ea) (I7.toHandler ea) hN hi (.inl hn) (v:=.ref ea) rfl (fun s8 I8=>?_) (.inr hn);refine wpAny_mono (hs ea pins s8 _ _ _ I8 (q ea hea)) (fun fl9 s9 z=>?_) fun _ _ z=>False.elim z
  cases fl9 with
  | next =>
   obtain ⟨σ9,H9,I9,q9⟩:=z;exact Inv.goes (I9.fromHandler I.ok) hN hi hn fun s10 I10=>⟨_,H9,I10,q9⟩
  | ret u =>
   obtain ⟨_,_,_,_,_,q9⟩:=z;exact False.elim q9
  | brk =>
   obtain ⟨_,_,_,q9⟩:=z;exact False.elim q9
  | cont =>
   obtain ⟨_,_,_,q9⟩:=z;exact False.elim q9
end
inductive IsA (K:Ap) (H:Hp):V->String->Bool->Prop where
 | old {v:V} {s:String} {b:Bool} (h:IsL K H v s b):IsA K H v s b
 | blTup (b:Bool):IsA K H (.bl b) "tuple" false
 | blList (b:Bool):IsA K H (.bl b) "list" false
 | nonTup:IsA K H .non "tuple" false
 | nonList:IsA K H .non "list" false
 | strTup (z:Str):IsA K H (.str z) "tuple" false
 | strList (z:Str):IsA K H (.str z) "list" false
 | dictTup {a:Addr} {kvs:List (Key×V)} (h:H a=some (.dK kvs)):IsA K H (.ref a) "tuple" false
 | dictList {a:Addr} {kvs:List (Key×V)} (h:H a=some (.dK kvs)):IsA K H (.ref a) "list" false
section
variable {X:Cx}
theorem call_isa:CallR X (.builtin "isinstance") (fun xs H Q=>∃ x T b,xs=[x,.ty T]/\IsA X.K H x T b/\Q (.bl b) H):=by
 intro pins s σ H xs us Q I r h;obtain ⟨x,T,b,rfl,hi,q⟩:=h
 cases hi with
 | old h=>exact call_isl pins s σ H _ us Q I r ⟨_,_,_,rfl,h,q⟩
 | blTup b=>obtain ⟨u,u',rfl,rx,rt⟩:=vals2 r; cases rt; cases rx; exact IsiPair.bool_tuple ⟨.bl false,H,I.tok _,rfl,q⟩
 | blList b=>obtain ⟨u,u',rfl,rx,rt⟩:=vals2 r; cases rt; cases rx; exact IsiPair.bool_list ⟨.bl false,H,I.tok _,rfl,q⟩
 | nonTup=>obtain ⟨u,u',rfl,rx,rt⟩:=vals2 r; cases rt; cases rx; exact IsiPair.NoneType_tuple ⟨.bl false,H,I.tok _,rfl,q⟩
 | nonList=>obtain ⟨u,u',rfl,rx,rt⟩:=vals2 r; cases rt; cases rx; exact IsiPair.NoneType_list ⟨.bl false,H,I.tok _,rfl,q⟩
 | strTup z=>obtain ⟨u,u',rfl,rx,rt⟩:=vals2 r; cases rt; obtain ⟨t,rfl⟩:=rx; exact IsiPair.str_tuple ⟨.bl false,H,I.tok _,rfl,q⟩
 | strList z=>obtain ⟨u,u',rfl,rx,rt⟩:=vals2 r; cases rt; obtain ⟨t,rfl⟩:=rx; exact IsiPair.str_list ⟨.bl false,H,I.tok _,rfl,q⟩
 | @dictTup ad kvs h =>
  obtain ⟨u,u',rfl,rx,rt⟩:=vals2 r
  cases rt
  cases rx
  obtain ⟨_,_,_,_,o,_,_,h1,h2,_⟩:=(show ObjOk X.prog X.w H s.heap ad (.dK kvs) from I.hok ad _ h);exact IsiPair.dict_tuple h1 h2.1 ⟨.bl false,H,I.tok _,rfl,q⟩
 | @dictList ad kvs h =>
  obtain ⟨u,u',rfl,rx,rt⟩:=vals2 r
  cases rt
  cases rx
  obtain ⟨_,_,_,_,o,_,_,h1,h2,_⟩:=(show ObjOk X.prog X.w H s.heap ad (.dK kvs) from I.hok ad _ h);exact IsiPair.dict_list h1 h2.1 ⟨.bl false,H,I.tok _,rfl,q⟩
end
inductive IsB (K:Ap) (H:Hp):V->String->Bool->Prop where
 | a {v:V} {s:String} {b:Bool} (h:IsA K H v s b):IsB K H v s b
 | str (z:Str):IsB K H (.str z) "str" true
 | noStr {v:V} (h:IsS K H v):IsB K H v "str" false
section
variable {X:Cx}
theorem Q7:CallR X (.builtin "isinstance") (fun xs H Q=>∃ x T b,xs=[x,.ty T]/\IsB X.K H x T b/\Q (.bl b) H):=by
 intro pins s σ H xs us Q I r h;obtain ⟨x,T,b,rfl,hi,q⟩:=h
 cases hi with
 | a h=>exact call_isa pins s σ H _ us Q I r ⟨_,_,_,rfl,h,q⟩
 | str z=>exact call_iss pins s σ H _ us Q I r ⟨_,rfl,.inl ⟨z,rfl,q⟩⟩
 | noStr h=>exact call_iss pins s σ H _ us Q I r ⟨_,rfl,.inr ⟨h,q⟩⟩
end
theorem vY {X:Cx} {E:XK} {scope:Scope} {N:List Str} {ix:List (Option Nat)} {elt tg iter:Expr} {ifs:List Expr} {pos ps pn:Pos} {wi:TI} {g:CP->TG} {tt:CP->TT} {te:CP->TE} {i:Nat} {x:Str}
  (hst:X.stack=X.env::X.outer) (hfr:X.env.frame=some X.env.locals) (hex:X.ex=[])
  (hxe:X.xe=fun e s'=>wpAny (model X.prog X.w) X.A (leaving X.env e) (fun _ s''=>CXE X.prog X.w X.outer X.H₀ X.s₀ E e s'') (fun e' s''=>CXE X.prog X.w X.outer X.H₀ X.s₀ E e' s'') s')
  (hN:X.N.Nodup) (hx:X.N[i]?=some x) (hl:Loc X.env.scope x) (k:CompOk X scope (closL scope X.env) N ix) (hc:X.calm=true) (hi:PI X tg iter wi) (hg:∀ c,PG (X.compE E scope (closL scope X.env) N c) tg (g c)) (ho:∀ c σ,GOk (g c) (compS ix σ)) (ht:∀ c,PIfs (X.compE E scope (closL scope X.env) N c) ifs (tt c))
  (he:∀ c,PE (X.compE E scope (closL scope X.env) N c) elt (te c)) (hsw:swapsWith (.ListComp elt [⟨tg,iter,ifs,0⟩] scope pos) (some (.Name x pn)) ps.line X.env=pure true:=by rfl)
  (hs:∀ x,foldedSetIterable iter X.env x=pure x:=by intro _; rfl) (hf:X.fn x=true\/X.env.scope.names.lookup x=some .local:=by first | exact .inl rfl | exact .inr rfl | assumption) :
  PS X (.Assign [.Name x pn] (.ListComp elt [⟨tg,iter,ifs,0⟩] scope pos) ps) (sComp ix i wi g tt te):=by
 intro pins s σ H D I h;rw [exec_Assign_Name_used _ _ _ _ hsw];refine wpAny_bind (wpAny_standAt (wpAny_bind ?_));show wpAny _ _ (comprehension (.ListComp elt [⟨tg,iter,ifs,0⟩] scope pos) scope X.env _ (newList []) false (eval iter X.env) (some (assign (.Name x pn) X.env)) >>= fun _=>_) _ _ s;refine wpAny_bind (thn (comp_runE (use:=some (assign (.Name x pn) X.env)) (Q0:=fun _ s'=>SP X pins D .next s') hst hfr hex hxe k hc hi hg ho ht he hs I h fun p C s' H' ys m I' fC hm hn z=>?_) fun _ s' q=>wpAny_pure (wpAny_pure q));show wpAny _ _ (assign (.Name x pn) X.env (.ref p)) _ _ s';refine wpAny_assign_Name (store_ok2 (v:=.ref p) I' hN hx hl rfl (fun s3 I3 same=>?_) hf);obtain ⟨b,sb,hb⟩:=same;have nb:C≠b:=by
  rcases hb with e | e
  ·rw [e]; exact fC.2.1
  ·exact Ne.symm (fC.2.2.2.2.1 x b e)
 refine ⟨m,hm.sameBut sb nb,fun h' sb'=>⟨_,_,I3.turned (t':=s3.toks) (fun c o hc e=>(sb'.2 c hc).trans e) fC.1 fC.2.1 fC.2.2.2.1 fC.2.2.2.2.1 fC.2.2.2.2.2,z p hn⟩⟩
theorem dedup_len:∀ (xs acc:List Int),acc.Nodup->(xs.foldl step_dedup acc).length<=acc.length+xs.length/\((xs.foldl step_dedup acc).length=acc.length+xs.length->(acc++xs).Nodup)
 | [],acc,h=>⟨by simp,fun _=>by simpa using h⟩
 | x::xs,acc,h=>by
  by_cases hx:x∈acc
  ·have e:step_dedup acc x=acc:=by unfold step_dedup; simp [hx]
   rw [List.foldl_cons,e];have k:=dedup_len xs acc h;exact ⟨by rw [List.length_cons]; omega,fun z=>by rw [List.length_cons] at z; omega⟩
  ·have e:step_dedup acc x=acc++[x]:=by unfold step_dedup; simp [hx]
   rw [List.foldl_cons,e];have k:=dedup_len xs (acc++[x]) (by rw [List.nodup_append]; exact ⟨h,by simp,fun a ha b hb z=>by rw [List.mem_singleton.mp hb] at z; exact hx (z ▸ ha)⟩);rw [Ad,A6] at k;refine ⟨by rw [List.length_cons]; omega,fun z=>?_⟩;have:=k.2 (by rw [List.length_cons] at z; omega)
   simpa using this
theorem firstMet_len (ns:List Int):(firstMet (fun i=>ns.getD i 0) ns.length).length<=ns.length/\((firstMet (fun i=>ns.getD i 0) ns.length).length=ns.length↔ns.Nodup):=by
 have k:(firstMet (fun i=>ns.getD i 0) ns.length).length<=ns.length/\((firstMet (fun i=>ns.getD i 0) ns.length).length=ns.length->ns.Nodup):=by
  unfold firstMet;have e:(List.range ns.length).map (fun i=>ns.getD i 0)=ns:=by
   apply List.ext_getElem?
   intro j
   by_cases hj:j<ns.length
   ·simp [hj,List.getD]
   ·simp [hj]
  rw [e];have k:=dedup_len ns [] List.nodup_nil
  simpa using k
 exact ⟨k.1,k.2,fun h=>by rw [firstMet_nodup h]⟩
section
variable {X:Cx}
theorem call_set_all (hc:X.calm=true):CallR X (.type "set") (fun xs H Q=>∃ (p:Addr) (ns:List Int),xs=[.ref p]/\SqL X.K H p (ns.map V.int)/\ns.length<=100/\∀ l S n,n<=100->(n=ns.length↔ns.Nodup)->H l=none->Q (.ref l) (upd H l (.set S n))):=by
 intro pins s σ H xs us Q I r h;obtain ⟨p,ns,rfl,hq,small,q⟩:=h;obtain ⟨u,rfl,rx⟩:=vals1 r
 cases rx
 obtain ⟨its,rv,pl,hz⟩:=I.list hq;have hlen:its.length=ns.length:=by rw [<- rv.length,List.length_map]
 refine call_set_list (I.ok.hd hc) pl.isList (ns:=ns) (by simpa using ints_are rv) (by rw [List.size_toArray,hlen]; exact Nat.lt_of_le_of_lt (show ns.length+1<=101 by omega) (by decide)) fun h' tk hs kp=>?_
 have ez:its.toArray.size=ns.length:=by rw [List.size_toArray,hlen]
 rw [ez] at hs;have k:=firstMet_len ns;exact ⟨.ref s.heap.objs.size,_,I.laid (t':=tk) (fun b o e=>kp b o (Heap.lt_size e) e) (Nat.le_refl _) (show ObjOk X.prog X.w _ h' _ (.set _ _) from hs),rfl,q _ _ _ (by omega) k.2 (I.hok.fresh (Nat.le_refl _))⟩
end
structure OwnCls (K:Ap) (C:Addr):Prop where
 own:PySem.W.findIn K (.ref C) "__class__" = some (some (.builtin "object.__class__"))
 get:PySem.W.specialIn K (.builtin "object.__class__") "__get__" = some (some (.builtin "getset_descriptor.__get__"))
 takes:PySem.W.takesIn K (.builtin "object.__class__")=some true
 obj:PySem.W.mroIn K C (.type "object")=some true
 one:PySem.W.kitOne K (.ref C) (.ref C)=some true
theorem join_txt (a:Str) (ys:List Str):Txt.join a ys=Str.join a ys:=by
 have h:=join_closes (sep:=a) (ys:=ys) rfl
 simpa using h
section
variable {X:Cx}
theorem mt_join:MtR X "str.join" (fun x vs H Q=>∃ (a:Str) (p:Addr) (ys:List Str),x=.str a/\vs=[.ref p]/\SqL X.K H p (ys.map V.str)/\a.length<=16/\(ys.map (·.length)).sum+ys.length<=1048576/\Q (.str (Str.join a ys)) H):=by
 intro pins s σ H x vs v us Q I rx rv h;obtain ⟨a,p,ys,rfl,rfl,hp,ha,hz,q⟩:=h;obtain ⟨t,rfl⟩:=rx;obtain ⟨u,rfl,rp⟩:=vals1 rv
 cases rp
 obtain ⟨its,rv,pl,_⟩:=I.list hp;refine join_listW pl.isList (by simpa using strs_are rv) ha hz fun t' k=>⟨.str (Str.join a ys),H,I.tok k,⟨_,by rw [join_txt]⟩,q⟩
end
theorem join_inj {c:Nat}:∀ {ps qs:List Str},ps≠[]->qs≠[]->(∀ p∈ps,c∉p.cps.toList)->(∀ p∈qs,c∉p.cps.toList)->Str.join ⟨#[c]⟩ ps=Str.join ⟨#[c]⟩ qs->ps=qs
 | [],_,h,_,_,_,_=>absurd rfl h
 | _,[],_,h,_,_,_=>absurd rfl h
 | [p],[q],_,_,_,_,e=>by
  have e:p=q:=e;rw [e]
 | [p],q::q2::qs,_,_,h1,_,e=>by
  have e:p=q++⟨#[c]⟩++Str.join ⟨#[c]⟩ (q2::qs):=e;refine absurd ?_ (h1 p (List.mem_singleton.mpr rfl));rw [e,cps_toList_append,cps_toList_append];exact Aa _ (A7 _ (List.mem_singleton.mpr rfl))
 | p::p2::ps,[q],_,_,_,h2,e=>by
  have e:p++⟨#[c]⟩++Str.join ⟨#[c]⟩ (p2::ps)=q:=e;refine absurd ?_ (h2 q (List.mem_singleton.mpr rfl));rw [<- e,cps_toList_append,cps_toList_append];exact Aa _ (A7 _ (List.mem_singleton.mpr rfl))
 | p::p2::ps,q::q2::qs,_,_,h1,h2,e=>by
  have e:p++⟨#[c]⟩++Str.join ⟨#[c]⟩ (p2::ps)=q++⟨#[c]⟩++Str.join ⟨#[c]⟩ (q2::qs):=e;have k:=congrArg (fun z=>Txt.partition z ⟨#[c]⟩) e;have k:Txt.partition (p++⟨#[c]⟩++Str.join ⟨#[c]⟩ (p2::ps)) ⟨#[c]⟩=Txt.partition (q++⟨#[c]⟩++Str.join ⟨#[c]⟩ (q2::qs)) ⟨#[c]⟩:=k;rw [part_at (h1 p Ae),part_at (h2 q Ae)] at k;have k1:p=q:=congrArg (fun z=>z.1) k;have k2:Str.join ⟨#[c]⟩ (p2::ps)=Str.join ⟨#[c]⟩ (q2::qs):=congrArg (fun z=>z.2.2) k;rw [k1,join_inj (by simp) (by simp) (fun p hp=>h1 p (List.mem_cons_of_mem _ hp)) (fun p hp=>h2 p (List.mem_cons_of_mem _ hp)) k2]
theorem jZ {c:Nat} {ps:List Str} (n:ps≠[]) (h:∀ p∈ps,c∉p.cps.toList):Txt.split (Str.join ⟨#[c]⟩ ps) ⟨#[c]⟩=ps:=by
 refine join_inj (fun z=>?_) n (StrLaws.split_free _ c) h (StrLaws.join_split _ _);have:=split_pos (Str.join ⟨#[c]⟩ ps) ⟨#[c]⟩;rw [z] at this;exact absurd this (by decide)
theorem sum_le {B:Nat}:∀ {ys:List Str},(∀ y∈ys,y.length<=B)->(ys.map (·.length)).sum<=ys.length*B
 | [],_=>by simp
 | y::ys,h=>by
  rw [List.map_cons,List.sum_cons,List.length_cons,Nat.succ_mul];have h1:=h y Ae;have h2:=sum_le (ys:=ys) fun z hz=>h z (List.mem_cons_of_mem _ hz)
  omega
theorem wq {c:Nat}:∀ (ps:List Str),(Str.join ⟨#[c]⟩ ps).length<=(ps.map (·.length)).sum+ps.length
 | []=>by simp [Str.join]; decide
 | [p]=>by
  show p.length<=_
  simp
 | p::p2::ps=>by
  have h:=wq (c:=c) (p2::ps);have e:(Str.join ⟨#[c]⟩ (p::p2::ps)).length=p.length+1+(Str.join ⟨#[c]⟩ (p2::ps)).length:=by
   show (p++⟨#[c]⟩++Str.join ⟨#[c]⟩ (p2::ps)).length=_;rw [j0,cps_toList_append,cps_toList_append,Ad,Ad,<- j0,<- j0];rfl
  rw [e,List.map_cons,List.sum_cons,List.length_cons];omega
theorem join_free {c d:Nat} (n:d≠c):∀ {ps:List Str},(∀ p∈ps,d∉p.cps.toList)->d∉(Str.join ⟨#[c]⟩ ps).cps.toList
 | [],_=>by
  intro z;exact absurd z (by show d∉([]:List Nat); simp)
 | [p],h=>h p (List.mem_singleton.mpr rfl)
 | p::p2::ps,h=>by
  show d∉(p++⟨#[c]⟩++Str.join ⟨#[c]⟩ (p2::ps)).cps.toList;rw [cps_toList_append,cps_toList_append];intro z
  rcases Ak.mp z with z | z
  ·rcases Ak.mp z with z | z
   ·exact h p Ae z
   ·exact n (List.mem_singleton.mp z)
  ·exact join_free n (fun q hq=>h q (List.mem_cons_of_mem _ hq)) z
section
variable {X:Cx}
end
section
variable {X:Cx}
end
section
variable {X:Cx}
end
end L2
namespace L2
open PySem
section
variable {X:Cx}
def bS (s:Stmt) (i:Nat):Stmt:=(zQ s).getD i (.Pass ⟨0,0,0,0⟩)
theorem ltX {s:Stmt} {D:L2.Ends} {σ:St} {H:Hp} (k:let Z:=X; let D':=D; ∃ t,PSs Z (zQ s) t/\t D' σ H):∃ t,PSs X (zQ s) t/\t D σ H:=k
theorem lt2 {t0 t1:TS} {D:L2.Ends} {σ:St} {H:Hp} (k:let u0:=t0; let u1:=t1; (tSeq u0 u1) D σ H):(tSeq t0 t1) D σ H:=k
theorem body2 (hb:zQ s=[bS s 0,bS s 1]) (h0:PS X (bS s 0) t0) (h1:PS X (bS s 1) t1):PSs X (zQ s) (tSeq t0 t1):=by
 rw [hb];exact (qK h0 (qJ h1))
theorem lt3 {t0 t1 t2:TS} {D:L2.Ends} {σ:St} {H:Hp} (k:let u0:=t0; let u1:=t1; let u2:=t2; (tSeq u0 (tSeq u1 u2)) D σ H):(tSeq t0 (tSeq t1 t2)) D σ H:=k
theorem body3 (hb:zQ s=[bS s 0,bS s 1,bS s 2]) (h0:PS X (bS s 0) t0) (h1:PS X (bS s 1) t1) (h2:PS X (bS s 2) t2):PSs X (zQ s) (tSeq t0 (tSeq t1 t2)):=by
 rw [hb];exact (qK h0 (qK h1 (qJ h2)))
theorem lt4 {t0 t1 t2 t3:TS} {D:L2.Ends} {σ:St} {H:Hp} (k:let u0:=t0; let u1:=t1; let u2:=t2; let u3:=t3; (tSeq u0 (tSeq u1 (tSeq u2 u3))) D σ H):(tSeq t0 (tSeq t1 (tSeq t2 t3))) D σ H:=k
theorem body4 (hb:zQ s=[bS s 0,bS s 1,bS s 2,bS s 3]) (h0:PS X (bS s 0) t0) (h1:PS X (bS s 1) t1) (h2:PS X (bS s 2) t2) (h3:PS X (bS s 3) t3):PSs X (zQ s) (tSeq t0 (tSeq t1 (tSeq t2 t3))):=by
 rw [hb];exact (qK h0 (qK h1 (qK h2 (qJ h3))))
theorem lt5 {t0 t1 t2 t3 t4:TS} {D:L2.Ends} {σ:St} {H:Hp} (k:let u0:=t0; let u1:=t1; let u2:=t2; let u3:=t3; let u4:=t4; (tSeq u0 (tSeq u1 (tSeq u2 (tSeq u3 u4)))) D σ H):(tSeq t0 (tSeq t1 (tSeq t2 (tSeq t3 t4)))) D σ H:=k
theorem body5 (hb:zQ s=[bS s 0,bS s 1,bS s 2,bS s 3,bS s 4]) (h0:PS X (bS s 0) t0) (h1:PS X (bS s 1) t1) (h2:PS X (bS s 2) t2) (h3:PS X (bS s 3) t3) (h4:PS X (bS s 4) t4):PSs X (zQ s) (tSeq t0 (tSeq t1 (tSeq t2 (tSeq t3 t4)))):=by
 rw [hb];exact (qK h0 (qK h1 (qK h2 (qK h3 (qJ h4)))))
theorem lt6 {t0 t1 t2 t3 t4 t5:TS} {D:L2.Ends} {σ:St} {H:Hp} (k:let u0:=t0; let u1:=t1; let u2:=t2; let u3:=t3; let u4:=t4; let u5:=t5; (tSeq u0 (tSeq u1 (tSeq u2 (tSeq u3 (tSeq u4 u5))))) D σ H):(tSeq t0 (tSeq t1 (tSeq t2 (tSeq t3 (tSeq t4 t5))))) D σ H:=k
theorem body6 (hb:zQ s=[bS s 0,bS s 1,bS s 2,bS s 3,bS s 4,bS s 5]) (h0:PS X (bS s 0) t0) (h1:PS X (bS s 1) t1) (h2:PS X (bS s 2) t2) (h3:PS X (bS s 3) t3) (h4:PS X (bS s 4) t4) (h5:PS X (bS s 5) t5):PSs X (zQ s) (tSeq t0 (tSeq t1 (tSeq t2 (tSeq t3 (tSeq t4 t5))))):=by
 rw [hb];exact (qK h0 (qK h1 (qK h2 (qK h3 (qK h4 (qJ h5))))))
theorem lt7 {t0 t1 t2 t3 t4 t5 t6:TS} {D:L2.Ends} {σ:St} {H:Hp} (k:let u0:=t0; let u1:=t1; let u2:=t2; let u3:=t3; let u4:=t4; let u5:=t5; let u6:=t6; (tSeq u0 (tSeq u1 (tSeq u2 (tSeq u3 (tSeq u4 (tSeq u5 u6)))))) D σ H):(tSeq t0 (tSeq t1 (tSeq t2 (tSeq t3 (tSeq t4 (tSeq t5 t6)))))) D σ H:=k
theorem body7 (hb:zQ s=[bS s 0,bS s 1,bS s 2,bS s 3,bS s 4,bS s 5,bS s 6]) (h0:PS X (bS s 0) t0) (h1:PS X (bS s 1) t1) (h2:PS X (bS s 2) t2) (h3:PS X (bS s 3) t3) (h4:PS X (bS s 4) t4) (h5:PS X (bS s 5) t5) (h6:PS X (bS s 6) t6):PSs X (zQ s) (tSeq t0 (tSeq t1 (tSeq t2 (tSeq t3 (tSeq t4 (tSeq t5 t6)))))):=by
 rw [hb];exact (qK h0 (qK h1 (qK h2 (qK h3 (qK h4 (qK h5 (qJ h6)))))))
theorem lt8 {t0 t1 t2 t3 t4 t5 t6 t7:TS} {D:L2.Ends} {σ:St} {H:Hp} (k:let u0:=t0; let u1:=t1; let u2:=t2; let u3:=t3; let u4:=t4; let u5:=t5; let u6:=t6; let u7:=t7; (tSeq u0 (tSeq u1 (tSeq u2 (tSeq u3 (tSeq u4 (tSeq u5 (tSeq u6 u7))))))) D σ H):(tSeq t0 (tSeq t1 (tSeq t2 (tSeq t3 (tSeq t4 (tSeq t5 (tSeq t6 t7))))))) D σ H:=k
theorem body8 (hb:zQ s=[bS s 0,bS s 1,bS s 2,bS s 3,bS s 4,bS s 5,bS s 6,bS s 7]) (h0:PS X (bS s 0) t0) (h1:PS X (bS s 1) t1) (h2:PS X (bS s 2) t2) (h3:PS X (bS s 3) t3) (h4:PS X (bS s 4) t4) (h5:PS X (bS s 5) t5) (h6:PS X (bS s 6) t6) (h7:PS X (bS s 7) t7):PSs X (zQ s) (tSeq t0 (tSeq t1 (tSeq t2 (tSeq t3 (tSeq t4 (tSeq t5 (tSeq t6 t7))))))):=by
 rw [hb];exact (qK h0 (qK h1 (qK h2 (qK h3 (qK h4 (qK h5 (qK h6 (qJ h7))))))))
theorem ps_s (i:Nat) (hN:X.N.Nodup) (he:PE X e te) (hi:X.N[i]?=some x:=by rfl) (hx:Loc X.env.scope x:=by exact Or.inl rfl) (hs:swapsWith e (some (.Name x pos')) pos.line X.env=pure false:=by rfl) (hf:X.fn x=true\/X.env.scope.names.lookup x=some .local:=by first | exact .inl rfl | exact .inr rfl | assumption):PS X (.Assign [.Name x pos'] e pos) (tAsg te (gName i)):=ps_set hN hi hx he hs hf
theorem pg_n (i:Nat) (hN:X.N.Nodup) (hi:X.N[i]?=some x:=by rfl) (hx:Loc X.env.scope x:=by exact Or.inl rfl) (hf:X.fn x=true\/X.env.scope.names.lookup x=some .local:=by first | exact .inl rfl | exact .inr rfl | assumption):PG X (.Name x pos) (gName i):=pg_name hN hi hx hf
theorem pe_app (ho:PE X o to) (he:PE X e te) (hp:plainE e=true:=by rfl) (hb:attributeBase o "append" X.env (eval o X.env)=eval o X.env:=by rfl) (hl:(apos.endLine==cpos.line)=true:=by rfl):PE X (.Call (.Attribute o "append" apos) [e] [] cpos) (tBM X.K "list" rAppend to (tCons te tNil)) :=
 pe_bm PySem.F.plainAttrs_list PySem.F.slot_list_append PySem.F.type_list_append mt_append ho (pa_c he qj hp) hb (by rw [qz hp]; rfl) hl (qz hp _ _) (qQ rfl)
structure Df (K:Ap) (mg:Str->Option Value) (x:Str) (st:Stmt) (f:Addr) (d:FuncData) (ps:List Str):Prop where
 F:Fun K x x st f d
 m:mg x=some (.ref f)
 b:Binds K d ps []
theorem pe_d {st:Stmt} (F:FnOk X.prog X.w X.K X.mg X.base CX0 k f fd ps sp) (hr:Room n X.A) (D:Df X.K X.mg x st f fd ps) (ha:PA X (e::es) t) (hj:k<=n:=by decide) (hg:Gl X x:=by rfl) (hdb:(x==("__debug__" : Str))=false:=by decide) (he:starEach (e::es) X.env=(false,eval e X.env)::starEach es X.env:=by exact qz rfl _ _) (hpl:(backTo pos (starEach es X.env)).any (·.1)=false:=by exact qQ rfl) :
  PE X (.Call (.Name x p) (e::es) [] pos) (tCall sp [] E0 t):=zy F (hr.mono hj) hg D.m D.F.kp D.b .nil pass0 ha hdb he hpl
end
open PySem.Spec PyProof.Rows BP
section
variable {X:Cx}
def tolds (D:List (Str×List V)) (x:Str):Option (List V):=(D.find? fun p=>decide (p.1=x)).map (·.2)
def WordsAt (w:World) (K:Ap) (d:Addr) (D:List (Str×List V)):Prop :=
 (d==sysModules)=false/\∃ o kvs,K.lookup d=some o/\(∀ P,o.IsDictOf (PySem.strKind P w) kvs)/\kvs.map (·.1)=D.map (·.1)/\∀ x vs,tolds D x=some vs->∃ p,PySem.valueAt kvs x=some (.ref p)/\∀ H,SqT K H p vs
theorem told_some {D:List (Str×List V)} {kvs:List (Str×Value)} (h:kvs.map (·.1)=D.map (·.1)) (x:Str):(PySem.valueAt kvs x).isSome=(tolds D x).isSome:=by
 induction kvs generalizing D with
 | nil =>
  cases D with
  | nil=>rfl
  | cons _ _=>cases h
 | cons k ks ih =>
  cases D with
  | nil=>cases h
  | cons p D =>
   rw [List.map_cons,List.map_cons] at h
   injection h with h1 h2
   have:=ih h2;unfold PySem.valueAt tolds at this ⊢;rw [List.find?_cons,List.find?_cons,h1]
   by_cases c:p.1=x
   ·simp only [decide_eq_true c]; rfl
   ·simp only [decide_eq_false c]; exact this
def rNotInW (w:World) (K:Ap):R2:=fun x y H Q=>∃ (z:Str) (d:Addr) (D:List (Str×List V)),x=.str z/\y=.ref d/\WordsAt w K d D/\Q (.bl (!(tolds D z).isSome)) H
theorem op_notInW:OpR X (compareOp .NotIn) (rNotInW X.w X.K):=by
 intro pins s σ H x y v u Q I rx ry h;obtain ⟨z,d,D,rfl,rfl,⟨n,o,kvs,lk,hd,ks,_⟩,q⟩:=h;obtain ⟨t,rfl⟩:=rx
 cases ry
 refine wpAny_notIn_of (PySem.strKind_is X.prog X.w z t) n (Heap.dictOf_iff.mpr ⟨o,I.kIn d o lk,hd X.prog⟩).mapOf ⟨.bl (!(tolds D z).isSome),H,I.tok _,?_,q⟩;rw [told_some ks];rfl
def rIxW (w:World) (K:Ap):R2:=fun x y H Q=>∃ (z:Str) (d:Addr) (D:List (Str×List V)) (vs:List V),x=.ref d/\y=.str z/\WordsAt w K d D/\tolds D z=some vs/\∀ p,SqT K H p vs->Q (.ref p) H
theorem ix_words:IxR X (rIxW X.w X.K):=by
 intro value slice pins s σ H x y v u Q I rx ry h hs;obtain ⟨z,d,D,vs,rfl,rfl,⟨n,o,kvs,lk,hd,ks,hv⟩,td,q⟩:=h
 cases rx
 obtain ⟨t,rfl⟩:=ry;obtain ⟨p,ep,sq⟩:=hv z vs td;have hm:=Heap.dictOf_iff.mpr ⟨o,I.kIn d o lk,hd X.prog⟩;exact subscriptTail_builtinR (x:=.ref p) hm.typeIs slot_dict_getitem.lookup (wpAny_getItem_of (Q:=fun r s'=>r=.ref p/\EP X pins σ Q r s') (PySem.strKind_is X.prog X.w z t) hm.mapOf ep ⟨rfl,.ref p,H,I.tok _,rfl,q p (sq H)⟩) hs
def tupLook (K:Ap):List PyData->Value->Bool
 | ds,.ref p=>(match K.lookup p with
  | some o=>o.cls==.type "tuple" && (match o.data with | .seq vs _=>KTD.flatsLook ds vs.toList | _=>false)
  | none=>false)
 | _,_=>false
def toV:PyData->V
 | .bool b=>.bl b
 | .int i=>.int i
 | .str x=>.str x
 | _=>.non
theorem flat_rel {d:PyData} {v:Value} (h:KTD.flatLooks d v=true):RelV (toV d) v:=by
 unfold KTD.flatLooks at h
 split at h
 ·rfl
 ·exact congrArg Value.bool (beq_iff_eq.mp h).symm
 ·rename_i i j t
  exact ⟨t,by rw [beq_iff_eq.mp h]⟩
 ·rename_i x y t
  exact ⟨t,by rw [beq_iff_eq.mp h]⟩
 ·cases h
theorem flats_rel:∀ {ds:List PyData} {vs:List Value},KTD.flatsLook ds vs=true->Vals (ds.map toV) vs
 | [],[],_=>.nil
 | d::ds,v::vs,h=>by
  simp only [KTD.flatsLook,Bool.and_eq_true] at h
  exact .cons (flat_rel h.1) (flats_rel h.2)
 | [],_::_,h=>by simp [KTD.flatsLook] at h
 | _::_,[],h=>by simp [KTD.flatsLook] at h
theorem tup_rel {K:Ap} {ds:List PyData} {v:Value} (h:tupLook K ds v=true) (l:ds.length<=1000):∃ p,v=.ref p/\∀ H,SqT K H p (ds.map toV):=by
 cases v with
 | ref p =>
  unfold tupLook at h;dsimp only at h
  cases ek:K.lookup p with
  | none=>rw [ek] at h; exact absurd h Ag
  | some o =>
   rw [ek,Bool.and_eq_true] at h;have h1:=h.1;have h2:=h.2
   split at h2
   ·rename_i vs n hd
    have r:=flats_rel h2;refine ⟨p,rfl,fun H=>.inr ⟨o,vs,n,ek,beq_iff_eq.mp h1,hd,?_,r⟩⟩;have:=r.length
    simp only [List.length_map,Array.length_toList] at this
    exact Ao (by omega) (show 1000<=sizeLine by decide)
   ·cases h2
 | _=>cases h
theorem rows_rel {K:Ap} {L:List PyData->Value->Bool} (hL:∀ ds v,L ds v=true->ds.length<=1000->∃ p,v=.ref p/\∀ H,SqT K H p (ds.map toV)) (w:World):∀ {es:List DictEntry} {D:List (Str×List PyData)},KTD.rowsLook L es D=true->es.map (·.hash)=D.map (fun p=>hashStr w p.1)->(∀ p∈D,p.2.length<=1000)->(∀ P:Program,∀ e∈es,∃ k,(PySem.strKind P w).is k e.key=true/\e.hash=(PySem.strKind P w).hash k)/\∃ kvs:List (Str×Value),(∀ P,Pairs (PySem.strKind P w) es kvs)/\kvs.map (·.1)=D.map (·.1)/\∀ x vs,tolds (D.map fun p=>(p.1,p.2.map toV)) x=some vs->∃ p,PySem.valueAt kvs x=some (.ref p)/\∀ H,SqT K H p vs
 | [],[],_,_,_=>⟨(fun _ _ h=>(nomatch h)),[],fun _=>.nil,rfl,fun _ _ h=>by cases h⟩
 | e::es,(x,d)::D,h,hh,hl=>by
  simp only [KTD.rowsLook,Bool.and_eq_true] at h
  injection hh with hh1 hh2
  obtain ⟨⟨h1,h2⟩,h3⟩:=h;obtain ⟨hk,kvs,hp,hm,hv⟩:=rows_rel hL w h3 hh2 fun p hp=>hl p (List.mem_cons_of_mem _ hp)
  split at h1
  ·rename_i y t hkey
   have ey:=beq_iff_eq.mp h1;subst ey;have hi:∀ P,(PySem.strKind P w).is y e.key=true:=fun P=>by rw [hkey]; exact PySem.strKind_is P w y t
   obtain ⟨p,ep,sq⟩:=hL _ _ h2 (hl (y,d) Ae);refine ⟨fun P e' he'=>?_,(y,e.val)::kvs,fun P=>.cons (hi P) rfl (hp P),by simp [hm],fun x vs hx=>?_⟩
   ·rcases List.mem_cons.mp he' with he' | he'
    ·rw [he']; exact ⟨y,hi P,hh1⟩
    ·exact hk P e' he'
   ·unfold tolds at hx
    unfold PySem.valueAt;rw [List.map_cons,List.find?_cons] at hx;rw [List.find?_cons]
    by_cases c:y=x
    ·simp only [decide_eq_true c] at hx ⊢
     have hx:d.map toV=vs:=Am hx;exact ⟨p,congrArg some ep,fun H=>by rw [<- hx]; exact sq H⟩
    ·simp only [decide_eq_false c] at hx ⊢
     exact hv x vs hx
  ·cases h1
 | [],_::_,h,_,_=>by simp [KTD.rowsLook] at h
 | _::_,[],h,_,_=>by simp [KTD.rowsLook] at h
theorem words_of {w:World} {K:Ap} {d:Addr} {D:List (Str×List PyData)} {L:List PyData->Value->Bool} (hL:∀ ds v,L ds v=true->ds.length<=1000->∃ p,v=.ref p/\∀ H,SqT K H p (ds.map toV)) (hl:KTD.tabLook L (fun a=>K.lookup a) d D=true) (hh:KTD.hashesOf (fun a=>K.lookup a) d=D.map fun p=>hashStr w p.1) (hn:(D.map (·.1)).Nodup) (hs:∀ p∈D,p.2.length<=1000):WordsAt w K d (D.map fun p=>(p.1,p.2.map toV)):=by
 simp only [KTD.tabLook,Bool.and_eq_true] at hl
 obtain ⟨h0,hl⟩:=hl
 cases ho:K.lookup d with
 | none=>rw [ho] at hl; cases hl
 | some o =>
  rw [ho] at hl;rw [Bool.and_eq_true,Bool.and_eq_true,Bool.and_eq_true] at hl;have e1:=hl.1.1.1;have e2:=hl.1.1.2;have e3:=hl.1.2;have e4:=hl.2
  split at e4
  ·rename_i es ep hd
   have hh':es.toList.map (·.hash)=D.map fun p=>hashStr w p.1:=by
    rw [<- hh]; unfold KTD.hashesOf; dsimp only; rw [ho]; simp only [hd]
   obtain ⟨hk,kvs,hp,hm,hv⟩:=rows_rel hL w e4 hh' hs;refine ⟨by simpa using h0,o,kvs,ho,fun P=>⟨es,ep,⟨beq_iff_eq.mp e1,by simpa using e2,by simpa using e3⟩,hd,fun e he=>hk P e (by simpa using he),hp P,by rw [hm]; exact hn⟩,?_,hv⟩;rw [hm,List.map_map];rfl
  ·cases e4
end
abbrev noteE (X:Cx):Value->Shared->Prop:=notedBy (model X.prog X.w) X.A X.env (cameBackBy (model X.prog X.w) X.A X.env X.xe)
section
variable {M:Model} {A:Around} {E:Value->Shared->Prop} {s:Shared} {B:Heap} {e:Addr} {cls a0:Value}
theorem noted_made {h:Heap} {env:Env} {outer:List Env} {L:Addr} {args:List Value} {Q:Unit->Shared->Prop} (hfr:A.frames=some (env::outer)) (hf:env.frame=some L) (hkb:B.StaysIn h) (hl:h.FunFrames B (env::outer)) (hx:Heap.MadeExcOf h s.heap e cls args)
  (q:∀ h' t,OnWay B (env::outer) e cls (.ref t) h'->s.heap.UpToSlots h'->Q () { s with heap:=h' }):wpAny M A (noteFrame (.ref e) env) Q E s:=by
 obtain ⟨t,he,_,_⟩:=hx.there;have fresh:∀ b,h.get? b=none->B.get? b=none:=fun b none_b=>by
  cases in_B:B.get? b with
  | none=>rfl
  | some u=>exact absurd ((hkb b u in_B).symm.trans none_b) (by intro z; cases z)
 unfold noteFrame
 simp only [hf]
 refine wpAny_bind (wpAny_field he rfl (show (#[Value.ref t,Value.none,Value.none,Value.none,Value.bool false,Value.none]:Array Value)[1]?=some Value.none from rfl) ?_);rw [if_neg (show ¬ ((Value.none != Value.none)=true) by decide)];refine wpAny_entryW (a0:=.ref t) hfr (hl.of_keeps fun b o hb _=>⟨o,hx.keeps b o hb,rfl⟩) hf he (fun b o hb=>hx.keeps b o (hkb b o hb)) (fresh e hx.new) rfl (by simp) rfl fun h' note=>?_
 obtain ⟨n1,n2,n3,n4⟩:=note;exact q h' t ⟨n1,fresh e hx.new,n2,_,n3⟩ n4
theorem came_any {env:Env} {l:List Env} {E2:Value->Shared->Prop} (w:OnWay B l e cls a0 s.heap) (q:∀ h',OnWay B l e cls a0 h'->s.heap.UpToSlots h'->E2 (.ref e) { s with heap:=h' }):cameBackBy M A env E2 (.ref e) s:=by
 obtain ⟨k,ne,fr,fl,oe,vs,T,oT,ts,eat,hc,dat,h1,nT,Te,hT,dT,h3⟩:=id w;unfold cameBackBy;refine wpAny_bind (wpAny_field eat dat h1 ?_);rw [if_neg (by simp)]
 first
  | exact wpAny_bind (wpAny_pure (QV w q))
  | exact QV w q
end
section
variable {X:Cx}
theorem ps_raiseL {E:XK} {x:Str} {C:Addr} {e0:Expr} {es:List Expr} {ta:TA} {np cpos pos:Pos} (hst:X.stack=X.env::X.outer) (hfr:X.env.frame=some X.env.locals) (hex:X.ex=[]) (hcalm:X.calm=true)
  (hxe:X.xe=fun e s'=>wpAny (model X.prog X.w) X.A (leaving X.env e) (fun _ s''=>CXE X.prog X.w X.outer X.H₀ X.s₀ E e s'') (fun e' s''=>CXE X.prog X.w X.outer X.H₀ X.s₀ E e' s'') s')
  (hC:PySem.W.excIn X.K C veB "ValueError.__new__" = true) (hg:Gl X x) (hm:X.mg x=some (.ref C)) (ha:PA (X.wish (noteE X)) (e0::es) ta)
  (hd:(x==("__debug__" : Str))=false:=by decide) (he:starEach (e0::es) X.env=(false,eval e0 X.env)::starEach es X.env:=by rfl)
  (hpl:(backTo cpos (starEach (e0::es) X.env)).any (·.1)=false:=by rfl) (hpl2:(backTo cpos (starEach es X.env)).any (·.1)=false:=by rfl) :
  PS (X.wish (noteE X)) (.Raise (some (.Call (.Name x np) (e0::es) [] cpos)) none pos) (tRaise C E ta):=by
 intro pins s σ H D I h;obtain ⟨bm,N,nm,qn,bs,hdc,sn,sub,ab,col,dd,k0,k1,k2,k3,k5,mN,oC,oN,oi,oT⟩:=own_obj I.mod.kin hC;refine wpAny_Raise_call_subT (C:=C) (nm:=nm) (q:=qn) (N:=N) (bs:=bs) (bm:=bm) (hdct:=hdc) (sn:=sn) (sub:=sub) (ab:=ab) (col:=col) (dd:=dd) (k0:=k0) (k1:=k1) (k2:=k2) (k3:=k3) (k5:=k5)
  PySem.F.excBase_ValueError (mN:=mN) (oT.hasType (by decide)) (I.ok.hd hcalm) hpl oi (QJ I hg hm ⟨rfl,?_⟩ hd)
 have pa:=ha cpos pins s σ H _ I h;have he:starEach (e0::es) (X.wish (noteE X)).env=(false,eval e0 X.env)::starEach es X.env:=he;rw [he] at pa ⊢;refine Calls.evalArgs_plain (wpAny_mono pa (fun us s2 z=>?_) fun _ _ y=>y);obtain ⟨vs,H1,I1,r,hl,hE⟩:=z
 replace I1:=I1.unwish
 refine ⟨rfl,by rw [<- r.length]; exact hl,I1.bk _ _ oC,oN.keeps I1.bk,oT.keeps I1.bk,fun h3 e3 made=>?_⟩;have I3:Inv X pins σ H1 { s2 with heap:=h3 }:=I1.kept (t':=s2.toks) made.keeps;have stk:s2.heap.FunFrames (PySem.W.hideAll s2.heap (frs X.stack)) (X.env::X.outer):=by
  rw [<- hst];exact PySem.W.funFrames_hide I1.stack fun env hen b hb=>List.mem_filterMap.mpr ⟨env,hen,hb⟩
 have hA:X.A.frames=some (X.env::X.outer):=by rw [I1.ok.frames,hst]
 show notedBy (model X.prog X.w) X.A X.env (cameBackBy (model X.prog X.w) X.A X.env X.xe) (.ref e3) { s2 with heap:=h3 };refine noted_made (B:=PySem.W.hideAll s2.heap (frs X.stack)) hA hfr (fun b o q=>PySem.W.of_hideAll _ q) stk made fun h4 t w4 up4=>?_
 refine came_any w4 fun h5 w5 up5=>?_
 rw [hxe];refine leave_any hA hfr w5 fun h6 fl up6=>?_
 have up:h3.UpToSlots h6:=up4.trans (up5.trans up6);have cov3:∀ b o,h3.get? b=some o->((∃ u,X.s₀.heap.get? b=some u)\/(H1 b).isSome=true)->b∉frs X.stack->(PySem.W.hideAll s2.heap (frs X.stack)).get? b=some o:=fun b o q hb hn=>by
  have ex:∃ o',s2.heap.get? b=some o':=by
   rcases hb with ⟨u,hu⟩ | hs
   ·exact I1.base.there b u hu (by rw [hex]; simp)
   ·exact I1.hok.has hs
  obtain ⟨o',eo⟩:=ex;have eo2:h3.get? b=some o':=made.keeps b o' eo;have eq:some o=some o':=Eq.trans (Eq.symm q) eo2
  cases eq
  exact PySem.W.hideAll_get _ eo hn
 obtain ⟨u1,k1,c1⟩:=I3.flown hex fl.1 cov3 up;refine ⟨e3,C,_,H1,_,rfl,I3.os,I3.bare,u1,k1,fl,c1,?_,hE⟩
 cases z:H1 e3 with
 | none=>rfl
 | some v =>
  obtain ⟨u,hu⟩:=I1.hok.has (a:=e3) (by rw [z]; rfl);rw [made.new] at hu
  cases hu
end
end L2
namespace L2
open PySem PySem.Spec PyProof.Rows
theorem ps_forL {X:Cx} {tg:Expr} {iter:Expr} {body:List Stmt} {wi:TI} {g:TG} {tb:TS} {pos:Pos} (hc:X.calm=true) (hi:PI X tg iter wi) (hg:PG (X.wish (noteE X)) tg g) (hb:PSs (X.wish (noteE X)) body tb)
  (hs:∀ x,foldedSetIterable iter X.env x=pure x:=by intro _; rfl):PS X (.For tg iter body [] pos) (tFor wi g tb):=by
 intro pins s σ H D I h;refine wpAny_For (thn (hi pins s σ H _ I h) fun v s1 h1=>thn h1 fun itv s2 h2=>?_) hs;obtain ⟨it,fp,tn,J,H2,e,I2,T,st2,f2,W,⟨m0,w0⟩,turn⟩:=h2;subst e;have stat:∀ {H':Hp},(∀ b∈fp,H' b=none)->∀ b∈fp,FpOk X pins H' b:=fun hn b hb=>⟨hn b hb,(f2 b hb).2⟩
 refine codeAny_forLoop_any (fun n s'=>∃ i σ' H',Inv X pins σ' H' s'/\tn i s'.heap/\(∀ b∈fp,H' b=none)/\W i n σ' H') ?_ m0 ⟨0,σ,H2,I2,st2,fun b hb=>(f2 b hb).1,w0⟩;rintro n s3 ⟨i,σ3,H3,I3,st3,fr3,w3⟩
 rcases turn i n σ3 H3 w3 with ⟨stop,qn⟩ | ⟨go,N,hN,step⟩
 ·refine (thn (T.done X rfl rfl rfl hc i pins s3 σ3 H3 (noteE X) I3 (stat fr3) st3 stop) fun r s4 ⟨hr,I4⟩=>?_)
  subst hr;exact wpAny_execs_nil ⟨σ3,H3,I4,qn⟩
 ·refine (thn (T.item X rfl rfl rfl hc i pins s3 σ3 H3 (noteE X) I3 (stat fr3) st3 go) fun r s4 ⟨u,hr,h4⟩=>?_)
  subst hr;refine (thn h4 fun _ s5 ⟨x,H5,I5,r5,y5,st5,fr5⟩=>?_);have I5':=I5.pinned (stat fr5) (T.obj _ _ st5);refine (thn (hg _ s5 σ3 H5 x u _ (I5'.wish _) r5 (step x H5 y5)) fun _ s6 ⟨σ6,H6,I6,q6⟩=>?_);refine (thn (hb _ s6 σ6 H6 _ I6 q6) fun f s7 q7=>?_)
  replace q7:=SP.unwish q7
  have again:∀ {σ7:St} {H7:Hp},Inv X (pins++Qy fp s5.heap) σ7 H7 s7->N σ7 H7->∃ m,m<n/\∃ i σ' H',Inv X pins σ' H' s7/\tn i s7.heap/\(∀ b∈fp,H' b=none)/\W i m σ' H':=fun {σ7 H7} I7 n7=>by
   obtain ⟨m',hm,w7⟩:=hN σ7 H7 n7;refine ⟨m',hm,i+1,σ7,H7,I7.unpinned,T.keep _ _ _ st5 fun b hb o e=>(I7.pin (b,o) (A7 _ (A7 _ (vy hb e)))).1,fun b hb=>?_,w7⟩;obtain ⟨o,e,d⟩:=T.obj _ _ st5 b hb;exact (I7.pin (b,o) (A7 _ (A7 _ (vy hb e)))).2.1
  cases f with
  | next=>obtain ⟨σ7,H7,I7,n7⟩:=q7; exact again I7 n7
  | cont=>obtain ⟨σ7,H7,I7,n7⟩:=q7; exact again I7 n7
  | brk=>obtain ⟨σ7,H7,I7,q7⟩:=q7; exact ⟨σ7,H7,I7.unpinned,q7⟩
  | ret v=>obtain ⟨x7,σ7,H7,I7,r7,q7⟩:=q7; exact ⟨x7,σ7,H7,I7.unpinned,r7,q7⟩
open BP
section
variable {X:Cx}
def tTryMeth (K:Ap) (i:Nat) (CB C:Addr) (m:Str) (sp:Sp) (tv:TE) (ta:TA) (ts:Addr->TS):Ends->St->Hp->Prop:=fun D σ H=>tv σ H fun v H1 =>
 ∃ (p dx:Addr) (fs:List (Str×V)),v=.ref p/\H1 p=some (.ins C dx fs)/\fs.lookup m=none/\ta σ H1 fun vs H2=>sp (.ref p::vs) H2 (fun _ H3=>D.nx σ H3) (EHof K i CB ts D σ)
theorem ps_tryMeth {k:Nat} {f C:Addr} {fd:FuncData} {ps:List Str} {sp:Sp} {n bn m:Str} {o e:Expr} {es:List Expr} {tv:TE} {ta:TA} {ts:Addr->TS} {i:Nat} {CB:Addr} {b0:Stmt} {suite:List Stmt} {pos p1 hp np p2 apos:Pos} {pl:Sem Bool}
  (hst:X.stack=X.env::X.outer) (hfr:X.env.frame=some X.env.locals) (hex:X.ex=[]) (hN:X.N.Nodup) (hi:X.N[i]?=some n) (hn:X.env.scope.names.lookup n=some .local)
  (ho:PE X.nox o tv) (c:Cls X.K C) (mt:Meth X.K C m f) (F:FnOk X.prog X.w X.K X.mg X.base (CXE X.prog X.w) k f fd ps sp) (hr:Room k X.A) (hb:Binds X.K fd ps [])
  (hgB:Gl X bn) (hmB:X.mg bn=some (.ref CB)) (ha:PA X.nox (e::es) ta) (hs:∀ ea,PSs (X.inHandler ea) (b0::suite) (ts ea))
  (hdB:(bn==("__debug__" : Str))=false:=by decide)
  (he:starEach (e::es) X.env=(false,eval e X.env)::starEach es X.env:=by exact qz rfl _ _) (hpl:(backTo pos (starEach es X.env)).any (·.1)=false:=by exact qQ rfl)
  (ht:eval (.Call (.Attribute o m apos) (e::es) [] pos) X.env=(do
   let ov <- eval o X.env
   standAt apos.atName
   let (f,first) <- holding [ov] (getMethod ov m pl)
   callWith pos f first (backTo pos (starEach (e::es) X.env)) (backToKw pos (keywordEach [] X.env))):=by rfl)
  (hsw:swapsWith (.Call (.Attribute o m apos) (e::es) [] pos) none p1.line X.env=pure false:=by rfl) :
  PS X (.Try [.Expr (.Call (.Attribute o m apos) (e::es) [] pos) p1] [.ExceptHandler (some (.Name bn np)) (some n) (b0::suite) hp] [] [] p2) (tTryMeth X.K i CB C m sp tv ta ts):=by
 refine ps_tryX hst hfr hex hN hi hn hgB hmB hs (fun pins s σ H D I h=>?_) hdB hsw;refine PySem.W.methodCall_KW (pl:=pl) (wpAny_mono (ho pins s σ H _ (I.wish _) h) (fun u s1 z=>?_) fun _ _ z=>False.elim z) ht;obtain ⟨x,H1,I1,rx,a,dx,fs,ex,ea,l,q⟩:=z;subst ex;obtain rfl:u=Value.ref a:=rx;have I1:Inv X pins σ H1 s1:=I1.unwish;refine getmeth_ok I1 ea c mt l ?_;refine PySem.W.callWith_K (first:=[.ref a]) (h₀:=X.base) I.ok.mod.kin mt.kp (wpAny_mono (ha pos pins s1 σ H1 _ (I1.wish _) q) (fun us s2 z=>?_) fun _ _ z=>False.elim z) he hpl;obtain ⟨vs,H2,I2,r,q2⟩:=z;have I2:Inv X pins σ H2 s2:=I2.unwish;refine ⟨I2.kIn,?_⟩;have rv:Vals (V.ref a::vs) (Value.ref a::us):=.cons rfl r;have hl:(Value.ref a::us).length=ps.length:=by rw [<- rv.length]; exact F.len _ _ _ _ q2
 have bd:=hb s2 (Value.ref a::us) I2.kIn (by rw [List.append_nil]; exact hl);rw [List.append_nil] at bd;refine wpAny_call (codeAny_mono (F.run X.A X.stack s2 H2 ⟨_,[]⟩ _ _ _ _ hr I2.env0 bd rv q2) fun r s' hq=>?_)
 cases r with
 | error e=>exact ⟨H2,s2,I2,hq⟩
 | ok fl =>
  cases fl with
  | ret u =>
   obtain ⟨v,H3,I3,ru,q3⟩:=I2.after hq;exact ⟨H3,I3,q3⟩
  | next=>exact False.elim hq
  | brk=>exact False.elim hq
  | cont=>exact False.elim hq
end
end L2
namespace L2
open PySem PySem.Spec PyProof.Rows
section
variable {X:Cx}
theorem bools_are:∀ {bs:List Bool} {us:List Value},Vals (bs.map V.bl) us->us=bs.map Value.bool
 | [],_,.nil=>rfl
 | b::bs,u::us,.cons r t=>by
  have e:u=Value.bool b:=r;rw [e,bools_are t];rfl
def isTr:Value->Bool
 | .bool b=>b==true
 | _=>false
theorem tr_at {A:Around} {s:Shared} {bs:List Bool}:∀ y,y∈(bs.map Value.bool).toArray->SeqAt.EqAt A s y (.bool true) (isTr y):=fun y hy=>by
 obtain ⟨b,_,rfl⟩:=List.mem_map.mp (show y∈bs.map Value.bool by simpa using hy);exact eqAt_V (y:=.bl b) (x:=.bl true) rfl rfl rfl rfl
theorem tr_count:∀ bs:List Bool,(bs.map Value.bool).countP isTr=bs.countP (·==true)
 | []=>rfl
 | b::bs=>by rw [List.map_cons,List.countP_cons,List.countP_cons,tr_count bs]; rfl
theorem mt_countB:MtM X "list.count" (fun x vs H Q=>∃ (l:Addr) (bs:List Bool),x=.ref l/\vs=[.bl true]/\SqL X.K H l (bs.map V.bl)/\Q (.int ((bs.countP (·==true):Nat):Int)) H):=by
 intro pins s σ H x vs v us Q I rx rv h;obtain ⟨l,bs,rfl,rfl,hq,q⟩:=h
 cases rx
 obtain ⟨u,rfl,ru⟩:=rv.one;have ru:u=Value.bool true:=ru;subst ru;obtain ⟨its,r,pl,hz⟩:=I.list hq;have e:=bools_are r;subst e;obtain ⟨⟨cls,dd,data,sl⟩,ho,hc,n,hd⟩:=id pl.isList
 simp only at hc hd
 subst hc hd;refine call_meets PySem.F.slot_list_count ⟨_,ho,rfl⟩ PySem.F.entry_list_count (PySem.F.args_list_count_2 _ _) (SeqAt.list_countAt l _ n dd sl (.bool true) isTr) ⟨ho,tr_at,?_⟩;rw [show ((bs.map Value.bool).toArray).toList=bs.map Value.bool from rfl,tr_count];exact ⟨.int _,H,I.tok _,⟨_,rfl⟩,q⟩
theorem mt_indexB:MtM X "list.index" (fun x vs H Q=>∃ (l:Addr) (bs:List Bool) (j:Nat),x=.ref l/\vs=[.bl true]/\SqL X.K H l (bs.map V.bl)/\bs[j]?=some true/\(∀ i,i<j->bs[i]?=some false)/\Q (.int (j:Int)) H):=by
 intro pins s σ H x vs v us Q I rx rv h;obtain ⟨l,bs,j,rfl,rfl,hq,hj,hi,q⟩:=h
 cases rx
 obtain ⟨u,rfl,ru⟩:=rv.one;have ru:u=Value.bool true:=ru;subst ru;obtain ⟨its,r,pl,hz⟩:=I.list hq;have e:=bools_are r;subst e;obtain ⟨⟨cls,dd,data,sl⟩,ho,hc,n,hd⟩:=id pl.isList
 simp only at hc hd
 subst hc hd;have lj:j<bs.length:=(List.getElem?_eq_some_iff.mp hj).1;have hz:bs.length<=sizeLine:=by rw [List.length_map] at hz; exact hz
 have s24:sizeLine=16777216:=by decide
 refine call_meets PySem.F.slot_list_index ⟨_,ho,rfl⟩ PySem.F.entry_list_index (PySem.F.args_list_index_2 _ _) (SeqAt.list_indexAt l _ n dd sl (.bool true) isTr j (by simpa using lj) (by omega) ?_ ?_) ⟨ho,tr_at,.int _,H,I.tok _,⟨_,rfl⟩,q⟩
 ·have e:bs[j]=true:=(List.getElem?_eq_some_iff.mp hj).2
  simp [e,isTr]
 ·intro m hm h2
  have e:bs[m]'(by simpa using hm)=false:=(List.getElem?_eq_some_iff.mp (hi m h2)).2
  simp [e,isTr]
end
open BP
@[irreducible] def PEx (X:Cx) (e:Expr) (t:TE):Prop:=PE X e t
@[irreducible] def PAx (X:Cx) (es:List Expr) (t:TA):Prop:=PA X es t
@[irreducible] def PTx (X:Cx) (e:Expr) (t:TT):Prop:=PT X e t
@[irreducible] def PSx (X:Cx) (s:Stmt) (t:TS):Prop:=PS X s t
@[irreducible] def PBx (X:Cx) (ss:List Stmt) (t:TS):Prop:=PSs X ss t
section
variable {X:Cx}
theorem shutE {e:Expr} {t:TE} (h:PE X e t):PEx X e t:=by unfold PEx; exact h
theorem PEx.to {e:Expr} {t:TE} (h:PEx X e t):PE X e t:=by unfold PEx at h; exact h
theorem shutA {es:List Expr} {t:TA} (h:PA X es t):PAx X es t:=by unfold PAx; exact h
theorem PAx.to {es:List Expr} {t:TA} (h:PAx X es t):PA X es t:=by unfold PAx at h; exact h
theorem shutT {e:Expr} {t:TT} (h:PT X e t):PTx X e t:=by unfold PTx; exact h
theorem PTx.to {e:Expr} {t:TT} (h:PTx X e t):PT X e t:=by unfold PTx at h; exact h
theorem shutS {s:Stmt} {t:TS} (h:PS X s t):PSx X s t:=by unfold PSx; exact h
theorem PSx.to {s:Stmt} {t:TS} (h:PSx X s t):PS X s t:=by unfold PSx at h; exact h
theorem shutB {ss:List Stmt} {t:TS} (h:PSs X ss t):PBx X ss t:=by unfold PBx; exact h
theorem PBx.to {ss:List Stmt} {t:TS} (h:PBx X ss t):PSs X ss t:=by unfold PBx at h; exact h
theorem few_plain {e:Expr} {env:Env} {cpos:Pos} (h:starEach [e] env=(false,eval e env)::starEach [] env):((backTo cpos (starEach [e] env)).all (fun x=>!x.1)&&(backToKw cpos (keywordEach [] env)).all (fun x=>x.1.isSome)&&decide ([e].length+([]:List Keyword).length+(if ([]:List Keyword).isEmpty then 0 else 1)<30))=true:=by
 rw [h];rfl
theorem zX:PAx X [] tNil:=shutA qj
theorem xa_c {e:Expr} {es:List Expr} {te:TE} {t:TA} (ha:PEx X e te) (hr:PAx X es t) (hp:plainE e=true:=by rfl):PAx X (e::es) (tCons te t):=shutA (pa_c ha.to hr.to hp)
theorem jQ {es:List Expr} {t:TA} {pos:Pos} (h:PAx X es t):PEx X (.List es pos) (tLst t):=shutE (yK h.to)
theorem wz {es:List Expr} {t:TA} {pos:Pos} {x1} (h:PAx X es t):PEx X (.Tuple es x1 pos) (tTup t):=shutE (j9 h.to)
theorem xe_op {op:Operator} {r:R2} {a b:Expr} {ta tb:TE} {pos:Pos} (ho:OpR X (binaryOp op) r) (ha:PEx X a ta) (hb:PEx X b tb):PEx X (.BinOp a op b pos) (tOp r ta tb):=shutE (pe_op ho ha.to hb.to)
theorem xe_ix {r:R2} {a b:Expr} {ta tb:TE} {pos:Pos} (hr:IxR X r) (ha:PEx X a ta) (hb:PEx X b tb) (hs:PlainIx b:=by exact fun _ _=>rfl):PEx X (.Subscript a b pos) (tOp r ta tb):=shutE (pe_ix hr ha.to hb.to hs)
theorem wK {x:Str} {j:Nat} {p1 apos cpos:Pos} {e:Expr} {t:TA} (ha:PAx X [e] t) (he:plainE e=true:=by rfl) (hline:(apos.endLine==cpos.line)=true:=by rfl) :
  PEx X (.Call (.Attribute (.Constant (.str x) j p1) (Str.ofString "join") apos) [e] [] cpos) (tBM X.K "str" (fun x vs H Q=>∃ (a:Str) (p:Addr) (ys:List Str),x=.str a/\vs=[.ref p]/\SqL X.K H p (ys.map V.str)/\a.length<=16/\(ys.map (·.length)).sum+ys.length<=1048576/\Q (.str (Str.join a ys)) H) (tC (.str x)) t) :=
 shutE (pe_bm PySem.F.plainAttrs_str PySem.F.slot_str_join PySem.F.type_str_join mt_join qw ha.to (hbase:=rfl) (hfew:=few_plain (qz he _ _)) (hline:=hline) (hs:=qz he _ _) (hplain:=rfl))
theorem jw {op:CmpOp} {r:R2} {a b:Expr} {ta tb:TE} {pos:Pos} (ho:OpR X (compareOp op) r) (ha:PEx X a ta) (hb:PEx X b tb) (hm:behindInMarks op b=false:=by exact nomark _):PTx X (.Compare a [op] [b] pos) (tTest (tOp r ta tb)):=shutT (qW ho ha.to hb.to hm)
theorem yX {e:Expr} {te:TE} {pos:Pos} (he:PEx X e te):PSx X (.Return (some e) pos) (tRet te):=shutS (zj he.to)
theorem xs_if {c:Expr} {a b:List Stmt} {tc:TT} {t u:TS} {pos:Pos} (hc:PTx X c tc) (ha:PBx X a t) (hb:PBx X b u):PSx X (.If c a b pos) (tIfS tc t u):=shutS (ps_if hc.to ha.to hb.to)
theorem j8:PBx X [] tNext:=shutB qY
theorem yJ {st:Stmt} {t:TS} (h:PSx X st t):PBx X [st] t:=shutB (qJ h.to)
theorem zw {st:Stmt} {rest:List Stmt} {t u:TS} (h:PSx X st t) (k:PBx X rest u):PBx X (st::rest) (tSeq t u):=shutB (qK h.to k.to)
theorem x_body {s:Stmt} {ss:List Stmt} {t:TS} (hb:zQ s=ss) (h:PBx X ss t):PBx X (zQ s) t:=by rw [hb]; exact h
theorem xs_s (i:Nat) {x:Str} {e:Expr} {te:TE} {pos pos':Pos} (hN:X.N.Nodup) (he:PEx X e te) (hi:X.N[i]?=some x:=by rfl) (hx:Loc X.env.scope x:=by exact Or.inl rfl) (hs:swapsWith e (some (.Name x pos')) pos.line X.env=pure false:=by rfl) (hf:X.fn x=true\/X.env.scope.names.lookup x=some .local:=by first | exact .inl rfl | exact .inr rfl | assumption):PSx X (.Assign [.Name x pos'] e pos) (tAsg te (gName i)):=shutS (ps_s i hN he.to hi hx hs hf)
theorem xt_not {a:Expr} {tA:TT} {pos:Pos} (ha:PTx X a tA):PTx X (.UnaryOp .Not a pos) (tNot tA):=shutT (yy ha.to)
theorem xt_val {e:Expr} {t:TE} (h:PEx X e t) (he:∀ whole,isTrue e X.env whole=(do let v <- whole; standAt e.pos; holding [v] (truthy v)):=by intro _; rfl):PTx X e (tB t):=shutT (y8 h.to he)
theorem xe_cmpR {op:CmpOp} {r:R2} {a b:Expr} {ta tb:TE} {pos:Pos} (ho:OpR X (compareOp op) r) (ha:PEx X a ta) (hb:PEx X b tb) (hm:behindInMarks op b=false:=by exact nomark _):PEx X (.Compare a [op] [b] pos) (tOp r ta tb):=shutE (x9 ho ha.to hb.to hm)
theorem xs_asg {tg e:Expr} {te:TE} {g:TG} {pos:Pos} (he:PEx X e te) (hg:PG X tg g) (hs:swapsWithSole [tg] e pos.line X.env=pure false:=by rfl) (hw:swappedStores [tg] e X.env=pure none:=by rfl) (h1:(assignEach [tg] X.env).map (·.2)=[assign tg X.env]:=by rfl):PSx X (.Assign [tg] e pos) (tAsg te g):=shutS (ps_asg he.to hg hs hw h1)
theorem xs_expr {e:Expr} {te:TE} {pos:Pos} (he:PEx X e te) (hs:swapsWith e none pos.line X.env=pure false:=by rfl):PSx X (.Expr e pos) (tDrop te):=shutS (ps_expr he.to hs)
theorem xs_for {tg iter:Expr} {body:List Stmt} {wi:TI} {g:TG} {tb:TS} {pos:Pos} (hp:PassesOwn (model X.prog X.w) X.A X.env X.xe) (hc:X.calm=true) (hi:PI X tg iter wi) (hg:PG X tg g) (hb:PBx X body tb) (hs:∀ x,foldedSetIterable iter X.env x=pure x:=by intro _; rfl):PSx X (.For tg iter body [] pos) (tFor wi g tb):=shutS (ps_for hp hc hi hg hb.to hs)
theorem xe_make0 (M:Mk X.K C f) (F:FnOk X.prog X.w X.K X.mg X.base CX k f fd ps sp) (hr:Room (k+1) X.A) (hg:Gl X x) (hm:X.mg x=some (.ref C)) (hb:Binds X.K fd ps ds) (hd:Vals dvs ds) (hx:wJ CX X E) (hdb:(x==("__debug__" : Str))=false:=by decide):PEx X (.Call (.Name x p) [] [] pos) (tMake C sp dvs E tNil):=shutE (pe_make0 M F hr hg hm hb hd hx hdb)
end
end L2
namespace BP
open PySem L2
theorem Qq:FnScope ["_law_cell", "_law_k", "_law_number"] ["_law_cell", "_law_k"] (qZ syl):=by walk_at "a"
theorem scz7:FnScope ["self"] ["self"] (qZ sz7):=by walk_at "a"
theorem vJ:FnScope ["line", "words", "many", "behind"] ["line"] (qZ Qx):=by walk_at "a"
theorem scyq:FnScope ["one", "other"] ["one", "other"] (qZ syq):=by walk_at "a"
theorem scyv:FnScope ["one"] ["one"] (qZ syv):=by walk_at "a"
theorem scya:FnScope ["one", "other", "rest"] ["one", "other"] (qZ sya):=by walk_at "a"
theorem scye:FnScope ["thing"] ["thing"] (qZ sye):=by walk_at "a"
theorem scyd:FnScope ["thing"] ["thing"] (qZ syd):=by walk_at "a"
theorem scy5:FnScope ["side"] ["side"] (qZ kX):=by walk_at "a"
theorem scz2:FnScope ["self", "sides"] ["self", "sides"] (qZ sz2):=by walk_at "a"
theorem scx7:FnScope ["text"] ["text"] (qZ Qz):=by walk_at "a"
theorem scx5:FnScope ["text"] ["text"] (qZ sx5):=by walk_at "a"
theorem scyy:FnScope ["top", "bottom", "by"] ["top", "bottom"] (qZ syy):=by walk_at "a"
theorem scyb:FnScope ["number", "step", "pieces"] ["number"] (qZ syb):=by walk_at "a"
theorem scx8:FnScope ["one", "text"] ["one"] (qZ sx8):=by walk_at "a"
theorem scyz:FnScope ["text", "parts", "top", "bottom", "one"] ["text"] (qZ syz):=by walk_at "a"
theorem scx3:FnScope ["word"] ["word"] (qZ Qj):=by walk_at "a"
theorem scxa:FnScope ["word", "ends"] ["word"] (qZ sxa):=by walk_at "a"
theorem scxe:FnScope ["unit"] ["unit"] (qZ sxe):=by walk_at "a"
theorem sczq:FnScope ["self"] ["self"] (qZ szq):=by walk_at "a"
theorem scy2:FnScope ["words", "net", "sides"] ["words", "net"] (qZ sy2):=by walk_at "a"
theorem scx9:FnScope ["point"] ["point"] (qZ xk):=by walk_at "a"
theorem scyw:FnScope ["one", "other", "by", "top", "rest"] ["one", "other"] (qZ syw):=by walk_at "a"
theorem scxd:FnScope ["one", "other", "by", "across"] ["one", "other"] (qZ sxd):=by walk_at "a"
theorem jJ:FnScope ["constant", "terms", "found", "total", "place", "share"] ["constant", "terms", "found"] (qZ xx):=by walk_at "a"
theorem scy1:FnScope ["one"] ["one"] (qZ sy1):=by walk_at "a"
theorem scxf:FnScope ["unit", "found"] ["unit", "found"] (qZ sxf):=by walk_at "a"
theorem xj:FnScope ["self", "point", "found", "unit"] ["self", "point"] (qZ Qk):=by walk_at "a"
theorem sczp:FnScope ["self", "point", "found"] ["self", "point"] (qZ xX):=by walk_at "a"
theorem scyx:FnScope ["word", "net", "point"] ["word", "net"] (qZ syx):=by walk_at "a"
theorem scz8:FnScope ["self", "bound", "terms", "found"] ["self", "bound", "terms"] (qZ Qv):=by walk_at "a"
theorem scyu:FnScope ["net", "told"] ["net"] (qZ xw):=by walk_at "a"
theorem scx4:FnScope ["word", "parts"] ["word"] (qZ sx4):=by walk_at "a"
theorem scxb:FnScope ["words", "net", "terms", "count"] ["words", "net"] (qZ sxb):=by walk_at "a"
theorem scyc:FnScope ["net", "box", "terms", "corner", "search", "tree"] ["net", "box", "terms"] (qZ syc):=by walk_at "a"
theorem scz5:FnScope ["self", "deed", "words", "found"] ["self", "deed", "words"] (qZ xK):=by walk_at "a"
theorem sczb:FnScope ["self", "net"] ["self", "net"] (qZ wv):=by walk_at "a"
theorem scx1:FnScope ["row", "head", "words"] ["row", "head"] (qZ xv):=by walk_at "a"
theorem scy4:FnScope ["place", "end"] ["place", "end"] (qZ wk):=by walk_at "a"
theorem scy7:FnScope ["term", "end"] ["term", "end"] (qZ kJ):=by walk_at "a"
theorem scy6:FnScope ["constant", "terms", "end", "found"] ["constant", "terms", "end"] (qZ xJ):=by walk_at "a"
theorem scy8:FnScope ["unit", "end"] ["unit", "end"] (qZ kZ):=by walk_at "a"
theorem Q3:FnScope ["units", "many", "found"] ["units", "many"] (qZ wx):=by walk_at "a"
theorem scy3:FnScope ["outs", "end"] ["outs", "end"] (qZ kK):=by walk_at "a"
theorem sczm:FnScope ["self", "many", "units", "outs"] ["self", "many", "units", "outs"] (qZ szm):=by walk_at "a"
theorem scx6:FnScope ["row", "words"] ["row"] (qZ sx6):=by walk_at "a"
theorem x5:FnScope ["text", "rows", "many", "units"] ["text"] (qZ sx0):=by walk_at "a"
theorem scys:FnScope ["words", "rows", "word"] ["words"] (qZ sys):=by walk_at "a"
theorem scza:FnScope ["self", "line", "words"] ["self", "line"] (qZ sza):=by walk_at "a"
theorem xY:FnScope ["_law_number", "_law_some"] ["_law_number"] (qZ zV):=by walk_at "a"
theorem v5:FnScope ["_law_number", "_law_many", "_law_places", "_law_way", "_law_rest", "_law_odd", "_law_good", "_law_last"] ["_law_number", "_law_many", "_law_places"] (qZ zY):=by walk_at "a"
theorem scyg:FnScope ["_law_has_net", "_law_has_box", "_law_wants_box", "_law_due"] ["_law_has_net", "_law_has_box", "_law_wants_box", "_law_due"] (qZ syg):=by walk_at "a"
theorem j5:FnScope ["_law_number", "_law_nets", "_law_rows"] ["_law_number"] (qZ xZ):=by walk_at "a"
theorem j4:FnScope ["_law_desk", "_law_line", "_law_word", "e", "_law_found"] ["_law_desk", "_law_line"] (qZ xy):=by walk_at "a"
theorem scyk:FnScope ["_law_desk", "_law_many", "_law_place", "_law_has_net"] ["_law_desk", "_law_many", "_law_place", "_law_has_net"] (qZ kQ):=by walk_at "a"
theorem scyj:FnScope ["_law_script", "_law_k"] ["_law_script", "_law_k"] (qZ xQ):=by walk_at "a"
theorem wj:FnScope ["_law_number", "_law_odd"] ["_law_number"] (qZ zz):=by walk_at "a"
theorem yz:FnScope ["_law_desk", "_law_script", "_law_many", "_law_outs", "_law_stand", "_law_k", "_law_cell", "_law_number", "_law_line", "_law_wants_box", "_law_due", "_law_word"] ["_law_desk", "_law_script", "_law_many", "_law_outs", "_law_stand"] (qZ vz):=by walk_at "a"
theorem scyf:FnScope ["_law_script", "_law_first", "_law_many", "_law_number", "_law_last", "_law_desk", "_law_line"] ["_law_script"] (qZ syf):=by walk_at "a"
set_option genInjectivity false in
set_option genSizeOf false in
structure Adr where
 fyl:Addr
 dyl:FuncData
 fz7:Addr
 dz7:FuncData
 fyr:Addr
 dyr:FuncData
 fyq:Addr
 dyq:FuncData
 fyv:Addr
 dyv:FuncData
 fya:Addr
 dya:FuncData
 fye:Addr
 dye:FuncData
 fyd:Addr
 dyd:FuncData
 fy5:Addr
 dy5:FuncData
 fz2:Addr
 dz2:FuncData
 fx7:Addr
 dx7:FuncData
 fx5:Addr
 dx5:FuncData
 fyy:Addr
 dyy:FuncData
 fyb:Addr
 dyb:FuncData
 fx8:Addr
 dx8:FuncData
 fyz:Addr
 dyz:FuncData
 fx3:Addr
 dx3:FuncData
 fxa:Addr
 dxa:FuncData
 fxe:Addr
 dxe:FuncData
 fzq:Addr
 dzq:FuncData
 fy2:Addr
 dy2:FuncData
 fx9:Addr
 dx9:FuncData
 fyw:Addr
 dyw:FuncData
 fxd:Addr
 dxd:FuncData
 fxc:Addr
 dxc:FuncData
 fy1:Addr
 dy1:FuncData
 fxf:Addr
 dxf:FuncData
 fzt:Addr
 dzt:FuncData
 fzp:Addr
 dzp:FuncData
 fyx:Addr
 dyx:FuncData
 fz8:Addr
 dz8:FuncData
 fyu:Addr
 dyu:FuncData
 fx4:Addr
 dx4:FuncData
 fxb:Addr
 dxb:FuncData
 fyc:Addr
 dyc:FuncData
 fz5:Addr
 dz5:FuncData
 fzb:Addr
 dzb:FuncData
 fx1:Addr
 dx1:FuncData
 fy4:Addr
 dy4:FuncData
 fy7:Addr
 dy7:FuncData
 fy6:Addr
 dy6:FuncData
 fy8:Addr
 dy8:FuncData
 fy9:Addr
 dy9:FuncData
 fy3:Addr
 dy3:FuncData
 fzm:Addr
 dzm:FuncData
 fx6:Addr
 dx6:FuncData
 fx0:Addr
 dx0:FuncData
 fys:Addr
 dys:FuncData
 fza:Addr
 dza:FuncData
 fyn:Addr
 dyn:FuncData
 fyh:Addr
 dyh:FuncData
 fyg:Addr
 dyg:FuncData
 fyi:Addr
 dyi:FuncData
 fyo:Addr
 dyo:FuncData
 fyk:Addr
 dyk:FuncData
 fyj:Addr
 dyj:FuncData
 fym:Addr
 dym:FuncData
 fyp:Addr
 dyp:FuncData
 fyf:Addr
 dyf:FuncData
 cz0:Addr
 czx:Addr
 czy:Addr
 czu:Addr
 czw:Addr
 czz:Addr
 czv:Addr
 cz1:Addr
 czl:Addr
 cz4:Addr
 gy0:Addr
 tzi:Tok
 tzf:Tok
 tzc:Tok
 gzk:Addr
 tze:Tok
 tzj:Tok
 tzh:Tok
 tzg:Tok
 gzd:Addr
 w:World
structure Txt (K:Ap) (mg:Str->Option Value) (a:Adr):Prop where
 Fyl:Df K mg "_law_mixed" syl a.fyl a.dyl ["_law_cell", "_law_k"]
 Fz7:Fun K "__init__" "Desk.__init__" sz7 a.fz7 a.dz7
 Mz4:Mk K a.cz4 a.fz7
 bz7:Binds K a.dz7 ["self"] []
 Fyr:Df K mg "line_words" Qx a.fyr a.dyr ["line"]
 Fyq:Df K mg "less" syq a.fyq a.dyq ["one", "other"]
 Fyv:Df K mg "plain" syv a.fyv a.dyv ["one"]
 Fya:Df K mg "common" sya a.fya a.dya ["one", "other"]
 Fye:Df K mg "is_whole" sye a.fye a.dye ["thing"]
 Fyd:Df K mg "is_ratio" syd a.fyd a.dyd ["thing"]
 Fy5:Df K mg "checked_side" kX a.fy5 a.dy5 ["side"]
 Fz2:Fun K "__init__" "Box.__init__" sz2 a.fz2 a.dz2
 Mz1:Mk K a.cz1 a.fz2
 bz2:Binds K a.dz2 ["self", "sides"] []
 Fx7:Df K mg "read_whole" Qz a.fx7 a.dx7 ["text"]
 Fx5:Df K mg "read_top" sx5 a.fx5 a.dx5 ["text"]
 Fyy:Df K mg "ratio" syy a.fyy a.dyy ["top", "bottom"]
 Fyb:Df K mg "figures" syb a.fyb a.dyb ["number"]
 Fx8:Df K mg "shown" sx8 a.fx8 a.dx8 ["one"]
 Fyz:Df K mg "read" syz a.fyz a.dyz ["text"]
 Fx3:Df K mg "read_point" Qj a.fx3 a.dx3 ["word"]
 Fxa:Df K mg "side_of" sxa a.fxa a.dxa ["word"]
 Fxe:Df K mg "told_unit" sxe a.fxe a.dxe ["unit"]
 Fzq:Fun K "told" "Net.told" szq a.fzq a.dzq
 tzq:Meth K a.czl "told" a.fzq
 bzq:Binds K a.dzq ["self"] []
 Fy2:Df K mg "box_of" sy2 a.fy2 a.dy2 ["words", "net"]
 Fx9:Df K mg "shown_point" xk a.fx9 a.dx9 ["point"]
 Fyw:Df K mg "plus" syw a.fyw a.dyw ["one", "other"]
 Fxd:Df K mg "times" sxd a.fxd a.dxd ["one", "other"]
 Fxc:Df K mg "terms_value" xx a.fxc a.dxc ["constant", "terms", "found"]
 Fy1:Df K mg "bent" sy1 a.fy1 a.dy1 ["one"]
 Fxf:Df K mg "value_of" sxf a.fxf a.dxf ["unit", "found"]
 Fzt:Fun K "walked" "Net.walked" Qk a.fzt a.dzt
 tzt:Meth K a.czl "walked" a.fzt
 bzt:Binds K a.dzt ["self", "point"] []
 Fzp:Fun K "outs_at" "Net.outs_at" xX a.fzp a.dzp
 tzp:Meth K a.czl "outs_at" a.fzp
 bzp:Binds K a.dzp ["self", "point"] []
 Fyx:Df K mg "point_of" syx a.fyx a.dyx ["word", "net"]
 Fz8:Fun K "judge" "Desk.judge" Qv a.fz8 a.dz8
 tz8:Meth K a.cz4 "judge" a.fz8
 bz8:Binds K a.dz8 ["self", "bound", "terms"] []
 Fyu:Df K mg "place_count" xw a.fyu a.dyu ["net"]
 Fx4:Df K mg "read_term" sx4 a.fx4 a.dx4 ["word"]
 Fxb:Df K mg "terms_of" sxb a.fxb a.dxb ["words", "net"]
 Fyc:Df K mg "greatest" syc a.fyc a.dyc ["net", "box", "terms"]
 Fz5:Fun K "answer" "Desk.answer" xK a.fz5 a.dz5
 tz5:Meth K a.cz4 "answer" a.fz5
 bz5:Binds K a.dz5 ["self", "deed", "words"] []
 Fzb:Fun K "take_net" "Desk.take_net" wv a.fzb a.dzb
 tzb:Meth K a.cz4 "take_net" a.fzb
 bzb:Binds K a.dzb ["self", "net"] []
 Fx1:Df K mg "read_places" xv a.fx1 a.dx1 ["row", "head"]
 Fy4:Df K mg "checked_place" wk a.fy4 a.dy4 ["place", "end"]
 Fy7:Df K mg "checked_term" kJ a.fy7 a.dy7 ["term", "end"]
 Fy6:Df K mg "checked_sum" xJ a.fy6 a.dy6 ["constant", "terms", "end"]
 Fy8:Df K mg "checked_unit" kZ a.fy8 a.dy8 ["unit", "end"]
 Fy9:Df K mg "checked_units" wx a.fy9 a.dy9 ["units", "many"]
 Fy3:Df K mg "checked_outs" kK a.fy3 a.dy3 ["outs", "end"]
 Fzm:Fun K "__init__" "Net.__init__" szm a.fzm a.dzm
 Mzl:Mk K a.czl a.fzm
 bzm:Binds K a.dzm ["self", "many", "units", "outs"] []
 Fx6:Df K mg "read_unit" sx6 a.fx6 a.dx6 ["row"]
 Fx0:Df K mg "read_net" sx0 a.fx0 a.dx0 ["text"]
 Fys:Df K mg "net_of" sys a.fys a.dys ["words"]
 Fza:Fun K "say" "Desk.say" sza a.fza a.dza
 tza:Meth K a.cz4 "say" a.fza
 bza:Binds K a.dza ["self", "line"] []
 Fyn:Df K mg "_law_ratio_odd" zV a.fyn a.dyn ["_law_number"]
 Fyh:Df K mg "_law_bad" zY a.fyh a.dyh ["_law_number", "_law_many", "_law_places"]
 Fyg:Df K mg "_law_ahead" syg a.fyg a.dyg ["_law_has_net", "_law_has_box", "_law_wants_box", "_law_due"]
 Fyi:Df K mg "_law_bad_net" xZ a.fyi a.dyi ["_law_number"]
 Fyo:Df K mg "_law_refusal" xy a.fyo a.dyo ["_law_desk", "_law_line"]
 Fyk:Df K mg "_law_kept" kQ a.fyk a.dyk ["_law_desk", "_law_many", "_law_place", "_law_has_net"]
 Fyj:Df K mg "_law_cell_at" xQ a.fyj a.dyj ["_law_script", "_law_k"]
 Fym:Df K mg "_law_odd_line" zz a.fym a.dym ["_law_number"]
 Fyp:Df K mg "_law_walked" vz a.fyp a.dyp ["_law_desk", "_law_script", "_law_many", "_law_outs", "_law_stand"]
 Fyf:Df K mg "law" syf a.fyf a.dyf ["_law_script"]
 m_isinstance:mg "isinstance" = none
 m_str:mg "str" = none
 m_len:mg "len" = none
 m_int:mg "int" = none
 m_bool:mg "bool" = none
 m_tuple:mg "tuple" = none
 m_abs:mg "abs" = none
 m_list:mg "list" = none
 m_all:mg "all" = none
 m_reversed:mg "reversed" = none
 m_any:mg "any" = none
 m_set:mg "set" = none
 m_enumerate:mg "enumerate" = none
 m_ValueError:mg "ValueError" = none
 mz0:mg "BendError" = some (.ref a.cz0)
 mzx:mg "NoRatio" = some (.ref a.czx)
 mzy:mg "NoText" = some (.ref a.czy)
 mzu:mg "NoBox" = some (.ref a.czu)
 mzw:mg "NoNet" = some (.ref a.czw)
 mzz:mg "Unlike" = some (.ref a.czz)
 mzv:mg "NoLine" = some (.ref a.czv)
 x_BendError:PySem.W.excIn K a.cz0 veB "ValueError.__new__" = true
 x_NoText:PySem.W.excIn K a.czy veB "ValueError.__new__" = true
 u_NoText:PySem.W.mroIn K a.czy (.ref a.cz0)=some true
 e_NoText:ExcCls K a.czy
 k_ValueError:PySem.W.kitOne K (.ref a.czy) (.type "ValueError")=some true
 k_NoRatio:PySem.W.kitOne K (.ref a.czy) (.ref a.czx)=some false
 k_NoText:PySem.W.kitOne K (.ref a.czy) (.ref a.czy)=some true
 k_NoBox:PySem.W.kitOne K (.ref a.czy) (.ref a.czu)=some false
 k_NoNet:PySem.W.kitOne K (.ref a.czy) (.ref a.czw)=some false
 k_Unlike:PySem.W.kitOne K (.ref a.czy) (.ref a.czz)=some false
 k_NoLine:PySem.W.kitOne K (.ref a.czy) (.ref a.czv)=some false
 x_NoNet:PySem.W.excIn K a.czw veB "ValueError.__new__" = true
 u_NoNet:PySem.W.mroIn K a.czw (.ref a.cz0)=some true
 e_NoNet:ExcCls K a.czw
 k_NoNet_ValueError:PySem.W.kitOne K (.ref a.czw) (.type "ValueError")=some true
 k_NoNet_NoRatio:PySem.W.kitOne K (.ref a.czw) (.ref a.czx)=some false
 k_NoNet_NoText:PySem.W.kitOne K (.ref a.czw) (.ref a.czy)=some false
 k_NoNet_NoBox:PySem.W.kitOne K (.ref a.czw) (.ref a.czu)=some false
 k_NoNet_NoNet:PySem.W.kitOne K (.ref a.czw) (.ref a.czw)=some true
 k_NoNet_Unlike:PySem.W.kitOne K (.ref a.czw) (.ref a.czz)=some false
 k_NoNet_NoLine:PySem.W.kitOne K (.ref a.czw) (.ref a.czv)=some false
 x_NoBox:PySem.W.excIn K a.czu veB "ValueError.__new__" = true
 u_NoBox:PySem.W.mroIn K a.czu (.ref a.cz0)=some true
 e_NoBox:ExcCls K a.czu
 k_NoBox_ValueError:PySem.W.kitOne K (.ref a.czu) (.type "ValueError")=some true
 k_NoBox_NoRatio:PySem.W.kitOne K (.ref a.czu) (.ref a.czx)=some false
 k_NoBox_NoText:PySem.W.kitOne K (.ref a.czu) (.ref a.czy)=some false
 k_NoBox_NoBox:PySem.W.kitOne K (.ref a.czu) (.ref a.czu)=some true
 k_NoBox_NoNet:PySem.W.kitOne K (.ref a.czu) (.ref a.czw)=some false
 k_NoBox_Unlike:PySem.W.kitOne K (.ref a.czu) (.ref a.czz)=some false
 k_NoBox_NoLine:PySem.W.kitOne K (.ref a.czu) (.ref a.czv)=some false
 x_NoLine:PySem.W.excIn K a.czv veB "ValueError.__new__" = true
 u_NoLine:PySem.W.mroIn K a.czv (.ref a.cz0)=some true
 e_NoLine:ExcCls K a.czv
 k_NoLine_ValueError:PySem.W.kitOne K (.ref a.czv) (.type "ValueError")=some true
 k_NoLine_NoRatio:PySem.W.kitOne K (.ref a.czv) (.ref a.czx)=some false
 k_NoLine_NoText:PySem.W.kitOne K (.ref a.czv) (.ref a.czy)=some false
 k_NoLine_NoBox:PySem.W.kitOne K (.ref a.czv) (.ref a.czu)=some false
 k_NoLine_NoNet:PySem.W.kitOne K (.ref a.czv) (.ref a.czw)=some false
 k_NoLine_Unlike:PySem.W.kitOne K (.ref a.czv) (.ref a.czz)=some false
 k_NoLine_NoLine:PySem.W.kitOne K (.ref a.czv) (.ref a.czv)=some true
 Cz1:Cls K a.cz1
 mz1:mg "Box" = some (.ref a.cz1)
 nz3:wX K a.cz1 "sides"
 Czl:Cls K a.czl
 mzl:mg "Net" = some (.ref a.czl)
 nzn:wX K a.czl "many"
 nzr:wX K a.czl "units"
 nzo:wX K a.czl "outs"
 Cz4:Cls K a.cz4
 mz4:mg "Desk" = some (.ref a.cz4)
 nz9:wX K a.cz4 "net"
 nz6:wX K a.cz4 "box"
 my0:mg "WORDS" = some (.ref a.gy0)
 D_WORDS:WordsAt a.w K a.gy0 [("net",[.int 1,.non]),("box",[.int 1,.non]),("at",[.int 1,.int 1]),("bounds",[.int 0,.int 0]),("says",[.int 2,.non]),("most",[.int 1,.non]),("smaller",[.int 0,.int 0])]
 mzi:mg "MOST_SIDES" = some (.int 6 a.tzi)
 mzf:mg "MOST_FIGURES" = some (.int 60 a.tzf)
 mzc:mg "FIGURES" = some (.str "0123456789" a.tzc)
 mzk:mg "NOUGHT" = some (.ref a.gzk)
 szk:∀ H:Hp,SqT K H a.gzk [.int 0,.int 1]
 mze:mg "MOST_BENDS" = some (.int 20 a.tze)
 mzj:mg "MOST_UNITS" = some (.int 80 a.tzj)
 mzh:mg "MOST_OUTS" = some (.int 12 a.tzh)
 mzg:mg "MOST_INS" = some (.int 6 a.tzg)
 mzd:mg "IN_A_BOX" = some (.ref a.gzd)
 szd:∀ H:Hp,SqT K H a.gzd [.str "bounds",.str "says",.str "most",.str "smaller"]
section
variable {P:Program} {w:World} {K:Ap} {mg:Str->Option Value} {base:Heap} {a:Adr}
def spGcd:Sp:=fun vs H Q _=>∃ x y:Int,vs=[.int x,.int y]/\0<=x/\0<=y/\Q (.int (Int.gcd x y:Nat)) H
theorem wW (T:Txt K mg a):FnOk P w K mg base CX0 1 a.fya a.dya ["one", "other"] spGcd:=by
 refine T.Fya.F.ok scya ?_ ?_
 ·walk_at "c"
 walk_at "b"
 obtain ⟨x0,y0,rfl,h1,h2,q⟩:=h;refine ⟨_,(qK (ps_while PassesOwn.never (qW op_ne (pv 1) qx)
    (qK (ps_s 2 scya.nd (pe_op jk (pv 0) (pv 1)))
   (qK (ps_s 0 scya.nd (pv 1))
   (qJ (ps_s 1 scya.nd (pv 2))))))
   (qJ (zj (pv 0)))),?_⟩
 refine while_by (fun σ H'=>H'=H/\∃ (x y:Int) (r:Option V),σ=[some (.int x),some (.int y),r]/\0<=x/\0<=y/\Int.gcd x y=Int.gcd x0 y0)
  (fun σ _=>match σ with | [_,some (.int y),_]=>y.toNat | _=>0) ⟨rfl,x0,y0,none,rfl,h1,h2,rfl⟩ ?_ ?_
 ·rintro σ H' ⟨rfl,x,y,r,rfl,hx,hy,hg⟩
  refine ⟨_,rfl,rfl,_,rfl,?_⟩
  by_cases e:y=0
  ·subst e
   refine iteNS rfl ?_;refine ⟨_,rfl,?_⟩;rw [<- hg,gcd_end hx] at q;exact q
  ·refine iteNP (fun z=>e (V.int.inj z)) ?_
   refine ⟨_,rfl,_,rfl,_,_,rfl,rfl,(by omega:(0:Int)<y),_,rfl,_,rfl,?_⟩;refine ⟨⟨rfl,y,x%y,_,rfl,hy,Int.emod_nonneg _ e,gcd_step.trans hg⟩,?_⟩;have:=Int.emod_lt_of_pos x (show 0<y by omega);show (x%y).toNat<y.toNat;have:=Int.emod_nonneg x e;omega
 ·rintro σ H' Q1 Q2 hq ⟨v,e,hs,k,ek,q1⟩
  exact ⟨v,e,hs,k,ek,hq _ _ q1⟩
def spBinR (K:Ap) (f g:Int->Int->Int->Int->Int):Sp:=fun vs H Q _=>∃ (p r:Addr) (x y u v:Int),vs=[.ref p,.ref r]/\SqT K H p (T2 x y)/\SqT K H r (T2 u v)/\IsR x y/\IsR u v/\Sm 4000 x/\Sm 4000 y/\Sm 4000 u/\Sm 4000 v/\RetT H Q (T2 (nt (f x y u v) (g x y u v)) (nb (f x y u v) (g x y u v)))
theorem mul_ne {y v:Int} (h1:0<y) (h2:0<v):y*v≠0:=by
 have:=Int.mul_pos h1 h2;omega
theorem cdivB (h0:j≠0) (h:Sm n j) (hn:n<=8999:=by decide):CDivB t j:=⟨h0,Af ((h.mono hn).log2 (by decide)) (by decide)⟩
theorem Sm.fdiv (h:Sm n x) (d:g∣x) (h0:g≠0):Sm n (x.fdiv g):=by
 obtain ⟨k,e⟩:=d;subst e;rw [A3 k h0];refine h.le ?_;rw [An];exact Nat.le_mul_of_pos_left _ (by omega)
theorem divB (hb:b≠0) (h:Sm 8000 b):CDivB t (sg t b):=cdivB (sg_ne hb) (h.le (by
 rw [sg_abs];exact Nat.le_of_dvd (by omega) (Int.natAbs_dvd_natAbs.mpr (Int.gcd_dvd_right t b))))
theorem ok_plusR (T:Txt K mg a):FnOk P w K mg base CX0 2 a.fyw a.dyw ["one", "other"] (spBinR K (fun x y u v=>x*v+u*y) (fun _ y _ v=>y*v)):=by
 refine T.Fyw.F.ok scyw ?_ ?_
 ·walk_at "c"
 walk_at "b"
 obtain ⟨p,r,x,y,u,v,rfl,hp,hq,R1,R2,sx,sy,su,sv,q⟩:=h;have hy:=R1.pos;have hv:=R2.pos;have yne:y≠0:=by omega
 have vne:v≠0:=by omega
 have sgd:Sm 4000 ((Int.gcd y v:Nat):Int):=sv.gcd_right vne;have gne:((Int.gcd y v:Nat):Int)≠0:=by
  have:=Int.gcd_pos_of_ne_zero_left v yne;omega
 have gy:((Int.gcd y v:Nat):Int)∣y:=Int.gcd_dvd_left y v;have gv:((Int.gcd y v:Nat):Int)∣v:=Int.gcd_dvd_right y v;refine ltX ?_
 intros
 refine ⟨_,body4 (by rfl)
  (ps_s 2 scyw.nd (pe_d (wW T) hr T.Fya (pa_c (pe_ix zq (pv 0) qx) (pa_c (pe_ix zq (pv 1) qx) qj))))
  (ps_s 3 scyw.nd (pe_op jK (pe_op vV (pe_ix zq (pv 0) qx) (pe_op yw (pe_ix zq (pv 1) qx) (pv 2))) (pe_op vV (pe_ix zq (pv 1) qx) (pe_op yw (pe_ix zq (pv 0) qx) (pv 2)))))
  (ps_s 4 scyw.nd (pe_d (wW T) hr T.Fya (pa_c (qX (x4) rfl T.m_abs boot_abs (pa_c (pv 3) qj)) (pa_c (pv 2) qj))))
  (zj (j9 (pa_c (pe_op yw (pv 3) (pv 4)) (pa_c (pe_op vV (pe_op yw (pe_ix zq (pv 0) qx) (pv 2)) (pe_op yw (pe_ix zq (pv 1) qx) (pv 4))) qj)))),?_⟩
 refine lt4 ?_
 intros
 refine ⟨_,rfl,_,_,_,_,rfl,rfl,hp,rfl,_,rfl,_,_,_,_,rfl,rfl,hq,rfl,_,_,rfl,by omega,by omega,?_⟩;dsimp only;generalize hg:((Int.gcd y v:Nat):Int)=g at *;refine ⟨_,rfl,_,_,_,_,rfl,rfl,hp,rfl,_,rfl,_,_,_,_,rfl,rfl,hq,rfl,_,rfl,_,_,rfl,rfl,cdivB gne sgd,_,_,rfl,rfl,mulOk sx (sv.fdiv gv gne),?_⟩;refine ⟨_,rfl,_,_,_,_,rfl,rfl,hq,rfl,_,rfl,_,_,_,_,rfl,rfl,hp,rfl,_,rfl,_,_,rfl,rfl,cdivB gne sgd,_,_,rfl,rfl,mulOk su (sy.fdiv gy gne),_,_,rfl,rfl,?_⟩;dsimp only;generalize ht:x*v.fdiv g+u*y.fdiv g=t at *;have gnn:0<=g:=by omega
 refine ⟨_,rfl,_,rfl,_,rfl,_,_,rfl,abs_nn _,gnn,?_⟩;dsimp only;rw [QK];have srd:Sm 4000 ((Int.gcd t g:Nat):Int):=sgd.gcd_right gne;have rne:((Int.gcd t g:Nat):Int)≠0:=by
  have:=Int.gcd_pos_of_ne_zero_right t gne;omega
 have rv:((Int.gcd t g:Nat):Int)∣v:=Int.dvd_trans (Int.gcd_dvd_right t g) gv;generalize hrr:((Int.gcd t g:Nat):Int)=d at *;refine ⟨_,rfl,_,rfl,_,_,rfl,rfl,cdivB rne srd,_,rfl,_,_,_,_,rfl,rfl,hp,rfl,_,rfl,_,_,rfl,rfl,cdivB gne sgd,?_⟩;refine ⟨_,rfl,_,_,_,_,rfl,rfl,hq,rfl,_,rfl,_,_,rfl,rfl,cdivB rne srd,_,_,rfl,rfl,mulOk (sy.fdiv gy gne) (sv.fdiv rv rne),vq,fun p' hp'=>?_⟩;have k:=plus_way R1 R2 hg.symm ht.symm hrr.symm;have n:=n_of (mul_ne hy hv) k.1 k.2;rw [<- n.1,<- n.2] at q;exact q.new hp'
theorem ok_timesR (T:Txt K mg a):FnOk P w K mg base CX0 2 a.fxd a.dxd ["one", "other"] (spBinR K (fun x _ u _=>x*u) (fun _ y _ v=>y*v)):=by
 refine T.Fxd.F.ok scxd ?_ ?_
 ·walk_at "c"
 walk_at "b"
 obtain ⟨p,r,x,y,u,v,rfl,hp,hq,R1,R2,sx,sy,su,sv,q⟩:=h;have hy:=R1.pos;have hv:=R2.pos;have yne:y≠0:=by omega
 have vne:v≠0:=by omega
 have s1:Sm 4000 ((Int.gcd x v:Nat):Int):=sv.gcd_right vne;have s2:Sm 4000 ((Int.gcd u y:Nat):Int):=sy.gcd_right yne;have n1:((Int.gcd x v:Nat):Int)≠0:=by
  have:=Int.gcd_pos_of_ne_zero_right x vne;omega
 have n2:((Int.gcd u y:Nat):Int)≠0:=by
  have:=Int.gcd_pos_of_ne_zero_right u yne;omega
 have d1:((Int.gcd x v:Nat):Int)∣x:=Int.gcd_dvd_left x v;have d2:((Int.gcd x v:Nat):Int)∣v:=Int.gcd_dvd_right x v;have d3:((Int.gcd u y:Nat):Int)∣u:=Int.gcd_dvd_left u y;have d4:((Int.gcd u y:Nat):Int)∣y:=Int.gcd_dvd_right u y;refine ltX ?_
 intros
 refine ⟨_,body3 (by rfl)
  (ps_s 2 scxd.nd (pe_d (wW T) hr T.Fya (pa_c (qX (x4) rfl T.m_abs boot_abs (pa_c (pe_ix zq (pv 0) qx) qj)) (pa_c (pe_ix zq (pv 1) qx) qj))))
  (ps_s 3 scxd.nd (pe_d (wW T) hr T.Fya (pa_c (qX (x4) rfl T.m_abs boot_abs (pa_c (pe_ix zq (pv 1) qx) qj)) (pa_c (pe_ix zq (pv 0) qx) qj))))
  (zj (j9 (pa_c (pe_op vV (pe_op yw (pe_ix zq (pv 0) qx) (pv 2)) (pe_op yw (pe_ix zq (pv 1) qx) (pv 3))) (pa_c (pe_op vV (pe_op yw (pe_ix zq (pv 0) qx) (pv 3)) (pe_op yw (pe_ix zq (pv 1) qx) (pv 2))) qj)))),?_⟩
 refine lt3 ?_
 intros
 refine ⟨_,rfl,_,_,_,_,rfl,rfl,hp,rfl,_,rfl,_,rfl,_,_,_,_,rfl,rfl,hq,rfl,_,_,rfl,abs_nn _,by omega,?_⟩;dsimp only;rw [QK];generalize hg:((Int.gcd x v:Nat):Int)=g at *;refine ⟨_,rfl,_,_,_,_,rfl,rfl,hq,rfl,_,rfl,_,rfl,_,_,_,_,rfl,rfl,hp,rfl,_,_,rfl,abs_nn _,by omega,?_⟩;dsimp only;rw [QK];generalize hk:((Int.gcd u y:Nat):Int)=k at *;refine ⟨_,rfl,_,_,_,_,rfl,rfl,hp,rfl,_,rfl,_,_,rfl,rfl,cdivB n1 s1,_,rfl,_,_,_,_,rfl,rfl,hq,rfl,_,rfl,_,_,rfl,rfl,cdivB n2 s2,_,_,rfl,rfl,mulOk (sx.fdiv d1 n1) (su.fdiv d3 n2),?_⟩;refine ⟨_,rfl,_,_,_,_,rfl,rfl,hp,rfl,_,rfl,_,_,rfl,rfl,cdivB n2 s2,_,rfl,_,_,_,_,rfl,rfl,hq,rfl,_,rfl,_,_,rfl,rfl,cdivB n1 s1,_,_,rfl,rfl,mulOk (sy.fdiv d4 n2) (sv.fdiv d2 n1),vq,fun p' hp'=>?_⟩;have w:=times_way R1 R2 hg.symm hk.symm;have n:=n_of (mul_ne hy hv) w.1 w.2;rw [<- n.1,<- n.2] at q;exact q.new hp'
abbrev TQ (q:Rat):List V:=T2 q.num q.den
def spBinQ (K:Ap) (f:Rat->Rat->Rat):Sp:=fun vs H Q _=>∃ (p r:Addr) (x y:Rat),vs=[.ref p,.ref r]/\SqT K H p (TQ x)/\SqT K H r (TQ y)/\SmQ 4000 x/\SmQ 4000 y/\RetT H Q (TQ (f x y))
def IsQ (K:Ap) (H:Hp) (v:V) (q:Rat):Prop:=∃ p,v=.ref p/\SqT K H p (TQ q)
def RL (K:Ap) (H:Hp) (vs:List V) (qs:List Rat):Prop:=Paired (IsQ K H) vs qs
theorem IsQ.mono (h:IsQ K H v q) (g:Same H H'):IsQ K H' v q:=by
 obtain ⟨p,e,s⟩:=h;exact ⟨p,e,g.tup s⟩
theorem RL.mono (h:RL K H vs qs) (g:Same H H'):RL K H' vs qs:=Paired.mapP h fun _ _ q=>q.mono g
theorem RL.length (h:RL K H vs qs):vs.length=qs.length:=Paired.length h
theorem RL.get:∀ {vs:List V} {qs:List Rat} {i:Nat} {v:V},RL K H vs qs->vs[i]?=some v->∃ q,qs[i]?=some q/\IsQ K H v q
 | _,_,_,_,.nil,e=>by simp at e
 | v0::_,q0::_,0,v,.cons h _,e=>by
  have e':v0=v:=by simpa using e
  subst e';exact ⟨_,rfl,h⟩
 | _::_,_::_,i+1,v,.cons _ t,e=>by
  obtain ⟨q,h1,h2⟩:=RL.get (i:=i) (v:=v) t (by simpa using e);exact ⟨q,by simpa using h1,h2⟩
theorem RL.snoc (h:RL K H vs qs) (k:IsQ K H v q):RL K H (vs++[v]) (qs++[q]):=Paired.snoc h k
theorem zZ {α:Type} {xs:List α} {x:α} (h:xs[i]?=some x):xs.take (i+1)=xs.take i++[x]:=by
 rw [List.take_succ,h]; rfl
def RetL (K:Ap) (H:Hp) (Q:VK) (qs:List Rat):Prop:=∀ p H' ys,H p=none->Same H H'->H' p=some (.lst ys)->RL K H' ys qs->Q (.ref p) H'
theorem _root_.L2.Same.laid (g:Same H H') (hn:H p=none) (o:HO):Same H (upd H' p o):=fun b u q=>by
 rw [zk (zW q hn)];exact g _ _ q
theorem v8 (g:Same H H') (h:H' p=none):H p=none:=by
 cases e:H p with
 | none=>rfl
 | some o=>rw [g _ _ e] at h; cases h
theorem at0 {x:V} {r:List V}:atI (x::r) 0=some x:=by
 unfold atI ixN;rw [if_pos (Int.le_refl _),if_pos (by rw [List.length_cons]; omega)];rfl
theorem atN {vs:List V} {n:Nat} {x:V} (h:vs[n]?=some x):atI vs (n:Int)=some x:=by
 have hn:=(List.getElem?_eq_some_iff.mp h).1;unfold atI ixN;rw [if_pos (by omega),if_pos (by omega)];show vs[((n:Int)).toNat]?=some x;rw [Int.toNat_natCast];exact h
theorem okyw (T:Txt K mg a):FnOk P w K mg base CX0 2 a.fyw a.dyw ["one", "other"] (spBinQ K (·+·)):=(ok_plusR T).imp fun vs H Q E h=>by
 obtain ⟨p,r,x,y,e,hp,hr,sx,sy,q⟩:=h;refine ⟨p,r,x.num,x.den,y.num,y.den,e,hp,hr,QX x,QX y,sx.1,sx.2,sy.1,sy.2,?_⟩;rw [(q_plus x y).1,(q_plus x y).2];exact q
theorem okxd (T:Txt K mg a):FnOk P w K mg base CX0 2 a.fxd a.dxd ["one", "other"] (spBinQ K (·*·)):=(ok_timesR T).imp fun vs H Q E h=>by
 obtain ⟨p,r,x,y,e,hp,hr,sx,sy,q⟩:=h;refine ⟨p,r,x.num,x.den,y.num,y.den,e,hp,hr,QX x,QX y,sx.1,sx.2,sy.1,sy.2,?_⟩;rw [(q_times x y).1,(q_times x y).2];exact q
theorem v6 {α β:Type} {F:α->β->Prop}:∀ {vs:List α} {qs:List β} {i:Nat} {v:α},Paired F vs qs->vs[i]?=some v->∃ q,qs[i]?=some q/\F v q
 | _,_,_,_,.nil,e=>by simp at e
 | v0::_,q0::_,0,v,.cons h _,e=>by
  have e':v0=v:=by simpa using e
  subst e';exact ⟨_,rfl,h⟩
 | _::_,_::_,i+1,v,.cons _ t,e=>by
  obtain ⟨q,h1,h2⟩:=v6 (i:=i) (v:=v) t (by simpa using e);exact ⟨q,by simpa using h1,h2⟩
theorem nil_get {α:Type} {j:Nat} {x:α} {p:Prop} (h:([]:List α)[j]?=some x):p:=by simp at h
def Wh (K:Ap) (H:Hp) (x:V) (b:Bool):Prop:=(IsI K H x "int" false/\b=false)\/(IsI K H x "int" true/\IsI K H x "bool" (!b))
theorem Wh.int {K:Ap} {H:Hp} (i:Int):Wh K H (.int i) true:=.inr ⟨.intInt i,.intBool i⟩
theorem _root_.L2.IsI.mono {K:Ap} {H H':Hp} {x:V} {t:String} {b:Bool} (g:Same H H') (h:IsI K H x t b):IsI K H' x t b:=by
 cases h with
 | intInt i=>exact .intInt i
 | intBool i=>exact .intBool i
 | blInt i=>exact .blInt i
 | blBool i=>exact .blBool i
 | nonInt=>exact .nonInt
 | strInt i=>exact .strInt i
 | strStr i=>exact .strStr i
 | tupTup h=>exact .tupTup (g.tup h)
 | tupInt h=>exact .tupInt (g.tup h)
 | lstList h=>exact .lstList (g.seq h)
 | lstInt h=>exact .lstInt (g.seq h)
 | dictInt h=>exact .dictInt (g _ _ h)
theorem Wh.mono {K:Ap} {H H':Hp} {x:V} {b:Bool} (g:Same H H') (h:Wh K H x b):Wh K H' x b:=h.imp (fun z=>⟨z.1.mono g,z.2⟩) fun z=>⟨z.1.mono g,z.2.mono g⟩
def spWholeA (K:Ap):Sp:=fun vs H Q _=>∃ x b,vs=[x]/\Wh K H x b/\Q (.bl b) H
theorem v7 (T:Txt K mg a):FnOk P w K mg base CX0 1 a.fye a.dye ["thing"] (spWholeA K):=by
 refine T.Fye.F.ok scye ?_ ?_
 ·walk_at "c"
 walk_at "b"
 obtain ⟨x,b,rfl,h,q⟩:=h;refine ⟨_,(qJ (zj (pe_and (qX (call_isi) rfl T.m_isinstance boot_isinstance (pa_c (pv 0) (pa_c (jq (v:=.ty "int") rfl T.m_int boot_int rfl) qj))) (pe_one (pe_not (qX (call_isi) rfl T.m_isinstance boot_isinstance (pa_c (pv 0) (pa_c (jq (v:=.ty "bool") rfl T.m_bool boot_bool rfl) qj)))))))),?_⟩
 rcases h with ⟨h1,rfl⟩ | ⟨h1,h2⟩
 ·exact ⟨_,rfl,_,_,_,rfl,h1,_,rfl,iteF q⟩
 ·refine ⟨_,rfl,_,_,_,rfl,h1,_,rfl,iteT ⟨_,rfl,_,_,_,rfl,h2,_,rfl,?_⟩⟩
  rw [Bool.not_not];exact q
def RetS (K:Ap) (H:Hp) (Q:VK) (xs:List V):Prop:=∀ p H',Same H H'->SqT K H' p xs->Q (.ref p) H'
def spLessQ (K:Ap):Sp:=fun vs H Q _=>∃ (p r:Addr) (x y:Rat),vs=[.ref p,.ref r]/\SqT K H p (TQ x)/\SqT K H r (TQ y)/\SmQ 9000 x/\SmQ 9000 y/\Q (.bl (decide (x<y))) H
theorem okyq (T:Txt K mg a):FnOk P w K mg base CX0 1 a.fyq a.dyq ["one", "other"] (spLessQ K):=by
 refine T.Fyq.F.ok scyq ?_ ?_
 ·walk_at "c"
 walk_at "b"
 obtain ⟨p,r,x,y,rfl,hp,hq,sx,sy,q⟩:=h;refine ⟨_,(qJ (zj (x9 op_lt (pe_op vV (pe_ix zq (pv 0) qx) (pe_ix zq (pv 1) qx)) (pe_op vV (pe_ix zq (pv 1) qx) (pe_ix zq (pv 0) qx))))),?_⟩;rw [<- q_less] at q;exact ⟨_,rfl,_,_,_,_,rfl,rfl,hp,rfl,_,rfl,_,_,_,_,rfl,rfl,hq,rfl,_,_,rfl,rfl,mulOk sx.1 sy.2,_,rfl,_,_,_,_,rfl,rfl,hq,rfl,_,rfl,_,_,_,_,rfl,rfl,hp,rfl,_,_,rfl,rfl,mulOk sy.1 sx.2,_,_,rfl,rfl,q⟩
theorem _root_.L2.IsL.mono {K:Ap} {H H':Hp} {x:V} {t:String} {b:Bool} (g:Same H H') (h:IsL K H x t b):IsL K H' x t b:=by
 cases h with
 | old h=>exact .old (h.mono g)
 | lstTup h=>exact .lstTup (g.seq h)
 | tupList h=>exact .tupList (g.tup h)
 | intList i=>exact .intList i
 | intTup i=>exact .intTup i
theorem _root_.L2.IsA.mono {K:Ap} {H H':Hp} {x:V} {t:String} {b:Bool} (g:Same H H') (h:IsA K H x t b):IsA K H' x t b:=by
 cases h with
 | old h=>exact .old (h.mono g)
 | blTup b=>exact .blTup b
 | blList b=>exact .blList b
 | nonTup=>exact .nonTup
 | nonList=>exact .nonList
 | strTup z=>exact .strTup z
 | strList z=>exact .strList z
 | dictTup h=>exact .dictTup (g _ _ h)
 | dictList h=>exact .dictList (g _ _ h)
inductive NR (K:Ap) (H:Hp):V->Prop where
 | no {x:V} (h:IsA K H x "tuple" false):NR K H x
 | len {p:Addr} {xs:List V} (h:SqT K H p xs) (n:xs.length≠2):NR K H (.ref p)
 | fst {p:Addr} {u v:V} (h:SqT K H p [u,v]) (k:Wh K H u false):NR K H (.ref p)
 | snd {p:Addr} {u v:V} (h:SqT K H p [u,v]) (k:Wh K H u true) (k2:Wh K H v false):NR K H (.ref p)
 | low {p:Addr} {x y:Int} (h:SqT K H p (T2 x y)) (k:y<1):NR K H (.ref p)
 | part {p:Addr} {x y:Int} (h:SqT K H p (T2 x y)) (k:1<=y) (g:Int.gcd x y≠1):NR K H (.ref p)
theorem NR.mono {K:Ap} {H H':Hp} {x:V} (h:NR K H x) (g:Same H H'):NR K H' x:=by
 cases h with
 | no h=>exact .no (h.mono g)
 | len h n=>exact .len (g.tup h) n
 | fst h k=>exact .fst (g.tup h) (k.mono g)
 | snd h k k2=>exact .snd (g.tup h) (k.mono g) (k2.mono g)
 | low h k=>exact .low (g.tup h) k
 | part h k z=>exact .part (g.tup h) k z
def spIsA (K:Ap):Sp:=fun vs H Q _=>∃ x,vs=[x]/\((NR K H x/\Q (.bl false) H)\/∃ (p:Addr) (q:Rat),x=.ref p/\SqT K H p (TQ q)/\Q (.bl true) H)
theorem xq (T:Txt K mg a):FnOk P w K mg base CX0 2 a.fyd a.dyd ["thing"] (spIsA K):=by
 refine T.Fyd.F.ok scyd ?_ ?_
 ·walk_at "c"
 walk_at "b"
 obtain ⟨x,rfl,h⟩:=h;refine ⟨_,(qK (ps_if (PW.pt (pw_or (yy (y8 (qX (call_isa) rfl T.m_isinstance boot_isinstance (pa_c (pv 0) (pa_c (jq (v:=.ty "tuple") rfl T.m_tuple boot_tuple rfl) qj))))) (vx (qW op_ne (qX (zx) rfl T.m_len boot_len (pa_c (pv 0) qj)) qx))))
    (qJ (zj pe_bl))
    qY)
   (qK (ps_if (PW.pt (pw_or (yy (y8 (pe_d (v7 T) hr T.Fye (pa_c (pe_ix zq (pv 0) qx) qj)))) (pw_or (yy (y8 (pe_d (v7 T) hr T.Fye (pa_c (pe_ix zq (pv 0) qx) qj)))) (vx (qW op_lt (pe_ix zq (pv 0) qx) qx)))))
    (qJ (zj pe_bl))
    qY)
   (qJ (zj (x9 op_eq (pe_d (wW T) hr T.Fya (pa_c (qX (x4) rfl T.m_abs boot_abs (pa_c (pe_ix zq (pv 0) qx) qj)) (pa_c (pe_ix zq (pv 0) qx) qj))) qx))))),?_⟩
 have tup:∀ {p:Addr} {xs:List V},SqT K H p xs->IsA K H (.ref p) "tuple" true:=fun h=>.old (.old (.tupTup h))
 rcases h with ⟨nr,q⟩ | ⟨p,z,rfl,hp,q⟩
 ·cases nr with
  | no h=>exact ⟨_,rfl,_,_,_,rfl,h,_,rfl,iteT q⟩
  | @len p xs h n =>
   refine ⟨_,rfl,_,_,_,rfl,tup h,_,rfl,iteF ⟨_,rfl,_,_,rfl,.inr h,rfl,_,rfl,iteNP (fun z=>n (by have:=V.int.inj z; omega)) q⟩⟩
  | fst h k =>
   refine ⟨_,rfl,_,_,_,rfl,tup h,_,rfl,iteF ⟨_,rfl,_,_,rfl,.inr h,rfl,_,rfl,iteF ?_⟩⟩;refine ⟨_,rfl,_,_,_,_,rfl,rfl,h,rfl,_,_,rfl,k,_,rfl,iteT q⟩
  | snd h k k2 =>
   refine ⟨_,rfl,_,_,_,rfl,tup h,_,rfl,iteF ⟨_,rfl,_,_,rfl,.inr h,rfl,_,rfl,iteF ?_⟩⟩;refine ⟨_,rfl,_,_,_,_,rfl,rfl,h,rfl,_,_,rfl,k,_,rfl,iteF ⟨_,rfl,_,_,_,_,rfl,rfl,h,rfl,_,_,rfl,k2,_,rfl,iteT q⟩⟩
  | low h k =>
   refine ⟨_,rfl,_,_,_,rfl,tup h,_,rfl,iteF ⟨_,rfl,_,_,rfl,.inr h,rfl,_,rfl,iteF ?_⟩⟩;refine ⟨_,rfl,_,_,_,_,rfl,rfl,h,rfl,_,_,rfl,.int _,_,rfl,iteF ⟨_,rfl,_,_,_,_,rfl,rfl,h,rfl,_,_,rfl,.int _,_,rfl,iteF ⟨_,rfl,_,_,_,_,rfl,rfl,h,rfl,_,_,rfl,rfl,_,rfl,iteP k q⟩⟩⟩
  | @part p x y h k g =>
   refine ⟨_,rfl,_,_,_,rfl,tup h,_,rfl,iteF ⟨_,rfl,_,_,rfl,.inr h,rfl,_,rfl,iteF ?_⟩⟩;refine ⟨_,rfl,_,_,_,_,rfl,rfl,h,rfl,_,_,rfl,.int _,_,rfl,iteF ⟨_,rfl,_,_,_,_,rfl,rfl,h,rfl,_,_,rfl,.int _,_,rfl,iteF ⟨_,rfl,_,_,_,_,rfl,rfl,h,rfl,_,_,rfl,rfl,_,rfl,iteN (by omega) ?_⟩⟩⟩;refine ⟨_,rfl,_,_,_,_,rfl,rfl,h,rfl,_,rfl,_,rfl,_,_,_,_,rfl,rfl,h,rfl,_,_,rfl,abs_nn _,by omega,rfl,?_⟩;dsimp only;have e:decide (V.int ((Int.gcd (if x<0 then -x else x) y:Nat):Int)=V.int 1)=false:=decide_eq_false fun z=>g (by
    have z:=V.int.inj z;have e2:Int.gcd (if x<0 then -x else x) y=Int.gcd x y:=by split <;> simp [Int.neg_gcd]
    rw [e2] at z;omega)
   rw [e];exact q
 ·have R:=QX z
  have hy:=R.pos;refine ⟨_,rfl,_,_,_,rfl,tup hp,_,rfl,iteF ⟨_,rfl,_,_,rfl,.inr hp,rfl,_,rfl,iteF ?_⟩⟩;refine ⟨_,rfl,_,_,_,_,rfl,rfl,hp,rfl,_,_,rfl,.int _,_,rfl,iteF ⟨_,rfl,_,_,_,_,rfl,rfl,hp,rfl,_,_,rfl,.int _,_,rfl,iteF ⟨_,rfl,_,_,_,_,rfl,rfl,hp,rfl,_,_,rfl,rfl,_,rfl,iteN (by omega) ?_⟩⟩⟩;refine ⟨_,rfl,_,_,_,_,rfl,rfl,hp,rfl,_,rfl,_,rfl,_,_,_,_,rfl,rfl,hp,rfl,_,_,rfl,abs_nn _,by omega,rfl,?_⟩;dsimp only;have e:Int.gcd (if z.num<0 then -z.num else z.num) (z.den:Int)=1:=by
   have g:=R.low
   split <;> simp [Int.neg_gcd,g]
  rw [e];exact q
def spPlain (K:Ap):Sp:=fun vs H Q _=>∃ (p:Addr) (x:Rat),vs=[.ref p]/\SqT K H p (TQ x)/\RetT H Q (TQ x)
theorem okyv (T:Txt K mg a):FnOk P w K mg base CX0 1 a.fyv a.dyv ["one"] (spPlain K):=by
 refine T.Fyv.F.ok scyv ?_ ?_
 ·walk_at "c"
 walk_at "b"
 obtain ⟨p,x,rfl,hp,q⟩:=h;refine ⟨_,(qJ (zj (j9 (pa_c (yq (call_int1) rfl T.m_int boot_int (pa_c (pe_ix zq (pv 0) qx) qj)) (pa_c (yq (call_int1) rfl T.m_int boot_int (pa_c (pe_ix zq (pv 0) qx) qj)) qj))))),?_⟩;exact ⟨_,rfl,_,_,_,_,rfl,rfl,hp,rfl,.inl ⟨_,rfl,_,rfl,_,_,_,_,rfl,rfl,hp,rfl,.inl ⟨_,rfl,vq,fun p' hp'=>q.new hp'⟩⟩⟩
def Z2 (K:Ap) (H:Hp) (v:V) (s:Rat×Rat):Prop:=∃ p pl ph,v=.ref p/\SqT K H p [.ref pl,.ref ph]/\SqT K H pl (TQ s.1)/\SqT K H ph (TQ s.2)
theorem Z2.mono (h:Z2 K H v s) (g:Same H H'):Z2 K H' v s:=by
 obtain ⟨p,pl,ph,e,h1,h2,h3⟩:=h;exact ⟨p,pl,ph,e,g.tup h1,g.tup h2,g.tup h3⟩
def SL (K:Ap) (H:Hp) (vs:List V) (ss:List (Rat×Rat)):Prop:=Paired (Z2 K H) vs ss
theorem SL.mono (h:SL K H vs ss) (g:Same H H'):SL K H' vs ss:=Paired.mapP h fun _ _ q=>q.mono g
theorem SL.length (h:SL K H vs ss):vs.length=ss.length:=Paired.length h
theorem SL.get {i:Nat} (h:SL K H vs ss) (e:vs[i]?=some v):∃ s,ss[i]?=some s/\Z2 K H v s:=v6 h e
theorem SL.snoc (h:SL K H vs ss) (k:Z2 K H v s):SL K H (vs++[v]) (ss++[s]):=Paired.snoc h k
theorem SqT.upd_lst (h:SqT K H b xs) (e:H t=some (.lst ys)):SqT K (upd H t o) b xs:=by
 rcases h with (h | ⟨u,h⟩) | h
 ·exact .inl (.inl (by rw [zk (ne_of h e (by intro z; cases z))]; exact h))
 ·exact .inl (.inr ⟨u,by rw [zk (ne_of h e (by intro z; cases z))]; exact h⟩)
 ·exact .inr h
theorem SqT.upd_ins (h:SqT K H b xs) (e:H t=some (.ins C dx fs)):SqT K (upd H t o) b xs:=by
 rcases h with (h | ⟨u,h⟩) | h
 ·exact .inl (.inl (by rw [zk (ne_of h e (by intro z; cases z))]; exact h))
 ·exact .inl (.inr ⟨u,by rw [zk (ne_of h e (by intro z; cases z))]; exact h⟩)
 ·exact .inr h
theorem SL.upd_ins (h:SL K H vs ss) (e:H t=some (.ins C dx fs)):SL K (upd H t o) vs ss :=
 Paired.mapP h fun _ _ ⟨p,pl,ph,e0,h1,h2,h3⟩=>⟨p,pl,ph,e0,SqT.upd_ins h1 e,SqT.upd_ins h2 e,SqT.upd_ins h3 e⟩
theorem RL.upd_lst (h:RL K H vs qs) (e:H t=some (.lst ys)):RL K (upd H t o) vs qs:=Paired.mapP h fun _ _ ⟨p,e1,s⟩=>⟨p,e1,SqT.upd_lst s e⟩
def RetSide (K:Ap) (H:Hp) (Q:VK) (s:Rat×Rat):Prop:=∀ p H',Same H H'->Z2 K H' (.ref p) s->Q (.ref p) H'
inductive NS (K:Ap) (H:Hp):V->Prop where
 | no {x:V} (h:IsA K H x "tuple" false):NS K H x
 | len {p:Addr} {xs:List V} (h:SqT K H p xs) (n:xs.length≠2):NS K H (.ref p)
 | fst {p:Addr} {u v:V} (h:SqT K H p [u,v]) (k:NR K H u):NS K H (.ref p)
 | snd {p pu:Addr} {v:V} {q:Rat} (h:SqT K H p [.ref pu,v]) (k:SqT K H pu (TQ q)) (k2:NR K H v):NS K H (.ref p)
 | turn {v:V} {s:Rat×Rat} (h:Z2 K H v s) (lt:s.2<s.1) (s1:SmQ 9000 s.1) (s2:SmQ 9000 s.2):NS K H v
theorem NS.mono {K:Ap} {H H':Hp} {x:V} (h:NS K H x) (g:Same H H'):NS K H' x:=by
 cases h with
 | no h=>exact .no (h.mono g)
 | len h n=>exact .len (g.tup h) n
 | fst h k=>exact .fst (g.tup h) (k.mono g)
 | snd h k k2=>exact .snd (g.tup h) (g.tup k) (k2.mono g)
 | turn h lt s1 s2=>exact .turn (h.mono g) lt s1 s2
def spSideE (K:Ap) (C:Addr):Sp:=fun vs H Q E=>∃ v,vs=[v]/\((∃ s:Rat×Rat,Z2 K H v s/\s.1<=s.2/\SmQ 9000 s.1/\SmQ 9000 s.2/\RetSide K H Q s)\/(NS K H v/\∀ H',Same H H'->E (.ref C) none H'))
theorem oky5 (T:Txt K mg a):FnOk P w K mg base (CXE P w) 3 a.fy5 a.dy5 ["side"] (spSideE K a.czu):=by
 refine T.Fy5.F.okE scy5 ?_ ?_
 ·walk_at "c"
 walk_at "b"
 obtain ⟨v,rfl,h⟩:=h;refine ltX ?_
 intros
 refine ⟨_,body4 (by rfl)
  (ps_if (PW.pt (pw_or (yy (y8 (qX (call_isa) rfl T.m_isinstance boot_isinstance (pa_c (pv 0) (pa_c (jq (v:=.ty "tuple") rfl T.m_tuple boot_tuple rfl) qj))))) (vx (qW op_ne (qX (zx) rfl T.m_len boot_len (pa_c (pv 0) qj)) qx)))) (qJ (zv rfl rfl rfl rfl rfl T.x_NoBox rfl T.mzu (pa_c qw qj))) qY)
  (ps_if (PW.pt (pw_or (yy (y8 (pe_d (xq T) hr T.Fyd (pa_c (pe_ix zq (pv 0) qx) qj)))) (vx (yy (y8 (pe_d (xq T) hr T.Fyd (pa_c (pe_ix zq (pv 0) qx) qj))))))) (qJ (zv rfl rfl rfl rfl rfl T.x_NoBox rfl T.mzu (pa_c qw qj))) qY)
  (ps_if (y8 (pe_d (okyq T) hr T.Fyq (pa_c (pe_ix zq (pv 0) qx) (pa_c (pe_ix zq (pv 0) qx) qj)))) (qJ (zv rfl rfl rfl rfl rfl T.x_NoBox rfl T.mzu (pa_c qw qj))) qY)
  (zj (j9 (pa_c (pe_d (okyv T) hr T.Fyv (pa_c (pe_ix zq (pv 0) qx) qj)) (pa_c (pe_d (okyv T) hr T.Fyv (pa_c (pe_ix zq (pv 0) qx) qj)) qj)))),?_⟩
 refine lt4 ?_
 intros
 have tup:∀ {p:Addr} {xs:List V},SqT K H p xs->IsA K H (.ref p) "tuple" true:=fun h=>.old (.old (.tupTup h))
 rcases h with ⟨sd,⟨p,pl,ph,rfl,hp,h1,h2⟩,le,m1,m2,q⟩ | ⟨ns,qe⟩
 ·refine ⟨_,rfl,_,_,_,rfl,tup hp,_,rfl,iteF ⟨_,rfl,_,_,rfl,.inr hp,rfl,_,rfl,iteF ?_⟩⟩
  refine ⟨_,rfl,_,_,_,_,rfl,rfl,hp,rfl,_,rfl,.inr ⟨pl,_,rfl,h1,_,rfl,iteF ⟨_,rfl,_,_,_,_,rfl,rfl,hp,rfl,_,rfl,.inr ⟨ph,_,rfl,h2,_,rfl,iteF ?_⟩⟩⟩⟩;refine ⟨_,rfl,_,_,_,_,rfl,rfl,hp,rfl,_,rfl,_,_,_,_,rfl,rfl,hp,rfl,ph,pl,_,_,rfl,h2,h1,m2,m1,_,rfl,iteN (Rat.not_lt.mpr le) ?_⟩;refine ⟨_,rfl,_,_,_,_,rfl,rfl,hp,rfl,pl,_,rfl,h1,fun p1 H1 g1 e1=>?_⟩;refine ⟨_,rfl,_,_,_,_,rfl,rfl,g1.tup hp,rfl,ph,_,rfl,g1.tup h2,fun p2 H2 g2 e2=>⟨vq,fun t ht=>?_⟩⟩;have g3:=qy ht (.tup [.ref p1,.ref p2]);exact q t _ (g1.trans (g2.trans g3)) ⟨t,p1,p2,rfl,SqT.of qk,SqT.of (g3 _ _ (g2 _ _ e1)),SqT.of (g3 _ _ e2)⟩
 ·have fin:=And.intro (show 1<=sizeLine by decide) (qe H (Same.refl _))
  cases ns with
  | no h=>exact ⟨_,rfl,_,_,_,rfl,h,_,rfl,iteT fin⟩
  | len h n=>exact ⟨_,rfl,_,_,_,rfl,tup h,_,rfl,iteF ⟨_,rfl,_,_,rfl,.inr h,rfl,_,rfl,iteNP (fun z=>n (by have:=V.int.inj z; omega)) fin⟩⟩
  | fst h k =>
   refine ⟨_,rfl,_,_,_,rfl,tup h,_,rfl,iteF ⟨_,rfl,_,_,rfl,.inr h,rfl,_,rfl,iteF ?_⟩⟩;exact ⟨_,rfl,_,_,_,_,rfl,rfl,h,rfl,_,rfl,.inl ⟨k,_,rfl,iteT fin⟩⟩
  | snd h k k2 =>
   refine ⟨_,rfl,_,_,_,rfl,tup h,_,rfl,iteF ⟨_,rfl,_,_,rfl,.inr h,rfl,_,rfl,iteF ?_⟩⟩;exact ⟨_,rfl,_,_,_,_,rfl,rfl,h,rfl,_,rfl,.inr ⟨_,_,rfl,k,_,rfl,iteF ⟨_,rfl,_,_,_,_,rfl,rfl,h,rfl,_,rfl,.inl ⟨k2,_,rfl,iteT fin⟩⟩⟩⟩
  | turn h lt s1 s2 =>
   obtain ⟨p,pl,ph,rfl,hp,h1,h2⟩:=h;refine ⟨_,rfl,_,_,_,rfl,tup hp,_,rfl,iteF ⟨_,rfl,_,_,rfl,.inr hp,rfl,_,rfl,iteF ?_⟩⟩;refine ⟨_,rfl,_,_,_,_,rfl,rfl,hp,rfl,_,rfl,.inr ⟨pl,_,rfl,h1,_,rfl,iteF ⟨_,rfl,_,_,_,_,rfl,rfl,hp,rfl,_,rfl,.inr ⟨ph,_,rfl,h2,_,rfl,iteF ?_⟩⟩⟩⟩;exact ⟨_,rfl,_,_,_,_,rfl,rfl,hp,rfl,_,rfl,_,_,_,_,rfl,rfl,hp,rfl,ph,pl,_,_,rfl,h2,h1,s2,s1,_,rfl,iteP lt fin⟩
def BoxAt (C:Addr) (H:Hp) (p l:Addr):Prop:=∃ dx,H p=some (.ins C dx [("sides",.ref l)])
inductive NB (K:Ap) (H:Hp):V->Prop where
 | no {x:V} (h:IsA K H x "list" false):NB K H x
 | len {l:Addr} {vs:List V} (h:SqL K H l vs) (n:vs.length<1\/6<vs.length):NB K H (.ref l)
 | bad {l:Addr} {v1 v2:List V} {u:V} {ss:List (Rat×Rat)} (h:SqL K H l (v1++u::v2)) (r:SL K H v1 ss) (z:∀ s∈ss,s.1<=s.2/\SmQ 9000 s.1/\SmQ 9000 s.2) (n:v1.length+v2.length<6) (k:NS K H u):NB K H (.ref l)
def spInitE (K:Ap) (Cb C:Addr):Sp:=fun vs H Q E=>∃ (x dx:Addr) (v:V),vs=[.ref x,v]/\H x=some (.ins Cb dx [])/\((∃ (l:Addr) (v1:List V) (ss:List (Rat×Rat)),v=.ref l/\SqL K H l v1/\SL K H v1 ss/\1<=ss.length/\ss.length<=6/\(∀ s∈ss,s.1<=s.2/\SmQ 9000 s.1/\SmQ 9000 s.2)/\∀ m v2 H',(∀ b u,b≠x->H b=some u->H' b=some u)->H m=none->BoxAt Cb H' x m->H' m=some (.lst v2)->SL K H' v2 ss->Q .non H')\/(NB K H v/\∀ H',Same H H'->E (.ref C) none H'))
theorem okz2 (T:Txt K mg a):FnOk P w K mg base (CXE P w) 4 a.fz2 a.dz2 ["self", "sides"] (spInitE K a.cz1 a.czu):=by
 refine T.Fz2.okE scz2 ?_ ?_
 ·walk_at "c"
 walk_at "b"
 obtain ⟨x,dx,v,rfl,hx,h⟩:=h;refine ltX ?_
 intros
 refine ⟨_,body2 (by rfl)
  (ps_if (PW.pt (pw_or (yy (y8 (qX (call_isa) rfl T.m_isinstance boot_isinstance (pa_c (pv 1) (pa_c (jq (v:=.ty "list") rfl T.m_list boot_list rfl) qj))))) (pw_or (qW op_lt (qX (zx) rfl T.m_len boot_len (pa_c (pv 1) qj)) qx) (vx (qW op_gt (qX (zx) rfl T.m_len boot_len (pa_c (pv 1) qj)) (yY (v:=.int 6) rfl T.mzi ⟨_,rfl⟩)))))) (qJ (zv rfl rfl rfl rfl rfl T.x_NoBox rfl T.mzu (pa_c qw qj))) qY)
  (Qw (pv 0) (pe_compE (E:=E) rfl rfl rfl rfl (N:=["side"]) (ix:=[none]) ⟨rfl,rfl,rfl,rfl,trivial,rfl,trivial⟩ rfl (yW (pv 1)) (fun _=>(pg_n 0 (show (["side"]:List Str).Nodup by decide +kernel))) (fun _ σ=>j3 rfl σ) (fun _=>yQ) (fun _=>(zy (oky5 T) (hr.mono (by decide)) rfl T.Fy5.m T.Fy5.F.kp T.Fy5.b .nil passC (pa_c (pv 0) qj)))) rfl),?_⟩
 refine lt2 ?_
 intros
 rcases h with ⟨l,v1,ss,rfl,hl,r1,lo,hi,sz,q⟩ | ⟨nb,qe⟩
 ·have l1:=r1.length
  refine ⟨_,rfl,_,_,_,rfl,.old (.old (.lstList hl)),_,rfl,iteF ⟨_,rfl,_,_,rfl,.inl hl,_,_,rfl,rfl,_,rfl,iteN (by omega) ⟨_,rfl,_,_,rfl,.inl hl,_,_,rfl,rfl,_,rfl,iteN (by omega) ?_⟩⟩⟩;refine ⟨_,rfl,l,rfl,⟨_,hl⟩,yv (n:=ss.length) (fun i ys H'=>Same H H'/\SL K H' ys (ss.take i)) ⟨Same.refl _,.nil⟩ (yj (by omega)) ?_ ?_ ?_⟩
  ·rintro ys H' ⟨g,r⟩
   refine ⟨⟨v1,g.seq hl,by omega⟩,fun D hD=>?_⟩;rw [A5 (Nat.le_refl _)] at r;have g2:=qy hD (.lst ys);have hx2:=(g.trans g2) _ _ hx;have ne:D≠x:=Ne.symm (zW (g _ _ hx) hD);refine ⟨_,rfl,x,_,dx,[],rfl,hx2,T.Cz1,T.nz3,by decide,?_⟩;exact q D ys _ (fun b u hb e=>by rw [zk hb]; exact (g.trans g2) _ _ e) (v8 g hD) ⟨dx,qk⟩ (by rw [zk ne]; exact qk) (SL.upd_ins (r.mono g2) hx2)
  ·rintro i ys H' hi' ⟨g,r⟩
   exact ⟨v1,_,g.seq hl,A4 (by omega)⟩
  ·rintro i m' ys H' c y H2 hi' ⟨g,r⟩ ⟨rfl,y1⟩ nx _
   obtain ⟨sd,es,hs⟩:=r1.get (y1 _ (g.seq hl));obtain ⟨k1,k2,k3⟩:=sz sd (A9 es);refine Or.inl ⟨rfl,_,rfl,y,rfl,.inl ⟨sd,hs.mono g,k1,k2,k3,fun p3 H3 g3 e3=>nx _ _ ⟨g.trans g3,?_⟩⟩⟩;rw [zZ es];exact (r.mono g3).snoc e3
 ·have fin:∀ H',Same H H'->1<=sizeLine/\E (.ref a.czu) none H':=fun H' g=>⟨by decide,qe H' g⟩
  cases nb with
  | no h=>exact ⟨_,rfl,_,_,_,rfl,h,_,rfl,iteT (fin _ (Same.refl _))⟩
  | len h n =>
   refine ⟨_,rfl,_,_,_,rfl,.old (.old (.lstList h)),_,rfl,iteF ⟨_,rfl,_,_,rfl,.inl h,_,_,rfl,rfl,_,rfl,iteD (fun c=>fin _ (Same.refl _)) (fun c=>⟨_,rfl,_,_,rfl,.inl h,_,_,rfl,rfl,_,rfl,iteP (by omega) (fin _ (Same.refl _))⟩)⟩⟩
  | @bad l v1 v2 u ss hl r1 sz n k =>
   have l1:=r1.length;have ll:(v1++u::v2).length=v1.length+v2.length+1:=by rw [Ad,List.length_cons]; omega
   refine ⟨_,rfl,_,_,_,rfl,.old (.old (.lstList hl)),_,rfl,iteF ⟨_,rfl,_,_,rfl,.inl hl,_,_,rfl,rfl,_,rfl,iteN (by omega) ⟨_,rfl,_,_,rfl,.inl hl,_,_,rfl,rfl,_,rfl,iteN (by omega) ?_⟩⟩⟩;refine ⟨_,rfl,l,rfl,⟨_,hl⟩,yv (n:=ss.length+1) (fun i ys H'=>i<=ss.length/\Same H H') ⟨Nat.zero_le _,Same.refl _⟩ (yj (by omega)) ?_ ?_ ?_⟩
   ·rintro ys H' ⟨le,_⟩
    omega
   ·rintro i ys H' hi' ⟨le,g⟩
    exact ⟨_,_,g.seq hl,A4 (by omega)⟩
   ·rintro i m' ys H' c y H2 hi' ⟨le,g⟩ ⟨rfl,y1⟩ nx _
    have ey:=y1 _ (g.seq hl)
    by_cases hi:i<ss.length
    ·rw [A2 (by omega)] at ey
     obtain ⟨sd,es,hs⟩:=r1.get ey;obtain ⟨k1,k2,k3⟩:=sz sd (A9 es);exact Or.inl ⟨rfl,_,rfl,y,rfl,.inl ⟨sd,hs.mono g,k1,k2,k3,fun p3 H3 g3 e3=>nx _ _ ⟨by omega,g.trans g3⟩⟩⟩
    ·have ei:i=v1.length:=by omega
     rw [ei,A1 (Nat.le_refl _),Nat.sub_self] at ey
     cases ey
     exact Or.inl ⟨rfl,_,rfl,u,rfl,.inr ⟨k.mono g,fun H3 g3=>qe _ (g.trans g3)⟩⟩
inductive Un where
 | sum (c:Rat) (ts:List (Nat×Rat))
 | bend (p:Nat)
def wZ (K:Ap) (H:Hp) (v:V) (x:Nat×Rat):Prop:=∃ t r,v=.ref t/\SqT K H t [.int (x.1:Int),.ref r]/\SqT K H r (TQ x.2)
theorem wZ.mono (h:wZ K H v x) (g:Same H H'):wZ K H' v x:=by
 obtain ⟨t,r,e,h1,h2⟩:=h;exact ⟨t,r,e,g.tup h1,g.tup h2⟩
def TL (K:Ap) (H:Hp) (vs:List V) (ts:List (Nat×Rat)):Prop:=Paired (wZ K H) vs ts
theorem TL.mono (h:TL K H vs ts) (g:Same H H'):TL K H' vs ts:=Paired.mapP h fun _ _ q=>q.mono g
theorem TL.length (h:TL K H vs ts):vs.length=ts.length:=Paired.length h
theorem TL.get {i:Nat} (h:TL K H vs ts) (e:vs[i]?=some v):∃ t,ts[i]?=some t/\wZ K H v t:=v6 h e
def UnAt (b:Bool) (K:Ap) (H:Hp) (v:V):Un->Prop
 | .sum c ts=>∃ t pc pt vs,v=.ref t/\SqT K H t [.str "sum",.ref pc,.ref pt]/\SqT K H pc (TQ c)/\(if b then SqT K H pt vs else SqL K H pt vs)/\TL K H vs ts
 | .bend p=>∃ t,v=.ref t/\SqT K H t [.str "bend",.int (p:Int)]
theorem UnAt.mono (h:UnAt b K H v u) (g:Same H H'):UnAt b K H' v u:=by
 cases u with
 | sum c ts =>
  obtain ⟨t,pc,pt,vs,e,h1,h2,h3,h4⟩:=h;refine ⟨t,pc,pt,vs,e,g.tup h1,g.tup h2,?_,h4.mono g⟩
  cases b with
  | true=>exact g.tup h3
  | false=>exact g.seq h3
 | bend p =>
  obtain ⟨t,e,h1⟩:=h;exact ⟨t,e,g.tup h1⟩
def UL (b:Bool) (K:Ap) (H:Hp) (vs:List V) (us:List Un):Prop:=Paired (UnAt b K H) vs us
theorem UL.mono (h:UL b K H vs us) (g:Same H H'):UL b K H' vs us:=Paired.mapP h fun _ _ q=>q.mono g
theorem UL.length (h:UL b K H vs us):vs.length=us.length:=Paired.length h
theorem UL.get {i:Nat} (h:UL b K H vs us) (e:vs[i]?=some v):∃ u,us[i]?=some u/\UnAt b K H v u:=v6 h e
theorem UL.snoc (h:UL b K H vs us) (k:UnAt b K H v u):UL b K H (vs++[v]) (us++[u]):=Paired.snoc h k
def UnF (lf:Addr) (K:Ap) (H:Hp) (v:V):Un->Prop
 | .sum c ts=>∃ t pc pt vs,v=.ref t/\SqT K H t [.str "sum",.ref pc,.ref pt]/\SqT K H pc (TQ c)/\H pt=some (.lst vs)/\pt≠lf/\TL K H vs ts
 | .bend p=>∃ t,v=.ref t/\SqT K H t [.str "bend",.int (p:Int)]
theorem UnF.mono (h:UnF lf K H v u) (g:Same H H'):UnF lf K H' v u:=by
 cases u with
 | sum c ts =>
  obtain ⟨t,pc,pt,vs,e,h1,h2,h3,n,h4⟩:=h;exact ⟨t,pc,pt,vs,e,g.tup h1,g.tup h2,g _ _ h3,n,h4.mono g⟩
 | bend p =>
  obtain ⟨t,e,h1⟩:=h;exact ⟨t,e,g.tup h1⟩
def UF (lf:Addr) (K:Ap) (H:Hp) (vs:List V) (us:List Un):Prop:=Paired (UnF lf K H) vs us
theorem UF.mono (h:UF lf K H vs us) (g:Same H H'):UF lf K H' vs us:=Paired.mapP h fun _ _ q=>q.mono g
theorem UF.length (h:UF lf K H vs us):vs.length=us.length:=Paired.length h
theorem UF.snoc (h:UF lf K H vs us) (k:UnF lf K H v u):UF lf K H (vs++[v]) (us++[u]):=Paired.snoc h k
def UnN (H0:Hp) (K:Ap) (H:Hp) (v:V) (u:Un):Prop:=∀ lf o,H0 lf=some o->UnF lf K H v u
def WfU (e:Nat):Un->Prop
 | .sum _ ts=>(∀ x∈ts,x.1<e)/\(ts.map (·.1)).Nodup/\ts.length<=100
 | .bend p=>p<e
def isB:Un->Bool
 | .sum _ _=>false
 | .bend _=>true
def WfN (many:Nat) (us:List Un):Prop:=∀ (k:Nat) (u:Un),us[k]?=some u->WfU (many+k) u
def RetBy (H:Hp) (Q:VK) (P:Hp->V->Prop):Prop:=∀ p H',Same H H'->P H' (.ref p)->Q (.ref p) H'
theorem _root_.L2.IsS.mono {K:Ap} {H H':Hp} {x:V} (g:Same H H') (h:IsS K H x):IsS K H' x:=by
 cases h with
 | int i=>exact .int i
 | bl b=>exact .bl b
 | non=>exact .non
 | tup h=>exact .tup (g.tup h)
 | lst h=>exact .lst (g.seq h)
 | dict h=>exact .dict (g _ _ h)
inductive NP (K:Ap) (H:Hp) (e:Nat):V->Prop where
 | no {x:V} (h:Wh K H x false):NP K H e x
 | low {i:Int} (h:i<0):NP K H e (.int i)
 | high {i:Int} (h:(e:Int)<=i):NP K H e (.int i)
theorem NP.mono {K:Ap} {H H':Hp} {e:Nat} {x:V} (h:NP K H e x) (g:Same H H'):NP K H' e x:=by
 cases h with
 | no h=>exact .no (h.mono g)
 | low h=>exact .low h
 | high h=>exact .high h
def spPlaceE (K:Ap) (C:Addr):Sp:=fun vs H Q E=>∃ (v:V) (e:Nat),vs=[v,.int (e:Int)]/\((∃ p:Nat,v=.int (p:Int)/\p<e/\Q (.int (p:Int)) H)\/(NP K H e v/\∀ H',Same H H'->E (.ref C) none H'))
theorem vw (T:Txt K mg a):FnOk P w K mg base (CXE P w) 2 a.fy4 a.dy4 ["place", "end"] (spPlaceE K a.czw):=by
 refine T.Fy4.F.okE scy4 ?_ ?_
 ·walk_at "c"
 walk_at "b"
 obtain ⟨v,e,rfl,h⟩:=h;refine ⟨_,(qK (ps_if (PW.pt (pw_or (yy (y8 (pe_d (v7 T) hr T.Fye (pa_c (pv 0) qj)))) (pw_or (qW op_lt (pv 0) qx) (vx (qW op_ge (pv 0) (pv 1))))))
    (qJ (zv rfl rfl rfl rfl rfl T.x_NoNet rfl T.mzw (pa_c qw qj)))
    qY)
   (qJ (zj (yq (call_int1) rfl T.m_int boot_int (pa_c (pv 0) qj))))),?_⟩
 rcases h with ⟨p,rfl,lt,q⟩ | ⟨np,qe⟩
 ·refine ⟨_,rfl,_,_,rfl,.int _,_,rfl,iteF ⟨_,rfl,_,_,rfl,rfl,_,rfl,iteN (by omega) ⟨_,rfl,_,rfl,_,_,rfl,rfl,_,rfl,iteN (by omega) ?_⟩⟩⟩
  exact ⟨_,rfl,.inl ⟨_,rfl,q⟩⟩
 ·have fin:=And.intro (show 1<=sizeLine by decide) (qe H (Same.refl _))
  cases np with
  | no h=>exact ⟨_,rfl,_,_,rfl,h,_,rfl,iteT fin⟩
  | low h=>exact ⟨_,rfl,_,_,rfl,.int _,_,rfl,iteF ⟨_,rfl,_,_,rfl,rfl,_,rfl,iteP h fin⟩⟩
  | high h=>exact ⟨_,rfl,_,_,rfl,.int _,_,rfl,iteF ⟨_,rfl,_,_,rfl,rfl,_,rfl,iteN (by omega) ⟨_,rfl,_,rfl,_,_,rfl,rfl,_,rfl,iteP (by omega) fin⟩⟩⟩
inductive NTm (K:Ap) (H:Hp) (e:Nat):V->Prop where
 | no {x:V} (h:IsA K H x "tuple" false):NTm K H e x
 | len {p:Addr} {xs:List V} (h:SqT K H p xs) (n:xs.length≠2):NTm K H e (.ref p)
 | snd {p:Addr} {u v:V} (h:SqT K H p [u,v]) (k:NR K H v):NTm K H e (.ref p)
 | fst {p r:Addr} {u:V} {q:Rat} (h:SqT K H p [u,.ref r]) (k:SqT K H r (TQ q)) (k2:NP K H e u):NTm K H e (.ref p)
theorem NTm.mono {K:Ap} {H H':Hp} {e:Nat} {x:V} (h:NTm K H e x) (g:Same H H'):NTm K H' e x:=by
 cases h with
 | no h=>exact .no (h.mono g)
 | len h n=>exact .len (g.tup h) n
 | snd h k=>exact .snd (g.tup h) (k.mono g)
 | fst h k k2=>exact .fst (g.tup h) (g.tup k) (k2.mono g)
def spTermE (K:Ap) (C:Addr):Sp:=fun vs H Q E=>∃ (v:V) (e:Nat),vs=[v,.int (e:Int)]/\((∃ x:Nat×Rat,wZ K H v x/\x.1<e/\RetBy H Q fun H' v=>wZ K H' v x)\/(NTm K H e v/\∀ H',Same H H'->E (.ref C) none H'))
theorem oky7 (T:Txt K mg a):FnOk P w K mg base (CXE P w) 3 a.fy7 a.dy7 ["term", "end"] (spTermE K a.czw):=by
 refine T.Fy7.F.okE scy7 ?_ ?_
 ·walk_at "c"
 walk_at "b"
 obtain ⟨v,e,rfl,h⟩:=h;refine ltX ?_
 intros
 refine ⟨_,body3 (by rfl)
  (ps_if (PW.pt (pw_or (yy (y8 (qX (Q7) rfl T.m_isinstance boot_isinstance (pa_c (pv 0) (pa_c (jq (v:=.ty "tuple") rfl T.m_tuple boot_tuple rfl) qj))))) (vx (qW op_ne (qX (zx) rfl T.m_len boot_len (pa_c (pv 0) qj)) qx)))) (qJ (zv rfl rfl rfl rfl rfl T.x_NoNet rfl T.mzw (pa_c qw qj))) qY)
  (ps_if (yy (y8 (pe_d (xq T) hr T.Fyd (pa_c (pe_ix zq (pv 0) qx) qj)))) (qJ (zv rfl rfl rfl rfl rfl T.x_NoNet rfl T.mzw (pa_c qw qj))) qY)
  (zj (j9 (pa_c (zy (vw T) (hr.mono (by decide)) rfl T.Fy4.m T.Fy4.F.kp T.Fy4.b .nil passE (pa_c (pe_ix zq (pv 0) qx) (pa_c (pv 1) qj))) (pa_c (pe_d (okyv T) hr T.Fyv (pa_c (pe_ix zq (pv 0) qx) qj)) qj)))),?_⟩
 refine lt3 ?_
 intros
 have tup:∀ {p:Addr} {xs:List V},SqT K H p xs->IsB K H (.ref p) "tuple" true:=fun h=>.a (.old (.old (.tupTup h)))
 rcases h with ⟨x,⟨t,r,rfl,ht,hr'⟩,lt,q⟩ | ⟨nt,qe⟩
 ·refine ⟨_,rfl,_,_,_,rfl,tup ht,_,rfl,iteF ⟨_,rfl,_,_,rfl,.inr ht,rfl,_,rfl,iteF ?_⟩⟩
  refine ⟨_,rfl,_,_,_,_,rfl,rfl,ht,rfl,_,rfl,.inr ⟨r,_,rfl,hr',_,rfl,iteF ?_⟩⟩;refine ⟨_,rfl,_,_,_,_,rfl,rfl,ht,rfl,_,rfl,_,e,rfl,.inl ⟨x.1,rfl,lt,_,rfl,_,_,_,_,rfl,rfl,ht,rfl,r,_,rfl,hr',fun p1 H1 g1 e1=>⟨vq,fun t2 h2=>?_⟩⟩⟩;have g2:=qy h2 (.tup [.int (x.1:Int),.ref p1]);exact q t2 _ (g1.trans g2) ⟨t2,p1,rfl,SqT.of qk,SqT.of (g2 _ _ e1)⟩
 ·have fin:=And.intro (show 1<=sizeLine by decide) (qe H (Same.refl _))
  cases nt with
  | no h=>exact ⟨_,rfl,_,_,_,rfl,.a h,_,rfl,iteT fin⟩
  | len h n=>exact ⟨_,rfl,_,_,_,rfl,tup h,_,rfl,iteF ⟨_,rfl,_,_,rfl,.inr h,rfl,_,rfl,iteNP (fun z=>n (by have:=V.int.inj z; omega)) fin⟩⟩
  | snd h k =>
   refine ⟨_,rfl,_,_,_,rfl,tup h,_,rfl,iteF ⟨_,rfl,_,_,rfl,.inr h,rfl,_,rfl,iteF ?_⟩⟩;exact ⟨_,rfl,_,_,_,_,rfl,rfl,h,rfl,_,rfl,.inl ⟨k,_,rfl,iteT fin⟩⟩
  | fst h k k2 =>
   refine ⟨_,rfl,_,_,_,rfl,tup h,_,rfl,iteF ⟨_,rfl,_,_,rfl,.inr h,rfl,_,rfl,iteF ?_⟩⟩;refine ⟨_,rfl,_,_,_,_,rfl,rfl,h,rfl,_,rfl,.inr ⟨_,_,rfl,k,_,rfl,iteF ?_⟩⟩;exact ⟨_,rfl,_,_,_,_,rfl,rfl,h,rfl,_,rfl,_,e,rfl,.inr ⟨k2,qe⟩⟩
theorem nodup_ints:∀ {ns:List Nat},((ns.map fun n:Nat=>(n:Int)).Nodup↔ns.Nodup)
 | []=>by simp
 | n::ns=>by
  rw [List.map_cons,List.nodup_cons,List.nodup_cons,nodup_ints (ns:=ns)];have:(n:Int)∈(ns.map fun n:Nat=>(n:Int))↔n∈ns:=by
   constructor
   ·intro z
    obtain ⟨m,hm,e⟩:=List.mem_map.mp z;have e:m=n:=by omega
    exact e ▸ hm
   ·intro z
    exact List.mem_map.mpr ⟨n,z,rfl⟩
  rw [this]
inductive NSum (K:Ap) (H:Hp) (e:Nat):V->V->Prop where
 | con {c t:V} (h:NR K H c):NSum K H e c t
 | no {pc:Addr} {t:V} {q:Rat} (h:SqT K H pc (TQ q)) (k:IsA K H t "list" false):NSum K H e (.ref pc) t
 | bad {pc pt:Addr} {q:Rat} {v1 v2:List V} {u:V} {ts:List (Nat×Rat)} (h:SqT K H pc (TQ q)) (k:SqL K H pt (v1++u::v2)) (r:TL K H v1 ts) (w:∀ x∈ts,x.1<e) (n:v1.length+v2.length<100) (b:NTm K H e u):NSum K H e (.ref pc) (.ref pt)
theorem NSum.mono {K:Ap} {H H':Hp} {e:Nat} {x y:V} (h:NSum K H e x y) (g:Same H H'):NSum K H' e x y:=by
 cases h with
 | con h=>exact .con (h.mono g)
 | no h k=>exact .no (g.tup h) (k.mono g)
 | bad h k r w n b=>exact .bad (g.tup h) (g.seq k) (r.mono g) w n (b.mono g)
def spSumE (K:Ap) (C:Addr):Sp:=fun vs H Q E=>∃ (c t:V) (e:Nat),vs=[c,t,.int (e:Int)]/\((∃ (pc pt:Addr) (vt:List V) (q:Rat) (ts:List (Nat×Rat)),c=.ref pc/\t=.ref pt/\SqT K H pc (TQ q)/\SqL K H pt vt/\TL K H vt ts/\(∀ x∈ts,x.1<e)/\ts.length<=100/\((ts.map (·.1)).Nodup->RetBy H Q fun H' v=>UnAt true K H' v (.sum q ts))/\(¬ (ts.map (·.1)).Nodup->∀ H',Same H H'->E (.ref C) none H'))\/(NSum K H e c t/\∀ H',Same H H'->E (.ref C) none H'))
theorem oky6 (T:Txt K mg a):FnOk P w K mg base (CXE P w) 4 a.fy6 a.dy6 ["constant", "terms", "end"] (spSumE K a.czw):=by
 refine T.Fy6.F.okE scy6 ?_ ?_
 ·walk_at "c"
 walk_at "b"
 obtain ⟨cv,tv,e,rfl,h⟩:=h;refine ltX ?_
 intros
 refine ⟨_,body5 (by rfl)
  (ps_if (yy (y8 (pe_d (xq T) hr T.Fyd (pa_c (pv 0) qj)))) (qJ (zv rfl rfl rfl rfl rfl T.x_NoNet rfl T.mzw (pa_c qw qj))) qY)
  (ps_if (yy (y8 (qX (Q7) rfl T.m_isinstance boot_isinstance (pa_c (pv 1) (pa_c (jq (v:=.ty "list") rfl T.m_list boot_list rfl) qj))))) (qJ (zv rfl rfl rfl rfl rfl T.x_NoNet rfl T.mzw (pa_c qw qj))) qY)
  (vY (E:=E) rfl rfl rfl rfl (i:=3) scy6.nd rfl (Or.inl rfl) (N:=["term", "end"]) (ix:=[none,some 2]) ⟨rfl,rfl,rfl,rfl,⟨rfl,trivial⟩,rfl,⟨⟨rfl,Or.inr (Or.inl rfl),ne_loc rfl,rfl,Or.inl rfl⟩,trivial⟩⟩ rfl (yW (pv 1)) (fun _=>(pg_n 0 (show (["term", "end"]:List Str).Nodup by decide +kernel))) (fun _ σ=>j3 rfl σ) (fun _=>yQ) (fun _=>(zy (oky7 T) (hr.mono (by decide)) rfl T.Fy7.m T.Fy7.F.kp T.Fy7.b .nil passC (pa_c (pv 0) (pa_c (pv 1) qj)))))
  (ps_if (qW op_ne (qX (call_len_setV) rfl T.m_len boot_len (pa_c (yq (call_set_all rfl) rfl T.m_set boot_set (pa_c (x8 (N:=["place", "share"]) (ix:=[none,none]) ⟨rfl,rfl,rfl,rfl,trivial,rfl,trivial⟩ rfl (yW (pv 3)) (fun _=>(pg_tup rfl (j6 (pg_n 0 (show (["place", "share"]:List Str).Nodup by decide +kernel)) (j6 (pg_n 1 (show (["place", "share"]:List Str).Nodup by decide +kernel)) pgs_nil)))) (fun _ σ=>go_two rfl rfl (by decide) σ) (fun _=>yQ) (fun _=>(pv 0))) qj)) qj)) (qX (zx) rfl T.m_len boot_len (pa_c (pv 3) qj))) (qJ (zv rfl rfl rfl rfl rfl T.x_NoNet rfl T.mzw (pa_c qw qj))) qY)
  (zj (j9 (pa_c qw (pa_c (pe_d (okyv T) hr T.Fyv (pa_c (pv 0) qj)) (pa_c (yq (call_tuple_of) rfl T.m_tuple boot_tuple (pa_c (pv 3) qj)) qj))))),?_⟩
 refine lt5 ?_
 intros
 rcases h with ⟨pc,pt,vt,c,ts,rfl,rfl,hc,ht,rt,wp,l100,q,qe⟩ | ⟨ns,qe⟩
 case inr =>
  have fin:=And.intro (show 1<=sizeLine by decide) (qe H (Same.refl _))
  cases ns with
  | con h=>exact ⟨_,rfl,_,rfl,.inl ⟨h,_,rfl,iteT fin⟩⟩
  | no h k=>exact ⟨_,rfl,_,rfl,.inr ⟨_,_,rfl,h,_,rfl,iteF ⟨_,rfl,_,_,_,rfl,.a k,_,rfl,iteT fin⟩⟩⟩
  | @bad pc pt q v1 v2 u ts h k r w n b =>
   have l1:=r.length;have ll:(v1++u::v2).length=v1.length+v2.length+1:=by rw [Ad,List.length_cons]; omega
   refine ⟨_,rfl,_,rfl,.inr ⟨_,_,rfl,h,_,rfl,iteF ⟨_,rfl,_,_,_,rfl,.a (.old (.old (.lstList k))),_,rfl,iteF ?_⟩⟩⟩;refine ⟨_,rfl,pt,rfl,⟨_,k⟩,yv (n:=ts.length+1) (fun i ys H'=>i<=ts.length/\Same H H') ⟨Nat.zero_le _,Same.refl _⟩ (yj (by omega)) ?_ ?_ ?_⟩
   ·rintro ys H' ⟨le,_⟩
    omega
   ·rintro i ys H' hi' ⟨le,g⟩
    exact ⟨_,_,g.seq k,A4 (by omega)⟩
   ·rintro i m' ys H' c y H2 hi' ⟨le,g⟩ ⟨rfl,y1⟩ nx _
    have ey:=y1 _ (g.seq k)
    by_cases hi:i<ts.length
    ·rw [A2 (by omega)] at ey
     obtain ⟨x0,ex,hx⟩:=r.get ey;exact Or.inl ⟨rfl,_,rfl,_,rfl,y,e,rfl,.inl ⟨x0,hx.mono g,w x0 (A9 ex),fun p3 H3 g3 e3=>nx _ _ ⟨by omega,g.trans g3⟩⟩⟩
    ·have ei:i=v1.length:=by omega
     rw [ei,A1 (Nat.le_refl _),Nat.sub_self] at ey
     cases ey
     exact Or.inl ⟨rfl,_,rfl,_,rfl,u,e,rfl,.inr ⟨b.mono g,fun H3 g3=>qe _ (g.trans g3)⟩⟩
 have lt:=rt.length;refine ⟨_,rfl,_,rfl,.inr ⟨pc,_,rfl,hc,_,rfl,iteF ?_⟩⟩;refine ⟨_,rfl,_,_,_,rfl,.a (.old (.old (.lstList ht))),_,rfl,iteF ?_⟩;refine ⟨_,rfl,pt,rfl,⟨_,ht⟩,yv (n:=ts.length) (fun i ys H'=>Same H H'/\TL K H' ys (ts.take i)) ⟨Same.refl _,.nil⟩ (yj (by omega)) ?_ ?_ ?_⟩
 case refine_2 =>
  rintro i ys H' hi ⟨g,_⟩;exact ⟨_,_,g.seq ht,A4 (by omega)⟩
 case refine_3 =>
  rintro i m' ys H' cc x H2 hi ⟨g,r⟩ ⟨rfl,y1⟩ nx _;obtain ⟨x0,ex,hx⟩:=rt.get (y1 _ (g.seq ht));refine Or.inl ⟨rfl,_,rfl,_,rfl,x,e,rfl,.inl ⟨x0,hx.mono g,wp x0 (A9 ex),fun p3 H3 g3 e3=>nx _ _ ⟨g.trans g3,?_⟩⟩⟩;rw [zZ ex];exact Paired.snoc (r.mono g3) e3
 rintro vf H1 ⟨g1,r1⟩;rw [A5 (Nat.le_refl _)] at r1;refine ⟨⟨_,g1.seq ht,by omega⟩,fun lf hlf=>?_⟩;have g2:=qy hlf (.lst vf);have ef:=qk (H:=H1) (a:=lf) (o:=.lst vf);have r1:=r1.mono g2;have gA:=g1.trans g2;generalize upd H1 lf (.lst vf)=H2 at *;clear g1 g2 hlf;have lvf:=TL.length r1;refine ⟨_,rfl,lf,rfl,⟨_,SqL.of ef⟩,yv (n:=ts.length) (fun i ys H'=>H'=H2/\ys=((ts.take i).map fun x=>V.int (x.1:Int))) ⟨rfl,rfl⟩ (yj (by omega)) ?_ ?_ ?_⟩
 case refine_2 =>
  rintro i ys H' hi ⟨rfl,_⟩;exact ⟨_,_,SqL.of ef,A4 (by omega)⟩
 case refine_3 =>
  rintro i m' ys H' cc x H3 hi ⟨rfl,rfl⟩ ⟨rfl,y1⟩ nx _;obtain ⟨x0,ex,tt,rr,rfl,h1,h2⟩:=TL.get r1 (y1 _ (SqL.of ef));refine ⟨tt,_,rfl,h1,rfl,_,_,rfl,_,_,rfl,rfl,Or.inl ⟨rfl,_,rfl,nx _ _ ⟨rfl,?_⟩⟩⟩;rw [zZ ex,Al];rfl
 rintro ys H3 ⟨rfl,rfl⟩;rw [A5 (Nat.le_refl _)];refine ⟨⟨_,SqL.of ef,by omega⟩,fun lp hlp=>?_⟩;have g3:=qy hlp (.lst (ts.map fun x=>V.int (x.1:Int)));have ep:=qk (H:=H3) (a:=lp) (o:=.lst (ts.map fun x=>V.int (x.1:Int)));have em:(ts.map fun x=>V.int (x.1:Int))=((ts.map (·.1)).map fun n:Nat=>(n:Int)).map V.int:=by rw [List.map_map,List.map_map]; rfl
 rw [em] at ep g3 ⊢;generalize upd H3 lp (.lst (((ts.map (·.1)).map fun n:Nat=>(n:Int)).map V.int))=H4 at *;have lm:((ts.map (·.1)).map fun n:Nat=>(n:Int)).length=ts.length:=by rw [List.length_map,List.length_map]
 refine ⟨lp,_,rfl,SqL.of ep,by omega,fun ls S n n100 nn hls=>?_⟩;rw [lm,nodup_ints] at nn;have g4:=qy hls (.set S n);have gB:=gA.trans (g3.trans g4);have ef4:=(g3.trans g4) _ _ ef;have e4:=qk (H:=H4) (a:=ls) (o:=.set S n);have r4:=r1.mono (g3.trans g4);generalize upd H4 ls (.set S n)=H5 at *
 by_cases nd:(ts.map (·.1)).Nodup
 case neg =>
  exact ⟨ls,_,_,rfl,e4,n100,_,rfl,_,_,rfl,.inl (SqL.of ef4),rfl,_,rfl,iteNP (fun z=>nd (nn.mp (by have:=V.int.inj z; omega))) ⟨(show 1<=sizeLine by decide),qe nd _ gB⟩⟩
 have q:=q nd;have nn:=nn.mpr nd;refine ⟨ls,_,_,rfl,e4,n100,_,rfl,_,_,rfl,.inl (SqL.of ef4),rfl,_,rfl,iteNS (congrArg V.int (by omega)) ?_⟩;have hc4:=gB.tup hc;refine ⟨_,rfl,pc,_,rfl,hc4,fun p1 H6 g6 e6=>?_⟩;refine ⟨_,rfl,lf,vf,rfl,.inl ⟨SqL.of (g6 _ _ ef4),fun lt2 hlt2=>⟨(show 3<=sizeLine by decide),fun t3 h3=>?_⟩⟩⟩;have g7:=qy hlt2 (.tup vf);have g8:=qy h3 (.tup [.str "sum",.ref p1,.ref lt2]);have g78:=g7.trans g8;exact q t3 _ (gB.trans (g6.trans g78)) ⟨t3,p1,lt2,vf,rfl,SqT.of qk,SqT.of (g78 _ _ e6),SqT.of (g8 _ _ qk),TL.mono r4 (g6.trans g78)⟩
inductive NU (K:Ap) (H:Hp) (e:Nat):V->Prop where
 | no {x:V} (h:IsA K H x "tuple" false):NU K H e x
 | nil {p:Addr} (h:SqT K H p []):NU K H e (.ref p)
 | word {p:Addr} {u:V} {xs:List V} (h:SqT K H p (u::xs)) (k:IsS K H u):NU K H e (.ref p)
 | sum {p:Addr} {c t:V} (h:SqT K H p [.str "sum",c,t]) (k:NSum K H e c t):NU K H e (.ref p)
 | twice {p pc pt:Addr} {q:Rat} {vs:List V} {ts:List (Nat×Rat)} (h:SqT K H p [.str "sum",.ref pc,.ref pt]) (k:SqT K H pc (TQ q)) (k2:SqL K H pt vs) (r:TL K H vs ts) (w:∀ x∈ts,x.1<e) (n:ts.length<=100) (b:¬ (ts.map (·.1)).Nodup):NU K H e (.ref p)
 | bend {p:Addr} {u:V} (h:SqT K H p [.str "bend",u]) (k:NP K H e u):NU K H e (.ref p)
 | other {p:Addr} {z:Str} {xs:List V} (h:SqT K H p (.str z::xs)) (s:V.str z=V.str "sum" -> xs.length≠2) (b:V.str z=V.str "bend" -> xs.length≠1):NU K H e (.ref p)
theorem NU.mono {K:Ap} {H H':Hp} {e:Nat} {x:V} (h:NU K H e x) (g:Same H H'):NU K H' e x:=by
 cases h with
 | no h=>exact .no (h.mono g)
 | nil h=>exact .nil (g.tup h)
 | word h k=>exact .word (g.tup h) (k.mono g)
 | sum h k=>exact .sum (g.tup h) (k.mono g)
 | twice h k k2 r w n b=>exact .twice (g.tup h) (g.tup k) (g.seq k2) (r.mono g) w n b
 | bend h k=>exact .bend (g.tup h) (k.mono g)
 | other h s b=>exact .other (g.tup h) s b
def spUnitE (K:Ap) (C:Addr):Sp:=fun vs H Q E=>∃ (v:V) (e:Nat),vs=[v,.int (e:Int)]/\((∃ u:Un,UnAt false K H v u/\WfU e u/\RetBy H Q fun H' v=>UnAt true K H' v u)\/(NU K H e v/\∀ H',Same H H'->E (.ref C) none H'))
theorem oky8 (T:Txt K mg a):FnOk P w K mg base (CXE P w) 5 a.fy8 a.dy8 ["unit", "end"] (spUnitE K a.czw):=by
 refine T.Fy8.F.okE scy8 ?_ ?_
 ·walk_at "c"
 walk_at "b"
 obtain ⟨v,e,rfl,h⟩:=h;refine ltX ?_
 intros
 refine ⟨_,body4 (by rfl)
  (ps_if (PW.pt (pw_or (yy (y8 (qX (Q7) rfl T.m_isinstance boot_isinstance (pa_c (pv 0) (pa_c (jq (v:=.ty "tuple") rfl T.m_tuple boot_tuple rfl) qj))))) (pw_or (qW op_eq (qX (zx) rfl T.m_len boot_len (pa_c (pv 0) qj)) qx) (vx (yy (y8 (qX (Q7) rfl T.m_isinstance boot_isinstance (pa_c (pe_ix zq (pv 0) qx) (pa_c (jq (v:=.ty "str") rfl T.m_str boot_str rfl) qj))))))))) (qJ (zv rfl rfl rfl rfl rfl T.x_NoNet rfl T.mzw (pa_c qw qj))) qY)
  (ps_if (PW.pt (kW (qW op_eq (pe_ix zq (pv 0) qx) qw) (vX (qW op_eq (qX (zx) rfl T.m_len boot_len (pa_c (pv 0) qj)) qx)))) (qJ (zj (zy (oky6 T) (hr.mono (by decide)) rfl T.Fy6.m T.Fy6.F.kp T.Fy6.b .nil passE (pa_c (pe_ix zq (pv 0) qx) (pa_c (pe_ix zq (pv 0) qx) (pa_c (pv 1) qj)))))) qY)
  (ps_if (PW.pt (kW (qW op_eq (pe_ix zq (pv 0) qx) qw) (vX (qW op_eq (qX (zx) rfl T.m_len boot_len (pa_c (pv 0) qj)) qx)))) (qJ (zj (j9 (pa_c qw (pa_c (zy (vw T) (hr.mono (by decide)) rfl T.Fy4.m T.Fy4.F.kp T.Fy4.b .nil passE (pa_c (pe_ix zq (pv 0) qx) (pa_c (pv 1) qj))) qj))))) qY)
  (zv rfl rfl rfl rfl rfl T.x_NoNet rfl T.mzw (pa_c qw qj)),?_⟩
 refine lt4 ?_
 intros
 have tup:∀ {p:Addr} {xs:List V},SqT K H p xs->IsB K H (.ref p) "tuple" true:=fun h=>.a (.old (.old (.tupTup h)))
 rcases h with ⟨u,hu,wf,q⟩ | ⟨nu,qe⟩
 ·cases u with
  | sum c ts =>
   obtain ⟨t,pc,pt,vs,rfl,h1,h2,h3,h4⟩:=hu;refine ⟨_,rfl,_,_,_,rfl,tup h1,_,rfl,iteF ⟨_,rfl,_,_,rfl,.inr h1,rfl,_,rfl,iteF ⟨_,rfl,_,_,_,_,rfl,rfl,h1,rfl,_,_,_,rfl,.str _,_,rfl,iteF ?_⟩⟩⟩;refine ⟨_,rfl,_,_,_,_,rfl,rfl,h1,rfl,rfl,_,rfl,iteP rfl ⟨_,rfl,_,_,rfl,.inr h1,rfl,_,rfl,iteP rfl ?_⟩⟩;exact ⟨_,rfl,_,_,_,_,rfl,rfl,h1,rfl,_,rfl,_,_,_,_,rfl,rfl,h1,rfl,_,rfl,_,_,e,rfl,.inl ⟨pc,pt,vs,c,ts,rfl,rfl,h2,h3,h4,wf.1,wf.2.2,fun _=>q,fun n=>absurd wf.2.1 n⟩⟩
  | bend p =>
   obtain ⟨t,rfl,h1⟩:=hu;refine ⟨_,rfl,_,_,_,rfl,tup h1,_,rfl,iteF ⟨_,rfl,_,_,rfl,.inr h1,rfl,_,rfl,iteF ⟨_,rfl,_,_,_,_,rfl,rfl,h1,rfl,_,_,_,rfl,.str _,_,rfl,iteF ?_⟩⟩⟩;refine ⟨_,rfl,_,_,_,_,rfl,rfl,h1,rfl,rfl,_,rfl,iteN (by decide) (iteF ?_)⟩;refine ⟨_,rfl,_,_,_,_,rfl,rfl,h1,rfl,rfl,_,rfl,iteP rfl ⟨_,rfl,_,_,rfl,.inr h1,rfl,_,rfl,iteP rfl ?_⟩⟩;refine ⟨_,rfl,_,_,_,_,rfl,rfl,h1,rfl,_,rfl,_,e,rfl,.inl ⟨p,rfl,wf,vq,fun t2 h2=>?_⟩⟩;exact q t2 _ (qy h2 _) ⟨t2,rfl,SqT.of qk⟩
 ·have fin:=And.intro (show 1<=sizeLine by decide) (qe H (Same.refl _))
  cases nu with
  | no h=>exact ⟨_,rfl,_,_,_,rfl,.a h,_,rfl,iteT fin⟩
  | nil h=>exact ⟨_,rfl,_,_,_,rfl,tup h,_,rfl,iteF ⟨_,rfl,_,_,rfl,.inr h,rfl,_,rfl,iteT fin⟩⟩
  | word h k=>exact ⟨_,rfl,_,_,_,rfl,tup h,_,rfl,iteF ⟨_,rfl,_,_,rfl,.inr h,rfl,_,rfl,iteN (fun z=>by have:=V.int.inj z; rw [List.length_cons] at this; omega) ⟨_,rfl,_,_,_,_,rfl,rfl,h,at0,_,_,_,rfl,.noStr k,_,rfl,iteT fin⟩⟩⟩
  | sum h1 k =>
   refine ⟨_,rfl,_,_,_,rfl,tup h1,_,rfl,iteF ⟨_,rfl,_,_,rfl,.inr h1,rfl,_,rfl,iteF ⟨_,rfl,_,_,_,_,rfl,rfl,h1,rfl,_,_,_,rfl,.str _,_,rfl,iteF ?_⟩⟩⟩;refine ⟨_,rfl,_,_,_,_,rfl,rfl,h1,rfl,rfl,_,rfl,iteP rfl ⟨_,rfl,_,_,rfl,.inr h1,rfl,_,rfl,iteP rfl ?_⟩⟩;exact ⟨_,rfl,_,_,_,_,rfl,rfl,h1,rfl,_,rfl,_,_,_,_,rfl,rfl,h1,rfl,_,rfl,_,_,e,rfl,.inr ⟨k,qe⟩⟩
  | twice h1 k k2 r wf n b =>
   refine ⟨_,rfl,_,_,_,rfl,tup h1,_,rfl,iteF ⟨_,rfl,_,_,rfl,.inr h1,rfl,_,rfl,iteF ⟨_,rfl,_,_,_,_,rfl,rfl,h1,rfl,_,_,_,rfl,.str _,_,rfl,iteF ?_⟩⟩⟩;refine ⟨_,rfl,_,_,_,_,rfl,rfl,h1,rfl,rfl,_,rfl,iteP rfl ⟨_,rfl,_,_,rfl,.inr h1,rfl,_,rfl,iteP rfl ?_⟩⟩;exact ⟨_,rfl,_,_,_,_,rfl,rfl,h1,rfl,_,rfl,_,_,_,_,rfl,rfl,h1,rfl,_,rfl,_,_,e,rfl,.inl ⟨_,_,_,_,_,rfl,rfl,k,k2,r,wf,n,fun z=>absurd z b,fun _=>qe⟩⟩
  | bend h1 k =>
   refine ⟨_,rfl,_,_,_,rfl,tup h1,_,rfl,iteF ⟨_,rfl,_,_,rfl,.inr h1,rfl,_,rfl,iteF ⟨_,rfl,_,_,_,_,rfl,rfl,h1,rfl,_,_,_,rfl,.str _,_,rfl,iteF ?_⟩⟩⟩;refine ⟨_,rfl,_,_,_,_,rfl,rfl,h1,rfl,rfl,_,rfl,iteN (by decide) (iteF ?_)⟩;refine ⟨_,rfl,_,_,_,_,rfl,rfl,h1,rfl,rfl,_,rfl,iteP rfl ⟨_,rfl,_,_,rfl,.inr h1,rfl,_,rfl,iteP rfl ?_⟩⟩;exact ⟨_,rfl,_,_,_,_,rfl,rfl,h1,rfl,_,rfl,_,e,rfl,.inr ⟨k,qe⟩⟩
  | @other p z xs h1 sn bn =>
   have ll:((.str z::xs:List V).length:Int)=(xs.length:Int)+1:=by rw [List.length_cons]; omega
   refine ⟨_,rfl,_,_,_,rfl,tup h1,_,rfl,iteF ⟨_,rfl,_,_,rfl,.inr h1,rfl,_,rfl,iteN (fun z=>by have:=V.int.inj z; omega) ⟨_,rfl,_,_,_,_,rfl,rfl,h1,at0,_,_,_,rfl,.str _,_,rfl,iteF ?_⟩⟩⟩;refine ⟨_,rfl,_,_,_,_,rfl,rfl,h1,at0,rfl,_,rfl,?_⟩
   by_cases c:V.str z=V.str "sum"
   ·refine iteP c ⟨_,rfl,_,_,rfl,.inr h1,rfl,_,rfl,iteN (fun y=>sn c (by have:=V.int.inj y; omega)) ?_⟩
    refine ⟨_,rfl,_,_,_,_,rfl,rfl,h1,at0,rfl,_,rfl,?_⟩
    by_cases c2:V.str z=V.str "bend"
    ·exact iteP c2 ⟨_,rfl,_,_,rfl,.inr h1,rfl,_,rfl,iteN (fun y=>bn c2 (by have:=V.int.inj y; omega)) fin⟩
    ·exact iteN c2 (iteF fin)
   ·refine iteN c (iteF ?_)
    refine ⟨_,rfl,_,_,_,_,rfl,rfl,h1,at0,rfl,_,rfl,?_⟩
    by_cases c2:V.str z=V.str "bend"
    ·exact iteP c2 ⟨_,rfl,_,_,rfl,.inr h1,rfl,_,rfl,iteN (fun y=>bn c2 (by have:=V.int.inj y; omega)) fin⟩
    ·exact iteN c2 (iteF fin)
inductive NUs (K:Ap) (H:Hp) (many:Nat):V->Prop where
 | no {x:V} (h:IsA K H x "list" false):NUs K H many x
 | len {l:Addr} {vs:List V} (h:SqL K H l vs) (n:80<vs.length):NUs K H many (.ref l)
 | bad {l:Addr} {v1 v2:List V} {u:V} {us:List Un} (h:SqL K H l (v1++u::v2)) (r:UL false K H v1 us) (w:WfN many us) (n:v1.length+v2.length<80) (b:NU K H (many+v1.length) u):NUs K H many (.ref l)
 | bends {l:Addr} {vs:List V} {us:List Un} (h:SqL K H l vs) (r:UL false K H vs us) (w:WfN many us) (n:us.length<=80) (b:20<(us.filter isB).length):NUs K H many (.ref l)
theorem NUs.mono {K:Ap} {H H':Hp} {e:Nat} {x:V} (h:NUs K H e x) (g:Same H H'):NUs K H' e x:=by
 cases h with
 | no h=>exact .no (h.mono g)
 | len h n=>exact .len (g.seq h) n
 | bad h r w n b=>exact .bad (g.seq h) (r.mono g) w n (b.mono g)
 | bends h r w n b=>exact .bends (g.seq h) (r.mono g) w n b
def NetOk (many:Nat) (us:List Un) (outs:List Nat):Prop:=WfN many us/\us.length<=80/\(us.filter isB).length<=20/\1<=many/\many<=6/\1<=outs.length/\outs.length<=12/\∀ o∈outs,o<many+us.length
theorem kind_at (h:UnAt b K H v u):∃ t ys,v=.ref t/\SqT K H t (.str (if isB u then "bend" else "sum")::ys):=by
 cases u with
 | sum c ts =>
  obtain ⟨t,pc,pt,vs,rfl,h1,_⟩:=h;exact ⟨t,_,rfl,h1⟩
 | bend p =>
  obtain ⟨t,rfl,h1⟩:=h;exact ⟨t,_,rfl,h1⟩
theorem filter_snoc {α:Type} (p:α->Bool) (xs:List α) (x:α):(xs++[x]).filter p=xs.filter p++(if p x then [x] else []):=by
 rw [List.filter_append]
 cases h:p x <;> simp [h]
def spUnitsR (K:Ap) (C:Addr):Sp:=fun vs H Q E=>∃ (v:V) (many:Nat),vs=[v,.int (many:Int)]/\((∃ (l:Addr) (vu:List V) (us:List Un),v=.ref l/\SqL K H l vu/\UL false K H vu us/\WfN many us/\us.length<=80/\((us.filter isB).length<=20->∀ p H' vk,H p=none->Same H H'->H' p=some (.lst vk)->UL true K H' vk us->Q (.ref p) H')/\(¬ (us.filter isB).length<=20->∀ H',Same H H'->E (.ref C) none H'))\/(NUs K H many v/\∀ H',Same H H'->E (.ref C) none H'))
theorem oky9 (T:Txt K mg a):FnOk P w K mg base (CXE P w) 6 a.fy9 a.dy9 ["units", "many"] (spUnitsR K a.czw):=by
 refine T.Fy9.F.okE Q3 ?_ ?_
 ·walk_at "c"
 walk_at "b"
 obtain ⟨v,many,rfl,h0⟩:=h;have h:(∃ (l:Addr) (vu:List V) (us:List Un),v=.ref l/\SqL K H l vu/\UL false K H vu us/\WfN many us/\us.length<=80 /\
 ((us.filter isB).length<=20->∀ p H' vk,H p=none->Same H H'->H' p=some (.lst vk)->UL true K H' vk us->Q (.ref p) H')/\(¬ (us.filter isB).length<=20->∀ H',Same H H'->E (.ref a.czw) none H')) \/
  (NUs K H many v/\(∀ l vs us,v=.ref l->SqL K H l vs->UL false K H vs us->us.length<=80->WfN many us->(us.filter isB).length<=20)/\∀ H',Same H H'->E (.ref a.czw) none H'):=by
  rcases h0 with h | ⟨h,q⟩
  ·exact .inl h
  ·by_cases c:∀ l vs us,v=.ref l->SqL K H l vs->UL false K H vs us->us.length<=80->WfN many us->(us.filter isB).length<=20
   ·exact .inr ⟨h,c,q⟩
   ·simp only [Classical.not_forall] at c
    obtain ⟨l,vs,us,e,h1,h2,h3,h4,n⟩:=c;exact .inl ⟨l,vs,us,e,h1,h2,h4,h3,fun z=>absurd z n,fun _=>q⟩
 clear h0;refine ltX ?_
 intros
 refine ⟨_,body4 (by rfl)
  (ps_if (PW.pt (pw_or (yy (y8 (qX (Q7) rfl T.m_isinstance boot_isinstance (pa_c (pv 0) (pa_c (jq (v:=.ty "list") rfl T.m_list boot_list rfl) qj))))) (vx (qW op_gt (qX (zx) rfl T.m_len boot_len (pa_c (pv 0) qj)) (yY (v:=.int 80) rfl T.mzj ⟨_,rfl⟩))))) (qJ (zv rfl rfl rfl rfl rfl T.x_NoNet rfl T.mzw (pa_c qw qj))) qY)
  (vY (E:=E) rfl rfl rfl rfl (i:=2) Q3.nd rfl (Or.inl rfl) (N:=["k", "unit", "many"]) (ix:=[none,none,some 1]) ⟨rfl,rfl,rfl,rfl,⟨rfl,trivial⟩,rfl,⟨⟨rfl,Or.inr (Or.inl rfl),ne_loc rfl,rfl,Or.inl rfl⟩,trivial⟩⟩ rfl (pi_enum rfl T.m_enumerate (pa_c (pv 0) qj)) (fun _=>(pg_tup rfl (j6 (pg_n 0 (show (["k", "unit", "many"]:List Str).Nodup by decide +kernel)) (j6 (pg_n 1 (show (["k", "unit", "many"]:List Str).Nodup by decide +kernel)) pgs_nil)))) (fun _ σ=>go_two rfl rfl (by decide) σ) (fun _=>yQ) (fun _=>(zy (oky8 T) (hr.mono (by decide)) rfl T.Fy8.m T.Fy8.F.kp T.Fy8.b .nil passC (pa_c (pv 1) (pa_c (pe_op jK (pv 2) (pv 0)) qj)))))
  (ps_if (qW op_gt (qX (zx) rfl T.m_len boot_len (pa_c (x8 (N:=["unit"]) (ix:=[none]) ⟨rfl,rfl,rfl,rfl,trivial,rfl,trivial⟩ rfl (yW (pv 2)) (fun _=>(pg_n 0 (show (["unit"]:List Str).Nodup by decide +kernel))) (fun _ σ=>j3 rfl σ) (fun _=>(pif_one (qW op_eq (pe_ix zq (pv 0) qx) qw))) (fun _=>(pv 0))) qj)) (yY (v:=.int 20) rfl T.mze ⟨_,rfl⟩)) (qJ (zv rfl rfl rfl rfl rfl T.x_NoNet rfl T.mzw (pa_c qw qj))) qY)
  (zj (pv 2)),?_⟩
 refine lt4 ?_
 intros
 rcases h with ⟨l,vu,us,rfl,hl,ru,wf,l80,q,qe⟩ | ⟨nu,few,qe⟩
 case inr =>
  have fin:=And.intro (show 1<=sizeLine by decide) (qe H (Same.refl _))
  cases nu with
  | no h=>exact ⟨_,rfl,_,_,_,rfl,.a h,_,rfl,iteT fin⟩
  | len h n=>exact ⟨_,rfl,_,_,_,rfl,.a (.old (.old (.lstList h))),_,rfl,iteF ⟨_,rfl,_,_,rfl,.inl h,_,_,rfl,rfl,_,rfl,iteP (by omega) fin⟩⟩
  | bends h r w n b =>
   have:=few _ _ _ rfl h r n w;omega
  | @bad l v1 v2 u us hl r w n b =>
   have l1:=r.length;have ll:(v1++u::v2).length=v1.length+v2.length+1:=by rw [Ad,List.length_cons]; omega
   refine ⟨_,rfl,_,_,_,rfl,.a (.old (.old (.lstList hl))),_,rfl,iteF ⟨_,rfl,_,_,rfl,.inl hl,_,_,rfl,rfl,_,rfl,iteN (by omega) ?_⟩⟩;refine ⟨_,rfl,l,rfl,⟨_,hl⟩,yv (n:=us.length+1) (fun i ys H'=>i<=us.length/\Same H H') ⟨Nat.zero_le _,Same.refl _⟩ (yj (by omega)) ?_ ?_ ?_⟩
   ·rintro ys H' ⟨le,_⟩
    omega
   ·rintro i ys H' hi' ⟨le,g⟩
    exact ⟨_,_,g.seq hl,A4 (by omega)⟩
   ·rintro i m' ys H' cc x H2 hi' ⟨le,g⟩ ⟨p,x2,hp,rfl,rfl,y1⟩ nx _
    have ey:=y1 _ (g.seq hl);have g2:=qy hp (.tup [.int (i:Int),x2]);refine ⟨p,_,rfl,SqT.of qk,rfl,_,_,rfl,_,_,rfl,rfl,Or.inl ⟨rfl,_,rfl,_,rfl,_,rfl,_,_,rfl,rfl,x2,many+i,congrArg (fun z=>[x2,V.int z]) (show (many:Int)+(i:Int)=((many+i:Nat):Int) by omega),?_⟩⟩
    by_cases hi:i<us.length
    ·rw [A2 (by omega)] at ey
     obtain ⟨u0,eu,hu⟩:=r.get ey;exact .inl ⟨u0,hu.mono (g.trans g2),w i u0 eu,fun p3 H3 g3 e3=>nx _ _ ⟨by omega,g.trans (g2.trans g3)⟩⟩
    ·have ei:i=v1.length:=by omega
     rw [ei,A1 (Nat.le_refl _),Nat.sub_self] at ey
     cases ey
     exact .inr ⟨by rw [ei]; rw [ei] at g2; exact b.mono (g.trans g2),fun H3 g3=>qe _ ((g.trans g2).trans g3)⟩
 have lu:=ru.length;refine ⟨_,rfl,_,_,_,rfl,.a (.old (.old (.lstList hl))),_,rfl,iteF ⟨_,rfl,_,_,rfl,.inl hl,_,_,rfl,rfl,_,rfl,iteN (by omega) ?_⟩⟩;refine ⟨_,rfl,l,rfl,⟨_,hl⟩,yv (n:=us.length) (fun i ys H'=>Same H H'/\UL true K H' ys (us.take i)) ⟨Same.refl _,.nil⟩ (yj (by omega)) ?_ ?_ ?_⟩
 case refine_2 =>
  rintro i ys H' hi ⟨g,_⟩;exact ⟨_,_,g.seq hl,A4 (by omega)⟩
 case refine_3 =>
  rintro i m' ys H' cc x H2 hi ⟨g,r⟩ ⟨p,x2,hp,rfl,rfl,y1⟩ nx _;obtain ⟨u0,eu,hu⟩:=ru.get (y1 _ (g.seq hl));have g2:=qy hp (.tup [.int (i:Int),x2]);refine ⟨p,_,rfl,SqT.of qk,rfl,_,_,rfl,_,_,rfl,rfl,Or.inl ⟨rfl,_,rfl,_,rfl,_,rfl,_,_,rfl,rfl,x2,many+i,congrArg (fun z=>[x2,V.int z]) (show (many:Int)+(i:Int)=((many+i:Nat):Int) by omega),.inl ⟨u0,hu.mono (g.trans g2),wf i u0 eu,fun p3 H3 g3 e3=>nx _ _ ⟨g.trans (g2.trans g3),?_⟩⟩⟩⟩;rw [zZ eu];exact UL.snoc (r.mono (g2.trans g3)) e3
 rintro vk H1 ⟨g1,r1⟩;rw [A5 (Nat.le_refl _)] at r1;refine ⟨⟨_,g1.seq hl,by omega⟩,fun lf hlf=>?_⟩;have nlf:H lf=none:=v8 g1 hlf;have g2:=qy hlf (.lst vk);have ef:=qk (H:=H1) (a:=lf) (o:=.lst vk);have r1:=r1.mono g2;have gA:=g1.trans g2;generalize upd H1 lf (.lst vk)=H2 at *;clear g1 g2 hlf;have lvk:=UL.length r1;refine ⟨_,rfl,lf,rfl,⟨_,SqL.of ef⟩,yv (n:=us.length) (fun i ys H'=>H'=H2/\ys.length=((us.take i).filter isB).length) ⟨rfl,rfl⟩ (yj (by omega)) ?_ ?_ ?_⟩
 case refine_2 =>
  rintro i ys H' hi ⟨rfl,_⟩;exact ⟨_,_,SqL.of ef,A4 (by omega)⟩
 case refine_3 =>
  rintro i m' ys H' cc x H3 hi ⟨rfl,ly⟩ ⟨rfl,y1⟩ nx sk;obtain ⟨u0,eu,hu⟩:=UL.get r1 (y1 _ (SqL.of ef));obtain ⟨t,zs,rfl,ht⟩:=kind_at hu;refine ⟨_,rfl,_,_,_,_,rfl,rfl,ht,at0,rfl,_,rfl,?_⟩;have es:us.take (i+1)=us.take i++[u0]:=zZ eu
  cases hb:isB u0 with
  | true =>
   refine Or.inl ⟨by rfl,_,rfl,nx _ _ ⟨rfl,?_⟩⟩;rw [es,filter_snoc,hb,Ad,Ad,ly];rfl
  | false =>
   refine Or.inr ⟨by rfl,sk _ ⟨rfl,?_⟩⟩;rw [es,filter_snoc,hb,Ad,ly];rfl
 rintro ys H3 ⟨rfl,ly⟩;rw [A5 (Nat.le_refl _)] at ly;refine ⟨⟨_,SqL.of ef,by omega⟩,fun lb hlb=>?_⟩;have g3:=qy hlb (.lst ys);refine ⟨_,_,rfl,.inl (SqL.of qk),_,_,rfl,rfl,_,rfl,iteD (fun c=>?_) (fun c=>?_)⟩
 ·exact ⟨(show 1<=sizeLine by decide),qe (fun z=>by rw [ly] at c; omega) _ (gA.trans g3)⟩
 ·exact ⟨_,rfl,q (by rw [ly] at c; omega) lf _ vk nlf (gA.trans g3) (g3 _ _ ef) (r1.mono g3)⟩
def outV (outs:List Nat):List V:=outs.map fun n:Nat=>V.int (n:Int)
theorem out_at {i:Nat} (h:(outV outs)[i]?=some x):∃ n:Nat,outs[i]?=some n/\x=.int (n:Int):=by
 unfold outV at h;rw [List.getElem?_map] at h
 cases e:outs[i]? with
 | none=>rw [e] at h; cases h
 | some z=>rw [e] at h; exact ⟨z,rfl,(Am h).symm⟩
inductive NOs (K:Ap) (H:Hp) (e:Nat):V->Prop where
 | no {x:V} (h:IsA K H x "list" false):NOs K H e x
 | len {l:Addr} {vs:List V} (h:SqL K H l vs) (n:vs.length<1\/12<vs.length):NOs K H e (.ref l)
 | bad {l:Addr} {v2:List V} {u:V} {outs:List Nat} (h:SqL K H l (outV outs++u::v2)) (w:∀ o∈outs,o<e) (n:outs.length+v2.length<12) (b:NP K H e u):NOs K H e (.ref l)
theorem NOs.mono {K:Ap} {H H':Hp} {e:Nat} {x:V} (h:NOs K H e x) (g:Same H H'):NOs K H' e x:=by
 cases h with
 | no h=>exact .no (h.mono g)
 | len h n=>exact .len (g.seq h) n
 | bad h w n b=>exact .bad (g.seq h) w n (b.mono g)
def spOutsR (K:Ap) (C:Addr):Sp:=fun vs H Q E=>∃ (v:V) (e:Nat),vs=[v,.int (e:Int)]/\((∃ (l:Addr) (outs:List Nat),v=.ref l/\SqL K H l (outV outs)/\(∀ o∈outs,o<e)/\1<=outs.length/\outs.length<=12/\∀ p,H p=none->Q (.ref p) (upd H p (.lst (outV outs))))\/(NOs K H e v/\∀ H',Same H H'->E (.ref C) none H'))
theorem oky3 (T:Txt K mg a):FnOk P w K mg base (CXE P w) 3 a.fy3 a.dy3 ["outs", "end"] (spOutsR K a.czw):=by
 refine T.Fy3.F.okE scy3 ?_ ?_
 ·walk_at "c"
 walk_at "b"
 obtain ⟨v,e,rfl,h⟩:=h;refine ⟨_,(qK (ps_if (PW.pt (pw_or (yy (y8 (qX (Q7) rfl T.m_isinstance boot_isinstance (pa_c (pv 0) (pa_c (jq (v:=.ty "list") rfl T.m_list boot_list rfl) qj))))) (pw_or (qW op_lt (qX (zx) rfl T.m_len boot_len (pa_c (pv 0) qj)) qx) (vx (qW op_gt (qX (zx) rfl T.m_len boot_len (pa_c (pv 0) qj)) (yY (v:=.int 12) rfl T.mzh ⟨_,rfl⟩))))))
    (qJ (zv rfl rfl rfl rfl rfl T.x_NoNet rfl T.mzw (pa_c qw qj)))
    qY)
   (qJ (zj (pe_compE (E:=E) rfl rfl rfl rfl (N:=["place", "end"]) (ix:=[none,some 1]) ⟨rfl,rfl,rfl,rfl,⟨rfl,trivial⟩,rfl,⟨⟨rfl,Or.inr (Or.inl rfl),ne_loc rfl,rfl,Or.inl rfl⟩,trivial⟩⟩ rfl (yW (pv 0)) (fun _=>(pg_n 0 (show (["place", "end"]:List Str).Nodup by decide +kernel))) (fun _ σ=>j3 rfl σ) (fun _=>yQ) (fun _=>(zy (vw T) (hr.mono (by decide)) rfl T.Fy4.m T.Fy4.F.kp T.Fy4.b .nil passC (pa_c (pv 0) (pa_c (pv 1) qj)))))))),?_⟩
 have lo:∀ outs:List Nat,(outV outs).length=outs.length:=fun outs=>by unfold outV; rw [List.length_map]
 rcases h with ⟨l,outs,rfl,hl,lt,l1,l12,q⟩ | ⟨no,qe⟩
 ·have lo:=lo outs
  refine ⟨_,rfl,_,_,_,rfl,.a (.old (.old (.lstList hl))),_,rfl,iteF ⟨_,rfl,_,_,rfl,.inl hl,_,_,rfl,rfl,_,rfl,iteN (by omega) ⟨_,rfl,_,_,rfl,.inl hl,_,_,rfl,rfl,_,rfl,iteN (by omega) ?_⟩⟩⟩;refine ⟨_,rfl,l,rfl,⟨_,hl⟩,yv (n:=outs.length) (fun i ys H'=>H'=H/\ys=outV (outs.take i)) ⟨rfl,rfl⟩ (yj (by omega)) ?_ ?_ ?_⟩
  ·rintro ys H' ⟨rfl,rfl⟩
   rw [A5 (Nat.le_refl _)];exact ⟨⟨_,hl,by omega⟩,fun D hD=>q D hD⟩
  ·rintro i ys H' hi ⟨rfl,_⟩
   exact ⟨_,_,hl,A4 (by omega)⟩
  ·rintro i m' ys H' cc x H2 hi ⟨rfl,rfl⟩ ⟨rfl,y1⟩ nx _
   obtain ⟨o,eo,rfl⟩:=out_at (y1 _ hl);refine Or.inl ⟨rfl,_,rfl,_,rfl,_,e,rfl,.inl ⟨o,rfl,lt o (A9 eo),nx _ _ ⟨rfl,?_⟩⟩⟩;rw [zZ eo];unfold outV;rw [Al];rfl
 ·have fin:=And.intro (show 1<=sizeLine by decide) (qe H (Same.refl _))
  cases no with
  | no h=>exact ⟨_,rfl,_,_,_,rfl,.a h,_,rfl,iteT fin⟩
  | len h n=>exact ⟨_,rfl,_,_,_,rfl,.a (.old (.old (.lstList h))),_,rfl,iteF ⟨_,rfl,_,_,rfl,.inl h,_,_,rfl,rfl,_,rfl,iteD (fun c=>fin) (fun c=>⟨_,rfl,_,_,rfl,.inl h,_,_,rfl,rfl,_,rfl,iteP (by omega) fin⟩)⟩⟩
  | @bad l v2 u outs hl lt n b =>
   have lo:=lo outs;have ll:(outV outs++u::v2).length=outs.length+v2.length+1:=by rw [Ad,List.length_cons]; omega
   refine ⟨_,rfl,_,_,_,rfl,.a (.old (.old (.lstList hl))),_,rfl,iteF ⟨_,rfl,_,_,rfl,.inl hl,_,_,rfl,rfl,_,rfl,iteN (by omega) ⟨_,rfl,_,_,rfl,.inl hl,_,_,rfl,rfl,_,rfl,iteN (by omega) ?_⟩⟩⟩;refine ⟨_,rfl,l,rfl,⟨_,hl⟩,yv (n:=outs.length+1) (fun i ys H'=>i<=outs.length/\H'=H) ⟨Nat.zero_le _,rfl⟩ (yj (by omega)) ?_ ?_ ?_⟩
   ·rintro ys H' ⟨le,_⟩
    omega
   ·rintro i ys H' hi ⟨le,rfl⟩
    exact ⟨_,_,hl,A4 (by omega)⟩
   ·rintro i m' ys H' cc x H2 hi' ⟨le,rfl⟩ ⟨rfl,y1⟩ nx _
    have ey:=y1 _ hl
    by_cases hi:i<outs.length
    ·rw [A2 (by omega)] at ey
     obtain ⟨o,eo,rfl⟩:=out_at ey;exact Or.inl ⟨rfl,_,rfl,_,rfl,_,e,rfl,.inl ⟨o,rfl,lt o (A9 eo),nx _ _ ⟨by omega,rfl⟩⟩⟩
    ·have ei:i=(outV outs).length:=by omega
     rw [ei,A1 (Nat.le_refl _),Nat.sub_self] at ey
     cases ey
     exact Or.inl ⟨rfl,_,rfl,_,rfl,u,e,rfl,.inr ⟨b,qe⟩⟩
def NetAt (C:Addr) (H:Hp) (p lu lo:Addr) (many:Nat):Prop:=∃ dx,H p=some (.ins C dx [("many",.int (many:Int)),("units",.ref lu),("outs",.ref lo)])
theorem NetAt.mono {p lu lo:Addr} (h:NetAt C H p lu lo many) (g:Same H H'):NetAt C H' p lu lo many:=by
 obtain ⟨dx,e⟩:=h;exact ⟨dx,g _ _ e⟩
theorem UL.upd_ins (h:UL true K H vs us) (e:H t=some (.ins C dx fs)):UL true K (upd H t o) vs us :=
 Paired.mapP h fun v u hu=>by
  cases u with
  | sum c ts =>
   obtain ⟨t',pc,pt,vs,e0,h1,h2,h3,h4⟩:=hu;exact ⟨t',pc,pt,vs,e0,SqT.upd_ins h1 e,SqT.upd_ins h2 e,SqT.upd_ins h3 e,Paired.mapP h4 fun _ _ ⟨t,r,e1,k1,k2⟩=>⟨t,r,e1,SqT.upd_ins k1 e,SqT.upd_ins k2 e⟩⟩
  | bend p =>
   obtain ⟨t',e0,h1⟩:=hu;exact ⟨t',e0,SqT.upd_ins h1 e⟩
theorem SqL.upd_ins (h:SqL K H b xs) (e:H t=some (.ins C dx fs)):SqL K (upd H t o) b xs:=by
 rcases h with (h | ⟨u,h⟩) | h
 ·exact .inl (.inl (by rw [zk (ne_of h e (by intro z; cases z))]; exact h))
 ·exact .inl (.inr ⟨u,by rw [zk (ne_of h e (by intro z; cases z))]; exact h⟩)
 ·exact .inr h
inductive NN (K:Ap) (H:Hp):V->V->V->Prop where
 | many {m u o:V} (h:Wh K H m false):NN K H m u o
 | low {i:Int} {u o:V} (h:i<1):NN K H (.int i) u o
 | high {i:Int} {u o:V} (h:6<i):NN K H (.int i) u o
 | units {many:Nat} {u o:V} (l1:1<=many) (l6:many<=6) (h:NUs K H many u):NN K H (.int (many:Int)) u o
 | outs {many:Nat} {l:Addr} {vu:List V} {us:List Un} {o:V} (l1:1<=many) (l6:many<=6) (hl:SqL K H l vu) (r:UL false K H vu us) (w:WfN many us) (n:us.length<=80) (b:(us.filter isB).length<=20) (h:NOs K H (many+us.length) o):NN K H (.int (many:Int)) (.ref l) o
def spNetInitR (K:Ap) (C CE:Addr):Sp:=fun vs H Q E=>∃ (H0:Hp) (x dx:Addr) (vm vu vo:V),vs=[.ref x,vm,vu,vo]/\H x=some (.ins C dx [])/\Same H0 H/\H0 x=none/\((∃ (l m:Addr) (many:Nat) (vl:List V) (us:List Un) (outs:List Nat),vm=.int (many:Int)/\vu=.ref l/\vo=.ref m/\SqL K H0 l vl/\UL false K H0 vl us/\SqL K H0 m (outV outs)/\NetOk many us outs/\∀ lu lo vk H',Same H0 H'->NetAt C H' x lu lo many->H' lu=some (.lst vk)->H' lo=some (.lst (outV outs))->UL true K H' vk us->Q .non H')\/(NN K H0 vm vu vo/\∀ H',Same H0 H'->E (.ref CE) none H'))
theorem okzm (T:Txt K mg a):FnOk P w K mg base (CXE P w) 7 a.fzm a.dzm ["self", "many", "units", "outs"] (spNetInitR K a.czl a.czw):=by
 refine T.Fzm.okE sczm ?_ ?_
 ·walk_at "c"
 walk_at "b"
 obtain ⟨H0,x,dx,vm,vu,vo,rfl,hx,g0,x0,h⟩:=h;refine ltX ?_
 intros
 refine ⟨_,body4 (by rfl)
  (ps_if (PW.pt (pw_or (yy (y8 (pe_d (v7 T) hr T.Fye (pa_c (pv 1) qj)))) (pw_or (qW op_lt (pv 1) qx) (vx (qW op_gt (pv 1) (yY (v:=.int 6) rfl T.mzg ⟨_,rfl⟩)))))) (qJ (zv rfl rfl rfl rfl rfl T.x_NoNet rfl T.mzw (pa_c qw qj))) qY)
  (Qw (pv 0) (yq (call_int1) rfl T.m_int boot_int (pa_c (pv 1) qj)) rfl)
  (Qw (pv 0) (zy (oky9 T) (hr.mono (by decide)) rfl T.Fy9.m T.Fy9.F.kp T.Fy9.b .nil passE (pa_c (pv 2) (pa_c (jX (pv 0) rfl) qj))) rfl)
  (Qw (pv 0) (zy (oky3 T) (hr.mono (by decide)) rfl T.Fy3.m T.Fy3.F.kp T.Fy3.b .nil passE (pa_c (pv 3) (pa_c (pe_op jK (jX (pv 0) rfl) (qX (zx) rfl T.m_len boot_len (pa_c (jX (pv 0) rfl) qj))) qj))) rfl),?_⟩
 refine lt4 ?_
 intros
 have fin:∀ {R:Prop},R->1<=sizeLine/\R:=fun h=>⟨by decide,h⟩
 have nx:∀ {b o},H0 b=some o->b≠x:=fun e z=>by rw [z,x0] at e; cases e
 have hm:(∃ many:Nat,vm=.int (many:Int)/\1<=many/\many<=6/\((∃ (l:Addr) (vl:List V) (us:List Un),vu=.ref l/\SqL K H0 l vl/\UL false K H0 vl us/\WfN many us/\us.length<=80/\(us.filter isB).length<=20/\((∃ (m:Addr) (outs:List Nat),vo=.ref m/\SqL K H0 m (outV outs)/\1<=outs.length/\outs.length<=12/\(∀ o∈outs,o<many+us.length)/\∀ lu lo vk H',Same H0 H'->NetAt a.czl H' x lu lo many->H' lu=some (.lst vk)->H' lo=some (.lst (outV outs))->UL true K H' vk us->Q .non H') \/
   (NOs K H0 (many+us.length) vo/\∀ H',Same H0 H'->E (.ref a.czw) none H')))\/(NUs K H0 many vu/\∀ H',Same H0 H'->E (.ref a.czw) none H')))\/((Wh K H0 vm false\/∃ i:Int,vm=.int i/\(i<1\/6<i))/\∀ H',Same H0 H'->E (.ref a.czw) none H'):=by
  rcases h with ⟨l,m,many,vl,us,outs,rfl,rfl,rfl,h1,h2,h3,⟨wf,l80,b20,m1,m6,o1,o12,ol⟩,q⟩ | ⟨nn,qe⟩
  ·exact .inl ⟨many,rfl,m1,m6,.inl ⟨l,vl,us,rfl,h1,h2,wf,l80,b20,.inl ⟨m,outs,rfl,h3,o1,o12,ol,q⟩⟩⟩
  ·cases nn with
   | many h=>exact .inr ⟨.inl h,qe⟩
   | low h=>exact .inr ⟨.inr ⟨_,rfl,.inl h⟩,qe⟩
   | high h=>exact .inr ⟨.inr ⟨_,rfl,.inr h⟩,qe⟩
   | units l1 l6 h=>exact .inl ⟨_,rfl,l1,l6,.inr ⟨h,qe⟩⟩
   | outs l1 l6 hl r w n b h=>exact .inl ⟨_,rfl,l1,l6,.inl ⟨_,_,_,rfl,hl,r,w,n,b,.inr ⟨h,qe⟩⟩⟩
 clear h
 rcases hm with ⟨many,rfl,m1,m6,h⟩ | ⟨h,qe⟩
 case inr =>
  have fin:=fin (qe H g0)
  rcases h with h | ⟨i,rfl,h⟩
  ·exact ⟨_,rfl,_,_,rfl,h.mono g0,_,rfl,iteT fin⟩
  ·exact ⟨_,rfl,_,_,rfl,.int _,_,rfl,iteF ⟨_,rfl,_,_,rfl,rfl,_,rfl,iteD (fun c=>fin) (fun c=>⟨_,rfl,_,_,rfl,rfl,_,rfl,iteP (by omega) fin⟩)⟩⟩
 refine ⟨_,rfl,_,_,rfl,.int _,_,rfl,iteF ⟨_,rfl,_,_,rfl,rfl,_,rfl,iteN (by omega) ⟨_,rfl,_,_,rfl,rfl,_,rfl,iteN (by omega) ?_⟩⟩⟩;refine ⟨_,rfl,.inl ⟨_,rfl,_,rfl,x,_,dx,[],rfl,hx,T.Czl,T.nzn,by decide,?_⟩⟩;have hx1:upd H x (.ins a.czl dx (putF "many" (.int (many:Int)) [])) x=some (.ins a.czl dx [("many",.int (many:Int))]):=qk;have g1:Same H0 (upd H x (.ins a.czl dx (putF "many" (.int (many:Int)) []))):=fun b u e=>by rw [zk (nx e)]; exact g0 b u e
 generalize upd H x (.ins a.czl dx (putF "many" (.int (many:Int)) []))=H1 at *;clear hx g0;refine ⟨_,rfl,_,rfl,x,_,dx,_,_,rfl,hx1,T.Czl,T.nzn,rfl,vu,many,rfl,?_⟩
 rcases h with ⟨l,vl,us,rfl,hl,ru,wf,l80,b20,h⟩ | ⟨h,qe⟩
 case inr=>exact .inr ⟨h.mono g1,fun H' g=>qe _ (g1.trans g)⟩
 refine .inl ⟨l,vl,us,rfl,g1.seq hl,ru.mono g1,wf,l80,fun _ lu H2 vk nlu g2 eu rk=>?_,fun z=>absurd b20 z⟩;have hx2:=g2 _ _ hx1;refine ⟨_,rfl,x,_,dx,_,rfl,hx2,T.Czl,T.nzr,(show 1<1000 by decide),?_⟩;have nux:lu≠x:=Ne.symm (zW hx1 nlu);have hx3:upd H2 x (.ins a.czl dx (putF "units" (.ref lu) [("many",.int (many:Int))])) x=some (.ins a.czl dx [("many",.int (many:Int)),("units",.ref lu)]):=qk;have g3:Same H0 (upd H2 x (.ins a.czl dx (putF "units" (.ref lu) [("many",.int (many:Int))]))):=fun b u e=>by rw [zk (nx e)]; exact g2 _ _ (g1 b u e)
 have eu3:upd H2 x (.ins a.czl dx (putF "units" (.ref lu) [("many",.int (many:Int))])) lu=some (.lst vk):=by rw [zk nux]; exact eu
 have rk3:=UL.upd_ins (o:=.ins a.czl dx (putF "units" (.ref lu) [("many",.int (many:Int))])) rk hx2;generalize upd H2 x (.ins a.czl dx (putF "units" (.ref lu) [("many",.int (many:Int))]))=H3 at *;clear g2 eu rk hx1 hx2 g1;have lvk:=UL.length rk3;refine ⟨_,rfl,_,rfl,x,_,dx,_,_,rfl,hx3,T.Czl,T.nzn,rfl,_,rfl,x,_,dx,_,_,rfl,hx3,T.Czl,T.nzr,rfl,_,_,rfl,.inl (SqL.of eu3),_,_,rfl,rfl,vo,many+us.length,congrArg (fun z=>[vo,V.int z]) (show (many:Int)+(vk.length:Int)=((many+us.length:Nat):Int) by omega),?_⟩
 rcases h with ⟨m,outs,rfl,hm,o1,o12,ol,q⟩ | ⟨h,qe⟩
 case inr=>exact .inr ⟨h.mono g3,fun H' g=>qe _ (g3.trans g)⟩
 refine .inl ⟨m,outs,rfl,g3.seq hm,ol,o1,o12,fun lo hlo=>?_⟩;have g4:=qy hlo (.lst (outV outs));have hx4:=g4 _ _ hx3;have nox:lo≠x:=Ne.symm (zW hx3 hlo);refine ⟨_,rfl,x,_,dx,_,rfl,hx4,T.Czl,T.nzo,(show 2<1000 by decide),?_⟩;exact q lu lo vk _ (fun b u e=>by rw [zk (nx e)]; exact g4 _ _ (g3 b u e)) ⟨dx,qk⟩ (by rw [zk nux]; exact g4 _ _ eu3) (by rw [zk nox]; exact qk) (UL.upd_ins (UL.mono rk3 g4) hx4)
def spToldU (K:Ap):Sp:=fun vs H Q _=>∃ (v:V) (u:Un),vs=[v]/\UnAt true K H v u/\RetBy H Q fun H' v=>UnN H K H' v u
theorem okxe (T:Txt K mg a):FnOk P w K mg base CX0 1 a.fxe a.dxe ["unit"] (spToldU K):=by
 refine T.Fxe.F.ok scxe ?_ ?_
 ·walk_at "c"
 walk_at "b"
 obtain ⟨v,u,rfl,hu,q⟩:=h;refine ⟨_,(qK (ps_if (qW op_eq (pe_ix zq (pv 0) qx) qw)
    (qJ (zj (j9 (pa_c qw (pa_c (pe_ix zq (pv 0) qx) (pa_c (yq (QY) rfl T.m_list boot_list (pa_c (pe_ix zq (pv 0) qx) qj)) qj))))))
    qY)
   (qJ (zj (pv 0)))),?_⟩
 cases u with
 | sum c ts =>
  obtain ⟨t,pc,pt,vs,rfl,h1,h2,h3,h4⟩:=hu;refine ⟨_,rfl,_,_,_,_,rfl,rfl,h1,rfl,rfl,_,rfl,iteP rfl ?_⟩;refine ⟨_,rfl,_,_,_,_,rfl,rfl,h1,rfl,_,rfl,_,_,_,_,rfl,rfl,h1,rfl,pt,vs,rfl,.inr h3,fun l2 hl2=>⟨(show 3<=sizeLine by decide),fun t2 ht2=>?_⟩⟩;have g1:=qy hl2 (.lst vs);have g2:=qy ht2 (.tup [.str "sum",.ref pc,.ref l2]);have g:=g1.trans g2;exact q t2 _ g fun lf o e=>⟨t2,pc,l2,vs,rfl,SqT.of qk,g.tup h2,g2 _ _ qk,Ne.symm (zW e hl2),h4.mono g⟩
 | bend p =>
  obtain ⟨t,rfl,h1⟩:=hu;refine ⟨_,rfl,_,_,_,_,rfl,rfl,h1,rfl,rfl,_,rfl,iteN (by decide) ?_⟩;exact ⟨_,rfl,q t H (Same.refl _) fun lf o e=>⟨t,rfl,h1⟩⟩
def spNetTold (K:Ap) (C:Addr):Sp:=fun vs H Q _=>∃ (p lu lo:Addr) (many:Nat) (vk:List V) (us:List Un) (outs:List Nat),vs=[.ref p]/\NetAt C H p lu lo many/\SqL K H lu vk/\UL true K H vk us/\us.length<=80/\SqL K H lo (outV outs)/\∀ t l2 o2 vu H',Same H H'->SqT K H' t [.int (many:Int),.ref l2,.ref o2]->H l2=none->H' l2=some (.lst vu)->(∀ lf o,H lf=some o->UF lf K H' vu us)->H o2=none->H' o2=some (.lst (outV outs))->Q (.ref t) H'
theorem okzq (T:Txt K mg a):FnOk P w K mg base CX0 2 a.fzq a.dzq ["self"] (spNetTold K a.czl):=by
 refine T.Fzq.ok sczq ?_ ?_
 ·walk_at "c"
 walk_at "b"
 obtain ⟨p,lu,lo,many,vk,us,outs,rfl,⟨dx,hp⟩,hu,rk,l80,ho,q⟩:=h;refine ⟨_,(qJ (zj (j9 (pa_c (jX (pv 0) rfl) (pa_c (x8 (N:=["unit"]) (ix:=[none]) ⟨rfl,rfl,rfl,rfl,trivial,rfl,trivial⟩ rfl (yW (jX (pv 0) rfl)) (fun _=>(pg_n 0 (show (["unit"]:List Str).Nodup by decide +kernel))) (fun _ σ=>j3 rfl σ) (fun _=>yQ) (fun _=>(pe_d (okxe T) hr T.Fxe (pa_c (pv 0) qj)))) (pa_c (yq (QY) rfl T.m_list boot_list (pa_c (jX (pv 0) rfl) qj)) qj)))))),?_⟩;have lk:=rk.length;refine ⟨_,rfl,p,_,dx,_,_,rfl,hp,T.Czl,T.nzn,rfl,_,rfl,p,_,dx,_,_,rfl,hp,T.Czl,T.nzr,rfl,lu,rfl,⟨_,hu⟩,yv (n:=us.length) (fun i ys H'=>Same H H'/\∀ lf o,H lf=some o->UF lf K H' ys (us.take i)) ⟨Same.refl _,fun lf o e=>.nil⟩ (yj (by omega)) ?_ ?_ ?_⟩
 ·rintro ys H1 ⟨g1,r1⟩
  rw [A5 (Nat.le_refl _)] at r1;refine ⟨⟨_,g1.seq hu,by omega⟩,fun l2 hl2=>?_⟩;have g2:=qy hl2 (.lst ys);have gA:=g1.trans g2;refine ⟨_,rfl,p,_,dx,_,_,rfl,gA _ _ hp,T.Czl,T.nzo,rfl,lo,_,rfl,.inl (gA.seq ho),fun o2 ho2=>⟨(show 3<=sizeLine by decide),fun t ht=>?_⟩⟩;have g3:=qy ho2 (.lst (outV outs));have g4:=qy ht (.tup [.int (many:Int),.ref l2,.ref o2]);have g34:=g3.trans g4;exact q t l2 o2 ys _ (gA.trans g34) (SqT.of qk) (v8 g1 hl2) (g34 _ _ qk) (fun lf o e=>(r1 lf o e).mono (g2.trans g34)) (v8 gA ho2) (g4 _ _ qk)
 ·rintro i ys H' hi ⟨g,_⟩
  exact ⟨_,_,g.seq hu,A4 (by omega)⟩
 ·rintro i m' ys H' cc x H2 hi ⟨g,r⟩ ⟨rfl,y1⟩ nx _
  obtain ⟨u0,eu,h0⟩:=rk.get (y1 _ (g.seq hu));refine Or.inl ⟨rfl,_,rfl,x,u0,rfl,h0.mono g,fun p3 H3 g3 e3=>nx _ _ ⟨g.trans g3,fun lf o e=>?_⟩⟩;rw [zZ eu];exact UF.snoc ((r lf o e).mono g3) (e3 lf o (g _ _ e))
def spBent (K:Ap):Sp:=fun vs H Q _=>∃ (p:Addr) (x:Rat),vs=[.ref p]/\SqT K H p (TQ x)/\SmQ 9000 x/\RetS K H Q (TQ (bentQ x))
theorem sm0:SmQ 9000 (0:Rat):=⟨by unfold Sm; exact Nat.pow_pos (by decide),by unfold Sm; exact Nat.one_lt_two_pow (by decide)⟩
theorem oky1 (T:Txt K mg a):FnOk P w K mg base CX0 2 a.fy1 a.dy1 ["one"] (spBent K):=by
 refine T.Fy1.F.ok scy1 ?_ ?_
 ·walk_at "c"
 walk_at "b"
 obtain ⟨p,x,rfl,hp,sx,q⟩:=h;refine ⟨_,(qJ (zj (pe_ifExp (y8 (pe_d (okyq T) hr T.Fyq (pa_c (yY (v:=.ref a.gzk) rfl T.mzk rfl) (pa_c (pv 0) qj)))) (pv 0) (yY (v:=.ref a.gzk) rfl T.mzk rfl)))),?_⟩;have n0:∀ H:Hp,SqT K H a.gzk (TQ 0):=T.szk;refine ⟨_,rfl,a.gzk,p,0,x,rfl,n0 _,hp,sm0,sx,_,rfl,iteD (fun k=>?_) (fun k=>?_)⟩
 ·exact ⟨_,rfl,q p H (Same.refl _) (by unfold bentQ; rw [if_pos k]; exact hp)⟩
 ·exact q a.gzk H (Same.refl _) (by unfold bentQ; rw [if_neg k]; exact n0 _)
theorem getD_mem {α:Type} {xs:List α} {x:α} (d:α) (h:xs[i]?=some x):xs.getD i d=x:=by simp [List.getD,h]
def walkU (vs:List Rat):Un->Rat
 | .sum c ts=>ts.foldl (fun t x=>t+x.2*vs.getD x.1 0) c
 | .bend p=>bentQ (vs.getD p 0)
def walkN (qs:List Rat) (us:List Un):List Rat:=us.foldl (fun vs u=>vs++[walkU vs u]) qs
theorem walkN_snoc (qs:List Rat) (us:List Un) (u:Un):walkN qs (us++[u])=walkN qs us++[walkU (walkN qs us) u]:=by unfold walkN; rw [List.foldl_append]; rfl
theorem walkN_len:∀ (us:List Un) (qs:List Rat),(walkN qs us).length=qs.length+us.length
 | [],qs=>by simp [walkN]
 | u::us,qs=>by
  have k:=walkN_len us (qs++[walkU qs u]);unfold walkN at k ⊢;rw [List.foldl_cons,k,Ad,A6,List.length_cons];omega
def Shz (q:Rat):Prop:=Bd 2520 31 q
def ShzU:Un->Prop
 | .sum c ts=>Shz c/\(∀ x∈ts,Shz x.2)/\ts.length<=30
 | .bend _=>True
theorem Bd.getD0 {D b:Nat} {qs:List Rat} (h:∀ q∈qs,Bd D b q) (i:Nat):Bd D b (qs.getD i 0):=by
 cases e:qs[i]? with
 | none=>rw [show qs.getD i 0=0 by simp [List.getD,e]]; exact Bd.zero D b
 | some q=>rw [getD_mem _ e]; exact h q (A9 e)
theorem part_sz {D b:Nat} {vs:List Rat} {c:Rat} (D0:0<D) (h:∀ q∈vs,Bd D b q) (hc:Shz c) (ts:List (Nat×Rat)) (ht:∀ x∈ts,Shz x.2):∀ i,Bd (2520*D) (b+32+i) ((ts.take i).foldl (fun t x=>t+x.2*vs.getD x.1 0) c)
 | 0=>by
  rw [List.take_zero];exact Bd.mono hc (Nat.dvd_mul_right _ _) (by omega)
 | i+1=>by
  have ih:=part_sz D0 h hc ts ht i
  cases e:ts[i]? with
  | none =>
   rw [List.take_succ,e];show Bd _ _ ((ts.take i++[]).foldl _ _);rw [List.append_nil];exact ih.mono (Nat.dvd_refl _) (by omega)
  | some x =>
   rw [zZ e,List.foldl_append];show Bd _ _ (_+x.2*vs.getD x.1 0);exact Bd.add (Nat.mul_pos (by decide) D0) ih ((Bd.mul (ht x (A9 e)) (Bd.getD0 h x.1)).mono (Nat.dvd_refl _) (show 31+b<=b+32+i by omega))
theorem walkU_sz {D b:Nat} {vs:List Rat} (D0:0<D) (h:∀ q∈vs,Bd D b q) {u:Un} (hu:ShzU u):Bd (2520*D) (b+62) (walkU vs u):=by
 cases u with
 | sum c ts =>
  have k:=part_sz D0 h hu.1 ts hu.2.1 ts.length;rw [List.take_length] at k;have l:=hu.2.2;exact k.mono (Nat.dvd_refl _) (by omega)
 | bend p=>exact ((Bd.getD0 h p).bent).mono (Nat.dvd_mul_left _ _) (by omega)
theorem walkN_sz {P b:Nat} {qs:List Rat} (P0:0<P) (h:∀ q∈qs,Bd P b q) (us:List Un) (hu:∀ u∈us,ShzU u):∀ i,∀ q∈walkN qs (us.take i),Bd (2520^i*P) (b+62*i) q
 | 0=>by rw [List.take_zero]; simpa [walkN] using h
 | i+1=>by
  have ih:=walkN_sz P0 h us hu i;have dv:2520^i*P∣2520^(i+1)*P:=Nat.mul_dvd_mul (Nat.pow_dvd_pow _ (by omega)) (Nat.dvd_refl _);intro q hq
  cases e:us[i]? with
  | none =>
   rw [List.take_succ,e] at hq;have hq:q∈walkN qs (us.take i++[]):=hq;rw [List.append_nil] at hq;exact (ih q hq).mono dv (by omega)
  | some u =>
   rw [zZ e,walkN_snoc] at hq
   rcases Ak.mp hq with z | z
   ·exact (ih q z).mono dv (by omega)
   ·rw [List.mem_singleton.mp z]
    have k:=walkU_sz (Nat.mul_pos (Nat.pow_pos (by decide)) P0) ih (hu u (A9 e));exact k.mono (by rw [<- Nat.mul_assoc,Nat.pow_succ,Nat.mul_comm 2520]; exact Nat.dvd_refl _) (by omega)
theorem base_lt {i P n:Nat} (h:P<2^n):2520^i*P<2^(12*i+n):=by
 have k:2520^i<=(2^12)^i:=Nat.pow_le_pow_left (by decide) i;rw [<- Nat.pow_mul] at k;rw [Nat.pow_add];exact Nat.mul_lt_mul_of_le_of_lt k h (Nat.pow_pos (by decide))
theorem RL.getD (h:RL K H vs qs) (hi:i<qs.length):∃ v,vs[i]?=some v/\IsQ K H v (qs.getD i 0):=by
 have l:=h.length;obtain ⟨v,hv⟩:∃ v,vs[i]?=some v:=⟨_,A4 (by omega)⟩;obtain ⟨q,eq,hq⟩:=h.get hv;exact ⟨v,hv,by rw [getD_mem _ eq]; exact hq⟩
theorem Shz.s4 {q:Rat} (h:Shz q):SmQ 4000 q:=(Bd.sm h (by decide) (show 2520<2^12 by decide)).mono
structure Few (D b:Nat) (vs:List Rat):Prop where
 all:∀ q∈vs,Bd D b q
 pos:0<D
 lt:D<2^900
 le:b<=1700
theorem Few.s {D b:Nat} {vs:List Rat} (f:Few D b vs) (i:Nat):SmQ 4000 (vs.getD i 0):=(Bd.sm (Bd.getD0 f.all i) f.pos f.lt).mono (by have:=f.le; omega)
theorem Few.p {D b:Nat} {vs:List Rat} (f:Few D b vs) {c:Rat} (hc:Shz c) (ts:List (Nat×Rat)) (ht:∀ x∈ts,Shz x.2) (i:Nat) (hi:i<=30):SmQ 4000 ((ts.take i).foldl (fun t x=>t+x.2*vs.getD x.1 0) c) :=
 (Bd.sm (n:=912) (part_sz f.pos f.all hc ts ht i) (Nat.mul_pos (by decide) f.pos) (by have:=f.lt; calc 2520*D<2^12*2^900:=Nat.mul_lt_mul'' (by decide) this
  _=2^912:=by rw [<- Nat.pow_add])).mono (by have:=f.le; omega)
theorem Few.m {D b:Nat} {vs:List Rat} (f:Few D b vs) {x:Rat} (hx:Shz x) (i:Nat):SmQ 4000 (x*vs.getD i 0) :=
 (Bd.sm (n:=912) (Bd.mul hx (Bd.getD0 f.all i)) (Nat.mul_pos (by decide) f.pos) (by have:=f.lt; calc 2520*D<2^12*2^900:=Nat.mul_lt_mul'' (by decide) this
  _=2^912:=by rw [<- Nat.pow_add])).mono (by have:=f.le; omega)
def spTermsV (K:Ap):Sp:=fun vs H Q _=>∃ (pc pt lf:Addr) (vt vf:List V) (c:Rat) (ts:List (Nat×Rat)) (xs:List Rat) (D b:Nat),vs=[.ref pc,.ref pt,.ref lf]/\SqT K H pc (TQ c)/\SqT K H pt vt/\TL K H vt ts/\SqL K H lf vf/\RL K H vf xs/\(∀ x∈ts,x.1<xs.length)/\ShzU (.sum c ts)/\Few D b xs/\RetS K H Q (TQ (walkU xs (.sum c ts)))
theorem okxc (T:Txt K mg a):FnOk P w K mg base CX0 3 a.fxc a.dxc ["constant", "terms", "found"] (spTermsV K):=by
 refine T.Fxc.F.ok jJ ?_ ?_
 ·walk_at "c"
 walk_at "b"
 obtain ⟨pc,pt,lf,vt,vf,c,ts,xs,D,b,rfl,hc,ht,rt,hf,rf,wf,⟨sc,st,l30⟩,fw,q⟩:=h;refine ltX ?_
 intros
 refine ⟨_,body3 (by rfl)
  (ps_s 3 jJ.nd (pv 0))
  (ps_for PassesOwn.never rfl (pi_tup (pv 1)) (pg_tup rfl (j6 (pg_n 4 jJ.nd) (j6 (pg_n 5 jJ.nd) pgs_nil))) (qJ (ps_s 3 jJ.nd (pe_d (okyw T) hr T.Fyw (pa_c (pv 3) (pa_c (pe_d (okxd T) hr T.Fxd (pa_c (pv 5) (pa_c (pe_ix zJ (pv 2) (pv 4)) qj))) qj))))))
  (zj (pv 3)),?_⟩
 refine lt3 ?_
 intros
 have lt:=rt.length;refine ⟨_,rfl,?_⟩;refine ⟨_,rfl,pt,rfl,⟨_,ht⟩,for_by (n:=ts.length) (fun i σ H'=>Same H H'/\∃ p1 u4 u5,σ=[some (.ref pc),some (.ref pt),some (.ref lf),some (.ref p1),u4,u5]/\SqT K H' p1 (TQ ((ts.take i).foldl (fun t x=>t+x.2*xs.getD x.1 0) c)))
  ⟨Same.refl _,pc,_,_,rfl,hc⟩ ?_ ?_ ?_⟩
 ·rintro σ H' ⟨g,p1,u4,u5,rfl,h1⟩
  refine ⟨⟨_,g.tup ht,by omega⟩,?_⟩;rw [A5 (Nat.le_refl _)] at h1;exact ⟨_,rfl,q p1 H' g h1⟩
 ·rintro i σ H' hi ⟨g,_⟩
  exact ⟨_,_,g.tup ht,A4 (by omega)⟩
 ·rintro i σ H0 x H' hi ⟨g,p1,u4,u5,rfl,h1⟩ ⟨rfl,y1⟩
  obtain ⟨x0,ex,tt,r,rfl,k1,k2⟩:=rt.get (y1 _ (g.tup ht));have hx:=wf x0 (A9 ex);have sx:Shz x0.2:=st x0 (A9 ex);obtain ⟨ve,ev,pe,rfl,he⟩:=rf.getD hx;have szA:=fw.p sc ts st i (by omega);rw [zZ ex,List.foldl_append];show _;refine ⟨tt,_,rfl,g.tup k1,rfl,_,_,rfl,_,_,rfl,rfl,?_⟩;refine ⟨_,rfl,_,rfl,_,rfl,_,rfl,lf,_,_,_,rfl,rfl,g.seq hf,atN ev,r,pe,x0.2,_,rfl,g.tup k2,g.tup he,sx.s4,fw.s x0.1,fun p4 H4 g4 e4=>?_⟩;refine ⟨p1,p4,_,_,rfl,g4.tup h1,SqT.of e4,szA,fw.m sx x0.1,fun p5 H5 g5 e5=>?_⟩;exact ⟨g.trans (g4.trans g5),p5,_,_,rfl,SqT.of e5⟩
def spValueOf (K:Ap):Sp:=fun vs H Q _=>∃ (v:V) (lf:Addr) (vf:List V) (u:Un) (xs:List Rat) (D b:Nat),vs=[v,.ref lf]/\UnAt true K H v u/\SqL K H lf vf/\RL K H vf xs/\WfU xs.length u/\ShzU u/\Few D b xs/\RetS K H Q (TQ (walkU xs u))
theorem okxf (T:Txt K mg a):FnOk P w K mg base CX0 4 a.fxf a.dxf ["unit", "found"] (spValueOf K):=by
 refine T.Fxf.F.ok scxf ?_ ?_
 ·walk_at "c"
 walk_at "b"
 obtain ⟨v,lf,vf,u,xs,D,b,rfl,hU,hf,rf,wu,su,fw,q⟩:=h;refine ⟨_,(qK (ps_if (qW op_eq (pe_ix zq (pv 0) qx) qw)
    (qJ (zj (pe_d (oky1 T) hr T.Fy1 (pa_c (pe_ix zJ (pv 1) (pe_ix zq (pv 0) qx)) qj))))
    qY)
   (qJ (zj (pe_d (okxc T) hr T.Fxc (pa_c (pe_ix zq (pv 0) qx) (pa_c (pe_ix zq (pv 0) qx) (pa_c (pv 1) qj))))))),?_⟩
 cases u with
 | sum c ts =>
  obtain ⟨t,pc,pt,vt,rfl,h1,h2,h3,h4⟩:=hU;refine ⟨_,rfl,_,_,_,_,rfl,rfl,h1,rfl,rfl,_,rfl,iteN (by decide) ?_⟩;exact ⟨_,rfl,_,_,_,_,rfl,rfl,h1,rfl,_,rfl,_,_,_,_,rfl,rfl,h1,rfl,_,rfl,pc,pt,lf,vt,vf,c,ts,xs,D,b,rfl,h2,h3,h4,hf,rf,wu.1,su,fw,q⟩
 | bend p =>
  obtain ⟨t,rfl,h1⟩:=hU;obtain ⟨ve,ev,pe,rfl,he⟩:=rf.getD (i:=p) wu;refine ⟨_,rfl,_,_,_,_,rfl,rfl,h1,rfl,rfl,_,rfl,iteP rfl ?_⟩;exact ⟨_,rfl,_,rfl,_,_,_,_,rfl,rfl,h1,rfl,lf,_,_,_,rfl,rfl,hf,atN ev,pe,_,rfl,he,(fw.s p).mono,q⟩
def NetPt (K:Ap) (a:Adr) (H:Hp) (pn lp:Addr) (many:Nat) (us:List Un) (outs:List Nat) (qs:List Rat):Prop :=
 ∃ lu lo vk vp,NetAt a.czl H pn lu lo many/\SqL K H lu vk/\UL true K H vk us/\SqL K H lo (outV outs)/\SqL K H lp vp/\RL K H vp qs
def Drawn (many:Nat) (us:List Un) (qs:List Rat):Prop:=WfN many us/\us.length<=24/\(∀ u∈us,ShzU u)/\qs.length=many/\(∀ q∈qs,SmQ 100 q)/\many<=6
theorem Drawn.few {many:Nat} {us:List Un} {qs:List Rat} (h:Drawn many us qs) (i:Nat) (hi:i<=24):Few (2520^i*prodD qs) (100+62*i) (walkN qs (us.take i)):=by
 obtain ⟨wf,l24,sh,lq,sq,m6⟩:=h;have hp:prodD qs<2^(100*qs.length+1):=prodD_lt sq;refine ⟨walkN_sz (prodD_pos qs) (fun q hq=>Bd.mono (Bd.own (sq q hq)) (prodD_dvd hq) (Nat.le_refl _)) us sh i,Nat.mul_pos (Nat.pow_pos (by decide)) (prodD_pos qs),?_,by omega⟩;exact Af (base_lt hp) (Ab (by decide) (by omega))
def spWalked (K:Ap) (a:Adr):Sp:=fun vs H Q _=>∃ (pn lp:Addr) (many:Nat) (us:List Un) (outs:List Nat) (qs:List Rat),vs=[.ref pn,.ref lp]/\NetPt K a H pn lp many us outs qs/\Drawn many us qs/\RetL K H Q (walkN qs us)
theorem okzt (T:Txt K mg a):FnOk P w K mg base CX0 5 a.fzt a.dzt ["self", "point"] (spWalked K a):=by
 refine T.Fzt.ok xj ?_ ?_
 ·walk_at "c"
 walk_at "b"
 obtain ⟨pn,lp,many,us,outs,qs,rfl,⟨lu,lo,vk,vp,⟨dx,hN⟩,hu,rk,ho,hp,rp⟩,dr,q⟩:=h;have dr0:=dr;obtain ⟨wf,l24,sh,lq,sq,m6⟩:=dr;refine ltX ?_
 intros
 refine ⟨_,body3 (by rfl)
  (ps_s 2 xj.nd (yq (QY) rfl T.m_list boot_list (pa_c (pv 1) qj)))
  (ps_for PassesOwn.never rfl (yW (jX (pv 0) rfl)) (pg_n 3 xj.nd) (qJ (ps_expr (pe_app (pv 2) (pe_d (okxf T) hr T.Fxf (pa_c (pv 3) (pa_c (pv 2) qj)))))))
  (zj (pv 2)),?_⟩
 refine lt3 ?_
 intros
 have lvk:=rk.length;refine ⟨_,rfl,lp,vp,rfl,.inl hp,fun lf hlf=>?_⟩;have g0:=qy hlf (.lst vp);refine ⟨_,rfl,pn,_,dx,_,_,rfl,g0 _ _ hN,T.Czl,T.nzr,rfl,lu,rfl,⟨_,g0.seq hu⟩,for_by (n:=us.length) (fun i σ H'=>Same H H'/\∃ (vr:List V) (u3:Option V),σ=[some (.ref pn),some (.ref lp),some (.ref lf),u3]/\H' lf=some (.lst vr)/\RL K H' vr (walkN qs (us.take i)))
  ⟨g0,vp,_,rfl,qk,rp.mono g0⟩ ?_ ?_ ?_⟩
 ·rintro σ H' ⟨g,vr,u3,rfl,er,rV⟩
  refine ⟨⟨_,g.seq hu,by omega⟩,?_⟩;rw [A5 (Nat.le_refl _)] at rV;exact ⟨_,rfl,q lf H' vr hlf g er rV⟩
 ·rintro i σ H' hi ⟨g,_⟩
  exact ⟨_,_,g.seq hu,A4 (by omega)⟩
 ·rintro i σ H0 x H' hi ⟨g,vr,u3,rfl,er,rV⟩ ⟨rfl,y1⟩
  obtain ⟨u,eu,hU⟩:=rk.get (y1 _ (g.seq hu));have lsp:(walkN qs (us.take i)).length=many+i:=by rw [walkN_len,Aj]; omega
  have lvr:=rV.length;refine ⟨_,rfl,.inl ⟨rfl,_,SqL.of er⟩,_,rfl,_,rfl,x,lf,vr,u,_,_,_,rfl,hU.mono g,SqL.of er,rV,by rw [lsp]; exact wf i u eu,sh u (A9 eu),dr0.few i (by omega),fun p H3 g3 hp3=>?_⟩;have er3:=g3 _ _ er;refine ⟨lf,vr,_,rfl,rfl,er3,yj (by omega),(g.trans g3).laid hlf _,vr++[.ref p],_,rfl,qk,?_⟩;rw [zZ eu,walkN_snoc];exact RL.upd_lst ((rV.mono g3).snoc ⟨p,rfl,hp3⟩) er3
def outQ (vs:List Rat) (outs:List Nat):List Rat:=outs.map fun o=>vs.getD o 0
def spOutsAt (K:Ap) (a:Adr):Sp:=fun vs H Q _=>∃ (pn lp:Addr) (many:Nat) (us:List Un) (outs:List Nat) (qs:List Rat),vs=[.ref pn,.ref lp]/\NetPt K a H pn lp many us outs qs/\Drawn many us qs/\outs.length<=12/\(∀ o∈outs,o<many+us.length)/\RetL K H Q (outQ (walkN qs us) outs)
theorem okzp (T:Txt K mg a):FnOk P w K mg base CX0 6 a.fzp a.dzp ["self", "point"] (spOutsAt K a):=by
 refine T.Fzp.ok sczp ?_ ?_
 ·walk_at "c"
 walk_at "b"
 obtain ⟨pn,lp,many,us,outs,qs,rfl,NP,dr,o12,ol,q⟩:=h;have NP0:=NP;obtain ⟨lu,lo,vk,vp,⟨dx,hN⟩,hu,rk,ho,hp,rp⟩:=NP;refine ⟨_,(qK (ps_set (i:=2) sczp.nd rfl (Or.inr rfl) (x6 (pv 0) T.Czl T.tzt (okzt T) (hr.mono (by decide)) T.bzt .nil pass0 (pa_c (pv 1) qj) (hst:=qz rfl _ _) (hpl:=qQ rfl)))
   (qJ (zj (x8 (N:=["place", "found"]) (ix:=[none,some 2]) ⟨rfl,rfl,rfl,rfl,⟨rfl,trivial⟩,rfl,⟨⟨rfl,Or.inr (Or.inl rfl),ne_loc rfl,rfl,Or.inl rfl⟩,trivial⟩⟩ rfl (yW (jX (pv 0) rfl)) (fun _=>(pg_n 0 (show (["place", "found"]:List Str).Nodup by decide +kernel))) (fun _ σ=>j3 rfl σ) (fun _=>yQ) (fun _=>(pe_ix zJ (pv 1) (pv 0))))))),?_⟩
 refine ⟨_,rfl,pn,dx,_,rfl,hN,rfl,_,rfl,pn,lp,many,us,outs,qs,rfl,NP0,dr,fun lf H1 vr _ g1 er rV=>?_⟩;have lo2:(outV outs).length=outs.length:=by unfold outV; rw [List.length_map]
 have lw:(walkN qs us).length=many+us.length:=by rw [walkN_len,dr.2.2.2.1]
 refine ⟨_,rfl,pn,_,dx,_,_,rfl,g1 _ _ hN,T.Czl,T.nzo,rfl,lo,rfl,⟨_,g1.seq ho⟩,yv (n:=outs.length) (fun i ys H'=>Same H1 H'/\RL K H' ys ((outQ (walkN qs us) outs).take i)) ⟨Same.refl _,.nil⟩ (yj (by omega)) ?_ ?_ ?_⟩
 ·rintro ys H' ⟨g,r⟩
  refine ⟨⟨_,g.seq (g1.seq ho),by omega⟩,fun D hD=>?_⟩;rw [A5 (by unfold outQ; rw [List.length_map]; exact Nat.le_refl _)] at r;have gA:=g1.trans g;exact q D _ ys (v8 gA hD) (gA.laid (v8 gA hD) _) qk (r.mono (qy hD _))
 ·rintro i ys H' hi ⟨g,_⟩
  exact ⟨_,_,g.seq (g1.seq ho),A4 (by omega)⟩
 ·rintro i m' ys H'0 c x H' hi ⟨g,r⟩ ⟨rfl,y1⟩ nx _
  obtain ⟨o,eo,rfl⟩:=out_at (y1 _ (g.seq (g1.seq ho)));have h0:=ol o (A9 eo);obtain ⟨ve,ev,pe,rfl,he⟩:=(rV.mono g).getD (i:=o) (by omega);have ez:(outQ (walkN qs us) outs)[i]?=some ((walkN qs us).getD o 0):=by unfold outQ; rw [List.getElem?_map,eo]; rfl
  exact Or.inl ⟨rfl,_,rfl,_,rfl,lf,_,_,_,rfl,rfl,SqL.of (g _ _ er),atN ev,nx _ _ ⟨g,by rw [zZ ez]; exact r.snoc ⟨pe,rfl,he⟩⟩⟩
def spMixed:Sp:=fun vs H Q _=>∃ c k:Int,vs=[.int c,.int k]/\∀ m:Int,0<=m->m<429496716->Q (.int m) H
theorem okyl (T:Txt K mg a):FnOk P w K mg base CX0 1 a.fyl a.dyl ["_law_cell", "_law_k"] spMixed:=by
 refine T.Fyl.F.ok Qq ?_ ?_
 ·walk_at "c"
 walk_at "b"
 obtain ⟨c,k,rfl,q⟩:=h;refine ⟨_,(qK (ps_s 2 Qq.nd (pe_op jk (pe_op jK (pe_op jK (pe_op jk (pv 0) qx) (pe_op vV qx (pv 1))) qx) qx))
   (qK (ps_s 2 Qq.nd (pe_op jk (pe_op vV (pe_op jK (pv 2) qx) (pe_op jK (pe_op jK (pv 2) qx) (pv 1))) qx))
   (qJ (zj (pe_op yw (pe_op jk (pe_op vV (pv 2) (pe_op jK (pv 2) qx)) qx) qx))))),?_⟩
 have pos:∀ {m:Int},(0:Int)<m->∀ x:Int,0<=x%m/\x%m<m:=fun {m} h x=>⟨Int.emod_nonneg x (by omega),Int.emod_lt_of_pos x h⟩
 refine ⟨_,rfl,_,_,rfl,rfl,(by show (0:Int)<2147483647; decide),_,rfl,_,_,rfl,rfl,IntMulOk.of_left (by decide +kernel),_,_,rfl,rfl,_,_,rfl,rfl,_,_,rfl,rfl,(by show (0:Int)<2147483629; decide),?_⟩;dsimp only;have b1:=pos (show (0:Int)<2147483629 by decide) (c%2147483647+16807*k+7);generalize (c%2147483647+16807*k+7)%2147483629=n1 at b1 ⊢;refine ⟨_,rfl,_,_,rfl,rfl,_,rfl,_,_,rfl,rfl,_,rfl,_,_,rfl,rfl,_,_,rfl,rfl,IntMulOk.of_left (intBits_le_64 (by omega) (by omega)),_,_,rfl,rfl,(by show (0:Int)<2147483587; decide),?_⟩;dsimp only;have b2:=pos (show (0:Int)<2147483587 by decide) ((n1+48271)*(n1+69621+k));generalize ((n1+48271)*(n1+69621+k))%2147483587=n2 at b2 ⊢;refine ⟨_,rfl,_,rfl,_,_,rfl,rfl,_,_,rfl,rfl,IntMulOk.of_left (intBits_le_64 (by omega) (by omega)),_,_,rfl,rfl,(by show (0:Int)<2147483579; decide),_,_,rfl,rfl,⟨by decide,by decide +kernel⟩,?_⟩;dsimp only;have b3:=pos (show (0:Int)<2147483579 by decide) (n2*(n2+40692));generalize (n2*(n2+40692))%2147483579=n3 at b3 ⊢;have e:n3.fdiv 5=n3/5:=Int.fdiv_eq_ediv_of_nonneg _ (by decide);rw [e];exact q _ (by omega) (by omega)
def spRatio:Sp:=fun vs H Q _=>∃ t b:Int,vs=[.int t,.int b]/\b≠0/\Sm 8000 b/\RetT H Q (T2 (nt t b) (nb t b))
theorem okyy (T:Txt K mg a):FnOk P w K mg base CX0 2 a.fyy a.dyy ["top", "bottom"] spRatio:=by
 refine T.Fyy.F.ok scyy ?_ ?_
 ·walk_at "c"
 walk_at "b"
 obtain ⟨t,b,rfl,hb,hs,q⟩:=h;refine ⟨_,(qK (ps_if (PW.pt (pw_or (yy (y8 (pe_d (v7 T) hr T.Fye (pa_c (pv 0) qj)))) (pw_or (yy (y8 (pe_d (v7 T) hr T.Fye (pa_c (pv 1) qj)))) (vx (qW op_eq (pv 1) qx)))))
    (qJ ps_never)
    qY)
   (qK (ps_s 2 scyy.nd (pe_d (wW T) hr T.Fya (pa_c (qX (x4) rfl T.m_abs boot_abs (pa_c (pv 0) qj)) (pa_c (qX (x4) rfl T.m_abs boot_abs (pa_c (pv 1) qj)) qj))))
   (qK (ps_if (qW op_lt (pv 1) qx)
    (qJ (ps_s 2 scyy.nd (pe_un un_neg (pv 2))))
    qY)
   (qJ (zj (j9 (pa_c (pe_op yw (pv 0) (pv 2)) (pa_c (pe_op yw (pv 1) (pv 2)) qj)))))))),?_⟩
 refine ⟨_,rfl,_,_,rfl,.int _,_,rfl,iteF ⟨_,rfl,_,_,rfl,.int _,_,rfl,iteF ⟨_,rfl,rfl,_,rfl,iteN (fun z=>hb (V.int.inj z)) ?_⟩⟩⟩;refine ⟨_,rfl,_,rfl,_,rfl,_,rfl,_,_,rfl,abs_nn _,abs_nn _,?_⟩;refine ⟨_,rfl,_,_,rfl,rfl,_,rfl,?_⟩
 try dsimp only
 rw [abs_gcd];have d1:=divB (t:=t) hb hs;refine iteD (fun c=>?_) (fun c=>?_)
 ·have e : -((Int.gcd t b:Nat):Int)=sg t b:=by unfold sg; rw [if_pos c]
  refine ⟨_,rfl,_,rfl,?_⟩
  try dsimp only
  rw [e];exact ⟨_,rfl,_,rfl,_,_,rfl,rfl,d1,_,rfl,_,rfl,_,_,rfl,rfl,d1,vq,fun p hp=>q.new hp⟩
 ·have e:((Int.gcd t b:Nat):Int)=sg t b:=by unfold sg; rw [if_neg c]
  try dsimp only
  rw [e];exact ⟨_,rfl,_,rfl,_,_,rfl,rfl,d1,_,rfl,_,rfl,_,_,rfl,rfl,d1,vq,fun p hp=>q.new hp⟩
theorem le1000 {n:Nat} (h:n<=1000):n<=sizeLine:=Ao h (by decide)
theorem notLong {n:Nat} (h:n<=1000):Builtin.Str.tooLong n=false:=by
 unfold Builtin.Str.tooLong;exact decide_eq_false (Nat.not_lt.mpr (le1000 h))
theorem low60 {n:Nat} (h:n<10^60):((n:Nat):Int).natAbs.log2<1920:=by
 rw [Ah]
 by_cases c:n=0
 ·subst c; decide
 ·exact (Nat.log2_lt c).mpr (Nat.lt_trans h (by decide +kernel))
theorem zK (x y:Str):(x++y).length=x.length+y.length:=by rw [j0,j0,j0,PyProof.Rows.cps_toList_append,Ad]
def headS (t:Int):Str:=if t<0 then Str.ofString "-" ++ figs t.natAbs else figs t.natAbs
def txt (t b:Int):Str:=if b=1 then headS t else headS t++Str.ofString "/" ++ figs b.natAbs
theorem dash:Str.ofString "-" = ⟨#[45]⟩:=by decide
theorem stroke:Str.ofString "/" = ⟨#[47]⟩:=by decide
theorem nought:Str.ofString "0" = ⟨#[48]⟩:=by decide
theorem headS_list (t:Int):(headS t).cps.toList=(if t<0 then [45] else [])++figL t.natAbs:=by
 unfold headS
 split
 ·rw [PyProof.Rows.cps_toList_append,kz,dash]
 ·rw [kz]; rfl
theorem headS_free (t:Int):47∉(headS t).cps.toList:=by
 rw [headS_list];intro z
 rcases Ak.mp z with z | z
 ·split at z
  ·exact absurd (List.mem_singleton.mp z) (by decide)
  ·cases z
 ·have:=figL_all t.natAbs 47 z
  omega
theorem headS_len {t:Int} (h:t.natAbs<10^60):(headS t).length<=61:=by
 have:=(figs_len h).2;rw [j0,headS_list];rw [j0,kz] at this;rw [Ad]
 split
 ·show 1+_<=_; omega
 ·show 0+_<=_; omega
theorem txt_len {t b:Int} (h:t.natAbs<10^60) (hb:b.natAbs<10^60):(txt t b).length<=200:=by
 have h1:=headS_len h;have h2:=(figs_len hb).2;unfold txt
 split
 ·omega
 ·rw [zK,zK]
  show _+1+_<=_;omega
theorem txt_parts {t b:Int}:Txt.partition (txt t b) (Str.ofString "/")=if b=1 then (headS t,Str.empty,Str.empty) else (headS t,Str.ofString "/",figs b.natAbs):=by
 unfold txt;rw [stroke]
 split
 ·exact part_none (headS_free t)
 ·exact part_at (headS_free t)
def spFig:Sp:=fun vs H Q _=>∃ n:Nat,vs=[.int (n:Int)]/\n<10^60/\∀ H',Same H H'->Q (.str (figs n)) H'
theorem okyb (T:Txt K mg a):FnOk P w K mg base CX0 1 a.fyb a.dyb ["number"] spFig:=by
 refine T.Fyb.F.ok scyb ?_ ?_
 ·walk_at "c"
 walk_at "b"
 obtain ⟨n,rfl,hn,q⟩:=h;refine ltX ?_
 intros
 refine ⟨_,body5 (by rfl)
  (ps_s 1 scyb.nd (pe_op op_pow qx qx))
  (ps_s 2 scyb.nd (yK qj))
  (ps_while PassesOwn.never (qW op_ge (pv 0) (pv 1)) pss_never)
  (ps_expr (pe_app (pv 2) (yq (j2) rfl T.m_str boot_str (pa_c (pv 0) qj))))
  (zj (pe_joinRev rfl rfl T.m_reversed (pv 2))),?_⟩
 refine lt5 ?_
 intros
 have p60:(10:Int)^(60:Int).toNat=((10^60:Nat):Int):=by decide +kernel
 refine ⟨_,_,rfl,rfl,⟨by decide,by decide,by decide⟩,?_⟩;dsimp only;rw [p60];refine ⟨(by decide),fun lp hlp=>?_⟩;have g0:Same H (upd H lp (.lst [])):=qy hlp (.lst []);refine while_by (fun σ H'=>H'=upd H lp (.lst [])/\σ=[some (.int (n:Int)),some (.int ((10^60:Nat):Int)),some (.ref lp)]) (fun _ _=>0) ⟨rfl,rfl⟩ ?_ ?_
 ·rintro σ H' ⟨rfl,rfl⟩
  refine ⟨_,rfl,_,rfl,_,_,rfl,rfl,_,rfl,iteN (by omega) ?_⟩;refine ⟨_,rfl,.inl ⟨rfl,_,SqL.of qk⟩,_,rfl,_,rfl,low60 hn,lp,[],_,rfl,rfl,qk,(show 0<sizeLine by decide),?_⟩;refine ⟨_,rfl,lp,figs n,rfl,qk,notLong (by have:=(figs_len hn).2; show 0+(figs n).length+0<=_; omega),q _ fun b o e=>by rw [zk (zW e hlp)]; exact g0 _ _ e⟩
 ·rintro σ H' Q1 Q2 hq ⟨v,e,v2,e2,i,j,e3,e4,k,ek,q1⟩
  exact ⟨v,e,v2,e2,i,j,e3,e4,k,ek,hq _ _ q1⟩
theorem abs_nat (t:Int):(if t<0 then -t else t)=(t.natAbs:Int):=by split <;> omega
def spShown (K:Ap):Sp:=fun vs H Q _=>∃ (p:Addr) (t b:Int),vs=[.ref p]/\SqT K H p (T2 t b)/\t.natAbs<10^60/\0<b/\b.natAbs<10^60/\∀ H',Same H H'->Q (.str (txt t b)) H'
theorem okx8 (T:Txt K mg a):FnOk P w K mg base CX0 2 a.fx8 a.dx8 ["one"] (spShown K):=by
 refine T.Fx8.F.ok scx8 ?_ ?_
 ·walk_at "c"
 walk_at "b"
 obtain ⟨p,t,b,rfl,hp,ht,b0,hb,q⟩:=h;refine ltX ?_
 intros
 refine ⟨_,body4 (by rfl)
  (ps_s 1 scx8.nd (pe_d (okyb T) hr T.Fyb (pa_c (qX (x4) rfl T.m_abs boot_abs (pa_c (pe_ix zq (pv 0) qx) qj)) qj)))
  (ps_if (qW op_lt (pe_ix zq (pv 0) qx) qx) (qJ (ps_s 1 scx8.nd (pe_op qV qw (pv 1)))) qY)
  (ps_if (qW op_ne (pe_ix zq (pv 0) qx) qx) (qJ (ps_s 1 scx8.nd (pe_op qV (pe_op qV (pv 1) qw) (pe_d (okyb T) hr T.Fyb (pa_c (pe_ix zq (pv 0) qx) qj))))) qY)
  (zj (pv 1)),?_⟩
 refine lt4 ?_
 intros
 have hl:=(figs_len ht).2;have hl2:=(figs_len hb).2;refine ⟨_,rfl,_,_,_,_,rfl,rfl,hp,rfl,_,rfl,t.natAbs,congrArg (fun z=>[V.int z]) (abs_nat t),ht,fun H1 g1=>?_⟩;refine (fun h=>⟨_,rfl,_,_,_,_,rfl,rfl,g1.tup hp,rfl,_,_,rfl,rfl,_,rfl,iteD (fun c=>⟨_,rfl,_,_,rfl,rfl,le1000 (by show 1+_<=_; omega),?neg⟩) (fun c=>?pos)⟩) True.intro
 case neg =>
  refine ⟨_,rfl,_,_,_,_,rfl,rfl,g1.tup hp,rfl,rfl,_,rfl,?_⟩
  by_cases k:b=1
  ·subst k
   refine iteNS rfl ⟨_,rfl,?_⟩;have e:txt t 1=Str.ofString "-" ++ figs t.natAbs:=by unfold txt headS; rw [if_pos rfl,if_pos c]
   rw [<- e];exact q _ g1
  ·refine iteNP (fun z=>k (V.int.inj z)) ?_
   refine ⟨_,rfl,_,_,rfl,rfl,le1000 (by rw [zK]; show 1+_+1<=_; omega),_,rfl,_,_,_,_,rfl,rfl,g1.tup hp,rfl,b.natAbs,congrArg (fun z=>[V.int z]) (by omega),hb,fun H2 g2=>?_⟩;refine ⟨_,_,rfl,rfl,le1000 (by rw [zK,zK]; show 1+_+1+_<=_; omega),_,rfl,?_⟩;have e:txt t b=Str.ofString "-" ++ figs t.natAbs++Str.ofString "/" ++ figs b.natAbs:=by unfold txt headS; rw [if_neg k,if_pos c]
   rw [<- e];exact q _ (g1.trans g2)
 case pos =>
  refine ⟨_,rfl,_,_,_,_,rfl,rfl,g1.tup hp,rfl,rfl,_,rfl,?_⟩
  by_cases k:b=1
  ·subst k
   refine iteNS rfl ⟨_,rfl,?_⟩;have e:txt t 1=figs t.natAbs:=by unfold txt headS; rw [if_pos rfl,if_neg c]
   rw [<- e];exact q _ g1
  ·refine iteNP (fun z=>k (V.int.inj z)) ?_
   refine ⟨_,rfl,_,_,rfl,rfl,le1000 (by show _+1<=_; omega),_,rfl,_,_,_,_,rfl,rfl,g1.tup hp,rfl,b.natAbs,congrArg (fun z=>[V.int z]) (by omega),hb,fun H2 g2=>?_⟩;refine ⟨_,_,rfl,rfl,le1000 (by rw [zK]; show _+1+_<=_; omega),_,rfl,?_⟩;have e:txt t b=figs t.natAbs++Str.ofString "/" ++ figs b.natAbs:=by unfold txt headS; rw [if_neg k,if_neg c]
   rw [<- e];exact q _ (g1.trans g2)
theorem leB {n:Nat} (h:n<=1000000):n<=sizeLine:=Ao h (by decide)
theorem smallB {n:Nat} (h:n<=1000000):n<sizeLine:=Nat.lt_of_le_of_lt h (by decide)
theorem dig_iff {c:Nat}:c∈(Str.ofString "0123456789").cps.toList↔48<=c/\c<=57:=by
 have e:(Str.ofString "0123456789").cps.toList=[48,49,50,51,52,53,54,55,56,57]:=by decide
 rw [e]
 simp only [List.mem_cons,List.not_mem_nil,or_false]
 omega
theorem all_dig (cs:List Nat):(cs.map fun c=>decide (c∈(Str.ofString "0123456789").cps.toList)).all id=true↔PySem.NumText.AllDigits cs:=by
 rw [List.all_map,List.all_eq_true]
 constructor
 ·exact fun h c hc=>dig_iff.mp (of_decide_eq_true (h c hc))
 ·exact fun h c hc=>decide_eq_true (dig_iff.mpr (h c hc))
def spRWE (C:Addr):Sp:=fun vs H Q E=>∃ x:Str,vs=[.str x]/\Asc x/\x.length<=200000/\(goodS x->∀ H',Same H H'->Q (.int (valS x:Int)) H')/\(¬ goodS x->∀ H',Same H H'->E (.ref C) none H')
theorem jx (T:Txt K mg a):FnOk P w K mg base (CXE P w) 1 a.fx7 a.dx7 ["text"] (spRWE a.czy):=by
 refine T.Fx7.F.okE scx7 ?_ ?_
 ·walk_at "c"
 walk_at "b"
 obtain ⟨x,rfl,asc,l200000,q,qe⟩:=h;refine ltX ?_
 intros
 refine ⟨_,body4 (by rfl)
  (ps_if (PW.pt (pw_or (qW op_lt (qX (call_len_str) rfl T.m_len boot_len (pa_c (pv 0) qj)) qx) (vx (qW op_gt (qX (call_len_str) rfl T.m_len boot_len (pa_c (pv 0) qj)) (yY (v:=.int 60) rfl T.mzf ⟨_,rfl⟩))))) (qJ (zv rfl rfl rfl rfl rfl T.x_NoText rfl T.mzy (pa_c qw qj))) qY)
  (ps_if (yy (y8 (qX (call_all rfl) rfl T.m_all boot_all (pa_c (x8 (N:=["sign"]) (ix:=[none]) ⟨rfl,rfl,rfl,rfl,trivial,rfl,trivial⟩ rfl (pi_str (pv 0)) (fun _=>(pg_n 0 (show (["sign"]:List Str).Nodup by decide +kernel))) (fun _ σ=>j3 rfl σ) (fun _=>yQ) (fun _=>(x9 op_in_str (pv 0) (yY (v:=.str "0123456789") rfl T.mzc ⟨_,rfl⟩) (by with_unfolding_all rfl)))) qj)))) (qJ (zv rfl rfl rfl rfl rfl T.x_NoText rfl T.mzy (pa_c qw qj))) qY)
  (ps_if (PW.pt (kW (y8 (pe_bm PySem.F.plainAttrs_str PySem.F.slot_str_startswith PySem.F.type_str_startswith mt_startswith (pv 0) (pa_c qw qj))) (vX (qW op_ne (pv 0) qw)))) (qJ (zv rfl rfl rfl rfl rfl T.x_NoText rfl T.mzy (pa_c qw qj))) qY)
  (zj (yq (call_int_str) rfl T.m_int boot_int (pa_c (pv 0) qj))),?_⟩
 refine lt4 ?_
 intros
 have lz:x.length<=sizeLine:=leB (by omega);have one:(1:Nat)<=sizeLine:=by decide
 refine ⟨_,rfl,_,rfl,lz,_,_,rfl,rfl,_,rfl,iteD (fun c=>⟨one,qe (fun z=>by have:=z.1; omega) _ (Same.refl _)⟩) (fun c=>⟨_,rfl,_,rfl,lz,_,_,rfl,rfl,_,rfl,iteD (fun c2=>⟨one,qe (fun z=>by have:=z.2.1; omega) _ (Same.refl _)⟩) (fun c2=>?_)⟩)⟩;have sz:x.cps.size=x.length:=rfl;have sl:x.cps.toList.length=x.length:=(j0 x).symm;refine ⟨_,rfl,x,rfl,asc.all,yv (n:=x.length) (fun i ys H'=>H'=H/\ys=((x.cps.toList.take i).map fun c=>decide (c∈(Str.ofString "0123456789").cps.toList)).map V.bl) ⟨rfl,rfl⟩ (smallB (by omega)) ?_ ?_ ?_⟩
 case refine_2 =>
  rintro i ys H' hi _;show i<x.cps.size;omega
 case refine_3 =>
  rintro i m' ys H' cc v H2 hi ⟨rfl,rfl⟩ ⟨rfl,c,ec,rfl⟩ nx _;refine Or.inl ⟨rfl,_,rfl,_,_,rfl,rfl,?_⟩;dsimp only;rw [StrLaws.found_one];refine nx _ _ ⟨rfl,?_⟩;have ec2:x.cps.toList[i]?=some c:=by rw [Array.getElem?_toList]; exact ec
  rw [zZ ec2,Al,Al];rfl
 rintro ys H1 ⟨rfl,rfl⟩;rw [A5 (by omega)];refine ⟨by show x.cps.size<=_; omega,fun D hD=>⟨D,_,rfl,SqL.of qk,?_⟩⟩;have g:=qy hD (.lst ((x.cps.toList.map fun c=>decide (c∈(Str.ofString "0123456789").cps.toList)).map V.bl))
 by_cases ad:PySem.NumText.AllDigits x.cps.toList
 ·rw [(all_dig _).mpr ad]
  refine ⟨_,rfl,iteF ?_⟩;refine ⟨_,rfl,rfl,_,_,rfl,rfl,_,rfl,?_⟩;dsimp only;rw [nought,starts_one]
  by_cases k:x.cps.toList[0]?=some 48
  ·rw [decide_eq_true k]
   refine iteT ⟨_,rfl,rfl,_,rfl,?_⟩
   by_cases k2:x=⟨#[48]⟩
   ·refine iteNS (congrArg V.str k2) ?_
    have gd:goodS x:=⟨by omega,by omega,ad,fun _=>k2⟩;exact ⟨_,rfl,x,_,rfl,by omega,goodS_reads gd,q gd _ g⟩
   ·refine iteNP (fun z=>k2 (V.str.inj z)) ?_
    exact ⟨one,qe (fun z=>k2 (z.2.2.2 k)) _ g⟩
  ·rw [decide_eq_false k]
   have gd:goodS x:=⟨by omega,by omega,ad,fun z=>absurd z k⟩;exact iteF (iteF ⟨_,rfl,x,_,rfl,by omega,goodS_reads gd,q gd _ g⟩)
 ·rw [Bool.eq_false_iff.mpr fun z=>ad ((all_dig _).mp z)]
  exact ⟨_,rfl,iteT ⟨one,qe (fun z=>ad z.2.2.1) _ g⟩⟩
theorem cut_sign (x:Str):cutS (Str.ofString "-" ++ x) (some 1) none=x:=by
 apply vZ
 have e:(Str.ofString "-" ++ x).cps.toList=45::x.cps.toList:=by rw [yx]; rfl
 have l:(Str.ofString "-" ++ x).length=x.cps.toList.length+1:=by rw [j0,e]; rfl
 show (((Str.ofString "-" ++ x).cps.toList.drop (min 1 (Str.ofString "-" ++ x).length)).take ((Str.ofString "-" ++ x).length - min 1 (Str.ofString "-" ++ x).length))=_;rw [l,e,show min 1 (x.cps.toList.length+1)=1 by omega];show x.cps.toList.take _=_;exact A5 (by omega)
def spRTE (C:Addr):Sp:=fun vs H Q E=>∃ (x y:Str) (s:Bool),vs=[.str x]/\x=sgnS s++y/\s=decide (x.cps.toList[0]?=some 45)/\Asc y/\x.length<=200000/\(goodS y->∀ H',Same H H'->Q (.int (tv s y)) H')/\(¬ goodS y->∀ H',Same H H'->E (.ref C) none H')
theorem okx5 (T:Txt K mg a):FnOk P w K mg base (CXE P w) 2 a.fx5 a.dx5 ["text"] (spRTE a.czy):=by
 refine T.Fx5.F.okE scx5 ?_ ?_
 ·walk_at "c"
 walk_at "b"
 obtain ⟨x,y,s,rfl,ex,es,asc,l200000,q,qe⟩:=h;refine ⟨_,(qK (ps_if (y8 (pe_bm PySem.F.plainAttrs_str PySem.F.slot_str_startswith PySem.F.type_str_startswith mt_startswith (pv 0) (pa_c qw qj)))
    (qJ (zj (pe_un un_neg (zy (jx T) (hr.mono (by decide)) rfl T.Fx7.m T.Fx7.F.kp T.Fx7.b .nil passE (pa_c (w6 sl_strG (pv 0) (vK qx) po_none) qj)))))
    qY)
   (qJ (zj (zy (jx T) (hr.mono (by decide)) rfl T.Fx7.m T.Fx7.F.kp T.Fx7.b .nil passE (pa_c (pv 0) qj))))),?_⟩
 refine ⟨_,rfl,rfl,_,_,rfl,rfl,_,rfl,?_⟩;dsimp only;rw [show Txt.startswith x (Str.ofString "-")=s by rw [dash,starts_one,es]];have ly:y.length<=200000:=by
  rw [ex,zK] at l200000;omega
 cases s with
 | true =>
  refine iteT ⟨_,rfl,_,rfl,x,rfl,leB (by omega),y,?_,asc,ly,fun gd H' g=>?_,fun ng H' g=>qe ng H' g⟩
  ·exact congrArg (fun z=>[V.str z]) (by rw [ex]; exact cut_sign y)
  ·exact ⟨_,rfl,q gd H' g⟩
 | false =>
  refine iteF ⟨_,rfl,y,?_,asc,ly,fun gd H' g=>q gd H' g,fun ng H' g=>qe ng H' g⟩;exact congrArg (fun z=>[V.str z]) (by rw [ex]; exact vZ (by rw [yx]; rfl))
theorem sgn_free (s:Bool):47∉(sgnS s).cps.toList:=by cases s <;> decide
theorem sgn_head {s:Bool} {y z:Str} (h:s=decide ((sgnS s++y++z).cps.toList[0]?=some 45)):s=decide ((sgnS s++y).cps.toList[0]?=some 45):=by
 cases s with
 | true=>rw [yx]; rfl
 | false =>
  symm
  refine decide_eq_false fun k=>?_
  have k2:=of_decide_eq_false h.symm;refine k2 ?_;rw [yx,A2 (List.getElem?_eq_some_iff.mp k).1];exact k
theorem headS_tv {s:Bool} {x:Str} (gd:goodS x) (h:¬ (s=true/\valS x=0)):headS (tv s x)=sgnS s++x:=by
 have e:=goodS_figs gd
 cases s with
 | true =>
  have n0:valS x≠0:=fun z=>h ⟨rfl,z⟩
  have lt:tv true x<0:=by show -(valS x:Int)<0; omega
  have na:(tv true x).natAbs=valS x:=by show (-(valS x:Int)).natAbs=_; omega
  unfold headS;rw [if_pos lt,na,<- e];rfl
 | false =>
  have nl:¬ tv false x<0:=by show ¬ (valS x:Int)<0; omega
  have na:(tv false x).natAbs=valS x:=by show ((valS x:Int)).natAbs=_; omega
  unfold headS;rw [if_neg nl,na,<- e];exact vZ (by rw [yx]; rfl)
theorem headS_dash {x:Str}:headS 0≠sgnS true++x:=fun z=>by
 have e:=congrArg (fun q:Str=>q.cps.toList[0]?) z;have e1:(headS 0).cps.toList[0]?=some 48:=by rw [headS_list]; decide
 have e2:(sgnS true++x).cps.toList[0]?=some 45:=by rw [yx]; rfl
 have e3:some 48=some 45:=e1.symm.trans (e.trans e2);exact absurd (Am e3) (by decide)
theorem tv_abs (s:Bool) (x:Str):(tv s x).natAbs=valS x:=by
 unfold tv
 split <;> omega
def spReadE (K:Ap) (C:Addr):Sp:=fun vs H Q E =>
 (∃ (x:Str) (s:Bool) (ps:List Str),vs=[.str x]/\Pts x s ps/\Asc x/\x.length<=200000/\(∀ t b:Int,outP s ps=some (t,b)->RetT H Q (T2 t b))/\(outP s ps=none->∀ H',Same H H'->E (.ref C) none H')) \/
 (∃ v,vs=[v]/\IsS K H v/\∀ H',Same H H'->E (.ref C) none H')
theorem okyz (T:Txt K mg a):FnOk P w K mg base (CXE P w) 3 a.fyz a.dyz ["text"] (spReadE K a.czy):=by
 refine T.Fyz.F.okE scyz (fun vs H Q E h=>?_) (fun cdv A outer s H vs Q E hr h=>?_)
 ·rcases h with ⟨_,_,_,rfl,_⟩ | ⟨_,rfl,_⟩
  ·rfl
  ·rfl
 refine ltX ?_
 intros
 refine ⟨_,body8 (by rfl)
  (ps_if (yy (y8 (qX (call_iss) rfl T.m_isinstance boot_isinstance (pa_c (pv 0) (pa_c (jq (v:=.ty "str") rfl T.m_str boot_str rfl) qj))))) (qJ (zv rfl rfl rfl rfl rfl T.x_NoText rfl T.mzy (pa_c qw qj))) qY)
  (ps_s 1 scyz.nd (pe_bm PySem.F.plainAttrs_str PySem.F.slot_str_partition PySem.F.type_str_partition mt_partition (pv 0) (pa_c qw qj)))
  (ps_s 2 scyz.nd (zy (okx5 T) (hr.mono (by decide)) rfl T.Fx5.m T.Fx5.F.kp T.Fx5.b .nil passE (pa_c (pe_ix zq (pv 1) qx) qj)))
  (ps_s 3 scyz.nd (pe_ifExp (qW op_eq (pe_ix zq (pv 1) qx) qw) qx (zy (jx T) (hr.mono (by decide)) rfl T.Fx7.m T.Fx7.F.kp T.Fx7.b .nil passE (pa_c (pe_ix zq (pv 1) qx) qj))))
  (ps_if (qW op_eq (pv 3) qx) (qJ (zv rfl rfl rfl rfl rfl T.x_NoText rfl T.mzy (pa_c qw qj))) qY)
  (ps_s 4 scyz.nd (pe_d (okyy T) hr T.Fyy (pa_c (pv 2) (pa_c (pv 3) qj))))
  (ps_if (qW op_ne (pe_d (okx8 T) hr T.Fx8 (pa_c (pv 4) qj)) (pv 0)) (qJ (zv rfl rfl rfl rfl rfl T.x_NoText rfl T.mzy (pa_c qw qj))) qY)
  (zj (pv 4)),?_⟩
 refine lt8 ?_
 intros
 have one:(1:Nat)<=sizeLine:=by decide
 rcases h with ⟨x,sg,ps,rfl,pt,asc,l200000,q,qe⟩ | ⟨v,rfl,is,qe⟩
 case inr=>exact ⟨_,rfl,v,rfl,.inr ⟨is,_,rfl,iteT ⟨one,qe _ (Same.refl _)⟩⟩⟩
 refine ⟨_,rfl,_,rfl,.inl ⟨x,rfl,_,rfl,iteF ?_⟩⟩;refine ⟨_,rfl,rfl,_,_,rfl,rfl,rfl,leB (by omega),fun tp htp=>?_⟩;have ascP:=pt.asc asc;obtain ⟨es,ex,ne,fr⟩:=pt
 match ps,ne with
 | [y],_ =>
  have ex:x=sgnS sg++y:=ex;have fx:47∉x.cps.toList:=by
   rw [ex,yx];intro z
   rcases Ak.mp z with z | z
   ·exact sgn_free sg z
   ·exact fr y (List.mem_singleton.mpr rfl) z
  rw [show Txt.partition x (Str.ofString "/")=(x,Str.empty,Str.empty) by rw [stroke]; exact part_none fx];have g1:=qy htp (.tup [.str x,.str Str.empty,.str Str.empty]);have e1:SqT K (upd H tp (.tup [.str x,.str Str.empty,.str Str.empty])) tp [.str x,.str Str.empty,.str Str.empty]:=SqT.of qk;dsimp only;generalize upd H tp (.tup [.str x,.str Str.empty,.str Str.empty])=H1 at *;refine ⟨_,rfl,_,_,_,_,rfl,rfl,e1,rfl,x,y,sg,rfl,ex,es,ascP y (List.mem_singleton.mpr rfl),l200000,fun gd H2 g2=>?_,fun ng H2 g2=>qe (out1n fun z=>ng z.1) _ (g1.trans g2)⟩;refine ⟨_,rfl,_,_,_,_,rfl,rfl,g2.tup e1,rfl,rfl,_,rfl,iteP rfl ?_⟩;refine ⟨_,rfl,rfl,_,rfl,iteN (by decide) ?_⟩;have va:=kq gd;have ta:=tv_abs sg y;refine ⟨_,rfl,_,rfl,tv sg y,1,rfl,by decide,by unfold Sm; decide +kernel,fun pr H3 g3 e3=>?_⟩;have nn:=n_of (x:=tv sg y) (y:=1) (t:=tv sg y) (b:=1) (by decide) ⟨by decide,by simp⟩ rfl;rw [<- nn.1,<- nn.2] at e3;have g13:=g1.trans (g2.trans g3);refine ⟨_,rfl,pr,tv sg y,1,rfl,SqT.of e3,by omega,by decide,by decide +kernel,fun H4 g4=>?_⟩;refine ⟨_,rfl,rfl,_,rfl,?_⟩;have et:txt (tv sg y) 1=headS (tv sg y):=by unfold txt; rw [if_pos rfl]
  rw [et]
  by_cases k:sg=true/\valS y=0
  ·refine iteNP (fun z=>?_) ⟨one,qe (out1n fun z=>z.2 k) _ (g13.trans g4)⟩
   have z:=V.str.inj z;rw [ex,k.1,show tv true y=0 by show -(valS y:Int)=0; omega] at z;exact headS_dash z
  ·refine iteNS (congrArg V.str ((headS_tv gd k).trans ex.symm)) ?_
   exact ⟨_,rfl,q _ _ (out1 ⟨gd,k⟩) pr H4 (g13.trans g4) (g4 _ _ e3)⟩
 | y::z::rest,_ =>
  have ex:x=sgnS sg++(y++⟨#[47]⟩++Str.join ⟨#[47]⟩ (z::rest)):=ex;have ex:x=sgnS sg++y++⟨#[47]⟩++Str.join ⟨#[47]⟩ (z::rest):=by
   rw [ex];exact vZ (by simp only [yx,List.append_assoc])
  have fy:47∉(sgnS sg++y).cps.toList:=by
   rw [yx];intro k
   rcases Ak.mp k with k | k
   ·exact sgn_free sg k
   ·exact fr y (Ae ..) k
  have hd:sg=decide ((sgnS sg++y).cps.toList[0]?=some 45):=by
   refine sgn_head (z:=⟨#[47]⟩++Str.join ⟨#[47]⟩ (z::rest)) ?_;rw [show sgnS sg++y++(⟨#[47]⟩++Str.join ⟨#[47]⟩ (z::rest))=x by rw [ex]; exact vZ (by simp only [yx,List.append_assoc])];exact es
  have lx:(sgnS sg++y).length+1+(Str.join ⟨#[47]⟩ (z::rest)).length=x.length:=by
   rw [ex,zK (sgnS sg++y++⟨#[47]⟩),zK (sgnS sg++y) ⟨#[47]⟩];rfl
  rw [show Txt.partition x (Str.ofString "/")=(sgnS sg++y,⟨#[47]⟩,Str.join ⟨#[47]⟩ (z::rest)) by rw [stroke,ex]; exact part_at fy];have rasc:Asc (Str.join ⟨#[47]⟩ (z::rest)):=fun c hc=>asc c (by rw [ex,yx]; exact A7 _ hc)
  generalize er:Str.join ⟨#[47]⟩ (z::rest)=r at *;have g1:=qy htp (.tup [.str (sgnS sg++y),.str ⟨#[47]⟩,.str r]);have e1:SqT K (upd H tp (.tup [.str (sgnS sg++y),.str ⟨#[47]⟩,.str r])) tp [.str (sgnS sg++y),.str ⟨#[47]⟩,.str r]:=SqT.of qk;dsimp only;generalize upd H tp (.tup [.str (sgnS sg++y),.str ⟨#[47]⟩,.str r])=H1 at *;have nout:¬ (goodS y/\goodS r)->outP sg (y::z::rest)=none:=fun k=>by
   cases rest with
   | nil =>
    have er:z=r:=er;subst er;exact out2n fun k2=>k ⟨k2.1,k2.2.1⟩
   | cons _ _=>rfl
  refine ⟨_,rfl,_,_,_,_,rfl,rfl,e1,rfl,sgnS sg++y,y,sg,rfl,rfl,hd,ascP y (Ae ..),by omega,fun gd H2 g2=>?_,fun ng H2 g2=>qe (nout fun k=>ng k.1) _ (g1.trans g2)⟩;refine ⟨_,rfl,_,_,_,_,rfl,rfl,g2.tup e1,rfl,rfl,_,rfl,iteN (by decide) ?_⟩;refine ⟨_,rfl,_,_,_,_,rfl,rfl,g2.tup e1,rfl,r,rfl,rasc,by omega,fun gr H3 g3=>?_,fun ng H3 g3=>qe (nout fun k=>ng k.2) _ (g1.trans (g2.trans g3))⟩;have rest0:rest=[]:=by
   cases rest with
   | nil=>rfl
   | cons b bs =>
    have m:47∈r.cps.toList:=by
     rw [<- er];show 47∈(z++⟨#[47]⟩++Str.join ⟨#[47]⟩ (b::bs)).cps.toList;rw [yx,yx];exact Aa _ (A7 _ (List.mem_singleton.mpr rfl))
    have:=gr.2.2.1 47 m;omega
  subst rest0;have er:z=r:=er;subst er;have g13:=g1.trans (g2.trans g3);have va:=kq gd;have vb:=kq gr;have ta:=tv_abs sg y;refine ⟨_,rfl,rfl,_,rfl,iteD (fun c=>⟨one,qe (out2n fun k=>?_) _ g13⟩) (fun c=>?_)⟩
  ·have:=V.int.inj c
   omega
  have m0:(valS z:Int)≠0:=fun k=>c (by rw [k])
  refine ⟨_,rfl,_,rfl,tv sg y,(valS z:Int),rfl,m0,by unfold Sm; rw [Ah]; exact Nat.lt_trans vb (by decide +kernel),fun pr H4 g4 e4=>?_⟩;have R:=n_isR (t:=tv sg y) (b:=(valS z:Int)) m0;have cr:=n_cross (tv sg y) (valS z:Int);have l1:=nt_le (tv sg y) (valS z:Int) m0;have l2:=nb_le (tv sg y) (valS z:Int) m0;generalize nt (tv sg y) (valS z:Int)=N at *;generalize nb (tv sg y) (valS z:Int)=M at *;have M0:=R.pos;have g14:=g13.trans g4;refine ⟨_,rfl,pr,N,M,rfl,SqT.of e4,by omega,M0,by omega,fun H5 g5=>?_⟩;refine ⟨_,rfl,rfl,_,rfl,?_⟩
  by_cases k:¬ (sg=true/\valS y=0)/\2<=valS z/\Nat.gcd (valS z) (valS y)=1
  ·have R2:IsR (tv sg y) (valS z:Int):=⟨by omega,by rw [tv_gcd,Nat.gcd_comm]; exact k.2.2⟩
   have nn:=n_of (x:=tv sg y) (y:=(valS z:Int)) (t:=N) (b:=M) (by omega) R2 (by rw [cr]);have n2:=n_of (x:=N) (y:=M) (t:=N) (b:=M) (by omega) R rfl;have eN:N=tv sg y:=n2.1.trans nn.1.symm;have eM:M=(valS z:Int):=n2.2.trans nn.2.symm;rw [eN,eM] at e4 ⊢;have et:txt (tv sg y) (valS z:Int)=x:=by
    unfold txt;rw [if_neg (by omega),headS_tv gd k.1,Ah,<- goodS_figs gr,ex,stroke]
   refine iteNS (congrArg V.str et) ?_;exact ⟨_,rfl,q _ _ (out2 ⟨gd,gr,k⟩) pr H5 (g14.trans g5) (g5 _ _ e4)⟩
  ·refine iteNP (fun e=>k ?_) ⟨one,qe (out2n fun k2=>k k2.2.2) _ (g14.trans g5)⟩
   have e:=V.str.inj e;have pp:=congrArg (fun q:Str=>Txt.partition q (Str.ofString "/")) e;have pp:Txt.partition (txt N M) (Str.ofString "/")=Txt.partition x (Str.ofString "/"):=pp;rw [txt_parts,show Txt.partition x (Str.ofString "/")=(sgnS sg++y,⟨#[47]⟩,z) by rw [stroke,ex]; exact part_at fy] at pp
   by_cases m1:M=1
   ·rw [if_pos m1] at pp
    have q1:=congrArg (fun q:Str×Str×Str=>q.2.1.cps.toList) pp;exact absurd (show ([]:List Nat)=[47] from q1) (by decide)
   ·rw [if_neg m1] at pp
    have q1:headS N=sgnS sg++y:=congrArg (fun q:Str×Str×Str=>q.1) pp;have q3:figs M.natAbs=z:=congrArg (fun q:Str×Str×Str=>q.2.2) pp;have eM:M.natAbs=valS z:=by rw [<- q3,figs_val]
    have eM2:M=(valS z:Int):=by omega
    rw [eM2] at cr R;have eN:N=tv sg y:=Int.eq_of_mul_eq_mul_right m0 cr;rw [eN] at q1 R;refine ⟨fun k2=>?_,by omega,?_⟩
    ·rw [k2.1,show tv true y=0 by show -(valS y:Int)=0; omega] at q1
     exact headS_dash q1
    ·have:=R.low
     rw [tv_gcd,Nat.gcd_comm] at this;exact this
theorem cutLo {vs:List V} {n:Nat} (h:n<=vs.length):cutV vs (some (n:Int)) none=vs.drop n:=by
 unfold cutV;rw [HT.sIx_nat,HT.sIx_none,Nat.min_eq_left h];exact A5 (by rw [List.length_drop]; exact Nat.le_refl _)
def SzQ (q:Rat):Prop:=q.num.natAbs<10^60/\(q.den:Int).natAbs<10^60
def qS (q:Rat):Str:=txt q.num q.den
abbrev blank:Str:=⟨#[32]⟩
abbrev jz:Str:=⟨#[10]⟩
theorem colon:Str.ofString ":" = ⟨#[58]⟩:=by decide
theorem jW:Str.ofString " " = blank:=by decide
theorem line_is:Str.ofString "\n" = jz:=by decide
theorem qS_len {q:Rat} (h:SzQ q):(qS q).length<=200:=txt_len h.1 h.2
theorem wV {ws:List Str} {n B:Nat} (l:ws.length<=n) (h:∀ p∈ws,p.length<=B):(ws.map (·.length)).sum+ws.length<=n*B+n:=by
 have k:=sum_le h;have m:ws.length*B<=n*B:=Nat.mul_le_mul_right _ l;omega
theorem tq_of {x y:Int} (h:IsR x y):TQ (Rat.divInt x y)=T2 x y:=by
 have e:=rat_of h;unfold TQ;rw [e.1,e.2]
open Classical in
noncomputable def figO (w:Str):Option Nat:=if goodS w then some (valS w) else none
theorem figO_yes {w:Str} (h:goodS w):figO w=some (valS w):=if_pos h
theorem figO_no {w:Str} (h:¬ goodS w):figO w=none:=if_neg h
def sgnB (w:Str):Bool:=decide (w.cps.toList[0]?=some 45)
def bodyS (w:Str):Str:=if sgnB w then ⟨w.cps.toList.tail.toArray⟩ else w
theorem sgn_body (w:Str):w=sgnS (sgnB w)++bodyS w:=by
 apply vZ
 rw [yx];unfold bodyS
 by_cases h:w.cps.toList[0]?=some 45
 ·have e:sgnB w=true:=decide_eq_true h
  rw [e];show _=[45]++w.cps.toList.tail
  cases hw:w.cps.toList with
  | nil=>rw [hw] at h; cases h
  | cons c cs =>
   rw [hw] at h;have:c=45:=Am h;rw [this];rfl
 ·have e:sgnB w=false:=decide_eq_false h
  rw [e];rfl
noncomputable def ratP (w:Str):Option (Int×Int):=outP (sgnB w) (Txt.split (bodyS w) ⟨#[47]⟩)
theorem pts_of (w:Str):Pts w (sgnB w) (Txt.split (bodyS w) ⟨#[47]⟩):=pts_split rfl (sgn_body w)
noncomputable def ratO (w:Str):Option Rat:=(ratP w).map fun z=>Rat.divInt z.1 z.2
theorem ratO_yes {w:Str} {q:Rat} (h:ratO w=some q):∃ t b:Int,ratP w=some (t,b)/\IsR t b/\TQ q=T2 t b:=by
 unfold ratO at h
 cases e:ratP w with
 | none=>rw [e] at h; cases h
 | some z =>
  rw [e] at h;have R:=QZ (t:=z.1) (b:=z.2) e;have h:Rat.divInt z.1 z.2=q:=Am h;exact ⟨z.1,z.2,rfl,R,by rw [<- h]; exact tq_of R⟩
theorem ratO_no {w:Str} (h:ratO w=none):ratP w=none:=by
 unfold ratO at h
 cases e:ratP w with
 | none=>rfl
 | some z=>rw [e] at h; cases h
def allO {α β:Type} (f:α->Option β):List α->Option (List β)
 | []=>some []
 | x::xs=>match f x,allO f xs with
  | some y,some ys=>some (y::ys)
  | _,_=>none
theorem kk {α β:Type} {f:α->Option β}:∀ {xs:List α} {x:α},x∈xs->f x=none->allO f xs=none
 | y::xs,x,h,e=>by
  unfold allO
  rcases List.mem_cons.mp h with rfl | h
  ·rw [e]
  ·rw [kk h e]
   cases f y <;> rfl
theorem vQ {α β:Type} {f:α->Option β}:∀ {xs:List α} {x:α} {ys:List β} {y:β},allO f xs=some ys->f x=some y->allO f (xs++[x])=some (ys++[y])
 | [],x,ys,y,h,e=>by
  have h:[]=ys:=Am h;subst h;show allO f [x]=some [y];unfold allO;rw [e];rfl
 | z::xs,x,ys,y,h,e=>by
  unfold allO at h;show allO f (z::(xs++[x]))=_;unfold allO
  cases hz:f z with
  | none=>rw [hz] at h; cases h
  | some a =>
   cases hx:allO f xs with
   | none=>rw [hz,hx] at h; cases h
   | some as =>
    rw [hz,hx] at h;have h:a::as=ys:=Am h;rw [vQ hx e,<- h];rfl
theorem allO_len {α β:Type} {f:α->Option β}:∀ {xs:List α} {ys:List β},allO f xs=some ys->ys.length=xs.length
 | [],ys,h=>by
  have h:[]=ys:=Am h;rw [<- h];rfl
 | z::xs,ys,h=>by
  unfold allO at h
  cases hz:f z with
  | none=>rw [hz] at h; cases h
  | some a =>
   cases hx:allO f xs with
   | none=>rw [hz,hx] at h; cases h
   | some as =>
    rw [hz,hx] at h;have h:a::as=ys:=Am h;rw [<- h,List.length_cons,List.length_cons,allO_len hx]
noncomputable def termO (w:Str):Option (Nat×Rat):=match Txt.split w ⟨#[58]⟩ with
 | [x,y]=>match figO x,ratO y with
  | some n,some q=>some (n,q)
  | _,_=>none
 | _=>none
abbrev bendW:Str:=Str.ofString "bend"
abbrev sumW:Str:=Str.ofString "sum"
open Classical in
noncomputable def unitO:List Str->Option Un
 | w0::w1::r=>if w0=bendW/\r=[] then (figO w1).map Un.bend else if w0=sumW then (match ratO w1,allO termO r with
  | some q,some ts=>some (Un.sum q ts)
  | _,_=>none) else none
 | _=>none
open Classical in
noncomputable def yZ (h:Str):List Str->Option (List Nat)
 | w0::r=>if w0=h then allO figO r else none
 | []=>none
def spTermR (K:Ap) (C:Addr):Sp:=fun vs H Q E=>∃ w:Str,vs=[.str w]/\Asc w/\w.length<=100000/\(∀ x,termO w=some x->RetBy H Q fun H' v=>wZ K H' v x)/\(termO w=none->∀ H',Same H H'->E (.ref C) none H')
theorem rat_free {r:Str} {q:Rat} {c:Nat} (h:ratO r=some q) (k:c<45\/57<c):c∉r.cps.toList:=by
 obtain ⟨t,b,e,_,_⟩:=ratO_yes h;have hp:=(pts_of r).eq;have dig:∀ p∈Txt.split (bodyS r) ⟨#[47]⟩,PySem.NumText.AllDigits p.cps.toList:=by
  unfold ratP at e
  match hs:Txt.split (bodyS r) ⟨#[47]⟩ with
  | []=>rw [hs] at e; cases e
  | [a] =>
   rw [hs] at e;intro p hp;rw [List.mem_singleton.mp hp]
   by_cases g:goodS a/\¬ (sgnB r=true/\valS a=0)
   ·exact g.1.2.2.1
   ·rw [out1n g] at e; cases e
  | [a,b'] =>
   rw [hs] at e
   by_cases g:goodS a/\goodS b'/\¬ (sgnB r=true/\valS a=0)/\2<=valS b'/\Nat.gcd (valS b') (valS a)=1
   ·intro p hp
    rcases List.mem_cons.mp hp with rfl | hp
    ·exact g.1.2.2.1
    ·rw [List.mem_singleton.mp hp]; exact g.2.1.2.2.1
   ·rw [out2n g] at e; cases e
  | a::b'::c'::rest=>rw [hs] at e; cases e
 rw [hp,yx];intro z
 rcases Ak.mp z with z | z
 ·cases hs:sgnB r with
  | true =>
   rw [hs] at z;have:c=45:=List.mem_singleton.mp z;omega
  | false=>rw [hs] at z; cases z
 ·refine join_free (c:=47) (d:=c) (by omega) (fun p hp z=>?_) z
  have:=dig p hp c z;omega
theorem ratO_empty:ratO Str.empty=none:=by
 cases h:ratO Str.empty with
 | none=>rfl
 | some q =>
  obtain ⟨t,b,e,_,_⟩:=ratO_yes h;have e2:Txt.split (bodyS Str.empty) ⟨#[47]⟩=[Str.empty]:=jZ (ps:=[Str.empty]) (by simp) (fun p hp=>by rw [List.mem_singleton.mp hp]; show 47∉([]:List Nat); simp);unfold ratP at e;rw [e2,out1n (fun z=>absurd z.1.1 (by decide))] at e
  cases e
theorem Asc.left {x y:Str} (h:Asc (x++y)):Asc x:=fun c hc=>h c (by rw [yx]; exact Aa _ hc)
theorem Asc.right {x y:Str} (h:Asc (x++y)):Asc y:=fun c hc=>h c (by rw [yx]; exact A7 _ hc)
theorem first_piece (w:Str) (c:Nat):c∉w.cps.toList\/∃ x r,w=x++⟨#[c]⟩++r/\c∉x.cps.toList:=by
 have j:=StrLaws.join_split w ⟨#[c]⟩;have f:=StrLaws.split_free w c
 match hs:Txt.split w ⟨#[c]⟩ with
 | [] =>
  have:=PyProof.Rows.split_pos w ⟨#[c]⟩;rw [hs] at this;exact absurd this (by decide)
 | [x] =>
  rw [hs] at j f;have j:x=w:=j
  left
  rw [<- j];exact f x (List.mem_singleton.mpr rfl)
 | x::y::r =>
  rw [hs] at j f;exact .inr ⟨x,Str.join ⟨#[c]⟩ (y::r),j.symm,f x Ae⟩
theorem split_first {x r:Str} {c:Nat} (h:c∉x.cps.toList):Txt.split (x++⟨#[c]⟩++r) ⟨#[c]⟩=x::Txt.split r ⟨#[c]⟩:=by
 have n:Txt.split r ⟨#[c]⟩≠[]:=fun z=>by
  have:=PyProof.Rows.split_pos r ⟨#[c]⟩;rw [z] at this;exact absurd this (by decide)
 have e:x++⟨#[c]⟩++r=Str.join ⟨#[c]⟩ (x::Txt.split r ⟨#[c]⟩):=by
  cases hs:Txt.split r ⟨#[c]⟩ with
  | nil=>exact absurd hs n
  | cons y ys =>
   show _=x++⟨#[c]⟩++Str.join ⟨#[c]⟩ (y::ys);rw [<- hs,StrLaws.join_split]
 rw [e];refine jZ (by simp) fun p hp=>?_
 rcases List.mem_cons.mp hp with rfl | hp
 ·exact h
 ·exact StrLaws.split_free r c p hp
theorem split_none {w:Str} {c:Nat} (h:c∉w.cps.toList):Txt.split w ⟨#[c]⟩=[w]:=jZ (ps:=[w]) (by simp) fun p hp=>by rw [List.mem_singleton.mp hp]; exact h
theorem okx4 (T:Txt K mg a):FnOk P w K mg base (CXE P w) 4 a.fx4 a.dx4 ["word"] (spTermR K a.czy):=by
 refine T.Fx4.F.okE scx4 ?_ ?_
 ·walk_at "c"
 walk_at "b"
 obtain ⟨wd,rfl,asc,len,q,qe⟩:=h;refine ⟨_,(qK (ps_s 1 scx4.nd (pe_bm PySem.F.plainAttrs_str PySem.F.slot_str_partition PySem.F.type_str_partition mt_partition (pv 0) (pa_c qw qj)))
   (qJ (zj (j9 (pa_c (zy (jx T) (hr.mono (by decide)) rfl T.Fx7.m T.Fx7.F.kp T.Fx7.b .nil passE (pa_c (pe_ix zq (pv 1) qx) qj)) (pa_c (zy (okyz T) (hr.mono (by decide)) rfl T.Fyz.m T.Fyz.F.kp T.Fyz.b .nil passE (pa_c (pe_ix zq (pv 1) qx) qj)) qj)))))),?_⟩
 refine ⟨_,rfl,rfl,_,_,rfl,rfl,rfl,leB (by omega),fun pt hpt=>?_⟩
 rcases first_piece wd 58 with fr | ⟨x,r,rfl,fr⟩
 ·rw [show Txt.partition wd (Str.ofString ":")=(wd,Str.empty,Str.empty) by rw [colon]; exact part_none fr]
  have tn:termO wd=none:=by unfold termO; rw [split_none fr]
  have g1:=qy hpt (.tup [.str wd,.str Str.empty,.str Str.empty]);have e1:SqT K (upd H pt (.tup [.str wd,.str Str.empty,.str Str.empty])) pt [.str wd,.str Str.empty,.str Str.empty]:=SqT.of qk;dsimp only;generalize upd H pt (.tup [.str wd,.str Str.empty,.str Str.empty])=H1 at *;refine ⟨_,rfl,_,_,_,_,rfl,rfl,e1,rfl,wd,rfl,asc,by omega,fun gd H2 g2=>?_,fun ng H2 g2=>qe tn _ (g1.trans g2)⟩;refine ⟨_,rfl,_,_,_,_,rfl,rfl,g2.tup e1,rfl,.inl ⟨Str.empty,_,_,rfl,pts_of _,fun c hc=>(by cases hc),by decide,fun t b e=>?_,fun _ H3 g3=>qe tn _ (g1.trans (g2.trans g3))⟩⟩;have:=ratO_no ratO_empty;unfold ratP at this;rw [this] at e
  cases e
 ·rw [show Txt.partition (x++⟨#[58]⟩++r) (Str.ofString ":")=(x,⟨#[58]⟩,r) by rw [colon]; exact part_at fr]
  have e0:termO (x++⟨#[58]⟩++r)=(match figO x,ratO r with | some n,some q=>some (n,q) | _,_=>none):=by
   unfold termO;rw [split_first fr]
   by_cases k:58∈r.cps.toList
   ·have rn:ratO r=none:=by
     cases h:ratO r with
     | none=>rfl
     | some q=>exact absurd k (rat_free h (by omega))
    rw [rn]
    rcases first_piece r 58 with z | ⟨y,r2,e,f2⟩
    ·exact absurd k z
    ·rw [e,split_first f2]
     have:=PyProof.Rows.split_pos r2 ⟨#[58]⟩
     cases hs:Txt.split r2 ⟨#[58]⟩ with
     | nil=>rw [hs] at this; exact absurd this (by decide)
     | cons _ _=>cases figO x <;> rfl
   ·rw [split_none k]
  have ascx:Asc x:=asc.left.left;have ascr:Asc r:=asc.right;have lx:x.length+1+r.length=(x++⟨#[58]⟩++r).length:=by rw [zK,zK]; rfl
  have g1:=qy hpt (.tup [.str x,.str ⟨#[58]⟩,.str r]);have e1:SqT K (upd H pt (.tup [.str x,.str ⟨#[58]⟩,.str r])) pt [.str x,.str ⟨#[58]⟩,.str r]:=SqT.of qk;dsimp only;generalize upd H pt (.tup [.str x,.str ⟨#[58]⟩,.str r])=H1 at *;refine ⟨_,rfl,_,_,_,_,rfl,rfl,e1,rfl,x,rfl,ascx,by omega,fun gd H2 g2=>?_,fun ng H2 g2=>qe (by rw [e0,figO_no ng]) _ (g1.trans g2)⟩;refine ⟨_,rfl,_,_,_,_,rfl,rfl,g2.tup e1,rfl,.inl ⟨r,_,_,rfl,pts_of _,ascr,by omega,fun t b e=>?_,fun e H3 g3=>qe ?_ _ (g1.trans (g2.trans g3))⟩⟩
  ·have e:ratP r=some (t,b):=e
   have R:=QZ e;have eq:ratO r=some (Rat.divInt t b):=by unfold ratO; rw [e]; rfl
   intro pr H3 g3 e3;refine ⟨vq,fun t2 ht=>?_⟩;have g4:=qy ht (.tup [.int (valS x:Int),.ref pr]);exact q (valS x,Rat.divInt t b) (by rw [e0,figO_yes gd,eq]) t2 _ (g1.trans (g2.trans (g3.trans g4))) ⟨t2,pr,rfl,SqT.of qk,by show SqT K _ pr (TQ (Rat.divInt t b)); rw [tq_of R]; exact SqT.of (g4 _ _ e3)⟩
  ·have e:ratP r=none:=e
   have eq:ratO r=none:=by unfold ratO; rw [e]; rfl
   rw [e0,eq]
   cases figO x <;> rfl
theorem mem_joined {c d:Nat}:∀ {ps:List Str} {p:Str},p∈ps->d∈p.cps.toList->d∈(Str.join ⟨#[c]⟩ ps).cps.toList
 | [a],p,hp,hc=>by rw [List.mem_singleton.mp hp] at hc; exact hc
 | a::b::r,p,hp,hc=>by
  show d∈(a++⟨#[c]⟩++Str.join ⟨#[c]⟩ (b::r)).cps.toList;rw [yx,yx]
  rcases List.mem_cons.mp hp with z | z
  ·rw [z] at hc
   exact Aa _ (Aa _ hc)
  ·exact A7 _ (mem_joined z hc)
def spUnitRd (K:Ap) (C:Addr):Sp:=fun vs H Q E=>∃ r:Str,vs=[.str r]/\Asc r/\r.length<=100000/\(∀ u,unitO (Txt.split r blank)=some u->RetBy H Q fun H' v=>UnAt false K H' v u)/\(unitO (Txt.split r blank)=none->∀ H',Same H H'->E (.ref C) none H')
theorem piece_asc {x:Str} {c:Nat} (h:Asc x):∀ p∈Txt.split x ⟨#[c]⟩,Asc p:=fun p hp d hd=>by
 have e:=StrLaws.join_split x ⟨#[c]⟩;refine h d ?_;rw [<- e];exact mem_joined hp hd
theorem split_ne (x:Str) (c:Nat):∃ w0 r,Txt.split x ⟨#[c]⟩=w0::r:=by
 cases h:Txt.split x ⟨#[c]⟩ with
 | nil =>
  have:=PyProof.Rows.split_pos x ⟨#[c]⟩;rw [h] at this;exact absurd this (by decide)
 | cons a b=>exact ⟨a,b,rfl⟩
theorem okx6 (T:Txt K mg a):FnOk P w K mg base (CXE P w) 5 a.fx6 a.dx6 ["row"] (spUnitRd K a.czy):=by
 refine T.Fx6.F.okE scx6 ?_ ?_
 ·walk_at "c"
 walk_at "b"
 obtain ⟨rw0,rfl,asc,len,q,qe⟩:=h;refine ltX ?_
 intros
 refine ⟨_,body4 (by rfl)
  (ps_s 1 scx6.nd (pe_bm PySem.F.plainAttrs_str PySem.F.slot_str_split PySem.F.type_str_split mt_split (pv 0) (pa_c qw qj)))
  (ps_if (PW.pt (kW (qW op_eq (pe_ix zJ (pv 1) qx) qw) (vX (qW op_eq (qX (zx) rfl T.m_len boot_len (pa_c (pv 1) qj)) qx)))) (qJ (zj (j9 (pa_c qw (pa_c (zy (jx T) (hr.mono (by decide)) rfl T.Fx7.m T.Fx7.F.kp T.Fx7.b .nil passE (pa_c (pe_ix zJ (pv 1) qx) qj)) qj))))) qY)
  (ps_if (PW.pt (kW (qW op_eq (pe_ix zJ (pv 1) qx) qw) (vX (qW op_gt (qX (zx) rfl T.m_len boot_len (pa_c (pv 1) qj)) qx)))) (qJ (zj (j9 (pa_c qw (pa_c (zy (okyz T) (hr.mono (by decide)) rfl T.Fyz.m T.Fyz.F.kp T.Fyz.b .nil passE (pa_c (pe_ix zJ (pv 1) qx) qj)) (pa_c (pe_compE (E:=E) rfl rfl rfl rfl (N:=["word"]) (ix:=[none]) ⟨rfl,rfl,rfl,rfl,trivial,rfl,trivial⟩ rfl (yW (w6 Q9 (pv 1) (vK qx) po_none)) (fun _=>(pg_n 0 (show (["word"]:List Str).Nodup by decide +kernel))) (fun _ σ=>j3 rfl σ) (fun _=>yQ) (fun _=>(zy (okx4 T) (hr.mono (by decide)) rfl T.Fx4.m T.Fx4.F.kp T.Fx4.b .nil passC (pa_c (pv 0) qj)))) qj)))))) qY)
  (zv rfl rfl rfl rfl rfl T.x_NoText rfl T.mzy (pa_c qw qj)),?_⟩
 refine lt4 ?_
 intros
 have one:(1:Nat)<=sizeLine:=by decide
 refine ⟨_,rfl,rfl,_,_,rfl,rfl,rfl,leB (by omega),fun lw kw=>?_⟩;have short:∀ p∈Txt.split rw0 blank,p.length<=100000:=fun p hp=>Ao (PyProof.Rows.part_short hp) len
 have pasc:∀ p∈Txt.split rw0 blank,Asc p:=piece_asc (c:=32) asc;have cnt:=PyProof.Rows.split_le rw0 blank;obtain ⟨w0,r,es⟩:∃ w0 r,Txt.split rw0 blank=w0::r:=split_ne rw0 32;rw [jW,es];rw [es] at short pasc cnt q qe;have f:=qy kw (.lst ((w0::r).map V.str));have bw:upd H lw (.lst ((w0::r).map V.str)) lw=some (.lst (.str w0::r.map V.str)):=qk;generalize upd H lw (.lst ((w0::r).map V.str))=H1 at *;rw [List.length_cons] at cnt;have lr:((.str w0::r.map V.str:List V).length:Int)=(r.length:Int)+1:=by rw [List.length_cons,List.length_map]; omega
 have fin:unitO (w0::r)=none->1<=sizeLine/\E (.ref a.czy) none H1:=fun z=>⟨one,qe z _ f⟩
 by_cases cb:w0=bendW/\r.length=1
 ·obtain ⟨rfl,l1⟩:=cb
  obtain ⟨w1,rfl⟩:∃ w1,r=[w1]:=by
   match r,l1 with
   | [w1],_=>exact ⟨w1,rfl⟩
  have uo:unitO [bendW,w1]=(figO w1).map Un.bend:=by unfold unitO; exact if_pos ⟨rfl,rfl⟩
  have bw:H1 lw=some (.lst [.str bendW,.str w1]):=bw;refine ⟨_,rfl,_,_,_,_,rfl,rfl,SqL.of bw,rfl,rfl,_,rfl,iteP rfl ⟨_,rfl,_,_,rfl,.inl (SqL.of bw),rfl,_,rfl,iteP rfl ?_⟩⟩;refine ⟨_,rfl,_,_,_,_,rfl,rfl,SqL.of bw,rfl,w1,rfl,pasc w1 (by simp),by have:=short w1 (by simp); omega,fun gd H2 g2=>⟨vq,fun t ht=>?_⟩,fun ng H2 g2=>qe (by rw [uo,figO_no ng]; rfl) _ (f.trans g2)⟩;exact q (.bend (valS w1)) (by rw [uo,figO_yes gd]; rfl) t _ (f.trans (g2.trans (qy ht _))) ⟨t,rfl,SqT.of qk⟩
 by_cases cs:w0=sumW/\1<=r.length
 ·obtain ⟨rfl,l1⟩:=cs
  obtain ⟨w1,r2,rfl⟩:∃ w1 r2,r=w1::r2:=by
   match r,l1 with
   | w1::r2,_=>exact ⟨w1,r2,rfl⟩
  have uo:unitO (sumW::w1::r2)=(match ratO w1,allO termO r2 with | some q,some ts=>some (Un.sum q ts) | _,_=>none):=by
   unfold unitO;dsimp only;rw [if_neg (fun z=>absurd z.1 (by decide)),if_pos rfl]
   all_goals rfl
  have bw:H1 lw=some (.lst (.str sumW::.str w1::r2.map V.str)):=bw;have lr:((.str sumW::.str w1::r2.map V.str:List V).length:Int)=(r2.length:Int)+2:=by rw [List.length_cons,List.length_cons,List.length_map]; omega
  rw [List.length_cons] at cnt;refine ⟨_,rfl,_,_,_,_,rfl,rfl,SqL.of bw,at0,rfl,_,rfl,iteN (by decide) (iteF ?_)⟩;refine ⟨_,rfl,_,_,_,_,rfl,rfl,SqL.of bw,at0,rfl,_,rfl,iteP rfl ⟨_,rfl,_,_,rfl,.inl (SqL.of bw),_,_,rfl,rfl,_,rfl,iteP (by omega) ?_⟩⟩;refine ⟨_,rfl,_,_,_,_,rfl,rfl,SqL.of bw,atN (n:=1) rfl,.inl ⟨w1,_,_,rfl,pts_of w1,pasc w1 (by simp),by have:=short w1 (by simp); omega,fun t b e pr H2 g2 e2=>?_,fun e H2 g2=>qe ?_ _ (f.trans g2)⟩⟩
  case refine_2 =>
   have e:ratP w1=none:=e;have eq:ratO w1=none:=by unfold ratO; rw [e]; rfl
   rw [uo,eq]
  have e:ratP w1=some (t,b):=e;have R:=QZ e;have eq:ratO w1=some (Rat.divInt t b):=by unfold ratO; rw [e]; rfl
  rw [<- tq_of R] at e2;generalize Rat.divInt t b=c at *;rw [eq] at uo;refine ⟨_,rfl,_,rfl,_,_,rfl,SqL.of (g2 _ _ bw),fun ls ks=>?_⟩;rw [show cutV (.str sumW::.str w1::r2.map V.str) (some 2) none=r2.map V.str from cutLo (n:=2) (by omega)];have f2:=qy ks (.lst (r2.map V.str));have bs:=qk (H:=H2) (a:=ls) (o:=.lst (r2.map V.str));have e2:=f2 _ _ e2;have gA:=f.trans (g2.trans f2);generalize upd H2 ls (.lst (r2.map V.str))=H3 at *;have lt:(r2.map V.str).length=r2.length:=by rw [List.length_map]
  refine ⟨ls,rfl,⟨_,SqL.of bs⟩,yv (n:=r2.length) (fun i ys H'=>Same H3 H'/\∃ ts,allO termO (r2.take i)=some ts/\TL K H' ys ts) ⟨Same.refl _,[],rfl,.nil⟩ (smallB (by omega)) ?_ ?_ ?_⟩
  case refine_2 =>
   rintro i ys H' hi ⟨g,_⟩;exact ⟨_,_,SqL.of (g _ _ bs),A4 (by omega)⟩
  case refine_3 =>
   rintro i m' ys H' cc x Hk hi ⟨g,ts,et,rt⟩ ⟨rfl,y1⟩ nx _;have ex:=y1 _ (SqL.of (g _ _ bs));obtain ⟨x0,e0⟩:∃ x0,r2[i]?=some x0:=⟨_,A4 hi⟩;rw [List.getElem?_map,e0] at ex;have ex:V.str x0=x:=Am ex;have mx:x0∈r2:=A9 e0;refine Or.inl ⟨rfl,_,rfl,x0,congrArg (fun z=>[z]) ex.symm,pasc x0 (by simp [mx]),short x0 (by simp [mx]),fun y ey p3 H4 g4 e4=>nx _ _ ⟨g.trans g4,ts++[y],?_,Paired.snoc (rt.mono g4) e4⟩,fun en H4 g4=>qe ?_ _ (gA.trans (g.trans g4))⟩
   ·rw [zZ e0]
    exact vQ et ey
   ·rw [uo,kk mx en]
  rintro vt H4 ⟨g4,ts,et,r4⟩;rw [A5 (Nat.le_refl _)] at et;rw [et] at uo;refine ⟨⟨_,SqL.of (g4 _ _ bs),by omega⟩,fun lt2 k2=>⟨(show 3<=sizeLine by decide),fun t ht=>?_⟩⟩;have f4:=qy k2 (.lst vt);have f5:=qy ht (.tup [.str sumW,.ref pr,.ref lt2]);have f45:=f4.trans f5;exact q (.sum c ts) uo t _ (gA.trans (g4.trans f45)) ⟨t,pr,lt2,vt,rfl,SqT.of qk,SqT.of (f45 _ _ (g4 _ _ e2)),SqL.of (f5 _ _ qk),TL.mono r4 f45⟩
 have uo:unitO (w0::r)=none:=by
  match r,cb,cs with
  | [],_,_=>rfl
  | w1::r2,cb,cs =>
   exact (if_neg (c:=w0=bendW/\r2=[]) fun z=>cb ⟨z.1,by rw [z.2]; rfl⟩).trans (if_neg (c:=w0=sumW) fun z=>cs ⟨z,by rw [List.length_cons]; omega⟩)
 have fin:=fin uo;refine ⟨_,rfl,_,_,_,_,rfl,rfl,SqL.of bw,at0,rfl,_,rfl,?_⟩
 by_cases c1:V.str w0=V.str bendW
 ·refine iteP c1 ⟨_,rfl,_,_,rfl,.inl (SqL.of bw),rfl,_,rfl,iteN (fun y=>cb ⟨V.str.inj c1,by have:=V.int.inj y; omega⟩) ?_⟩
  refine ⟨_,rfl,_,_,_,_,rfl,rfl,SqL.of bw,at0,rfl,_,rfl,iteN (fun z=>absurd (c1.symm.trans z) (by decide)) (iteF fin)⟩
 ·refine iteN c1 (iteF ?_)
  refine ⟨_,rfl,_,_,_,_,rfl,rfl,SqL.of bw,at0,rfl,_,rfl,?_⟩
  by_cases c2:V.str w0=V.str sumW
  ·exact iteP c2 ⟨_,rfl,_,_,rfl,.inl (SqL.of bw),_,_,rfl,rfl,_,rfl,iteN (fun y=>cs ⟨V.str.inj c2,by omega⟩) fin⟩
  ·exact iteN c2 (iteF fin)
def spPlacesRd (C:Addr):Sp:=fun vs H Q E=>∃ x h:Str,vs=[.str x,.str h]/\Asc x/\x.length<=100000/\(∀ ns,yZ h (Txt.split x blank)=some ns->∀ l H',Same H H'->H' l=some (.lst (outV ns))->Q (.ref l) H')/\(yZ h (Txt.split x blank)=none->∀ H',Same H H'->E (.ref C) none H')
theorem okx1 (T:Txt K mg a):FnOk P w K mg base (CXE P w) 2 a.fx1 a.dx1 ["row", "head"] (spPlacesRd a.czy):=by
 refine T.Fx1.F.okE scx1 ?_ ?_
 ·walk_at "c"
 walk_at "b"
 obtain ⟨rw0,hd,rfl,asc,len,q,qe⟩:=h;refine ltX ?_
 intros
 refine ⟨_,body3 (by rfl)
  (ps_s 2 scx1.nd (pe_bm PySem.F.plainAttrs_str PySem.F.slot_str_split PySem.F.type_str_split mt_split (pv 0) (pa_c qw qj)))
  (ps_if (qW op_ne (pe_ix zJ (pv 2) qx) (pv 1)) (qJ (zv rfl rfl rfl rfl rfl T.x_NoText rfl T.mzy (pa_c qw qj))) qY)
  (zj (pe_compE (E:=E) rfl rfl rfl rfl (N:=["word"]) (ix:=[none]) ⟨rfl,rfl,rfl,rfl,trivial,rfl,trivial⟩ rfl (yW (w6 Q9 (pv 2) (vK qx) po_none)) (fun _=>(pg_n 0 (show (["word"]:List Str).Nodup by decide +kernel))) (fun _ σ=>j3 rfl σ) (fun _=>yQ) (fun _=>(zy (jx T) (hr.mono (by decide)) rfl T.Fx7.m T.Fx7.F.kp T.Fx7.b .nil passC (pa_c (pv 0) qj))))),?_⟩
 refine lt3 ?_
 intros
 have one:(1:Nat)<=sizeLine:=by decide
 refine ⟨_,rfl,rfl,_,_,rfl,rfl,rfl,leB (by omega),fun lw kw=>?_⟩;have short:∀ p∈Txt.split rw0 blank,p.length<=100000:=fun p hp=>Ao (PyProof.Rows.part_short hp) len
 have pasc:∀ p∈Txt.split rw0 blank,Asc p:=piece_asc (c:=32) asc;have cnt:=PyProof.Rows.split_le rw0 blank;obtain ⟨w0,r,es⟩:∃ w0 r,Txt.split rw0 blank=w0::r:=split_ne rw0 32;rw [jW,es];rw [es] at short pasc cnt q qe;have f:=qy kw (.lst ((w0::r).map V.str));have bw:upd H lw (.lst ((w0::r).map V.str)) lw=some (.lst (.str w0::r.map V.str)):=qk;generalize upd H lw (.lst ((w0::r).map V.str))=H1 at *;rw [List.length_cons] at cnt;refine ⟨_,rfl,_,_,_,_,rfl,rfl,SqL.of bw,at0,_,rfl,rfl,_,rfl,?_⟩
 by_cases c:w0=hd
 case neg =>
  have po:yZ hd (w0::r)=none:=by unfold yZ; exact if_neg c
  exact iteNP (fun z=>c (V.str.inj z)) ⟨one,qe po _ f⟩
 have po:yZ hd (w0::r)=allO figO r:=by unfold yZ; exact if_pos c
 refine iteNS (congrArg V.str c) ?_;refine ⟨_,rfl,_,rfl,_,_,rfl,SqL.of bw,fun ls ks=>?_⟩;rw [show cutV (.str w0::r.map V.str) (some 1) none=r.map V.str from cutLo (n:=1) (by rw [List.length_cons]; omega)];have f2:=qy ks (.lst (r.map V.str));have bs:=qk (H:=H1) (a:=ls) (o:=.lst (r.map V.str));generalize upd H1 ls (.lst (r.map V.str))=H2 at *;have lt:(r.map V.str).length=r.length:=by rw [List.length_map]
 refine ⟨ls,rfl,⟨_,SqL.of bs⟩,yv (n:=r.length) (fun i ys H'=>Same H2 H'/\∃ ns,allO figO (r.take i)=some ns/\ys=outV ns) ⟨Same.refl _,[],rfl,rfl⟩ (smallB (by omega)) ?_ ?_ ?_⟩
 case refine_2 =>
  rintro i ys H' hi ⟨g,_⟩;exact ⟨_,_,SqL.of (g _ _ bs),A4 (by omega)⟩
 case refine_3 =>
  rintro i m' ys H' cc x Hk hi ⟨g,ns,en,rfl⟩ ⟨rfl,y1⟩ nx _;have ex:=y1 _ (SqL.of (g _ _ bs));obtain ⟨x0,e0⟩:∃ x0,r[i]?=some x0:=⟨_,A4 hi⟩;rw [List.getElem?_map,e0] at ex;have ex:V.str x0=x:=Am ex;have mx:x0∈r:=A9 e0;refine Or.inl ⟨rfl,_,rfl,x0,congrArg (fun z=>[z]) ex.symm,pasc x0 (by simp [mx]),by have:=short x0 (by simp [mx]); omega,fun gd H3 g3=>nx _ _ ⟨g.trans g3,ns++[valS x0],?_,?_⟩,fun ng H3 g3=>qe ?_ _ (f.trans (f2.trans (g.trans g3)))⟩
  ·rw [zZ e0]
   exact vQ en (figO_yes gd)
  ·unfold outV
   rw [Al];rfl
  ·rw [po]
   exact kk mx (figO_no ng)
 rintro ys H3 ⟨g3,ns,en,rfl⟩;rw [A5 (Nat.le_refl _)] at en;refine ⟨⟨_,SqL.of (g3 _ _ bs),by omega⟩,fun lr kr=>?_⟩;exact q ns (po.trans en) lr _ (f.trans (f2.trans (g3.trans (qy kr _)))) qk
def jy (K:Ap) (a:Adr) (H:Hp) (pn:Addr) (many:Nat) (us:List Un) (outs:List Nat):Prop:=∃ lu lo vk,NetAt a.czl H pn lu lo many/\SqL K H lu vk/\UL true K H vk us/\SqL K H lo (outV outs)
theorem jy.mono {K:Ap} {a:Adr} {H H':Hp} {pn:Addr} {many:Nat} {us:List Un} {outs:List Nat} (h:jy K a H pn many us outs) (g:Same H H'):jy K a H' pn many us outs:=by
 obtain ⟨lu,lo,vk,h1,h2,h3,h4⟩:=h;exact ⟨lu,lo,vk,h1.mono g,g.seq h2,h3.mono g,g.seq h4⟩
theorem cutMid {a z:V} {mid:List V}:cutV (a::mid++[z]) (some 1) (some (-1))=mid:=by
 unfold cutV;have l:(a::mid++[z]).length=mid.length+2:=by rw [Ad,List.length_cons,A6]
 have e1:HT.sIx (a::mid++[z]).length 0 (some 1)=1:=by
  have e:HT.sIx (a::mid++[z]).length 0 (some ((1:Nat):Int))=min 1 (a::mid++[z]).length:=HT.sIx_nat ..;have e:HT.sIx (a::mid++[z]).length 0 (some 1)=min 1 (a::mid++[z]).length:=e;omega
 have e2:HT.sIx (a::mid++[z]).length (a::mid++[z]).length (some (-1))=mid.length+1:=by
  show (if (-1:Int)<0 then (-1+((a::mid++[z]).length:Int)).toNat else min (-1:Int).toNat (a::mid++[z]).length)=_;rw [if_pos (by decide)];omega
 rw [e1,e2];show ((mid++[z]).take (mid.length+1 - 1))=mid;rw [show mid.length+1 - 1=mid.length by omega,List.take_left]
theorem atLast {a z:V} {mid:List V}:atI (a::mid++[z]) (-1)=some z:=by
 have l:(a::mid++[z]).length=mid.length+2:=by rw [Ad,List.length_cons,A6]
 unfold atI ixN;rw [if_neg (by decide),if_pos (by omega)];rw [show (-1+((a::mid++[z]).length:Int)).toNat=mid.length+1 by omega];show (a::mid++[z])[mid.length+1]?=some z;rw [A1 (by rw [List.length_cons]; exact Nat.le_refl _)]
 simp
theorem WfN.snoc (h:WfN many us) (k:WfU (many+us.length) u):WfN many (us++[u]):=fun j v e=>by
 by_cases hj:j<us.length
 ·rw [A2 hj] at e
  exact h j v e
 ·have hl:=(List.getElem?_eq_some_iff.mp e).1
  rw [Ad,A6] at hl;have ej:j=us.length:=by omega
  subst ej;rw [A1 (Nat.le_refl _),Nat.sub_self] at e;have e:u=v:=by simpa using e
  rw [<- e];exact k
theorem first_bad {α:Type} (p:α->Prop):∀ xs:List α,(∀ x∈xs,p x)\/∃ l x r,xs=l++x::r/\(∀ y∈l,p y)/\¬ p x
 | []=>.inl fun x h=>by cases h
 | y::xs=>by
  by_cases h:p y
  ·rcases first_bad p xs with k | ⟨l,x,r,rfl,h1,h2⟩
   ·left
    intro x hx
    rcases List.mem_cons.mp hx with rfl | hx
    ·exact h
    ·exact k x hx
   ·refine .inr ⟨y::l,x,r,rfl,fun z hz=>?_,h2⟩
    rcases List.mem_cons.mp hz with rfl | hz
    ·exact h
    ·exact h1 z hz
  ·exact .inr ⟨[],y,xs,rfl,fun z hz=>(by cases hz),h⟩
theorem QQ {α β:Type} {F:α->β->Prop}:∀ {l:List β} {x:β} {r:List β} {vs:List α},Paired F vs (l++x::r)->∃ v1 v v2,vs=v1++v::v2/\Paired F v1 l/\F v x/\Paired F v2 r
 | [],_,_,_,.cons h t=>⟨[],_,_,rfl,.nil,h,t⟩
 | _::l,_,_,_,.cons h t=>by
  obtain ⟨v1,v,v2,rfl,h1,h2,h3⟩:=QQ (l:=l) t;exact ⟨_::v1,v,v2,rfl,.cons h h1,h2,h3⟩
theorem wf_cut {m:Nat}:∀ (us2 us1:List Un),WfN m us1->WfN m (us1++us2)\/∃ l u r,us1++us2=l++u::r/\WfN m l/\¬ WfU (m+l.length) u
 | [],us1,h=>.inl (by rw [List.append_nil]; exact h)
 | u::us2,us1,h=>by
  by_cases k:WfU (m+us1.length) u
  ·have:=wf_cut us2 (us1++[u]) (h.snoc k)
   rw [List.append_assoc] at this;exact this
  ·exact .inr ⟨us1,u,us2,rfl,h,k⟩
def ShortU:Un->Prop
 | .sum _ ts=>ts.length<=100
 | .bend _=>True
theorem unit_bad {K:Ap} {H:Hp} {e:Nat} {v:V} {u:Un} (h:UnAt false K H v u) (s:ShortU u) (n:¬ WfU e u):NU K H e v:=by
 cases u with
 | bend p =>
  obtain ⟨t,rfl,h1⟩:=h;have n:¬ p<e:=n;exact .bend h1 (.high (by omega))
 | sum c ts =>
  obtain ⟨t,pc,pt,vs,rfl,h1,h2,h3,h4⟩:=h;have h3:SqL K H pt vs:=h3;have s:ts.length<=100:=s
  rcases first_bad (fun x:Nat×Rat=>x.1<e) ts with k | ⟨l,x,r,rfl,k1,k2⟩
  ·exact .twice h1 h2 h3 h4 k s fun nd=>n ⟨k,nd,s⟩
  ·obtain ⟨v1,w,v2,rfl,p1,⟨tt,rr,rfl,q1,q2⟩,p3⟩:=QQ h4
   have l1:=Paired.length p1;have l3:=Paired.length p3;rw [Ad,List.length_cons] at s;exact .sum h1 (.bad h2 h3 p1 k1 (by omega) (.fst q1 q2 (.high (by omega))))
theorem net_bad {K:Ap} {H:Hp} {m:Nat} {l o:Addr} {vu:List V} {us:List Un} {outs:List Nat} (hl:SqL K H l vu) (ru:UL false K H vu us) (ho:SqL K H o (outV outs)) (s:∀ u∈us,ShortU u) (n:¬ NetOk m us outs):NN K H (.int (m:Int)) (.ref l) (.ref o):=by
 by_cases m1:m<1
 ·exact .low (by omega)
 by_cases m6:6<m
 ·exact .high (by omega)
 have lvu:=ru.length;have lo:(outV outs).length=outs.length:=by unfold outV; rw [List.length_map]
 by_cases l80:80<us.length
 ·exact .units (by omega) (by omega) (.len hl (by omega))
 rcases wf_cut (m:=m) us [] (fun k u e=>nil_get e) with wf | ⟨x,u,r,e,wf,nu⟩
 ·have wf:WfN m us:=wf
  by_cases b20:20<(us.filter isB).length
  ·exact .units (by omega) (by omega) (.bends hl ru wf (by omega) b20)
  refine .outs (by omega) (by omega) hl ru wf (by omega) (by omega) ?_
  by_cases o12:outs.length<1\/12<outs.length
  ·exact .len ho (by omega)
  rcases first_bad (fun z:Nat=>z<m+us.length) outs with k | ⟨x,z,r,rfl,k1,k2⟩
  ·exact absurd ⟨wf,by omega,by omega,by omega,by omega,by omega,by omega,k⟩ n
  ·have e:outV (x++z::r)=outV x++.int (z:Int)::outV r:=by unfold outV; rw [Al]; rfl
   rw [e] at ho;rw [Ad,List.length_cons] at o12;have lr:(outV r).length=r.length:=by unfold outV; rw [List.length_map]
   exact .bad ho k1 (by omega) (.high (by omega))
 ·have e:us=x++u::r:=e
  subst e;obtain ⟨v1,w,v2,rfl,p1,p2,p3⟩:=QQ ru;have l1:=Paired.length p1;have l3:=Paired.length p3;rw [Ad,List.length_cons] at l80;refine .units (by omega) (by omega) (.bad hl p1 wf (by omega) ?_);rw [l1];exact unit_bad p2 (s u (A7 _ Ae)) nu
abbrev insW:Str:=Str.ofString "ins"
abbrev outW:Str:=Str.ofString "outs"
def combO:Option (List Nat)->Option (List Un)->Option (List Nat)->Option (Nat×List Un×List Nat)
 | some [m],some us,some outs=>some (m,us,outs)
 | _,_,_=>none
noncomputable def netO (x:Str):Option (Nat×List Un×List Nat):=match Txt.split x jz with
 | f::b::r=>combO (yZ insW (Txt.split f blank)) (allO (fun z=>unitO (Txt.split z blank)) (b::r).dropLast) (yZ outW (Txt.split ((b::r).getLast (by simp)) blank))
 | _=>none
theorem netO_one {x f:Str} (h:Txt.split x jz=[f]):netO x=none:=by unfold netO; rw [h]
theorem netO_two {x f z:Str} {mid:List Str} (h:Txt.split x jz=f::mid++[z]):netO x=combO (yZ insW (Txt.split f blank)) (allO (fun z=>unitO (Txt.split z blank)) mid) (yZ outW (Txt.split z blank)):=by
 unfold netO;rw [h]
 cases mid with
 | nil=>rfl
 | cons b mid =>
  show combO _ (allO _ (b::(mid++[z])).dropLast) (yZ outW (Txt.split ((b::(mid++[z])).getLast _) blank))=_;have e1:(b::(mid++[z])).dropLast=b::mid:=by
   show ((b::mid)++[z]).dropLast=_;rw [List.dropLast_concat]
  have e2:∀ pf,(b::(mid++[z])).getLast pf=z:=fun pf=>by
   show ((b::mid)++[z]).getLast _=z;rw [List.getLast_concat]
  rw [e1,e2]
theorem rows_cut (xs:List Str) (n:xs≠[]):(∃ f,xs=[f])\/∃ f mid z,xs=f::mid++[z]:=by
 cases xs with
 | nil=>exact absurd rfl n
 | cons f r =>
  by_cases h:r=[]
  ·exact .inl ⟨f,by rw [h]⟩
  ·refine .inr ⟨f,r.dropLast,r.getLast h,?_⟩
   rw [List.cons_append,List.dropLast_concat_getLast]
def spNetRd (K:Ap) (a:Adr):Sp:=fun vs H Q E=>(∃ x:Str,vs=[.str x]/\Asc x/\x.length<=200000/\(∀ r∈Txt.split x jz,r.length<=90000/\(Txt.split r blank).length<=100)/\(∀ m us outs,netO x=some (m,us,outs)->NetOk m us outs->∀ p H',Same H H'->jy K a H' p m us outs->Q (.ref p) H')/\(∀ m us outs,netO x=some (m,us,outs)->¬ NetOk m us outs->∀ H',Same H H'->E (.ref a.czw) none H')/\(netO x=none->∀ H',Same H H'->E (.ref a.czy) none H')) \/
 (∃ v,vs=[v]/\IsS K H v/\∀ H',Same H H'->E (.ref a.czy) none H')
theorem unitO_short {ws:List Str} {u:Un} (h:unitO ws=some u) (l:ws.length<=100):ShortU u:=by
 match ws,h with
 | w0::w1::r,h =>
  unfold unitO at h;dsimp only at h
  split at h
  ·cases e:figO w1 with
   | none=>rw [e] at h; cases h
   | some n=>rw [e] at h; cases h; trivial
  ·split at h
   ·cases e1:ratO w1 with
    | none=>rw [e1] at h; cases h
    | some q =>
     cases e2:allO termO r with
     | none=>rw [e1,e2] at h; cases h
     | some ts =>
      rw [e1,e2] at h
      cases h
      have:=allO_len e2;rw [List.length_cons,List.length_cons] at l;show ts.length<=100;omega
   ·cases h
theorem allO_all {α β:Type} {f:α->Option β} {P:β->Prop}:∀ {xs:List α} {ys:List β},allO f xs=some ys->(∀ x∈xs,∀ y,f x=some y->P y)->∀ y∈ys,P y
 | [],ys,h,_=>by
  have h:[]=ys:=Am h;intro y hy;rw [<- h] at hy
  cases hy
 | z::xs,ys,h,k=>by
  unfold allO at h
  cases hz:f z with
  | none=>rw [hz] at h; cases h
  | some b =>
   cases hx:allO f xs with
   | none=>rw [hz,hx] at h; cases h
   | some bs =>
    rw [hz,hx] at h;have h:b::bs=ys:=Am h;intro y hy;rw [<- h] at hy
    rcases List.mem_cons.mp hy with rfl | hy
    ·exact k z Ae y hz
    ·exact allO_all hx (fun x hx2=>k x (List.mem_cons_of_mem _ hx2)) y hy
theorem placesO_head {h g:Str} {ws:List Str} {ns:List Nat} (e:yZ h ws=some ns) (n:h≠g):yZ g ws=none:=by
 cases ws with
 | nil=>rfl
 | cons w0 r =>
  by_cases c:w0=h
  ·unfold yZ
   exact if_neg fun z=>n (c.symm.trans z)
  ·have k:yZ h (w0::r)=none:=by unfold yZ; exact if_neg c
   rw [k] at e
   cases e
theorem cutMid1 {x:V}:cutV [x] (some 1) (some (-1))=[]:=rfl
theorem okx0 (T:Txt K mg a):FnOk P w K mg base (CXE P w) 9 a.fx0 a.dx0 ["text"] (spNetRd K a):=by
 refine T.Fx0.F.okE x5 (fun vs H Q E h=>?_) (fun cdv A outer s H vs Q E hr h=>?_)
 ·rcases h with ⟨_,rfl,_⟩ | ⟨_,rfl,_⟩
  ·rfl
  ·rfl
 refine ltX ?_
 intros
 refine ⟨_,body6 (by rfl)
  (ps_if (yy (y8 (qX (call_iss) rfl T.m_isinstance boot_isinstance (pa_c (pv 0) (pa_c (jq (v:=.ty "str") rfl T.m_str boot_str rfl) qj))))) (qJ (zv rfl rfl rfl rfl rfl T.x_NoText rfl T.mzy (pa_c qw qj))) qY)
  (ps_s 1 x5.nd (pe_bm PySem.F.plainAttrs_str PySem.F.slot_str_split PySem.F.type_str_split mt_split (pv 0) (pa_c qw qj)))
  (ps_s 2 x5.nd (zy (okx1 T) (hr.mono (by decide)) rfl T.Fx1.m T.Fx1.F.kp T.Fx1.b .nil passE (pa_c (pe_ix zJ (pv 1) qx) (pa_c qw qj))))
  (ps_if (qW op_ne (qX (zx) rfl T.m_len boot_len (pa_c (pv 2) qj)) qx) (qJ (zv rfl rfl rfl rfl rfl T.x_NoText rfl T.mzy (pa_c qw qj))) qY)
  (vY (E:=E) rfl rfl rfl rfl (i:=3) x5.nd rfl (Or.inl rfl) (N:=["row"]) (ix:=[none]) ⟨rfl,rfl,rfl,rfl,trivial,rfl,trivial⟩ rfl (yW (w6 Q9 (pv 1) (vK qx) (vK (pe_un un_neg qx)))) (fun _=>(pg_n 0 (show (["row"]:List Str).Nodup by decide +kernel))) (fun _ σ=>j3 rfl σ) (fun _=>yQ) (fun _=>(zy (okx6 T) (hr.mono (by decide)) rfl T.Fx6.m T.Fx6.F.kp T.Fx6.b .nil passC (pa_c (pv 0) qj))))
  (zj (pe_make T.Mzl (okzm T) (hr.mono (by decide)) rfl T.mzl T.bzm .nil passE (pa_c (pe_ix zJ (pv 2) qx) (pa_c (pv 3) (pa_c (zy (okx1 T) (hr.mono (by decide)) rfl T.Fx1.m T.Fx1.F.kp T.Fx1.b .nil passE (pa_c (pe_ix zJ (pv 1) (pe_un un_neg qx)) (pa_c qw qj))) qj))))),?_⟩
 refine lt6 ?_
 intros
 have one:(1:Nat)<=sizeLine:=by decide
 rcases h with ⟨x,rfl,asc,len,rows,q,qn,qe⟩ | ⟨v,rfl,is,qe⟩
 case inr=>exact ⟨_,rfl,v,rfl,.inr ⟨is,_,rfl,iteT ⟨one,qe _ (Same.refl _)⟩⟩⟩
 refine ⟨_,rfl,_,rfl,.inl ⟨x,rfl,_,rfl,iteF ?_⟩⟩;refine ⟨_,rfl,rfl,_,_,rfl,rfl,rfl,leB (by omega),fun lw kw=>?_⟩;have pasc:∀ p∈Txt.split x jz,Asc p:=piece_asc (c:=10) asc;have cnt:=PyProof.Rows.split_le x jz;rw [line_is]
 rcases rows_cut (Txt.split x jz) (by obtain ⟨w0,r,e⟩:=split_ne x 10; rw [show Txt.split x jz=w0::r from e]; simp) with ⟨f,es⟩ | ⟨f,mid,z,es⟩
 ·
  have no:=netO_one es;rw [es];rw [es] at pasc rows;have rf:=rows f (List.mem_singleton.mpr rfl);have g0:=qy kw (.lst ([f].map V.str));have bw:upd H lw (.lst ([f].map V.str)) lw=some (.lst [.str f]):=qk;generalize upd H lw (.lst ([f].map V.str))=H1 at *;refine ⟨_,rfl,_,_,_,_,rfl,rfl,SqL.of bw,rfl,f,insW,rfl,pasc f (List.mem_singleton.mpr rfl),by omega,fun ns en lm H2 g2 em=>?_,fun en H2 g2=>qe no _ (g0.trans g2)⟩;have lo:(outV ns).length=ns.length:=by unfold outV; rw [List.length_map]
  refine ⟨_,rfl,_,_,rfl,.inl (SqL.of em),rfl,_,rfl,?_⟩
  by_cases c:ns.length=1
  case neg=>exact iteNP (fun z=>c (by have:=V.int.inj z; omega)) ⟨one,qe no _ (g0.trans g2)⟩
  obtain ⟨m,rfl⟩:∃ m,ns=[m]:=by
   match ns,c with
   | [m],_=>exact ⟨m,rfl⟩
  have em:H2 lm=some (.lst [.int (m:Int)]):=em;refine iteNS rfl ?_;have bw:=g2 _ _ bw;refine ⟨_,rfl,_,rfl,_,rfl,_,rfl,_,_,rfl,SqL.of bw,fun ls ks=>?_⟩;rw [cutMid1];have f2:=qy ks (.lst []);have bs:=qk (H:=H2) (a:=ls) (o:=.lst []);have bw:=f2 _ _ bw;have em:=f2 _ _ em;have gA:=g0.trans (g2.trans f2);generalize upd H2 ls (.lst [])=H3 at *;refine ⟨ls,rfl,⟨_,SqL.of bs⟩,yv (n:=0) (fun i ys H'=>H'=H3/\ys=[]) ⟨rfl,rfl⟩ (by decide) ?_ ?_ ?_⟩
  case refine_2 =>
   rintro i ys H' hi _;omega
  case refine_3 =>
   rintro i m' ys H' cc y Hk hi;omega
  rintro ys H4 ⟨rfl,rfl⟩;refine ⟨⟨_,SqL.of bs,Nat.le_refl _⟩,fun lU kU=>?_⟩;have f4:=qy kU (.lst []);refine ⟨_,rfl,_,_,_,_,rfl,rfl,SqL.of (f4 _ _ em),rfl,_,rfl,_,rfl,_,rfl,_,_,_,_,rfl,rfl,SqL.of (f4 _ _ bw),rfl,f,outW,rfl,pasc f (List.mem_singleton.mpr rfl),by omega,fun ns en2 lm H2 g2 em=>?_,fun en2 H5 g5=>qe no _ (gA.trans (f4.trans g5))⟩;rw [placesO_head en (by decide)] at en2
  cases en2
 have no:=netO_two es;rw [es];rw [es] at pasc rows cnt;have mf:f∈f::mid++[z]:=Aa _ Ae;have mz:z∈f::mid++[z]:=A7 _ (List.mem_singleton.mpr rfl);have rf:=rows f mf;have rz:=rows z mz;have lmid:mid.length+2<=200002:=by rw [Ad,List.length_cons,A6] at cnt; omega
 have em0:(f::mid++[z]).map V.str=.str f::mid.map V.str++[.str z]:=by rw [Al]; rfl
 rw [em0];have g0:=qy kw (.lst (.str f::mid.map V.str++[.str z]));have bw:=qk (H:=H) (a:=lw) (o:=.lst (.str f::mid.map V.str++[.str z]));generalize upd H lw (.lst (.str f::mid.map V.str++[.str z]))=H1 at *;refine ⟨_,rfl,_,_,_,_,rfl,rfl,SqL.of bw,at0,f,insW,rfl,pasc f mf,by omega,fun ns en lm H2 g2 em=>?_,fun en H2 g2=>qe (by rw [no,en]; rfl) _ (g0.trans g2)⟩;have lo:(outV ns).length=ns.length:=by unfold outV; rw [List.length_map]
 refine ⟨_,rfl,_,_,rfl,.inl (SqL.of em),rfl,_,rfl,?_⟩
 by_cases c:ns.length=1
 case neg =>
  refine iteNP (fun z=>c (by have:=V.int.inj z; omega)) ⟨one,qe ?_ _ (g0.trans g2)⟩;rw [no,en]
  match ns,c with
  | [],_=>rfl
  | _::_::_,_=>rfl
 obtain ⟨m,rfl⟩:∃ m,ns=[m]:=by
  match ns,c with
  | [m],_=>exact ⟨m,rfl⟩
 have em:H2 lm=some (.lst [.int (m:Int)]):=em;rw [en] at no;refine iteNS rfl ?_;have gA:=g0.trans g2;have bw:=g2 _ _ bw;refine ⟨_,rfl,_,rfl,_,rfl,_,rfl,_,_,rfl,SqL.of bw,fun ls ks=>?_⟩;rw [cutMid];have f2:=qy ks (.lst (mid.map V.str));have bs:=qk (H:=H2) (a:=ls) (o:=.lst (mid.map V.str));have bw:=f2 _ _ bw;have em:=f2 _ _ em;have gA:=gA.trans f2;generalize upd H2 ls (.lst (mid.map V.str))=H3 at *;have lt:(mid.map V.str).length=mid.length:=by rw [List.length_map]
 refine ⟨ls,rfl,⟨_,SqL.of bs⟩,yv (n:=mid.length) (fun i ys H'=>Same H3 H'/\∃ us,allO (fun z=>unitO (Txt.split z blank)) (mid.take i)=some us/\UL false K H' ys us) ⟨Same.refl _,[],rfl,.nil⟩ (smallB (by omega)) ?_ ?_ ?_⟩
 case refine_2 =>
  rintro i ys H' hi ⟨g,_⟩;exact ⟨_,_,SqL.of (g _ _ bs),A4 (by omega)⟩
 case refine_3 =>
  rintro i m' ys H' cc y Hk hi ⟨g,us,eu,ru⟩ ⟨rfl,y1⟩ nx _;have ex:=y1 _ (SqL.of (g _ _ bs));obtain ⟨x0,e0⟩:∃ x0,mid[i]?=some x0:=⟨_,A4 hi⟩;rw [List.getElem?_map,e0] at ex;have ex:V.str x0=y:=Am ex;have m0:x0∈mid:=A9 e0;have mx:x0∈f::mid++[z]:=Aa _ (List.mem_cons_of_mem _ m0);have rx:=rows x0 mx;refine Or.inl ⟨rfl,_,rfl,x0,congrArg (fun z=>[z]) ex.symm,pasc x0 mx,by omega,fun u hu p3 H4 g4 e4=>nx _ _ ⟨g.trans g4,us++[u],?_,UL.snoc (ru.mono g4) e4⟩,fun en H4 g4=>qe ?_ _ (gA.trans (g.trans g4))⟩
  ·rw [zZ e0]
   exact vQ eu hu
  ·rw [no,kk (f:=fun z=>unitO (Txt.split z blank)) m0 en]
   rfl
 rintro vu H4 ⟨g4,us,eu,r4⟩;rw [A5 (Nat.le_refl _)] at eu;rw [eu] at no;have sh:∀ u∈us,ShortU u:=allO_all eu fun x0 h0 u hu=>unitO_short hu (rows x0 (Aa _ (List.mem_cons_of_mem _ h0))).2
 refine ⟨⟨_,SqL.of (g4 _ _ bs),by omega⟩,fun lU kU=>?_⟩;have f4:=qy kU (.lst vu);have eU:=qk (H:=H4) (a:=lU) (o:=.lst vu);have r4:=r4.mono f4;have gB:=g4.trans f4;have bw:=gB _ _ bw;have em:=gB _ _ em;have gA:=gA.trans gB;generalize upd H4 lU (.lst vu)=H5 at *;refine ⟨_,rfl,_,_,_,_,rfl,rfl,SqL.of em,rfl,_,rfl,_,rfl,_,rfl,_,_,_,_,rfl,rfl,SqL.of bw,atLast,z,outW,rfl,pasc z mz,by omega,fun outs eo lO H6 g6 eO=>?_,fun eo H6 g6=>qe (by rw [no,eo]; rfl) _ (gA.trans g6)⟩;rw [eo] at no;have no:netO x=some (m,us,outs):=no;have eU:=g6 _ _ eU;have r4:=r4.mono g6;have gA:=gA.trans g6;refine fun y dx hx hdx ne=>?_
 have ga:=qy hdx (.own y);have hx':upd H6 dx (.own y) y=none:=by rw [zk (Ne.symm ne)]; exact hx
 have gb:=qy hx' (.ins a.czl dx []);refine ⟨H6,y,dx,_,_,_,rfl,qk,ga.trans gb,hx,?_⟩
 by_cases ok:NetOk m us outs
 ·refine .inl ⟨lU,lO,m,vu,us,outs,rfl,rfl,rfl,SqL.of eU,r4,SqL.of eO,ok,fun ku ko vk H7 g7 hN eu eo rk=>⟨rfl,?_⟩⟩
  exact q m us outs no ok y H7 (gA.trans g7) ⟨ku,ko,vk,hN,SqL.of eu,rk,SqL.of eo⟩
 ·exact .inr ⟨net_bad (SqL.of eU) r4 (SqL.of eO) sh ok,fun H7 g7=>qn m us outs no ok _ (gA.trans g7)⟩
theorem asc_join {c:Nat} (hc:c<128):∀ {ps:List Str},(∀ p∈ps,Asc p)->Asc (Str.join ⟨#[c]⟩ ps)
 | [],_=>fun d hd=>by cases hd
 | [p],h=>h p (List.mem_singleton.mpr rfl)
 | p::q::ps,h=>fun d hd=>by
  have hd:d∈(p++⟨#[c]⟩++Str.join ⟨#[c]⟩ (q::ps)).cps.toList:=hd;rw [yx,yx] at hd
  rcases Ak.mp hd with z | z
  ·rcases Ak.mp z with z | z
   ·exact h p Ae d z
   ·rw [List.mem_singleton.mp z]; exact hc
  ·exact asc_join hc (fun x hx=>h x (List.mem_cons_of_mem _ hx)) d z
abbrev jv:Str:=⟨#[44]⟩
theorem Q5:Str.ofString "," = jv:=by decide
noncomputable def xV (w:Str):Option (List Rat):=allO ratO (Txt.split w jv)
def RetRL (K:Ap) (H:Hp) (Q:VK) (qs:List Rat):Prop:=∀ l vs H',Same H H'->H' l=some (.lst vs)->RL K H' vs qs->Q (.ref l) H'
def spPointR (K:Ap) (C:Addr):Sp:=fun vs H Q E=>∃ w:Str,vs=[.str w]/\Asc w/\w.length<=100000/\(∀ qs,xV w=some qs->RetRL K H Q qs)/\(xV w=none->∀ H',Same H H'->E (.ref C) none H')
theorem ratO_of {w:Str} {t b:Int} (e:ratP w=some (t,b)):ratO w=some (Rat.divInt t b):=by unfold ratO; rw [e]; rfl
theorem ratO_none {w:Str} (e:ratP w=none):ratO w=none:=by unfold ratO; rw [e]; rfl
theorem okx3 (T:Txt K mg a):FnOk P w K mg base (CXE P w) 4 a.fx3 a.dx3 ["word"] (spPointR K a.czy):=by
 refine T.Fx3.F.okE scx3 ?_ ?_
 ·walk_at "c"
 walk_at "b"
 obtain ⟨wd,rfl,asc,len,q,qe⟩:=h;refine ⟨_,(qJ (zj (pe_compE (E:=E) rfl rfl rfl rfl (N:=["part"]) (ix:=[none]) ⟨rfl,rfl,rfl,rfl,trivial,rfl,trivial⟩ rfl (yW (pe_bm PySem.F.plainAttrs_str PySem.F.slot_str_split PySem.F.type_str_split mt_split (pv 0) (pa_c qw qj))) (fun _=>(pg_n 0 (show (["part"]:List Str).Nodup by decide +kernel))) (fun _ σ=>j3 rfl σ) (fun _=>yQ) (fun _=>(zy (okyz T) (hr.mono (by decide)) rfl T.Fyz.m T.Fyz.F.kp T.Fyz.b .nil passC (pa_c (pv 0) qj)))))),?_⟩;refine ⟨_,rfl,rfl,_,_,rfl,rfl,rfl,leB (by omega),fun lw kw=>?_⟩;have short:∀ p∈Txt.split wd jv,p.length<=100000:=fun p hp=>Ao (PyProof.Rows.part_short hp) len
 have pasc:∀ p∈Txt.split wd jv,Asc p:=piece_asc (c:=44) asc;have cnt:=PyProof.Rows.split_le wd jv;rw [Q5];unfold xV at q qe;generalize Txt.split wd jv=r at *;have f:=qy kw (.lst (r.map V.str));have bw:upd H lw (.lst (r.map V.str)) lw=some (.lst (r.map V.str)):=qk;generalize upd H lw (.lst (r.map V.str))=H1 at *;have lt:(r.map V.str).length=r.length:=by rw [List.length_map]
 refine ⟨lw,rfl,⟨_,SqL.of bw⟩,yv (n:=r.length) (fun i ys H'=>Same H1 H'/\∃ qs,allO ratO (r.take i)=some qs/\RL K H' ys qs) ⟨Same.refl _,[],rfl,.nil⟩ (smallB (by omega)) ?_ ?_ ?_⟩
 case refine_2 =>
  rintro i ys H' hi ⟨g,_⟩;exact ⟨_,_,SqL.of (g _ _ bw),A4 (by omega)⟩
 case refine_3 =>
  rintro i m' ys H' cc x Hk hi ⟨g,qs,en,rl⟩ ⟨rfl,y1⟩ nx _;have ex:=y1 _ (SqL.of (g _ _ bw));obtain ⟨x0,e0⟩:∃ x0,r[i]?=some x0:=⟨_,A4 hi⟩;rw [List.getElem?_map,e0] at ex;have ex:V.str x0=x:=Am ex;have mx:x0∈r:=A9 e0;refine Or.inl ⟨rfl,_,rfl,.inl ⟨x0,_,_,congrArg (fun z=>[z]) ex.symm,pts_of x0,pasc x0 mx,by have:=short x0 mx; omega,fun t b e=>?_,fun e H3 g3=>qe (kk mx (ratO_none e)) _ (f.trans (g.trans g3))⟩⟩;have R:=QZ e;intro pr H3 g3 e3;refine nx _ _ ⟨g.trans g3,qs++[Rat.divInt t b],?_,?_⟩
  ·rw [zZ e0]
   exact vQ en (ratO_of e)
  ·exact Paired.snoc (RL.mono rl g3) ⟨pr,rfl,by rw [tq_of R]; exact SqT.of e3⟩
 rintro ys H3 ⟨g3,qs,en,rl⟩;rw [A5 (Nat.le_refl _)] at en;refine ⟨⟨_,SqL.of (g3 _ _ bw),by omega⟩,fun lr kr=>?_⟩;have f4:=qy kr (.lst ys);exact q qs en lr ys _ (f.trans (g3.trans f4)) qk (RL.mono rl f4)
noncomputable def sideO (w:Str):Option (Rat×Rat):=match xV w with
 | some [x,y]=>some (x,y)
 | _=>none
def spSideR (K:Ap) (C:Addr):Sp:=fun vs H Q E=>∃ w:Str,vs=[.str w]/\Asc w/\w.length<=100000/\(∀ s,sideO w=some s->RetSide K H Q s)/\(sideO w=none->∀ H',Same H H'->E (.ref C) none H')
theorem okxa (T:Txt K mg a):FnOk P w K mg base (CXE P w) 5 a.fxa a.dxa ["word"] (spSideR K a.czy):=by
 refine T.Fxa.F.okE scxa ?_ ?_
 ·walk_at "c"
 walk_at "b"
 obtain ⟨wd,rfl,asc,len,q,qe⟩:=h;refine ltX ?_
 intros
 refine ⟨_,body3 (by rfl)
  (ps_s 1 scxa.nd (zy (okx3 T) (hr.mono (by decide)) rfl T.Fx3.m T.Fx3.F.kp T.Fx3.b .nil passE (pa_c (pv 0) qj)))
  (ps_if (qW op_ne (qX (zx) rfl T.m_len boot_len (pa_c (pv 1) qj)) qx) (qJ (zv rfl rfl rfl rfl rfl T.x_NoText rfl T.mzy (pa_c qw qj))) qY)
  (zj (j9 (pa_c (pe_ix zJ (pv 1) qx) (pa_c (pe_ix zJ (pv 1) qx) qj)))),?_⟩
 refine lt3 ?_
 intros
 have one:(1:Nat)<=sizeLine:=by decide
 refine ⟨_,rfl,wd,rfl,asc,len,fun qs eq l vs H1 g1 el rl=>?_,fun en H1 g1=>qe (by unfold sideO; rw [en]) _ g1⟩;have lv:=RL.length rl;refine ⟨_,rfl,_,_,rfl,.inl (SqL.of el),rfl,_,rfl,?_⟩
 by_cases c:qs.length=2
 case neg =>
  refine iteNP (fun z=>c (by have:=V.int.inj z; omega)) ⟨one,qe ?_ _ g1⟩;unfold sideO;rw [eq]
  match qs,c with
  | [],_=>rfl
  | [_],_=>rfl
  | _::_::_::_,_=>rfl
 refine iteNS (congrArg V.int (by omega)) ?_
 match qs,vs,c,lv with
 | [x,y],[u,v],_,_ =>
  cases rl with
  | cons h1 h2 =>
   cases h2 with
   | cons h2 h3 =>
    obtain ⟨p1,rfl,s1⟩:=h1;obtain ⟨p2,rfl,s2⟩:=h2;refine ⟨_,rfl,_,_,_,_,rfl,rfl,SqL.of el,rfl,_,rfl,_,_,_,_,rfl,rfl,SqL.of el,rfl,vq,fun t ht=>?_⟩;have g3:=qy ht (.tup [.ref p1,.ref p2]);exact q (x,y) (by unfold sideO; rw [eq]) t _ (g1.trans g3) ⟨t,p1,p2,rfl,SqT.of qk,g3.tup s1,g3.tup s2⟩
def spShownP (K:Ap):Sp:=fun vs H Q _=>∃ (l:Addr) (v:List V) (qs:List Rat),vs=[.ref l]/\SqL K H l v/\RL K H v qs/\qs.length<=12/\(∀ q∈qs,SzQ q)/\∀ H',Same H H'->Q (.str (Str.join jv (qs.map qS))) H'
theorem okx9 (T:Txt K mg a):FnOk P w K mg base CX0 3 a.fx9 a.dx9 ["point"] (spShownP K):=by
 refine T.Fx9.F.ok scx9 ?_ ?_
 ·walk_at "c"
 walk_at "b"
 obtain ⟨l,v,qs,rfl,hl,rl,len,sz,q⟩:=h;refine ⟨_,(qJ (zj (pe_bm PySem.F.plainAttrs_str PySem.F.slot_str_join PySem.F.type_str_join mt_join qw (pa_c (x8 (N:=["one"]) (ix:=[none]) ⟨rfl,rfl,rfl,rfl,trivial,rfl,trivial⟩ rfl (yW (pv 0)) (fun _=>(pg_n 0 (show (["one"]:List Str).Nodup by decide +kernel))) (fun _ σ=>j3 rfl σ) (fun _=>yQ) (fun _=>(pe_d (okx8 T) hr T.Fx8 (pa_c (pv 0) qj)))) qj)))),?_⟩;have lv:=RL.length rl;refine ⟨rfl,_,rfl,l,rfl,⟨_,hl⟩,yv (n:=qs.length) (fun i ys H'=>Same H H'/\ys=((qs.take i).map qS).map V.str) ⟨Same.refl _,rfl⟩ (yj (by omega)) ?_ ?_ ?_⟩
 case refine_2 =>
  rintro i ys H' hi ⟨g,_⟩;exact ⟨_,_,g.seq hl,A4 (by omega)⟩
 case refine_3 =>
  rintro i m' ys H' cc y Hk hi ⟨g,rfl⟩ ⟨rfl,y1⟩ nx _;obtain ⟨x,ex,p,rfl,hp⟩:=RL.get rl (y1 _ (g.seq hl));have z:=sz x (A9 ex);refine Or.inl ⟨rfl,_,rfl,p,x.num,x.den,rfl,g.tup hp,z.1,by have:=x.den_pos; omega,z.2,fun H3 g3=>nx _ _ ⟨g.trans g3,?_⟩⟩;rw [zZ ex,Al,Al];rfl
 rintro ys H5 ⟨g,rfl⟩;rw [A5 (Nat.le_refl _)];refine ⟨⟨_,g.seq hl,by omega⟩,fun lr kr=>?_⟩;have f:=qy kr (.lst ((qs.map qS).map V.str));refine ⟨_,lr,qs.map qS,rfl,rfl,SqL.of qk,(by decide),?_,?_⟩
 ·have k:=wV (ws:=qs.map qS) (n:=12) (B:=200) (by rw [List.length_map]; exact len) fun p hp=>by
   obtain ⟨x,hx,rfl⟩:=List.mem_map.mp hp;exact qS_len (sz x hx)
  rw [List.length_map];omega
 ·rw [Q5]
  exact q _ (g.trans f)
def wordsD:List (Str×List V):=[("net",[.int 1,.non]),("box",[.int 1,.non]),("at",[.int 1,.int 1]),("bounds",[.int 0,.int 0]),("says",[.int 2,.non]),("most",[.int 1,.non]),("smaller",[.int 0,.int 0])]
def goodN:List V->Nat->Bool
 | [.int lo,.non],n=>decide (lo<=(n:Int))
 | [.int lo,.int hi],n=>decide (lo<=(n:Int))&&decide ((n:Int)<=hi)
 | _,_=>false
def lineB (x:Str):Bool:=match Txt.split x blank with
 | w0::ws=>(match tolds wordsD w0 with
  | some vs=>goodN vs ws.length
  | none=>false)
 | []=>false
theorem words_form {x:Str} {vs:List V} (h:tolds wordsD x=some vs):(∃ lo:Int,vs=[.int lo,.non])\/∃ lo hi:Int,vs=[.int lo,.int hi]:=by
 unfold tolds at h;obtain ⟨p,hp,rfl⟩:=Option.map_eq_some_iff.mp h;have m:=List.mem_of_find?_eq_some hp;unfold wordsD at m
 simp only [List.mem_cons,List.not_mem_nil,or_false] at m
 rcases m with rfl | rfl | rfl | rfl | rfl | rfl | rfl
 ·exact .inl ⟨_,rfl⟩
 ·exact .inl ⟨_,rfl⟩
 ·exact .inr ⟨_,_,rfl⟩
 ·exact .inr ⟨_,_,rfl⟩
 ·exact .inl ⟨_,rfl⟩
 ·exact .inl ⟨_,rfl⟩
 ·exact .inr ⟨_,_,rfl⟩
def spLineW (K:Ap) (C:Addr):Sp:=fun vs H Q E =>
 (∃ x:Str,vs=[.str x]/\Asc x/\x.length<=100000/\(lineB x=true->∀ l H',Same H H'->H' l=some (.lst ((Txt.split x blank).map V.str))->Q (.ref l) H')/\(lineB x=false->∀ H',Same H H'->E (.ref C) none H')) \/
 (∃ v,vs=[v]/\IsS K H v/\∀ H',Same H H'->E (.ref C) none H')
theorem okyr (T:Txt K mg a) (B:a.w=w):FnOk P w K mg base (CXE P w) 1 a.fyr a.dyr ["line"] (spLineW K a.czv):=by
 subst B;refine T.Fyr.F.okE vJ (fun vs H Q E h=>?_) (fun cdv A outer s H vs Q E hr h=>?_)
 ·rcases h with ⟨_,rfl,_⟩ | ⟨_,rfl,_⟩
  ·rfl
  ·rfl
 refine ltX ?_
 intros
 refine ⟨_,body7 (by rfl)
  (ps_if (yy (y8 (qX (call_iss) rfl T.m_isinstance boot_isinstance (pa_c (pv 0) (pa_c (jq (v:=.ty "str") rfl T.m_str boot_str rfl) qj))))) (qJ (zv rfl rfl rfl rfl rfl T.x_NoLine rfl T.mzv (pa_c qw qj))) qY)
  (ps_s 1 vJ.nd (pe_bm PySem.F.plainAttrs_str PySem.F.slot_str_split PySem.F.type_str_split mt_split (pv 0) (pa_c qw qj)))
  (ps_if (qW op_notInW (pe_ix zJ (pv 1) qx) (yY (v:=.ref a.gy0) rfl T.my0 rfl) (by with_unfolding_all rfl)) (qJ (zv rfl rfl rfl rfl rfl T.x_NoLine rfl T.mzv (pa_c qw qj))) qY)
  (ps_s 2 vJ.nd (pe_ix ix_words (yY (v:=.ref a.gy0) rfl T.my0 rfl) (pe_ix zJ (pv 1) qx)))
  (ps_s 3 vJ.nd (pe_op op_sub (qX (zx) rfl T.m_len boot_len (pa_c (pv 1) qj)) qx))
  (ps_if (PW.pt (pw_or (qW op_lt (pv 3) (pe_ix zq (pv 2) qx)) (vx (PW.pt (kW (qW op_notN (pe_ix zq (pv 2) qx) pe_non) (vX (qW op_gt (pv 3) (pe_ix zq (pv 2) qx)))))))) (qJ (zv rfl rfl rfl rfl rfl T.x_NoLine rfl T.mzv (pa_c qw qj))) qY)
  (zj (pv 1)),?_⟩
 refine lt7 ?_
 intros
 have one:(1:Nat)<=sizeLine:=by decide
 rcases h with ⟨x,rfl,asc,len,q,qe⟩ | ⟨v,rfl,is,qe⟩
 case inr=>exact ⟨_,rfl,v,rfl,.inr ⟨is,_,rfl,iteT ⟨one,qe _ (Same.refl _)⟩⟩⟩
 refine ⟨_,rfl,_,rfl,.inl ⟨x,rfl,_,rfl,iteF ?_⟩⟩;refine ⟨_,rfl,rfl,_,_,rfl,rfl,rfl,leB (by omega),fun lw kw=>?_⟩;have cnt:=PyProof.Rows.split_le x blank;obtain ⟨w0,r,es⟩:∃ w0 r,Txt.split x blank=w0::r:=split_ne x 32;have lb:lineB x=(match tolds wordsD w0 with | some vs=>goodN vs r.length | none=>false):=by unfold lineB; rw [es]
 rw [jW,es];rw [es] at cnt q;have f:=qy kw (.lst ((w0::r).map V.str));have bw:upd H lw (.lst ((w0::r).map V.str)) lw=some (.lst (.str w0::r.map V.str)):=qk;generalize upd H lw (.lst ((w0::r).map V.str))=H1 at *;rw [List.length_cons] at cnt;have lr:((.str w0::r.map V.str:List V).length:Int)=(r.length:Int)+1:=by rw [List.length_cons,List.length_map]; omega
 refine ⟨_,rfl,_,_,_,_,rfl,rfl,SqL.of bw,at0,w0,_,wordsD,rfl,rfl,T.D_WORDS,_,rfl,?_⟩
 cases td:tolds wordsD w0 with
 | none=>exact iteT ⟨one,qe (by rw [lb,td]) _ f⟩
 | some vs =>
  rw [td] at lb;refine iteF ?_;refine ⟨_,rfl,_,_,_,_,rfl,rfl,SqL.of bw,at0,w0,_,wordsD,vs,rfl,rfl,T.D_WORDS,td,fun p hp=>?_⟩;refine ⟨_,rfl,_,_,rfl,.inl (SqL.of bw),_,_,rfl,rfl,?_⟩
  rcases words_form td with ⟨lo,rfl⟩ | ⟨lo,hi,rfl⟩
  ·refine ⟨_,rfl,_,rfl,_,_,_,_,rfl,rfl,hp,rfl,_,_,rfl,rfl,_,rfl,iteD (fun c=>⟨one,qe (by rw [lb]; exact decide_eq_false (by omega)) _ f⟩) (fun c=>?_)⟩
   refine ⟨_,rfl,_,_,_,_,rfl,rfl,hp,rfl,rfl,_,rfl,iteF ?_⟩;exact ⟨_,rfl,q (by rw [lb]; exact decide_eq_true (by omega)) _ _ f bw⟩
  ·refine ⟨_,rfl,_,rfl,_,_,_,_,rfl,rfl,hp,rfl,_,_,rfl,rfl,_,rfl,iteD (fun c=>⟨one,qe (by rw [lb]; show (decide (lo<=(r.length:Int))&&decide ((r.length:Int)<=hi))=false; rw [decide_eq_false (by omega)]; rfl) _ f⟩) (fun c=>?_)⟩
   refine ⟨_,rfl,_,_,_,_,rfl,rfl,hp,rfl,rfl,_,rfl,iteT ?_⟩;refine ⟨_,rfl,_,rfl,_,_,_,_,rfl,rfl,hp,rfl,_,_,rfl,rfl,_,rfl,iteD (fun c2=>⟨one,qe (by rw [lb]; show (decide (lo<=(r.length:Int))&&decide ((r.length:Int)<=hi))=false; rw [decide_eq_false (p:=(r.length:Int)<=hi) (by omega),Bool.and_false]) _ f⟩) (fun c2=>?_)⟩;exact ⟨_,rfl,q (by rw [lb]; show (decide (lo<=(r.length:Int))&&decide ((r.length:Int)<=hi))=true; rw [decide_eq_true (by omega),decide_eq_true (by omega)]; rfl) _ _ f bw⟩
def spCount (K:Ap) (a:Adr):Sp:=fun vs H Q _=>∃ (p:Addr) (m:Nat) (us:List Un) (outs:List Nat),vs=[.ref p]/\jy K a H p m us outs/\us.length<=80/\∀ H',Same H H'->Q (.int ((m:Int)+(us.length:Int))) H'
theorem okyu (T:Txt K mg a):FnOk P w K mg base CX0 3 a.fyu a.dyu ["net"] (spCount K a):=by
 refine T.Fyu.F.ok scyu ?_ ?_
 ·walk_at "c"
 walk_at "b"
 obtain ⟨pn,many,us,outs,rfl,⟨lu,lo,vk,hNa,hu,rk,ho⟩,l80,q⟩:=h;obtain ⟨dx,hN⟩:=id hNa;refine ltX ?_
 intros
 refine ⟨_,body2 (by rfl)
  (ps_s 1 scyu.nd (pe_meth0 (pv 0) T.Czl T.tzq (okzq T) (hr.mono (by decide)) T.bzq .nil pass0))
  (zj (pe_op jK (pe_ix zq (pv 1) qx) (qX (zx) rfl T.m_len boot_len (pa_c (pe_ix zq (pv 1) qx) qj)))),?_⟩
 refine lt2 ?_
 intros
 refine ⟨_,rfl,pn,dx,_,rfl,hN,rfl,pn,lu,lo,many,vk,us,outs,rfl,hNa,hu,rk,by omega,ho,fun t l2 o2 vu H1 g1 ht nl2 e2 ru2 _ _=>?_⟩;have lv:=(ru2 pn _ hN).length;refine ⟨_,rfl,_,_,_,_,rfl,rfl,ht,rfl,_,rfl,_,_,_,_,rfl,rfl,ht,rfl,_,_,rfl,.inl (SqL.of e2),_,_,rfl,rfl,?_⟩;dsimp only;rw [lv];exact q _ g1
abbrev semi:Str:=Str.ofString ";"
def cutS (r:List (List Str)×List Str) (x:Str):List (List Str)×List Str:=if x=semi then (r.1++[r.2],[]) else (r.1,r.2++[x])
def cutF (ws:List Str):List (List Str)×List Str:=ws.foldl cutS ([],[])
theorem cutF_snoc (ws:List Str) (x:Str):cutF (ws++[x])=cutS (cutF ws) x:=by unfold cutF; rw [List.foldl_append]; rfl
def rowsC (ws:List Str):List (List Str):=(cutF ws).1++[(cutF ws).2]
def textC (ws:List Str):Str:=Str.join jz ((rowsC ws).map (Str.join blank))
open Classical in
noncomputable def netW (ws:List Str):Option (Nat×List Un×List Nat):=if ∃ p∈ws,10∈p.cps.toList then none else netO (textC ws)
def WsOk (ws:List Str):Prop:=ws.length<=24/\∀ p∈ws,Asc p/\p.length<=100/\32∉p.cps.toList
theorem snoc_ind {α:Type} {M:List α->Prop} (h0:M []) (h1:∀ ws x,M ws->M (ws++[x])) (ws:List α):M ws:=by
 rw [<- List.reverse_reverse ws]
 induction ws.reverse with
 | nil=>exact h0
 | cons x r ih =>
  rw [List.reverse_cons];exact h1 _ _ ih
theorem rows_cutF:∀ ws:List Str,(∀ row∈rowsC ws,(∀ p∈row,p∈ws)/\row.length<=ws.length)/\(cutF ws).1.length<=ws.length:=by
 refine snoc_ind ⟨fun row h=>?_,Nat.le_refl _⟩ fun ws x ⟨h1,h2⟩=>?_
 ·have h:row=[]:=List.mem_singleton.mp h
  subst h;exact ⟨fun p hp=>hp,Nat.le_refl _⟩
 ·have mo:∀ row,row∈rowsC ws->(∀ p∈row,p∈ws++[x])/\row.length<=(ws++[x]).length:=fun row hr=>⟨fun p hp=>Aa _ ((h1 row hr).1 p hp),by rw [Ad]; exact Nat.le_add_right_of_le (h1 row hr).2⟩
  unfold rowsC;rw [cutF_snoc];unfold cutS
  by_cases c:x=semi
  ·rw [if_pos c]
   refine ⟨fun row hr=>?_,?_⟩
   ·rcases Ak.mp hr with hr | hr
    ·exact mo row hr
    ·have h:row=[]:=List.mem_singleton.mp hr
     subst h;exact ⟨fun p hp=>(by cases hp),Nat.zero_le _⟩
   ·dsimp only
    rw [Ad,Ad,A6,A6];omega
  ·rw [if_neg c]
   refine ⟨fun row hr=>?_,?_⟩
   ·rcases Ak.mp hr with hr | hr
    ·exact mo row (Aa _ hr)
    ·have h:row=(cutF ws).2++[x]:=List.mem_singleton.mp hr
     have k:=mo (cutF ws).2 (A7 _ (List.mem_singleton.mpr rfl));have k2:=(h1 (cutF ws).2 (A7 _ (List.mem_singleton.mpr rfl))).2;subst h;refine ⟨fun p hp=>?_,by rw [Ad,Ad]; exact Nat.add_le_add_right k2 _⟩
     rcases Ak.mp hp with hp | hp
     ·exact k.1 p hp
     ·exact A7 _ hp
   ·rw [Ad]
    exact Nat.le_add_right_of_le h2
theorem textC_ok {ws:List Str} (ok:WsOk ws) (nl:∀ p∈ws,10∉p.cps.toList):(rowsC ws).length<=25/\(∀ row∈rowsC ws,(row.map (·.length)).sum+row.length<=2424/\(Str.join blank row).length<=2424)/\Asc (textC ws)/\(textC ws).length<=200000/\((rowsC ws).map (Str.join blank) |>.map (·.length)).sum+(rowsC ws).length<=60625/\∀ r∈Txt.split (textC ws) jz,r.length<=90000/\(Txt.split r blank).length<=100:=by
 obtain ⟨l24,ok⟩:=ok;obtain ⟨h1,h2⟩:=rows_cutF ws;have lr:(rowsC ws).length<=25:=by unfold rowsC; rw [Ad,A6]; omega
 have rw1:∀ row∈rowsC ws,(row.map (·.length)).sum+row.length<=2424:=fun row hr=>by
  have k:=wV (ws:=row) (n:=24) (B:=100) (by have:=(h1 row hr).2; omega) fun p hp=>(ok p ((h1 row hr).1 p hp)).2.1
  omega
 have rw2:∀ row∈rowsC ws,(Str.join blank row).length<=2424:=fun row hr=>Ao (wq (c:=32) row) (rw1 row hr)
 have fit:((rowsC ws).map (Str.join blank) |>.map (·.length)).sum+(rowsC ws).length<=60625:=by
  have k:=wV (ws:=(rowsC ws).map (Str.join blank)) (n:=25) (B:=2424) (by rw [List.length_map]; exact lr) fun p hp=>by
   obtain ⟨row,hr,rfl⟩:=List.mem_map.mp hp;exact rw2 row hr
  rw [List.length_map] at k;omega
 have as:∀ row∈rowsC ws,Asc (Str.join blank row):=fun row hr=>asc_join (by decide) fun p hp=>(ok p ((h1 row hr).1 p hp)).1
 have fr:∀ r∈(rowsC ws).map (Str.join blank),10∉r.cps.toList:=fun r hr=>by
  obtain ⟨row,hq,rfl⟩:=List.mem_map.mp hr;exact join_free (by decide) fun p hp=>nl p ((h1 row hq).1 p hp)
 have es:Txt.split (textC ws) jz=(rowsC ws).map (Str.join blank):=jZ (by unfold rowsC; simp) fr;refine ⟨lr,fun row hr=>⟨rw1 row hr,rw2 row hr⟩,asc_join (by decide) fun r hr=>?_,?_,fit,fun r hr=>?_⟩
 ·obtain ⟨row,hq,rfl⟩:=List.mem_map.mp hr
  exact as row hq
 ·refine Ao (wq (c:=10) ((rowsC ws).map (Str.join blank))) ?_
  rw [List.length_map];omega
 ·rw [es] at hr
  obtain ⟨row,hq,rfl⟩:=List.mem_map.mp hr;refine ⟨by have:=rw2 row hq; omega,?_⟩
  by_cases e:row=[]
  ·subst e
   exact Ao (PyProof.Rows.split_le _ _) (by decide)
  ·rw [show Txt.split (Str.join blank row) blank=row from jZ e fun p hp=>(ok p ((h1 row hq).1 p hp)).2.2]
   have:=(h1 row hq).2;omega
theorem paired_keep {α β:Type} {F G:α->β->Prop}:∀ {l:List α} {m:List β},Paired F l m->(∀ x∈l,∀ y,F x y->G x y)->Paired G l m
 | _,_,.nil,_=>.nil
 | _,_,.cons h t,k=>.cons (k _ Ae _ h) (paired_keep t fun x hx=>k x (List.mem_cons_of_mem _ hx))
theorem atLast1 {l:List V} {z:V}:atI (l++[z]) (-1)=some z:=by
 cases l with
 | nil=>rfl
 | cons x r=>exact atLast
def RowAt (H:Hp) (ad:Addr) (row:List Str):Prop:=H ad=some (.lst (row.map V.str))
def spNetOf (K:Ap) (a:Adr):Sp:=fun vs H Q E=>∃ (l:Addr) (ws:List Str),vs=[.ref l]/\SqL K H l (ws.map V.str)/\WsOk ws/\(∀ m us outs,netW ws=some (m,us,outs)->NetOk m us outs->∀ p H',Same H H'->jy K a H' p m us outs->Q (.ref p) H')/\(∀ m us outs,netW ws=some (m,us,outs)->¬ NetOk m us outs->∀ H',Same H H'->E (.ref a.czw) none H')/\(netW ws=none->∀ H',Same H H'->E (.ref a.czy) none H')
theorem okys (T:Txt K mg a):FnOk P w K mg base (CXE P w) 10 a.fys a.dys ["words"] (spNetOf K a):=by
 refine T.Fys.F.okE scys ?_ ?_
 ·walk_at "c"
 walk_at "b"
 obtain ⟨l,ws,rfl,hl,ok,q,qn,qe⟩:=h;refine ltX ?_
 intros
 refine ⟨_,body3 (by rfl)
  (ps_s 1 scys.nd (yK (pa_c (yK qj) qj)))
  (ps_forL rfl (yW (pv 0)) (pg_n 2 scys.nd) (qK (ps_if (qW op_in_str qw (pv 2) (by with_unfolding_all rfl)) (qJ (ps_raiseL rfl rfl rfl rfl rfl T.x_NoText rfl T.mzy (pa_c qw qj))) qY) (qJ (ps_if (qW op_eq (pv 2) qw) (qJ (ps_expr (pe_app (pv 1) (yK qj)))) (qJ (ps_expr (pe_app (pe_ix zJ (pv 1) (pe_un un_neg qx)) (pv 2))))))))
  (zj (zy (okx0 T) (hr.mono (by decide)) rfl T.Fx0.m T.Fx0.F.kp T.Fx0.b .nil passE (pa_c (pe_bm PySem.F.plainAttrs_str PySem.F.slot_str_join PySem.F.type_str_join mt_join qw (pa_c (x8 (N:=["row"]) (ix:=[none]) ⟨rfl,rfl,rfl,rfl,trivial,rfl,trivial⟩ rfl (yW (pv 1)) (fun _=>(pg_n 0 (show (["row"]:List Str).Nodup by decide +kernel))) (fun _ σ=>j3 rfl σ) (fun _=>yQ) (fun _=>(pe_bm PySem.F.plainAttrs_str PySem.F.slot_str_join PySem.F.type_str_join mt_join qw (pa_c (pv 0) qj)))) qj)) qj))),?_⟩
 refine lt3 ?_
 intros
 have l24:=ok.1;have one:(1:Nat)<=sizeLine:=by decide
 refine ⟨(by decide),fun lc hlc=>⟨one,fun lr hlr=>?_⟩⟩;have g0:=qy hlc (.lst []);have g1:=qy hlr (.lst [.ref lc]);have nlr:H lr=none:=v8 g0 hlr;have ne:lr≠lc:=fun z=>by rw [z,qk] at hlr; cases hlr
 have lt:(ws.map V.str).length=ws.length:=by rw [List.length_map]
 refine ⟨_,rfl,l,rfl,⟨_,(g0.trans g1).seq hl⟩,for_by (n:=ws.length) (fun i σ H'=>Same H H'/\∃ (as:List Addr) (ac:Addr) (u:Option V),σ=[some (.ref l),some (.ref lr),u]/\H ac=none/\H' lr=some (.lst (as.map V.ref++[.ref ac]))/\H' ac=some (.lst ((cutF (ws.take i)).2.map V.str))/\Paired (RowAt H') as (cutF (ws.take i)).1/\ac≠lr/\ac∉as/\lr∉as/\(∀ p∈ws.take i,10∉p.cps.toList)/\as.length<=i)
  ⟨g0.trans g1,[],lc,_,rfl,hlc,qk,by rw [zk (Ne.symm ne)]; exact qk,.nil,Ne.symm ne,by simp,by simp,by simp,Nat.le_refl _⟩ ?_ ?_ ?_⟩
 ·rintro σ H' ⟨g,as,ac,u,rfl,hac,er,ec,pr,n1,n2,n3,fr,la⟩
  refine ⟨⟨_,g.seq hl,by omega⟩,?_⟩;rw [A5 (Nat.le_refl _)] at ec pr fr;obtain ⟨lr25,rw1,tas,tlen,fit,rws⟩:=textC_ok ok fr;have nw:netW ws=netO (textC ws):=if_neg fun ⟨p,hp,z⟩=>fr p hp z
  have pr:Paired (RowAt H') (as++[ac]) (rowsC ws):=Paired.snoc pr ec;have lp:=Paired.length pr;have er:H' lr=some (.lst ((as++[ac]).map V.ref)):=by rw [er,Al]; rfl
  refine ⟨rfl,_,rfl,lr,rfl,⟨_,SqL.of er⟩,yv (n:=(rowsC ws).length) (fun i ys H2=>H2=H'/\ys=(((rowsC ws).take i).map (Str.join blank)).map V.str) ⟨rfl,rfl⟩ (yj (by omega)) ?_ ?_ ?_⟩
  case refine_2 =>
   rintro i ys H2 hi ⟨rfl,_⟩;exact ⟨_,_,SqL.of er,A4 (by rw [List.length_map]; omega)⟩
  case refine_3 =>
   rintro i m' ys H2 cc y Hk hi ⟨rfl,rfl⟩ ⟨rfl,y1⟩ nx _;have ey:=y1 _ (SqL.of er);rw [List.getElem?_map] at ey;obtain ⟨ad,ead,rfl⟩:=Option.map_eq_some_iff.mp ey;obtain ⟨row,erow,hrow⟩:=v6 pr ead;have mr:=A9 erow;refine Or.inl ⟨rfl,rfl,_,rfl,_,ad,row,rfl,rfl,SqL.of hrow,(by decide),by have:=(rw1 row mr).1; omega,nx _ _ ⟨rfl,?_⟩⟩;rw [zZ erow,Al,Al,jW];rfl
  rintro ys H5 ⟨rfl,rfl⟩;rw [A5 (Nat.le_refl _)];refine ⟨⟨_,SqL.of er,by rw [List.length_map]; omega⟩,fun lj kj=>?_⟩;have f:=qy kj (.lst (((rowsC ws).map (Str.join blank)).map V.str));refine ⟨_,lj,(rowsC ws).map (Str.join blank),rfl,rfl,SqL.of qk,(by decide),by rw [List.length_map]; omega,?_⟩;rw [line_is];refine .inl ⟨textC ws,rfl,tas,tlen,rws,fun m us outs e ok2 p H7 g7 hp=>?_,fun m us outs e nok H7 g7=>qn m us outs (nw.trans e) nok _ (g.trans (f.trans g7)),fun e H7 g7=>qe (nw.trans e) _ (g.trans (f.trans g7))⟩;exact q m us outs (nw.trans e) ok2 p _ (g.trans (f.trans g7)) hp
 ·rintro i σ H' hi ⟨g,_⟩
  exact ⟨_,_,g.seq hl,A4 (by omega)⟩
 ·rintro i σ H0 x H' hi ⟨g,as,ac,u,rfl,hac,er,ec,pr,n1,n2,n3,fr,la⟩ ⟨rfl,y1⟩
  have ex:=y1 _ (g.seq hl);obtain ⟨x0,e0⟩:∃ x0,ws[i]?=some x0:=⟨_,A4 hi⟩;rw [List.getElem?_map,e0] at ex;have ex:V.str x0=x:=Am ex;subst ex;have mx:x0∈ws:=A9 e0;rw [zZ e0,cutF_snoc];have lcur:(cutF (ws.take i)).2.length<=i:=by
   have:=((rows_cutF (ws.take i)).1 _ (A7 _ (List.mem_singleton.mpr rfl))).2;rw [Aj] at this;omega
  generalize cutF (ws.take i)=cr at *;obtain ⟨done,cur⟩:=cr;refine ⟨_,rfl,_,_,rfl,rfl,_,rfl,?_⟩;rw [line_is,StrLaws.found_one]
  by_cases c:10∈x0.cps.toList
  ·rw [decide_eq_true c]
   exact iteT ⟨one,qe (if_pos ⟨x0,mx,c⟩) _ g⟩
  rw [decide_eq_false c];have fr':∀ p∈ws.take i++[x0],10∉p.cps.toList:=fun p hp=>by
   rcases Ak.mp hp with hp | hp
   ·exact fr p hp
   ·rw [List.mem_singleton.mp hp]; exact c
  refine iteF ⟨_,rfl,rfl,_,rfl,?_⟩;unfold cutS
  by_cases k:x0=semi
  ·rw [if_pos k]
   refine iteP (congrArg V.str k) ⟨_,rfl,.inl ⟨rfl,_,SqL.of er⟩,(by decide),fun ln hln=>?_⟩;have f:=qy hln (.lst []);have nl:ln≠lr:=fun z=>by rw [z,er] at hln; cases hln
   have nc:ln≠ac:=fun z=>by rw [z,ec] at hln; cases hln
   refine ⟨lr,_,_,rfl,rfl,f _ _ er,yj (by rw [Ad,List.length_map,A6]; omega),(g.trans f).laid nlr _,as++[ac],ln,_,rfl,v8 g hln,?_,?_,?_,nl,?_,?_,fr',?_⟩
   ·rw [qk,Al]; rfl
   ·rw [zk nl]; exact qk
   ·refine Paired.snoc (paired_keep pr fun ad had row hrow=>?_) ?_
    ·show upd _ _ _ ad=_
     rw [zk (show ad≠lr from fun z=>n3 (by rw [<- z]; exact had))];exact f _ _ hrow
    ·show upd _ _ _ ac=_
     rw [zk n1];exact f _ _ ec
   ·intro z
    rcases Ak.mp z with z | z
    ·obtain ⟨row,hrow⟩:∃ row,RowAt H' ln row:=by
      obtain ⟨j,ej⟩:=List.mem_iff_getElem?.mp z;obtain ⟨row,_,hr⟩:=v6 pr ej;exact ⟨row,hr⟩
     rw [show H' ln=_ from hrow] at hln
     cases hln
    ·exact nc (List.mem_singleton.mp z)
   ·intro z
    rcases Ak.mp z with z | z
    ·exact n3 z
    ·exact n1 (List.mem_singleton.mp z).symm
   ·rw [Ad,A6]; omega
  ·rw [if_neg k]
   refine iteN (fun z=>k (V.str.inj z)) ⟨_,rfl,_,rfl,_,_,_,_,rfl,rfl,SqL.of er,atLast1,.inl ⟨rfl,_,SqL.of ec⟩,_,rfl,ac,_,_,rfl,rfl,ec,?_,?_⟩
   ·exact yj (by rw [List.length_map]; show cur.length<=_; have:cur.length<=i:=lcur; omega)
   refine ⟨g.laid hac _,as,ac,_,rfl,hac,?_,?_,?_,n1,n2,n3,fr',by omega⟩
   ·rw [zk (Ne.symm n1)]; exact er
   ·rw [qk,Al]; rfl
   ·exact paired_keep pr fun ad had row hrow=>by
     show upd _ _ _ ad=_;rw [zk (show ad≠ac from fun z=>n2 (by rw [<- z]; exact had))];exact hrow
theorem ratP_sz {w:Str} {t b:Int} (e:ratP w=some (t,b)):t.natAbs<10^60/\b.natAbs<10^60:=by
 unfold ratP at e
 match hs:Txt.split (bodyS w) ⟨#[47]⟩ with
 | []=>rw [hs] at e; cases e
 | [x] =>
  rw [hs] at e
  by_cases g:goodS x/\¬ (sgnB w=true/\valS x=0)
  ·rw [out1 g] at e
   cases e
   exact ⟨by rw [tv_abs]; exact kq g.1,by decide⟩
  ·rw [out1n g] at e; cases e
 | [x,y] =>
  rw [hs] at e
  by_cases g:goodS x/\goodS y/\¬ (sgnB w=true/\valS x=0)/\2<=valS y/\Nat.gcd (valS y) (valS x)=1
  ·rw [out2 g] at e
   cases e
   exact ⟨by rw [tv_abs]; exact kq g.1,by rw [Ah]; exact kq g.2.1⟩
  ·rw [out2n g] at e; cases e
 | x::y::z::rest=>rw [hs] at e; cases e
theorem ratO_sz {w:Str} {q:Rat} (h:ratO w=some q):SzQ q:=by
 obtain ⟨t,b,e,R,tq⟩:=ratO_yes h;have z:=ratP_sz e;unfold TQ T2 at tq
 injection tq with e1 e2
 injection e2 with e2 _
 have e1:=V.int.inj e1;have e2:=V.int.inj e2;exact ⟨by rw [e1]; exact z.1,by rw [e2]; exact z.2⟩
theorem SzQ.sm {q:Rat} (h:SzQ q):SmQ 9000 q:=by
 obtain ⟨h1,h2⟩:=h;have k:(10:Nat)^60<2^9000:=by decide +kernel
 exact ⟨Nat.lt_trans h1 k,Nat.lt_trans h2 k⟩
def WdsOk (ws:List Str):Prop:=ws.length<=24/\∀ p∈ws,Asc p/\p.length<=1000
def spBoxOf (K:Ap) (a:Adr):Sp:=fun vs H Q E=>∃ (l pn:Addr) (ws:List Str) (m:Nat) (us:List Un) (outs:List Nat),vs=[.ref l,.ref pn]/\SqL K H l (ws.map V.str)/\WdsOk ws/\jy K a H pn m us outs/\us.length<=80/\1<=m/\m<=6/\(∀ ss,allO sideO ws=some ss->ss.length=m->(∀ s∈ss,s.1<=s.2)->∀ p H',Same H H'->Q (.ref p) H')/\(∀ ss,allO sideO ws=some ss->ss.length=m->¬ (∀ s∈ss,s.1<=s.2)->∀ H',Same H H'->E (.ref a.czu) none H')/\((∀ ss,allO sideO ws=some ss->ss.length≠m)->∀ H',Same H H'->E (.ref a.czy) none H')
theorem sideO_sz {w:Str} {s:Rat×Rat} (h:sideO w=some s):SmQ 9000 s.1/\SmQ 9000 s.2:=by
 unfold sideO at h
 split at h
 ·rename_i x y e
  cases h
  have k:=allO_all (P:=SzQ) e fun z _ q hq=>ratO_sz hq
  exact ⟨(k x (by simp)).sm,(k y (by simp)).sm⟩
 ·cases h
theorem oky2 (T:Txt K mg a):FnOk P w K mg base (CXE P w) 6 a.fy2 a.dy2 ["words", "net"] (spBoxOf K a):=by
 refine T.Fy2.F.okE scy2 ?_ ?_
 ·walk_at "c"
 walk_at "b"
 obtain ⟨l,pn,ws,m,us,outs,rfl,hl,⟨l24,ok⟩,hn,l80,m1,m6,q,qb,qe⟩:=h;refine ltX ?_
 intros
 refine ⟨_,body3 (by rfl)
  (vY (E:=E) rfl rfl rfl rfl (i:=2) scy2.nd rfl (Or.inl rfl) (N:=["word"]) (ix:=[none]) ⟨rfl,rfl,rfl,rfl,trivial,rfl,trivial⟩ rfl (yW (pv 0)) (fun _=>(pg_n 0 (show (["word"]:List Str).Nodup by decide +kernel))) (fun _ σ=>j3 rfl σ) (fun _=>yQ) (fun _=>(zy (okxa T) (hr.mono (by decide)) rfl T.Fxa.m T.Fxa.F.kp T.Fxa.b .nil passC (pa_c (pv 0) qj))))
  (ps_if (qW op_ne (qX (zx) rfl T.m_len boot_len (pa_c (pv 2) qj)) (pe_ix zq (pe_meth0 (pv 1) T.Czl T.tzq (okzq T) (hr.mono (by decide)) T.bzq .nil pass0) qx)) (qJ (zv rfl rfl rfl rfl rfl T.x_NoText rfl T.mzy (pa_c qw qj))) qY)
  (zj (pe_make T.Mz1 (okz2 T) (hr.mono (by decide)) rfl T.mz1 T.bz2 .nil passE (pa_c (pv 2) qj))),?_⟩
 refine lt3 ?_
 intros
 have one:(1:Nat)<=sizeLine:=by decide
 have lt:(ws.map V.str).length=ws.length:=by rw [List.length_map]
 refine ⟨_,rfl,l,rfl,⟨_,hl⟩,yv (n:=ws.length) (fun i ys H'=>Same H H'/\∃ ss,allO sideO (ws.take i)=some ss/\SL K H' ys ss) ⟨Same.refl _,[],rfl,.nil⟩ (smallB (by omega)) ?_ ?_ ?_⟩
 case refine_2 =>
  rintro i ys H' hi ⟨g,_⟩;exact ⟨_,_,g.seq hl,A4 (by omega)⟩
 case refine_3 =>
  rintro i m' ys H' cc x Hk hi ⟨g,ss,en,sl⟩ ⟨rfl,y1⟩ nx _;have ex:=y1 _ (g.seq hl);obtain ⟨x0,e0⟩:∃ x0,ws[i]?=some x0:=⟨_,A4 hi⟩;rw [List.getElem?_map,e0] at ex;have ex:V.str x0=x:=Am ex;have mx:x0∈ws:=A9 e0;refine Or.inl ⟨rfl,_,rfl,x0,congrArg (fun z=>[z]) ex.symm,(ok x0 mx).1,by have:=(ok x0 mx).2; omega,fun sd es p3 H3 g3 h3=>nx _ _ ⟨g.trans g3,ss++[sd],?_,SL.snoc (sl.mono g3) h3⟩,fun e H3 g3=>qe (fun ss e2=>?_) _ (g.trans g3)⟩
  ·rw [zZ e0]
   exact vQ en es
  ·rw [kk mx e] at e2
   cases e2
 rintro ys H3 ⟨g3,ss,en,sl⟩;rw [A5 (Nat.le_refl _)] at en;have ls:=SL.length sl;refine ⟨⟨_,g3.seq hl,by omega⟩,fun lr kr=>?_⟩;have f4:=qy kr (.lst ys);have el:=qk (H:=H3) (a:=lr) (o:=.lst ys);have sl:=sl.mono f4;have g4:=g3.trans f4;generalize upd H3 lr (.lst ys)=H4 at *;obtain ⟨lu,lo,vk,hNa,hu,rk,ho⟩:=hn.mono g4;obtain ⟨dx,hN⟩:=id hNa;refine ⟨_,rfl,_,_,rfl,.inl (SqL.of el),_,rfl,pn,dx,_,rfl,hN,rfl,pn,lu,lo,m,vk,us,outs,rfl,hNa,hu,rk,l80,ho,fun t l2 o2 vu H5 g5 ht nl2 e2 ru2 _ _=>?_⟩;have g4:=g4.trans g5;refine ⟨_,_,_,_,rfl,rfl,ht,rfl,rfl,_,rfl,?_⟩
 by_cases c:ss.length=m
 case neg=>exact iteNP (fun z=>c (by have:=V.int.inj z; omega)) ⟨one,qe (fun ss2 e3=>by rw [en] at e3; cases e3; exact c) _ g4⟩
 refine iteNS (congrArg V.int (by omega)) ⟨_,rfl,fun y dx hx hdx ne=>?_⟩;have el:=g5 _ _ el;have sl:=sl.mono g5;have ga:=qy hdx (.own y);have hx':upd H5 dx (.own y) y=none:=by rw [zk (Ne.symm ne)]; exact hx
 have gb:=qy hx' (.ins a.cz1 dx []);have gc:=ga.trans gb;have el:=gc _ _ el;have sl:=sl.mono gc;have szs:∀ s∈ss,SmQ 9000 s.1/\SmQ 9000 s.2:=allO_all (P:=fun s:Rat×Rat=>SmQ 9000 s.1/\SmQ 9000 s.2) en fun x _ s hs=>sideO_sz hs
 refine ⟨y,dx,.ref lr,rfl,qk,?_⟩
 rcases first_bad (fun s:Rat×Rat=>s.1<=s.2) ss with good | ⟨l1,x,r1,e,h1,h2⟩
 ·refine .inl ⟨lr,ys,ss,rfl,SqL.of el,sl,by omega,by omega,fun s hs=>⟨good s hs,szs s hs⟩,fun mm v2 H6 but nm bx em sv=>⟨rfl,q ss en c good y H6 fun b o eb=>?_⟩⟩
  have eb5:=g4 _ _ eb;exact but b o (fun z=>by rw [z,hx] at eb5; cases eb5) (gc _ _ eb5)
 ·refine .inr ⟨?_,fun H6 g6=>qb ss en c (fun k=>h2 (k x (by rw [e]; simp))) _ (g4.trans (gc.trans g6))⟩
  subst e;obtain ⟨v1,v,v2,rfl,p1,pv,p2⟩:=QQ sl;have l1v:=Paired.length p1;have l2v:=Paired.length p2;rw [Ad,List.length_cons] at c;have sx:=szs x (by simp);exact .bad (SqL.of el) p1 (fun s hs=>⟨h1 s hs,szs s (Aa _ hs)⟩) (by omega) (.turn pv (Rat.not_le.mp h2) sx.1 sx.2)
def spPointOf (K:Ap) (a:Adr):Sp:=fun vs H Q E=>∃ (wd:Str) (pn:Addr) (m:Nat) (us:List Un) (outs:List Nat),vs=[.str wd,.ref pn]/\Asc wd/\wd.length<=100000/\jy K a H pn m us outs/\us.length<=80/\(∀ qs,xV wd=some qs->qs.length=m->RetRL K H Q qs)/\((∀ qs,xV wd=some qs->qs.length≠m)->∀ H',Same H H'->E (.ref a.czy) none H')
theorem okyx (T:Txt K mg a):FnOk P w K mg base (CXE P w) 5 a.fyx a.dyx ["word", "net"] (spPointOf K a):=by
 refine T.Fyx.F.okE scyx ?_ ?_
 ·walk_at "c"
 walk_at "b"
 obtain ⟨wd,pn,m,us,outs,rfl,asc,len,hn,l80,q,qe⟩:=h;refine ltX ?_
 intros
 refine ⟨_,body3 (by rfl)
  (ps_s 2 scyx.nd (zy (okx3 T) (hr.mono (by decide)) rfl T.Fx3.m T.Fx3.F.kp T.Fx3.b .nil passE (pa_c (pv 0) qj)))
  (ps_if (qW op_ne (qX (zx) rfl T.m_len boot_len (pa_c (pv 2) qj)) (pe_ix zq (pe_meth0 (pv 1) T.Czl T.tzq (okzq T) (hr.mono (by decide)) T.bzq .nil pass0) qx)) (qJ (zv rfl rfl rfl rfl rfl T.x_NoText rfl T.mzy (pa_c qw qj))) qY)
  (zj (pv 2)),?_⟩
 refine lt3 ?_
 intros
 have one:(1:Nat)<=sizeLine:=by decide
 refine ⟨_,rfl,wd,rfl,asc,len,fun qs eq l vs H1 g1 el rl=>?_,fun e H1 g1=>qe (fun qs e2=>by rw [e] at e2; cases e2) _ g1⟩;have lv:=RL.length rl;obtain ⟨lu,lo,vk,hNa,hu,rk,ho⟩:=hn.mono g1;obtain ⟨dx,hN⟩:=id hNa;refine ⟨_,rfl,_,_,rfl,.inl (SqL.of el),_,rfl,pn,dx,_,rfl,hN,rfl,pn,lu,lo,m,vk,us,outs,rfl,hNa,hu,rk,l80,ho,fun t l2 o2 vu H5 g5 ht nl2 e2 ru2 _ _=>?_⟩;refine ⟨_,_,_,_,rfl,rfl,ht,rfl,rfl,_,rfl,?_⟩
 by_cases c:qs.length=m
 ·exact iteNS (congrArg V.int (by omega)) ⟨_,rfl,q qs eq c l vs H5 (g1.trans g5) (g5 _ _ el) (rl.mono g5)⟩
 ·exact iteNP (fun z=>c (by have:=V.int.inj z; omega)) ⟨one,qe (fun qs2 e3=>by rw [eq] at e3; cases e3; exact c) _ (g1.trans g5)⟩
def spTermsOf (K:Ap) (a:Adr):Sp:=fun vs H Q E=>∃ (l pn:Addr) (ws:List Str) (m:Nat) (us:List Un) (outs:List Nat),vs=[.ref l,.ref pn]/\SqL K H l (ws.map V.str)/\WdsOk ws/\jy K a H pn m us outs/\us.length<=80/\(∀ ts,allO termO ws=some ts->∃ x∈ts,m+us.length<=x.1)/\∀ H',Same H H'->E (.ref a.czy) none H'
def TmL (K:Ap) (H:Hp) (vs:List V) (ts:List (Nat×Rat)):Prop:=Paired (wZ K H) vs ts
theorem okxb (T:Txt K mg a):FnOk P w K mg base (CXE P w) 5 a.fxb a.dxb ["words", "net"] (spTermsOf K a):=by
 refine T.Fxb.F.okE scxb ?_ ?_
 ·walk_at "c"
 walk_at "b"
 obtain ⟨l,pn,ws,m,us,outs,rfl,hl,⟨l24,ok⟩,hn,l80,no,qe⟩:=h;refine ltX ?_
 intros
 refine ⟨_,body4 (by rfl)
  (vY (E:=E) rfl rfl rfl rfl (i:=2) scxb.nd rfl (Or.inl rfl) (N:=["word"]) (ix:=[none]) ⟨rfl,rfl,rfl,rfl,trivial,rfl,trivial⟩ rfl (yW (pv 0)) (fun _=>(pg_n 0 (show (["word"]:List Str).Nodup by decide +kernel))) (fun _ σ=>j3 rfl σ) (fun _=>yQ) (fun _=>(zy (okx4 T) (hr.mono (by decide)) rfl T.Fx4.m T.Fx4.F.kp T.Fx4.b .nil passC (pa_c (pv 0) qj))))
  (ps_set (i:=3) scxb.nd rfl (Or.inr rfl) (pe_d (okyu T) hr T.Fyu (pa_c (pv 1) qj)))
  (ps_if (y8 (qX (call_any rfl) rfl T.m_any boot_any (pa_c (x8 (N:=["term", "count"]) (ix:=[none,some 3]) ⟨rfl,rfl,rfl,rfl,⟨rfl,trivial⟩,rfl,⟨⟨rfl,Or.inr (Or.inl rfl),ne_loc rfl,rfl,Or.inl rfl⟩,trivial⟩⟩ rfl (yW (pv 2)) (fun _=>(pg_n 0 (show (["term", "count"]:List Str).Nodup by decide +kernel))) (fun _ σ=>j3 rfl σ) (fun _=>yQ) (fun _=>(x9 op_ge (pe_ix zq (pv 0) qx) (pv 1)))) qj))) (qJ (zv rfl rfl rfl rfl rfl T.x_NoText rfl T.mzy (pa_c qw qj))) qY)
  (zj (pv 2)),?_⟩
 refine lt4 ?_
 intros
 have one:(1:Nat)<=sizeLine:=by decide
 have lt:(ws.map V.str).length=ws.length:=by rw [List.length_map]
 refine ⟨_,rfl,l,rfl,⟨_,hl⟩,yv (n:=ws.length) (fun i ys H'=>Same H H'/\∃ ts,allO termO (ws.take i)=some ts/\TmL K H' ys ts) ⟨Same.refl _,[],rfl,.nil⟩ (smallB (by omega)) ?_ ?_ ?_⟩
 case refine_2 =>
  rintro i ys H' hi ⟨g,_⟩;exact ⟨_,_,g.seq hl,A4 (by omega)⟩
 case refine_3 =>
  rintro i m' ys H' cc x Hk hi ⟨g,ts,en,tl⟩ ⟨rfl,y1⟩ nx _;have ex:=y1 _ (g.seq hl);obtain ⟨x0,e0⟩:∃ x0,ws[i]?=some x0:=⟨_,A4 hi⟩;rw [List.getElem?_map,e0] at ex;have ex:V.str x0=x:=Am ex;have mx:x0∈ws:=A9 e0;refine Or.inl ⟨rfl,_,rfl,x0,congrArg (fun z=>[z]) ex.symm,(ok x0 mx).1,by have:=(ok x0 mx).2; omega,fun tm es p3 H3 g3 h3=>nx _ _ ⟨g.trans g3,ts++[tm],?_,Paired.snoc (Paired.mapP tl fun _ _ z=>wZ.mono z g3) h3⟩,fun e H3 g3=>qe _ (g.trans g3)⟩;rw [zZ e0];exact vQ en es
 rintro ys H3 ⟨g3,ts,en,tl⟩;rw [A5 (Nat.le_refl _)] at en;have ls:=Paired.length tl;have lts:=allO_len en;refine ⟨⟨_,g3.seq hl,by omega⟩,fun lr kr=>?_⟩;have f4:=qy kr (.lst ys);have el:=qk (H:=H3) (a:=lr) (o:=.lst ys);have tl:TmL K (upd H3 lr (.lst ys)) ys ts:=Paired.mapP tl fun _ _ z=>wZ.mono z f4
 have g4:=g3.trans f4;generalize upd H3 lr (.lst ys)=H4 at *;refine ⟨_,rfl,pn,m,us,outs,rfl,hn.mono g4,l80,fun H5 g5=>?_⟩;have el:=g5 _ _ el;have tl:TmL K H5 ys ts:=Paired.mapP tl fun _ _ z=>wZ.mono z g5
 have g4:=g4.trans g5;refine ⟨_,rfl,lr,rfl,⟨_,SqL.of el⟩,yv (n:=ts.length) (fun i ys2 H'=>H'=H5/\ys2=((ts.take i).map fun x=>decide (m+us.length<=x.1)).map V.bl) ⟨rfl,rfl⟩ (smallB (by omega)) ?_ ?_ ?_⟩
 case refine_2 =>
  rintro i ys2 H' hi ⟨rfl,_⟩;exact ⟨_,_,SqL.of el,A4 (by omega)⟩
 case refine_3 =>
  rintro i m' ys2 H' cc x Hk hi ⟨rfl,rfl⟩ ⟨rfl,y1⟩ nx _;obtain ⟨tm,et,t,pq,rfl,ht,hq⟩:=v6 tl (y1 _ (SqL.of el));refine Or.inl ⟨rfl,_,rfl,_,_,_,_,rfl,rfl,ht,rfl,_,rfl,_,_,rfl,rfl,nx _ _ ⟨rfl,?_⟩⟩;rw [zZ et,Al,Al];show _++[V.bl (decide ((m:Int)+(us.length:Int)<=(tm.1:Int)))]=_++[V.bl (decide (m+us.length<=tm.1))];rw [show decide ((m:Int)+(us.length:Int)<=(tm.1:Int))=decide (m+us.length<=tm.1) from decide_eq_decide.mpr (by omega)]
 rintro ys2 H6 ⟨rfl,rfl⟩;rw [A5 (Nat.le_refl _)];refine ⟨⟨_,SqL.of el,by omega⟩,fun lb kb=>?_⟩;have f7:=qy kb (.lst ((ts.map fun x=>decide (m+us.length<=x.1)).map V.bl));refine ⟨lb,_,rfl,SqL.of qk,?_⟩;obtain ⟨x,hx,le⟩:=no ts en;rw [show (ts.map fun x=>decide (m+us.length<=x.1)).any id=true from List.any_eq_true.mpr ⟨true,List.mem_map.mpr ⟨x,hx,decide_eq_true le⟩,rfl⟩];exact ⟨_,rfl,iteT ⟨one,qe _ (g4.trans f7)⟩⟩
def But1 (d:Addr) (H H':Hp):Prop:=∀ b o,b≠d->H b=some o->H' b=some o
abbrev DeskO (a:Adr) (dx:Addr) (vn vb:V):HO:=.ins a.cz4 dx [("net",vn),("box",vb)]
def spDeskInit (a:Adr):Sp:=fun vs H Q _=>∃ x dx:Addr,vs=[.ref x]/\H x=some (.ins a.cz4 dx [])/\Q .non (upd (upd H x (.ins a.cz4 dx [("net",.non)])) x (DeskO a dx .non .non))
theorem okz7 (T:Txt K mg a):FnOk P w K mg base CX0 1 a.fz7 a.dz7 ["self"] (spDeskInit a):=by
 refine T.Fz7.ok scz7 ?_ ?_
 ·walk_at "c"
 walk_at "b"
 obtain ⟨x,dx,rfl,hx,q⟩:=h;refine ltX ?_
 intros
 refine ⟨_,body2 (by rfl)
  (Qw (pv 0) pe_non rfl)
  (Qw (pv 0) pe_non rfl),?_⟩
 refine lt2 ?_
 intros
 refine ⟨_,rfl,x,_,dx,[],rfl,hx,T.Cz4,T.nz9,by decide,?_⟩;exact ⟨_,rfl,x,_,dx,_,rfl,qk,T.Cz4,T.nz6,by decide,q⟩
def vv (K:Ap) (a:Adr) (H:Hp) (d:Addr):Option (Nat×List Un×List Nat×Bool)->Prop
 | none=>∃ dx,H d=some (DeskO a dx .non .non)
 | some (m,us,outs,b)=>∃ dx p vb,H d=some (DeskO a dx (.ref p) vb)/\jy K a H p m us outs/\(if b then ∃ q,vb=.ref q else vb=.non)
theorem vv.mono {K:Ap} {a:Adr} {H H':Hp} {d:Addr}:∀ {st:Option (Nat×List Un×List Nat×Bool)},vv K a H d st->Same H H'->vv K a H' d st
 | none,⟨dx,h⟩,g=>⟨dx,g _ _ h⟩
 | some (_,_,_,_),⟨dx,p,vb,h,hn,k⟩,g=>⟨dx,p,vb,g _ _ h,hn.mono g,k⟩
theorem desk_ne {a:Adr} {H:Hp} {p d dx lu lo:Addr} {m:Nat} {vn vb:V} (hN:NetAt a.czl H p lu lo m) (hd:H d=some (DeskO a dx vn vb)):p≠d:=fun z=>by
 obtain ⟨dx2,h⟩:=hN;rw [z,hd] at h
 injection h with h
 injection h with _ _ h
 injection h with h _
 injection h with h _
 exact absurd h (by decide)
theorem jy.desk {K:Ap} {a:Adr} {H:Hp} {p d dx:Addr} {m:Nat} {us:List Un} {outs:List Nat} {vn vb:V} {o:HO} (h:jy K a H p m us outs) (hd:H d=some (DeskO a dx vn vb)):jy K a (upd H d o) p m us outs:=by
 obtain ⟨lu,lo,vk,hN,h1,h2,h3⟩:=h;have ne:=desk_ne hN hd;obtain ⟨dx2,e⟩:=hN;exact ⟨lu,lo,vk,⟨dx2,by rw [zk ne]; exact e⟩,SqL.upd_ins h1 hd,UL.upd_ins h2 hd,SqL.upd_ins h3 hd⟩
def spTake (K:Ap) (a:Adr):Sp:=fun vs H Q _=>∃ (d dx p:Addr) (vn vb:V) (m:Nat) (us:List Un) (outs:List Nat),vs=[.ref d,.ref p]/\H d=some (DeskO a dx vn vb)/\jy K a H p m us outs/\us.length<=80/\m<=6/\∀ H',But1 d H H'->vv K a H' d (some (m,us,outs,false))->Q (.str (figs (m+us.length))) H'
theorem okzb (T:Txt K mg a):FnOk P w K mg base CX0 4 a.fzb a.dzb ["self", "net"] (spTake K a):=by
 refine T.Fzb.ok sczb ?_ ?_
 ·walk_at "c"
 walk_at "b"
 obtain ⟨d,dx,p,vn,vb,m,us,outs,rfl,hd,hn,l80,m6,q⟩:=h;refine ltX ?_
 intros
 refine ⟨_,body3 (by rfl)
  (Qw (pv 0) (pv 1) rfl)
  (Qw (pv 0) pe_non rfl)
  (zj (pe_d (okyb T) hr T.Fyb (pa_c (pe_d (okyu T) hr T.Fyu (pa_c (pv 1) qj)) qj))),?_⟩
 refine lt3 ?_
 intros
 refine ⟨_,rfl,_,rfl,d,_,dx,_,rfl,hd,T.Cz4,T.nz9,(show 2<1000 by decide),?_⟩;have hn1:=hn.desk (o:=DeskO a dx (.ref p) vb) hd;have e1:=qk (H:=H) (a:=d) (o:=DeskO a dx (.ref p) vb);refine ⟨_,rfl,d,_,dx,_,rfl,e1,T.Cz4,T.nz6,(show 2<1000 by decide),?_⟩;have hn2:=hn1.desk (o:=DeskO a dx (.ref p) .non) e1;have e2:=qk (H:=upd H d (DeskO a dx (.ref p) vb)) (a:=d) (o:=DeskO a dx (.ref p) .non);have bt:But1 d H (upd (upd H d (DeskO a dx (.ref p) vb)) d (DeskO a dx (.ref p) .non)):=fun b o nb e=>by rw [zk nb,zk nb]; exact e
 refine ⟨_,rfl,p,m,us,outs,rfl,hn2,l80,fun H3 g3=>⟨m+us.length,rfl,Nat.lt_of_le_of_lt (show m+us.length<=86 by omega) (by decide),fun H4 g4=>?_⟩⟩;have g:=g3.trans g4;exact q H4 (fun b o nb e=>g _ _ (bt b o nb e)) ⟨dx,p,.non,g _ _ e2,hn2.mono g,rfl⟩
def spNever:Sp:=fun _ _ _ _=>False
theorem okz8 (T:Txt K mg a):FnOk P w K mg base CX0 1 a.fz8 a.dz8 ["self", "bound", "terms"] spNever :=
 T.Fz8.ok scz8 (fun vs H Q E h=>h.elim) (fun cdv A outer s H vs Q E hr h=>h.elim)
theorem okyc (T:Txt K mg a):FnOk P w K mg base CX0 1 a.fyc a.dyc ["net", "box", "terms"] spNever :=
 T.Fyc.F.ok scyc (fun vs H Q E h=>h.elim) (fun cdv A outer s H vs Q E hr h=>h.elim)
def NoTs (m:Nat) (us:List Un) (ws:List Str):Prop:=∀ ts,allO termO ws=some ts->∃ x∈ts,m+us.length<=x.1
abbrev St:=Option (Nat×List Un×List Nat×Bool)
def AnsD (K:Ap) (a:Adr) (d:Addr) (m:Nat) (us:List Un) (outs:List Nat) (b:Bool) (deed:Str) (ws:List Str) (H:Hp) (Q:VK) (E:XK):Prop :=
 (deed=Str.ofString "box" /\ (∀ ss,allO sideO ws=some ss->ss.length=m->(∀ s∈ss,s.1<=s.2)->∀ H',But1 d H H'->vv K a H' d (some (m,us,outs,true))->Q (.str (Str.ofString "ok")) H')/\(∀ ss,allO sideO ws=some ss->ss.length=m->¬ (∀ s∈ss,s.1<=s.2)->∀ H',Same H H'->E (.ref a.czu) none H')/\((∀ ss,allO sideO ws=some ss->ss.length≠m)->∀ H',Same H H'->E (.ref a.czy) none H')) \/
 (deed=Str.ofString "at" /\ ∃ wd,ws=[wd]/\(∀ qs,xV wd=some qs->qs.length=m->Drawn m us qs/\outs.length<=12/\(∀ o∈outs,o<m+us.length)/\(∀ q∈outQ (walkN qs us) outs,SzQ q)/\∀ H',Same H H'->Q (.str (Str.join jv ((outQ (walkN qs us) outs).map qS))) H')/\((∀ qs,xV wd=some qs->qs.length≠m)->∀ H',Same H H'->E (.ref a.czy) none H')) \/
 (deed=Str.ofString "says" /\ (∃ w0 r,ws=w0::r/\(ratO w0=none\/NoTs m us r))/\∀ H',Same H H'->E (.ref a.czy) none H') \/
 (deed=Str.ofString "most" /\ NoTs m us ws/\∀ H',Same H H'->E (.ref a.czy) none H')
def spAnswer (K:Ap) (a:Adr):Sp:=fun vs H Q E=>∃ (d lw:Addr) (deed:Str) (ws:List Str) (m:Nat) (us:List Un) (outs:List Nat) (b:Bool),vs=[.ref d,.str deed,.ref lw]/\vv K a H d (some (m,us,outs,b))/\SqL K H lw (ws.map V.str)/\WdsOk ws/\us.length<=80/\1<=m/\m<=6/\AnsD K a d m us outs b deed ws H Q E
theorem okz5 (T:Txt K mg a):FnOk P w K mg base (CXE P w) 7 a.fz5 a.dz5 ["self", "deed", "words"] (spAnswer K a):=by
 refine T.Fz5.okE scz5 ?_ ?_
 ·walk_at "c"
 walk_at "b"
 obtain ⟨d,lw,deed,ws,m,us,outs,b,rfl,⟨dx,p,vb,hd,hn,hb⟩,hw,ok,l80,m1,m6,h⟩:=h;refine ltX ?_
 intros
 refine ⟨_,body7 (by rfl)
  (ps_if (qW op_eq (pv 1) qw) (qK (Qw (pv 0) (zy (oky2 T) (hr.mono (by decide)) rfl T.Fy2.m T.Fy2.F.kp T.Fy2.b .nil passE (pa_c (pv 2) (pa_c (jX (pv 0) rfl) qj))) rfl) (qJ (zj qw))) qY)
  (ps_if (qW op_eq (pv 1) qw) (qJ (zj (pe_d (okx9 T) hr T.Fx9 (pa_c (x6 (jX (pv 0) rfl) T.Czl T.tzp (okzp T) (hr.mono (by decide)) T.bzp .nil pass0 (pa_c (zy (okyx T) (hr.mono (by decide)) rfl T.Fyx.m T.Fyx.F.kp T.Fyx.b .nil passE (pa_c (pe_ix zJ (pv 2) qx) (pa_c (jX (pv 0) rfl) qj))) qj) (hst:=qz rfl _ _) (hpl:=qQ rfl)) qj)))) qY)
  (ps_if (qW op_eq (pv 1) qw) pss_never qY)
  (ps_if (qW op_eq (pv 1) qw) (qJ (zj (x6 (pv 0) T.Cz4 T.tz8 (okz8 T) (hr.mono (by decide)) T.bz8 .nil pass0 (pa_c (zy (okyz T) (hr.mono (by decide)) rfl T.Fyz.m T.Fyz.F.kp T.Fyz.b .nil passE (pa_c (pe_ix zJ (pv 2) qx) qj)) (pa_c (zy (okxb T) (hr.mono (by decide)) rfl T.Fxb.m T.Fxb.F.kp T.Fxb.b .nil passE (pa_c (w6 Q9 (pv 2) (vK qx) po_none) (pa_c (jX (pv 0) rfl) qj))) qj)) (hst:=qz rfl _ _) (hpl:=qQ rfl)))) qY)
  (ps_if (qW op_eq (pv 1) qw) (qK (ps_set (i:=3) scz5.nd rfl (Or.inr rfl) (pe_d (okyc T) hr T.Fyc (pa_c (jX (pv 0) rfl) (pa_c (jX (pv 0) rfl) (pa_c (zy (okxb T) (hr.mono (by decide)) rfl T.Fxb.m T.Fxb.F.kp T.Fxb.b .nil passE (pa_c (pv 2) (pa_c (jX (pv 0) rfl) qj))) qj))))) (qJ (zj (pe_op qV (pe_op qV (pe_d (okx8 T) hr T.Fx8 (pa_c (pe_ix zq (pv 3) qx) qj)) qw) (pe_d (okx9 T) hr T.Fx9 (pa_c (pe_ix zq (pv 3) qx) qj)))))) qY)
  (ps_never)
  (ps_never),?_⟩
 refine lt7 ?_
 intros
 rcases h with ⟨rfl,q,qb,qe⟩ | ⟨rfl,wd,rfl,q,qe⟩ | ⟨rfl,⟨w0,r,rfl,bad⟩,qe⟩ | ⟨rfl,bad,qe⟩
 ·refine ⟨_,rfl,rfl,_,rfl,iteP rfl ?_⟩
  refine ⟨_,rfl,_,rfl,d,_,dx,_,_,rfl,hd,T.Cz4,T.nz9,rfl,lw,p,ws,m,us,outs,rfl,hw,ok,hn,l80,m1,m6,fun ss es ls le p3 H3 g3=>?_,fun ss es ls nle H3 g3=>qb ss es ls nle _ g3,fun e H3 g3=>qe e _ g3⟩;have hd3:=g3 _ _ hd;refine ⟨_,rfl,d,_,dx,_,rfl,hd3,T.Cz4,T.nz6,(show 2<1000 by decide),?_⟩;exact q ss es ls le _ (fun b o nb e=>by rw [zk nb]; exact g3 _ _ e) ⟨dx,p,.ref p3,qk,(hn.mono g3).desk hd3,p3,rfl⟩
 ·obtain ⟨lu,lo,vk,hNa,hu,rk,ho⟩:=id hn
  obtain ⟨dxn,hN⟩:=id hNa;have w1:=ok.2 wd (List.mem_singleton.mpr rfl);refine ⟨_,rfl,rfl,_,rfl,iteN (by decide) ⟨_,rfl,rfl,_,rfl,iteP rfl ?_⟩⟩;refine ⟨_,rfl,d,_,dx,_,_,rfl,hd,T.Cz4,T.nz9,rfl,p,dxn,_,rfl,hN,rfl,?_⟩;refine ⟨_,rfl,_,_,_,_,rfl,rfl,hw,at0,_,rfl,d,_,dx,_,_,rfl,hd,T.Cz4,T.nz9,rfl,wd,p,m,us,outs,rfl,w1.1,by have:=w1.2; omega,hn,l80,fun qs eq lq l vs H1 g1 el rl=>?_,fun e H1 g1=>qe e _ g1⟩;obtain ⟨dr,o12,olt,osz,qq⟩:=q qs eq lq;refine ⟨p,l,m,us,outs,qs,rfl,⟨lu,lo,vk,vs,hNa.mono g1,g1.seq hu,rk.mono g1,g1.seq ho,SqL.of el,rl⟩,dr,o12,olt,fun p2 H2 ys np2 g2 ep2 rl2=>?_⟩;refine ⟨p2,ys,_,rfl,SqL.of ep2,rl2,by unfold outQ; rw [List.length_map]; exact o12,osz,fun H3 g3=>qq _ (g1.trans (g2.trans g3))⟩
 ·have w1:=ok.2 w0 Ae
  refine ⟨_,rfl,rfl,_,rfl,iteN (by decide) ⟨_,rfl,rfl,_,rfl,iteN (by decide) ⟨_,rfl,rfl,_,rfl,iteN (by decide) ⟨_,rfl,rfl,_,rfl,iteP rfl ?_⟩⟩⟩⟩;refine ⟨_,rfl,d,dx,_,rfl,hd,rfl,?_⟩;refine ⟨_,rfl,_,_,_,_,rfl,rfl,hw,at0,.inl ⟨w0,_,_,rfl,pts_of w0,w1.1,by have:=w1.2; omega,fun t b e=>?_,fun e H1 g1=>qe _ g1⟩⟩;intro pr H1 g1 e1;have hw1:=g1.seq hw;refine ⟨_,rfl,_,rfl,_,_,rfl,hw1,fun ls ks=>?_⟩;rw [show cutV ((w0::r).map V.str) (some 1) none=r.map V.str from cutLo (n:=1) (by rw [List.length_map,List.length_cons]; omega)];have f2:=qy ks (.lst (r.map V.str));have bs:=qk (H:=H1) (a:=ls) (o:=.lst (r.map V.str));generalize upd H1 ls (.lst (r.map V.str))=H2 at *;have g2:=g1.trans f2;refine ⟨_,rfl,d,_,dx,_,_,rfl,g2 _ _ hd,T.Cz4,T.nz9,rfl,ls,p,r,m,us,outs,rfl,SqL.of bs,⟨by have:=ok.1; rw [List.length_cons] at this; omega,fun p hp=>ok.2 p (List.mem_cons_of_mem _ hp)⟩,hn.mono g2,l80,?_,fun H3 g3=>qe _ (g2.trans g3)⟩
  rcases bad with bad | bad
  ·have e:ratP w0=some (t,b):=e
   rw [ratO_no bad] at e
   cases e
  ·exact bad
 ·refine ⟨_,rfl,rfl,_,rfl,iteN (by decide) ⟨_,rfl,rfl,_,rfl,iteN (by decide) ⟨_,rfl,rfl,_,rfl,iteN (by decide) ⟨_,rfl,rfl,_,rfl,iteN (by decide) ⟨_,rfl,rfl,_,rfl,iteP rfl ?_⟩⟩⟩⟩⟩
  refine ⟨_,rfl,d,_,dx,_,_,rfl,hd,T.Cz4,T.nz9,rfl,_,rfl,d,_,dx,_,_,rfl,hd,T.Cz4,T.nz6,rfl,?_⟩;exact ⟨_,rfl,_,rfl,d,_,dx,_,_,rfl,hd,T.Cz4,T.nz9,rfl,lw,p,ws,m,us,outs,rfl,hw,ok,hn,l80,bad,fun H3 g3=>qe _ g3⟩
theorem AnsD.from {K:Ap} {a:Adr} {d:Addr} {m:Nat} {us:List Un} {outs:List Nat} {b:Bool} {deed:Str} {ws:List Str} {H H1:Hp} {Q:VK} {E:XK} (h:AnsD K a d m us outs b deed ws H Q E) (g:Same H H1):AnsD K a d m us outs b deed ws H1 Q E:=by
 rcases h with ⟨e,q,qb,qe⟩ | ⟨e,wd,ew,q,qe⟩ | ⟨e,bad,qe⟩ | ⟨e,bad,qe⟩
 ·exact .inl ⟨e,fun ss h1 h2 h3 H' bt=>q ss h1 h2 h3 H' fun b o nb eo=>bt b o nb (g _ _ eo),fun ss h1 h2 h3 H' g'=>qb ss h1 h2 h3 H' (g.trans g'),fun h1 H' g'=>qe h1 H' (g.trans g')⟩
 ·refine .inr (.inl ⟨e,wd,ew,fun qs h1 h2=>?_,fun h1 H' g'=>qe h1 H' (g.trans g')⟩)
  obtain ⟨k1,k2,k3,k4,k5⟩:=q qs h1 h2;exact ⟨k1,k2,k3,k4,fun H' g'=>k5 H' (g.trans g')⟩
 ·exact .inr (.inr (.inl ⟨e,bad,fun H' g'=>qe H' (g.trans g')⟩))
 ·exact .inr (.inr (.inr ⟨e,bad,fun H' g'=>qe H' (g.trans g')⟩))
def inBox:List Str:=[Str.ofString "bounds",Str.ofString "says",Str.ofString "most",Str.ofString "smaller"]
theorem inBox_is (x:Str):inV (.str x) [.str "bounds",.str "says",.str "most",.str "smaller"]=decide (x∈inBox):=by
 rw [Bool.eq_iff_iff,decide_eq_true_iff];unfold inV inBox
 simp only [List.any_cons,List.any_nil,Bool.or_false,Bool.or_eq_true,eqV,beq_iff_eq,List.mem_cons,List.not_mem_nil,or_false]
 constructor
 ·rintro (rfl | rfl | rfl | rfl) <;> simp
 ·rintro (rfl | rfl | rfl | rfl) <;> simp
def SayD (K:Ap) (a:Adr) (d:Addr) (st:St) (x:Str) (H:Hp) (Q:VK) (E:XK):Prop :=
  (lineB x=false/\∀ H',Same H H'->E (.ref a.czv) none H') \/
  (lineB x=true/\∃ w0 r,Txt.split x blank=w0::r/\((w0=Str.ofString "net" /\ WsOk r/\(∀ m us outs,netW r=some (m,us,outs)->NetOk m us outs->∀ H',But1 d H H'->vv K a H' d (some (m,us,outs,false))->Q (.str (figs (m+us.length))) H')/\(∀ m us outs,netW r=some (m,us,outs)->¬ NetOk m us outs->∀ H',Same H H'->E (.ref a.czw) none H')/\(netW r=none->∀ H',Same H H'->E (.ref a.czy) none H')) \/
     (w0≠Str.ofString "net" /\ st=none/\∀ H',Same H H'->E (.ref a.czw) none H') \/
     (w0≠Str.ofString "net" /\ w0∈inBox/\(∃ m us outs,st=some (m,us,outs,false))/\∀ H',Same H H'->E (.ref a.czu) none H') \/
     (w0≠Str.ofString "net" /\ WdsOk r/\∃ m us outs b,st=some (m,us,outs,b)/\(b=true\/w0∉inBox)/\us.length<=80/\1<=m/\m<=6/\AnsD K a d m us outs b w0 r H Q E)))
def spSay (K:Ap) (a:Adr):Sp:=fun vs H Q E=>∃ (d:Addr) (v:V) (st:St),vs=[.ref d,v]/\vv K a H d st/\((IsS K H v/\∀ H',Same H H'->E (.ref a.czv) none H')\/(∃ x:Str,v=.str x/\Asc x/\x.length<=1000/\SayD K a d st x H Q E))
theorem vv.is {K:Ap} {a:Adr} {H:Hp} {d:Addr}:∀ {st:St},vv K a H d st->∃ dx vn vb,H d=some (DeskO a dx vn vb)
 | none,⟨dx,h⟩=>⟨dx,_,_,h⟩
 | some (_,_,_,_),⟨dx,_,_,h,_⟩=>⟨dx,_,_,h⟩
theorem xz (T:Txt K mg a) (B:a.w=w):FnOk P w K mg base (CXE P w) 11 a.fza a.dza ["self", "line"] (spSay K a):=by
 refine T.Fza.okE scza ?_ ?_
 ·walk_at "c"
 walk_at "b"
 obtain ⟨d,v,st,rfl,hD,h⟩:=h;refine ltX ?_
 intros
 refine ⟨_,body5 (by rfl)
  (ps_s 2 scza.nd (zy (okyr T B) (hr.mono (by decide)) rfl T.Fyr.m T.Fyr.F.kp T.Fyr.b .nil passE (pa_c (pv 1) qj)))
  (ps_if (qW op_eq (pe_ix zJ (pv 2) qx) qw) (qJ (zj (x6 (pv 0) T.Cz4 T.tzb (okzb T) (hr.mono (by decide)) T.bzb .nil pass0 (pa_c (zy (okys T) (hr.mono (by decide)) rfl T.Fys.m T.Fys.F.kp T.Fys.b .nil passE (pa_c (w6 Q9 (pv 2) (vK qx) po_none) qj)) qj) (hst:=qz rfl _ _) (hpl:=qQ rfl)))) qY)
  (ps_if (qW op_isN (jX (pv 0) rfl) pe_non) (qJ (zv rfl rfl rfl rfl rfl T.x_NoNet rfl T.mzw (pa_c qw qj))) qY)
  (ps_if (PW.pt (kW (qW op_isN (jX (pv 0) rfl) pe_non) (vX (qW op_in_seq (pe_ix zJ (pv 2) qx) (yY (v:=.ref a.gzd) rfl T.mzd rfl) (by with_unfolding_all rfl))))) (qJ (zv rfl rfl rfl rfl rfl T.x_NoBox rfl T.mzu (pa_c qw qj))) qY)
  (zj (x6 (pv 0) T.Cz4 T.tz5 (okz5 T) (hr.mono (by decide)) T.bz5 .nil passE (pa_c (pe_ix zJ (pv 2) qx) (pa_c (w6 Q9 (pv 2) (vK qx) po_none) qj)) (hst:=qz rfl _ _) (hpl:=qQ rfl))),?_⟩
 refine lt5 ?_
 intros
 have one:(1:Nat)<=sizeLine:=by decide
 rcases h with ⟨is,qe⟩ | ⟨x,rfl,asc,len,h⟩
 ·exact ⟨_,rfl,.inr ⟨v,rfl,is,fun H1 g1=>qe _ g1⟩⟩
 rcases h with ⟨lb,qe⟩ | ⟨lb,w0,r,es,h⟩
 ·exact ⟨_,rfl,.inl ⟨x,rfl,asc,by omega,fun lb2=>(by rw [lb] at lb2; cases lb2),fun _ H1 g1=>qe _ g1⟩⟩
 refine ⟨_,rfl,.inl ⟨x,rfl,asc,by omega,fun _ lw H1 g1 ew=>?_,fun lb2=>(by rw [lb] at lb2; cases lb2)⟩⟩;rw [es] at ew;have ew:H1 lw=some (.lst (.str w0::r.map V.str)):=ew;refine ⟨_,rfl,_,_,_,_,rfl,rfl,SqL.of ew,at0,rfl,_,rfl,?_⟩;have hD1:=hD.mono g1;have cut:cutV (.str w0::r.map V.str) (some 1) none=r.map V.str:=cutLo (n:=1) (by rw [List.length_cons]; omega);have eb:(if false=true then !inV (V.str w0) [.str "bounds",.str "says",.str "most",.str "smaller"] else inV (V.str w0) [.str "bounds",.str "says",.str "most",.str "smaller"])=decide (w0∈inBox):=inBox_is w0
 rcases h with ⟨rfl,wok,q,qn,qe⟩ | ⟨nn,rfl,qe⟩ | ⟨nn,inb,⟨m,us,outs,rfl⟩,qe⟩ | ⟨nn,wok,m,us,outs,b,rfl,nb,l80,m1,m6,h⟩
 ·obtain ⟨dx,vn,vb,hd⟩:=hD1.is
  refine iteP rfl ⟨_,rfl,d,dx,_,rfl,hd,rfl,_,rfl,_,rfl,_,_,rfl,SqL.of ew,fun ls ks=>?_⟩;rw [cut];have f2:=qy ks (.lst (r.map V.str));have bs:=qk (H:=H1) (a:=ls) (o:=.lst (r.map V.str));generalize upd H1 ls (.lst (r.map V.str))=H2 at *;have g2:=g1.trans f2;refine ⟨ls,r,rfl,SqL.of bs,wok,fun m us outs e no p H3 g3 hp=>?_,fun m us outs e no H3 g3=>qn m us outs e no _ (g2.trans g3),fun e H3 g3=>qe e _ (g2.trans g3)⟩;refine ⟨d,dx,p,vn,vb,m,us,outs,rfl,g3 _ _ (f2 _ _ hd),hp,?_,?_,fun H4 bt da=>q m us outs e no _ (fun b o nb eo=>bt b o nb (g3 _ _ (g2 _ _ eo))) da⟩
  ·exact no.2.1
  ·exact no.2.2.2.2.1
 ·obtain ⟨dx,hd⟩:=hD1
  refine iteN (fun z=>nn (V.str.inj z)) ⟨_,rfl,d,_,dx,_,_,rfl,hd,T.Cz4,T.nz9,rfl,rfl,_,rfl,iteP rfl ⟨one,qe _ g1⟩⟩
 ·obtain ⟨dx,p,vb,hd,hn,hb⟩:=hD1
  have hb:vb=.non:=hb;subst hb;refine iteN (fun z=>nn (V.str.inj z)) ⟨_,rfl,d,_,dx,_,_,rfl,hd,T.Cz4,T.nz9,rfl,rfl,_,rfl,iteN (fun z=>by cases z) ?_⟩;refine ⟨_,rfl,d,_,dx,_,_,rfl,hd,T.Cz4,T.nz6,rfl,rfl,_,rfl,iteP rfl ?_⟩;refine ⟨_,rfl,_,_,_,_,rfl,rfl,SqL.of ew,at0,_,_,rfl,.inr (T.szd _),rfl,rfl,_,rfl,?_⟩;rw [eb,decide_eq_true inb];exact iteT ⟨one,qe _ g1⟩
 ·have hDm:=hD1
  obtain ⟨dx,p,vb,hd,hn,hb⟩:=hD1;have h:=h.from g1;refine iteN (fun z=>nn (V.str.inj z)) ⟨_,rfl,d,_,dx,_,_,rfl,hd,T.Cz4,T.nz9,rfl,rfl,_,rfl,iteN (fun z=>by cases z) ?_⟩;refine ⟨_,rfl,d,_,dx,_,_,rfl,hd,T.Cz4,T.nz6,rfl,rfl,_,rfl,?_⟩
  cases b with
  | true =>
   obtain ⟨qv,rfl⟩:∃ q,vb=.ref q:=hb;refine iteN (fun z=>by cases z) ?_;refine ⟨_,rfl,d,dx,_,rfl,hd,rfl,_,rfl,_,_,_,_,rfl,rfl,SqL.of ew,at0,_,rfl,_,rfl,_,_,rfl,SqL.of ew,fun ls ks=>?_⟩;rw [cut];have f2:=qy ks (.lst (r.map V.str));have bs:=qk (H:=H1) (a:=ls) (o:=.lst (r.map V.str));generalize upd H1 ls (.lst (r.map V.str))=H2 at *;exact ⟨d,ls,w0,r,m,us,outs,_,rfl,hDm.mono f2,SqL.of bs,wok,l80,m1,m6,h.from f2⟩
  | false =>
   have hb:vb=.non:=hb;subst hb;have ni:w0∉inBox:=nb.resolve_left (by decide);refine iteP rfl ⟨_,rfl,_,_,_,_,rfl,rfl,SqL.of ew,at0,_,_,rfl,.inr (T.szd _),rfl,rfl,_,rfl,?_⟩;rw [eb,decide_eq_false ni];refine iteF ?_;refine ⟨_,rfl,d,dx,_,rfl,hd,rfl,_,rfl,_,_,_,_,rfl,rfl,SqL.of ew,at0,_,rfl,_,rfl,_,_,rfl,SqL.of ew,fun ls ks=>?_⟩;rw [cut];have f2:=qy ks (.lst (r.map V.str));have bs:=qk (H:=H1) (a:=ls) (o:=.lst (r.map V.str));generalize upd H1 ls (.lst (r.map V.str))=H2 at *;exact ⟨d,ls,w0,r,m,us,outs,_,rfl,hDm.mono f2,SqL.of bs,wok,l80,m1,m6,h.from f2⟩
inductive Cl where
 | line
 | net
 | box
 | text
def Cl.adr (a:Adr):Cl->Addr
 | .line=>a.czv
 | .net=>a.czw
 | .box=>a.czu
 | .text=>a.czy
def Cl.word:Cl->Str
 | .line=>Str.ofString "line"
 | .net=>Str.ofString "net"
 | .box=>Str.ofString "box"
 | .text=>Str.ofString "text"
def Cl.bs:Cl->List Bool
 | .line=>[true,false,false,false]
 | .net=>[false,true,false,false]
 | .box=>[false,false,true,false]
 | .text=>[false,false,false,true]
def Cl.ix:Cl->Nat
 | .line=>0
 | .net=>1
 | .box=>2
 | .text=>3
def Cl.at (c:Cl) (i:Nat):Bool:=c.bs.getD i false
theorem cl_facts (T:Txt K mg a) (c:Cl):PySem.W.mroIn K (c.adr a) (.ref a.cz0)=some true/\ExcCls K (c.adr a)/\PySem.W.kitOne K (.ref (c.adr a)) (.type "ValueError")=some true/\PySem.W.kitOne K (.ref (c.adr a)) (.ref a.czv)=some (c.at 0)/\PySem.W.kitOne K (.ref (c.adr a)) (.ref a.czw)=some (c.at 1)/\PySem.W.kitOne K (.ref (c.adr a)) (.ref a.czu)=some (c.at 2)/\PySem.W.kitOne K (.ref (c.adr a)) (.ref a.czy)=some (c.at 3)/\PySem.W.kitOne K (.ref (c.adr a)) (.ref a.czx)=some false/\PySem.W.kitOne K (.ref (c.adr a)) (.ref a.czz)=some false:=by
 cases c with
 | line=>exact ⟨T.u_NoLine,T.e_NoLine,T.k_NoLine_ValueError,T.k_NoLine_NoLine,T.k_NoLine_NoNet,T.k_NoLine_NoBox,T.k_NoLine_NoText,T.k_NoLine_NoRatio,T.k_NoLine_Unlike⟩
 | net=>exact ⟨T.u_NoNet,T.e_NoNet,T.k_NoNet_ValueError,T.k_NoNet_NoLine,T.k_NoNet_NoNet,T.k_NoNet_NoBox,T.k_NoNet_NoText,T.k_NoNet_NoRatio,T.k_NoNet_Unlike⟩
 | box=>exact ⟨T.u_NoBox,T.e_NoBox,T.k_NoBox_ValueError,T.k_NoBox_NoLine,T.k_NoBox_NoNet,T.k_NoBox_NoBox,T.k_NoBox_NoText,T.k_NoBox_NoRatio,T.k_NoBox_Unlike⟩
 | text=>exact ⟨T.u_NoText,T.e_NoText,T.k_ValueError,T.k_NoLine,T.k_NoNet,T.k_NoBox,T.k_NoText,T.k_NoRatio,T.k_Unlike⟩
def Ref (K:Ap) (a:Adr) (d:Addr) (v:V) (c:Cl) (H:Hp):Prop:=∀ (Q:VK) (E:XK),(∀ H',Same H H'->E (.ref (c.adr a)) none H')->spSay K a [.ref d,v] H Q E
def spRefusal (K:Ap) (a:Adr):Sp:=fun vs H Q _=>∃ (d dx:Addr) (v vn vb:V) (c:Cl),vs=[.ref d,v]/\H d=some (DeskO a dx vn vb)/\Ref K a d v c H/\∀ H',Same H H'->Q (.str c.word) H'
theorem jV (T:Txt K mg a) (B:a.w=w):FnOk P w K mg base CX0 12 a.fyo a.dyo ["_law_desk", "_law_line"] (spRefusal K a):=by
 refine T.Fyo.F.ok j4 ?_ ?_
 ·walk_at "c"
 walk_at "b"
 obtain ⟨d,dx,v,vn,vb,c,rfl,hd,rf,q⟩:=h;refine ltX ?_
 intros
 refine ⟨_,body3 (by rfl)
  (ps_s 2 j4.nd qw)
  (ps_tryMeth (i:=3) rfl rfl rfl j4.nd rfl rfl (pv 0) T.Cz4 T.tza (xz T B) (hr.mono (by decide)) T.bza rfl T.mz0 (pa_c (pv 1) qj) (fun ea=>(qK (ps_s 4 j4.nd (yK (pa_c (qX (Q6) rfl T.m_isinstance boot_isinstance (pa_c (pv 3) (pa_c (yY (v:=.ref a.czv) rfl T.mzv rfl) qj))) (pa_c (qX (Q6) rfl T.m_isinstance boot_isinstance (pa_c (pv 3) (pa_c (yY (v:=.ref a.czw) rfl T.mzw rfl) qj))) (pa_c (qX (Q6) rfl T.m_isinstance boot_isinstance (pa_c (pv 3) (pa_c (yY (v:=.ref a.czu) rfl T.mzu rfl) qj))) (pa_c (qX (Q6) rfl T.m_isinstance boot_isinstance (pa_c (pv 3) (pa_c (yY (v:=.ref a.czy) rfl T.mzy rfl) qj))) qj)))))) (qK (ps_s 2 j4.nd qw) (qJ (ps_if (PW.pt (kW (qW op_eq (pe_bm PySem.F.plainAttrs_list PySem.F.slot_list_count PySem.F.type_list_count mt_countB (pv 4) (pa_c pe_bl qj)) qx) (kW (y8 (qX (Q6) rfl T.m_isinstance boot_isinstance (pa_c (pv 3) (pa_c (jq (v:=.ty "ValueError") rfl T.m_ValueError boot_ValueError rfl) qj)))) (vX (yy (y8 (qX (call_isiN) rfl T.m_isinstance boot_isinstance (pa_c (pv 3) (pa_c (j9 (pa_c (yY (v:=.ref a.czx) rfl T.mzx rfl) (pa_c (yY (v:=.ref a.czz) rfl T.mzz rfl) qj))) qj))))))))) (qJ (ps_s 2 j4.nd (pe_ix zJ (yK (pa_c qw (pa_c qw (pa_c qw (pa_c qw qj))))) (pe_bm PySem.F.plainAttrs_list PySem.F.slot_list_index PySem.F.type_list_index mt_indexB (pv 4) (pa_c pe_bl qj))))) qY))))))
  (zj (pv 2)),?_⟩
 refine lt3 ?_
 intros
 obtain ⟨ku,ke,kv,k0,k1,k2,k3,kr,kn⟩:=cl_facts T c;refine ⟨_,rfl,d,dx,_,rfl,hd,rfl,_,rfl,rf _ _ fun H1 g1=>⟨_,rfl,⟨T.x_BendError,ku⟩,fun ea hea=>?_⟩⟩;have hx:upd H1 ea (.ext (ExcAt ea (c.adr a))) ea=some (.ext (ExcAt ea (c.adr a))):=qk;have g1:=g1.trans (qy hea (.ext (ExcAt ea (c.adr a))));generalize upd H1 ea (.ext (ExcAt ea (c.adr a)))=H2 at *;have el:c.bs.map V.bl=[.bl (c.at 0),.bl (c.at 1),.bl (c.at 2),.bl (c.at 3)]:=by cases c <;> rfl
 refine ⟨_,rfl,ea,_,_,_,_,rfl,rfl,hx,ke,k0,_,rfl,ea,_,_,_,_,rfl,rfl,hx,ke,k1,_,rfl,ea,_,_,_,_,rfl,rfl,hx,ke,k2,_,rfl,ea,_,_,_,_,rfl,rfl,hx,ke,k3,(show 4<=sizeLine by decide),fun p7 h7=>?_⟩;rw [<- el];have f7:=qy h7 (.lst (c.bs.map V.bl));have b7:=qk (H:=H2) (a:=p7) (o:=.lst (c.bs.map V.bl));have hx:=f7 _ _ hx;have g1:=g1.trans f7;generalize upd H2 p7 (.lst (c.bs.map V.bl))=H3 at *;have cn:c.bs.countP (·==true)=1:=by cases c <;> rfl
 have hj:c.bs[c.ix]?=some true:=by cases c <;> rfl
 have hi:∀ i,i<c.ix->c.bs[i]?=some false:=by
  cases c with
  | line=>exact fun i h=>absurd h (Nat.not_lt_zero _)
  | net=>exact fun i h=>by obtain rfl:i=0:=Nat.lt_one_iff.mp h; rfl
  | box=>exact fun i h=>by match i,h with | 0,_=>rfl | 1,_=>rfl
  | text=>exact fun i h=>by match i,h with | 0,_=>rfl | 1,_=>rfl | 2,_=>rfl
 refine ⟨_,rfl,.inl ⟨rfl,_,SqL.of b7⟩,p7,c.bs,rfl,rfl,SqL.of b7,rfl,_,rfl,iteP (congrArg (fun n:Nat=>V.int (n:Int)) cn) ?_⟩;refine ⟨_,rfl,ea,_,_,_,_,rfl,rfl,hx,ke,kv,_,rfl,iteT ?_⟩;refine ⟨_,rfl,(show 2<=sizeLine by decide),fun tp kt=>?_⟩;have f8:=qy kt (.tup [.ref a.czx,.ref a.czz]);refine ⟨ea,_,tp,[a.czx,a.czz],rfl,f8 _ _ hx,ke,SqT.of qk,fun D hD=>?_,_,rfl,?_⟩
 ·simp only [List.mem_cons,List.not_mem_nil,or_false] at hD
  rcases hD with rfl | rfl
  ·exact kr
  ·exact kn
 have b7:=f8 _ _ b7;have g1:=g1.trans f8;generalize upd H3 tp (.tup [.ref a.czx,.ref a.czz])=H4 at *;refine ⟨(show 4<=sizeLine by decide),fun lw kw=>?_⟩;have f9:=qy kw (.lst [.str (Str.ofString "line"),.str (Str.ofString "net"),.str (Str.ofString "box"),.str (Str.ofString "text")]);have b9:=qk (H:=H4) (a:=lw) (o:=.lst [.str (Str.ofString "line"),.str (Str.ofString "net"),.str (Str.ofString "box"),.str (Str.ofString "text")]);have b7:=f9 _ _ b7;have g1:=g1.trans f9;generalize upd H4 lw (.lst [.str (Str.ofString "line"),.str (Str.ofString "net"),.str (Str.ofString "box"),.str (Str.ofString "text")])=H5 at *;refine ⟨_,rfl,.inl ⟨rfl,_,SqL.of b7⟩,p7,c.bs,c.ix,rfl,rfl,SqL.of b7,hj,hi,_,_,_,.str c.word,rfl,rfl,SqL.of b9,by cases c <;> rfl,?_⟩;exact ⟨_,rfl,q _ g1⟩
instance goodD:DecidablePred goodS:=fun x=>by unfold goodS PySem.NumText.AllDigits; infer_instance
def figC (w:Str):Option Nat:=if goodS w then some (valS w) else none
theorem figO_C:figO=figC:=funext fun w=>by
 by_cases h:goodS w
 ·rw [figO_yes h]; unfold figC; rw [if_pos h]
 ·rw [figO_no h]; unfold figC; rw [if_neg h]
def outC (s:Bool):List Str->Option (Int×Int)
 | [x]=>if goodS x/\¬ (s=true/\valS x=0) then some (tv s x,1) else none
 | [x,y]=>if goodS x/\goodS y/\¬ (s=true/\valS x=0)/\2<=valS y/\Nat.gcd (valS y) (valS x)=1 then some (tv s x,(valS y:Int)) else none
 | _=>none
theorem outP_C (s:Bool) (ps:List Str):outP s ps=outC s ps:=by
 match ps with
 | []=>rfl
 | [x] =>
  by_cases h:goodS x/\¬ (s=true/\valS x=0)
  ·rw [out1 h]; exact (if_pos h).symm
  ·rw [out1n h]; exact (if_neg h).symm
 | [x,y] =>
  by_cases h:goodS x/\goodS y/\¬ (s=true/\valS x=0)/\2<=valS y/\Nat.gcd (valS y) (valS x)=1
  ·rw [out2 h]; exact (if_pos h).symm
  ·rw [out2n h]; exact (if_neg h).symm
 | _::_::_::_=>rfl
def ratC (w:Str):Option Rat:=(outC (sgnB w) (Txt.split (bodyS w) ⟨#[47]⟩)).map fun z=>Rat.divInt z.1 z.2
theorem ratO_C:ratO=ratC:=funext fun w=>by unfold ratO ratP ratC; rw [outP_C]
def termC (w:Str):Option (Nat×Rat):=match Txt.split w ⟨#[58]⟩ with
 | [x,y]=>match figC x,ratC y with
  | some n,some q=>some (n,q)
  | _,_=>none
 | _=>none
theorem termO_C:termO=termC:=funext fun w=>by
 unfold termO termC;rw [figO_C,ratO_C]
 all_goals rfl
def unitC:List Str->Option Un
 | w0::w1::r=>if w0=bendW/\r=[] then (figC w1).map Un.bend else if w0=sumW then (match ratC w1,allO termC r with
  | some q,some ts=>some (Un.sum q ts)
  | _,_=>none) else none
 | _=>none
theorem unitO_C:unitO=unitC:=funext fun ws=>by
 match ws with
 | []=>rfl
 | [_]=>rfl
 | w0::w1::r =>
  unfold unitO unitC;rw [figO_C,ratO_C,termO_C]
  all_goals
   dsimp only
   by_cases h:w0=bendW/\r=[]
   ·rw [if_pos h,if_pos h]
   ·rw [if_neg h,if_neg h]
    by_cases k:w0=sumW
    ·rw [if_pos k,if_pos k]
     all_goals rfl
    ·rw [if_neg k,if_neg k]
def placesC (h:Str):List Str->Option (List Nat)
 | w0::r=>if w0=h then allO figC r else none
 | []=>none
theorem placesO_C:yZ=placesC:=funext fun h=>funext fun ws=>by
 match ws with
 | []=>rfl
 | w0::r =>
  unfold yZ placesC;rw [figO_C]
  all_goals
   by_cases k:w0=h
   ·rw [if_pos k,if_pos k]
   ·rw [if_neg k,if_neg k]
def netC (x:Str):Option (Nat×List Un×List Nat):=match Txt.split x jz with
 | f::b::r=>combO (placesC insW (Txt.split f blank)) (allO (fun z=>unitC (Txt.split z blank)) (b::r).dropLast) (placesC outW (Txt.split ((b::r).getLast (by simp)) blank))
 | _=>none
theorem netO_C:netO=netC:=funext fun x=>by
 unfold netO netC;rw [placesO_C,unitO_C]
 all_goals rfl
def netWC (ws:List Str):Option (Nat×List Un×List Nat):=if ws.any (fun p=>decide (10∈p.cps.toList))=true then none else netC (textC ws)
theorem netW_C:netW=netWC:=funext fun ws=>by
 unfold netW netWC;rw [netO_C];have e:(∃ p∈ws,10∈p.cps.toList)↔ws.any (fun p=>decide (10∈p.cps.toList))=true:=by simp [List.any_eq_true]
 by_cases h:∃ p∈ws,10∈p.cps.toList
 ·rw [if_pos h,if_pos (e.mp h)]
 ·rw [if_neg h,if_neg (fun z=>h (e.mpr z))]
def pointC (w:Str):Option (List Rat):=allO ratC (Txt.split w jv)
theorem pointO_C:xV=pointC:=funext fun w=>by unfold xV pointC; rw [ratO_C]
def sideC (w:Str):Option (Rat×Rat):=match pointC w with
 | some [x,y]=>some (x,y)
 | _=>none
theorem sideO_C:sideO=sideC:=funext fun w=>by
 unfold sideO sideC;rw [pointO_C]
 all_goals rfl
def ascB (x:Str):Bool:=x.cps.toList.all fun c=>decide (c<128)
theorem ascB_ok {x:Str} (h:ascB x=true):Asc x:=fun c hc=>of_decide_eq_true (List.all_eq_true.mp h c hc)
def wsB (ws:List Str):Bool:=decide (ws.length<=24)&&ws.all fun p=>ascB p&&decide (p.length<=100)&&!decide (32∈p.cps.toList)
theorem wsB_ok {ws:List Str} (h:wsB ws=true):WsOk ws:=by
 unfold wsB at h;rw [Bool.and_eq_true] at h;refine ⟨of_decide_eq_true h.1,fun p hp=>?_⟩;have k:=List.all_eq_true.mp h.2 p hp
 simp only [Bool.and_eq_true,Bool.not_eq_true',decide_eq_false_iff_not,decide_eq_true_eq] at k
 exact ⟨ascB_ok k.1.1,k.1.2,k.2⟩
theorem WsOk.wds {ws:List Str} (h:WsOk ws):WdsOk ws:=⟨h.1,fun p hp=>⟨(h.2 p hp).1,Ao (h.2 p hp).2.1 (by decide)⟩⟩
instance wfuD (e:Nat) (u:Un):Decidable (WfU e u):=by
 cases u with
 | sum c ts=>unfold WfU; infer_instance
 | bend p=>unfold WfU; infer_instance
def netB (m:Nat) (us:List Un) (outs:List Nat):Bool:=((List.range us.length).all fun k=>match us[k]? with | some u=>decide (WfU (m+k) u) | none=>true)&&decide (1<=m)&&decide (m<=6)&&decide (1<=outs.length)&&outs.all fun o=>decide (o<m+us.length)
theorem netB_ok {m:Nat} {us:List Un} {outs:List Nat} (h:NetOk m us outs):netB m us outs=true:=by
 obtain ⟨wf,_,_,m1,m6,o1,_,ol⟩:=h;unfold netB
 simp only [Bool.and_eq_true,decide_eq_true_eq,List.all_eq_true]
 refine ⟨⟨⟨⟨fun k _=>?_,m1⟩,m6⟩,o1⟩,ol⟩
 cases e:us[k]? with
 | none=>rfl
 | some u=>exact decide_eq_true (wf k u e)
def badTs (m n:Nat) (ws:List Str):Bool:=match allO termC ws with
 | none=>true
 | some ts=>ts.any fun x=>decide (m+n<=x.1)
theorem badTs_ok {m:Nat} {us:List Un} {ws:List Str} (h:badTs m us.length ws=true):NoTs m us ws:=fun ts e=>by
 rw [termO_C] at e;unfold badTs at h;rw [e] at h;obtain ⟨x,hx,k⟩:=List.any_eq_true.mp h;exact ⟨x,hx,of_decide_eq_true k⟩
def refB (st:Option (Nat×Nat×Bool)) (x:Str):Option Cl:=if ascB x=false\/1000<x.length then none else if lineB x=false then some .line else match Txt.split x blank with
 | w0::r=>if wsB r=false then none else if w0=Str.ofString "net" then (match netWC r with
   | none=>some .text
   | some (m,us,outs)=>if netB m us outs=true then none else some .net) else (match st with
  | none=>some .net
  | some (m,n,b)=>if b=false/\w0∈inBox then some .box else
    if w0=Str.ofString "box" then (match allO sideC r with
     | none=>some .text
     | some ss=>if ss.length=m then (if (∀ s∈ss,s.1<=s.2) then none else some .box) else some .text)
    else if w0=Str.ofString "at" then (match r with
     | [wd]=>(match pointC wd with
      | none=>some .text
      | some qs=>if qs.length=m then none else some .text)
     | _=>none)
    else if w0=Str.ofString "says" then (match r with
     | z::t=>if (ratC z).isNone=true\/badTs m n t=true then some .text else none
     | []=>none)
    else if w0=Str.ofString "most" then (if badTs m n r=true then some .text else none) else none)
 | []=>none
def StOk:St->Option (Nat×Nat×Bool)->Prop
 | none,none=>True
 | some (m,us,_,b),some (m',n,b')=>m=m'/\us.length=n/\b=b'/\us.length<=80/\1<=m/\m<=6
 | _,_=>False
theorem refB_ok {K:Ap} {a:Adr} {H:Hp} {d:Addr} {st:St} {st':Option (Nat×Nat×Bool)} {x:Str} {c:Cl} (hs:StOk st st') (h:refB st' x=some c) (hD:vv K a H d st):Ref K a d (.str x) c H:=fun Q E q=>by
 unfold refB at h
 split at h
 ·cases h
 rename_i sz
 have asc:Asc x:=ascB_ok (by cases e:ascB x <;> simp_all);have len:x.length<=1000:=Nat.not_lt.mp fun z=>sz (.inr z)
 refine ⟨d,.str x,st,rfl,hD,.inr ⟨x,rfl,asc,len,?_⟩⟩
 split at h
 ·rename_i lb
  cases h
  exact .inl ⟨lb,q⟩
 rename_i lb
 have lb:lineB x=true:=by cases e:lineB x <;> simp_all
 refine .inr ⟨lb,?_⟩
 split at h
 case h_2=>cases h
 rename_i w0 r es
 refine ⟨w0,r,es,?_⟩
 split at h
 ·cases h
 rename_i wb
 have ws:WsOk r:=wsB_ok (by cases e:wsB r <;> simp_all)
 split at h
 ·rename_i en
  refine .inl ⟨en,ws,fun m us outs e ok=>?_,fun m us outs e ok=>?_,fun e=>?_⟩
  ·rw [netW_C] at e
   rw [e] at h;dsimp only at h;rw [if_pos (netB_ok ok)] at h
   cases h
  ·rw [netW_C] at e
   rw [e] at h;dsimp only at h
   split at h
   ·cases h
   ·cases h
    exact q
  ·rw [netW_C] at e
   rw [e] at h
   cases h
   exact q
 rename_i nn
 refine .inr ?_
 match st,st',hs with
 | none,none,_ =>
  cases h
  exact .inl ⟨nn,rfl,q⟩
 | some (m,us,outs,b),some (m',n,b'),hs =>
  obtain ⟨rfl,rfl,rfl,l80,m1,m6⟩:=hs;dsimp only at h
  split at h
  ·rename_i k
   cases h
   obtain ⟨rfl,ib⟩:=k;exact .inr (.inl ⟨nn,ib,⟨m,us,outs,rfl⟩,q⟩)
  rename_i k
  have nb:b=true\/w0∉inBox:=by
   cases b with
   | true=>exact .inl rfl
   | false=>exact .inr fun z=>k ⟨rfl,z⟩
  refine .inr (.inr ⟨nn,ws.wds,m,us,outs,b,rfl,nb,l80,m1,m6,?_⟩)
  split at h
  ·rename_i eb
   refine .inl ⟨eb,fun ss e l le=>?_,fun ss e l nle=>?_,fun e=>?_⟩
   ·rw [sideO_C] at e
    rw [e] at h;dsimp only at h;rw [if_pos l,if_pos le] at h
    cases h
   ·rw [sideO_C] at e
    rw [e] at h;dsimp only at h;rw [if_pos l,if_neg nle] at h
    cases h
    exact q
   ·rw [sideO_C] at e
    split at h
    ·cases h
     exact q
    ·rename_i ss es
     rw [if_neg (e ss es)] at h
     cases h
     exact q
  split at h
  ·rename_i ea
   split at h
   case h_2=>cases h
   rename_i wd
   refine .inr (.inl ⟨ea,wd,rfl,fun qs e l=>?_,fun e=>?_⟩)
   ·rw [pointO_C] at e
    rw [e] at h;dsimp only at h;rw [if_pos l] at h
    cases h
   ·rw [pointO_C] at e
    split at h
    ·cases h
     exact q
    ·rename_i qs eq
     rw [if_neg (e qs eq)] at h
     cases h
     exact q
  split at h
  ·rename_i ea
   split at h
   case h_2=>cases h
   rename_i z t
   split at h
   case isFalse=>cases h
   rename_i k
   cases h
   refine .inr (.inr (.inl ⟨ea,⟨z,t,rfl,?_⟩,q⟩))
   rcases k with k | k
   ·left
    rw [ratO_C];exact Option.isNone_iff_eq_none.mp k
   ·exact .inr (badTs_ok k)
  split at h
  ·rename_i ea
   split at h
   case isFalse=>cases h
   rename_i k
   cases h
   exact .inr (.inr (.inr ⟨ea,badTs_ok k,q⟩))
  ·cases h
 | none,some _,hs=>exact hs.elim
 | some _,none,hs=>exact hs.elim
def oddR:List Str:=["", "-0", "00", "1/1", "2/4", "1/0", "x", "1.5", "+1", "-", "1/-2", "--1", "7/", "/2"]
def oddS:List Str:=oddR++[Txt.mul (Str.ofString "9") 61,Str.ofString "1;2",Str.ofString "1:2"]
def rep (n:Nat) (x:Str):List Str:=List.replicate n x
abbrev tx (s:String):Str:=Str.ofString s
def badT (way many o r9 r3 r7 r4:Nat):Str :=
 let odd:=oddS.getD o Str.empty
 match way with
 | 0=>tx "at " ++ Str.join jv (rep many (tx "1"))++tx "," ++ tx "2"
 | 1=>tx "at " ++ Str.join jv ([odd]++rep (many - 1) (tx "1"))
 | 2=>tx "box " ++ Str.join blank (rep (many+1) (tx "0,1"))
 | 3=>tx "box " ++ Str.join blank ([tx "0," ++ odd]++rep (many - 1) (tx "0,1"))
 | 4=>tx "box " ++ Str.join blank (rep (many - 1) (tx "0,1")++[tx "1,1/" ++ figs (2+r9)])
 | 5=>tx "says 1 0:1 " ++ figs (many+3+r3)++tx ":1"
 | 6=>tx "says " ++ odd++tx " 0:1"
 | 7=>tx "most 0:1 " ++ [tx "0:",tx ":1",tx "0",tx "00:1",tx "-1:1",tx "0:1:1",tx "0:" ++ odd].getD r7 Str.empty
 | 8=>tx "most " ++ figs (many+3)++tx ":" ++ odd
 | 9=>tx "box " ++ Str.join blank (rep (many - 1) (tx "0,1")++[[tx "0",tx "0,1,2",tx ",",tx "0,1;"].getD r4 Str.empty])
 | 10=>tx "box " ++ Str.join blank (rep (many - 1) (tx "1,0")++[tx "0," ++ odd])
 | _=>tx "box " ++ Str.join blank (rep many (tx "5,4"))
def badW (way:Nat):Bool:=way==5||way==6||way==7||way==8
def badD (way:Nat):Cl:=if way=4\/way=11 then .box else .text
def ahead (stand:Nat) (wants:Bool) (due:Cl):Cl:=if stand=0 then .net else if wants=true/\stand=1 then .box else due
def stN (stand many:Nat):Option (Nat×Nat×Bool):=if stand=0 then none else some (many,3,decide (stand=2))
def oddL:List Str:=["", " ", "at", "box", "net", "says", "says 1", "most", "bounds 1", "smaller 1", "at 1 1", "At 1", "netz", " at 1", "at  1", "\nat 1", "bounds ", "walk 1"]
def netsN:List Str:=["ins 0 ; outs 0", "ins 7 ; outs 0", "ins 1 ; outs 1", "ins 1 ; bend 1 ; outs 0", "ins 1 ; outs", "ins 1 ; sum 0 0:1 0:2 ; outs 1", "ins 1 ; sum 1 1:1 ; outs 1"]
def netsT:List Str:=["ins 1 outs 0", "ins 1 ; ; outs 0", "ins 1 ; outs 0 ;", "; ins 1", "ins 1 ; bend 0 0 ; outs 1", "x", "ins 1 ; sum ; outs 1", "ins 1\nouts 0", "ins 01 ; outs 0", "ins 1 ; sum 2/2 ; outs 1", "outs 0 ; ins 1"]
theorem j7:(1:Nat)<=sizeLine:=by decide
theorem at_mod {L:List V} (n:Int) (h:0<L.length):∃ v,atI L (n%(L.length:Int))=some v/\v∈L:=by
 have x:=Int.emod_nonneg n (show (L.length:Int)≠0 by omega);have b:=Int.emod_lt_of_pos n (show (0:Int)<(L.length:Int) by omega);obtain ⟨j,hj⟩:∃ j:Nat,n%(L.length:Int)=(j:Int):=⟨(n%(L.length:Int)).toNat,by omega⟩;rw [hj];have hl:j<L.length:=by omega
 exact ⟨L[j],atN (A4 hl),List.getElem_mem hl⟩
def spAhead:Sp:=fun vs H Q _=>∃ (hn hb wb:Bool) (due:Str),vs=[.bl hn,.bl hb,.bl wb,.str due]/\Q (.str (if hn=false then Str.ofString "net" else if wb=true/\hb=false then Str.ofString "box" else due)) H
theorem okyg (T:Txt K mg a):FnOk P w K mg base CX0 1 a.fyg a.dyg ["_law_has_net", "_law_has_box", "_law_wants_box", "_law_due"] spAhead:=by
 refine T.Fyg.F.ok scyg ?_ ?_
 ·walk_at "c"
 walk_at "b"
 obtain ⟨hn,hb,wb,due,rfl,q⟩:=h;refine ltX ?_
 intros
 refine ⟨_,body3 (by rfl)
  (ps_if (yy (y8 (pv 0))) (qJ (zj qw)) qY)
  (ps_if (PW.pt (kW (y8 (pv 2)) (vX (yy (y8 (pv 1)))))) (qJ (zj qw)) qY)
  (zj (pv 3)),?_⟩
 refine lt3 ?_
 intros
 cases hn with
 | false=>exact ⟨_,rfl,_,rfl,iteT q⟩
 | true =>
  refine ⟨_,rfl,_,rfl,iteF ?_⟩
  cases wb with
  | false=>exact ⟨_,rfl,_,rfl,iteF ⟨_,rfl,q⟩⟩
  | true =>
   refine ⟨_,rfl,_,rfl,iteT ?_⟩
   cases hb with
   | false=>exact ⟨_,rfl,_,rfl,iteT q⟩
   | true=>exact ⟨_,rfl,_,rfl,iteF ⟨_,rfl,q⟩⟩
def spROdd:Sp:=fun vs H Q _=>∃ n:Int,vs=[.int n]/\∀ o,o<17->∀ H',Same H H'->Q (.str (oddS.getD o Str.empty)) H'
theorem okyn (T:Txt K mg a):FnOk P w K mg base CX0 1 a.fyn a.dyn ["_law_number"] spROdd:=by
 refine T.Fyn.F.ok xY ?_ ?_
 ·walk_at "c"
 walk_at "b"
 obtain ⟨n,rfl,q⟩:=h;obtain ⟨a0,b0,c0,d0,hst0,hv0⟩:∃ a b c d,(bS zV 0)=.Assign [.Name (Str.ofString "_law_some") a] (.List b d) c/\cVs b=some [.str (Str.ofString ""),.str (Str.ofString "-0"),.str (Str.ofString "00"),.str (Str.ofString "1/1"),.str (Str.ofString "2/4"),.str (Str.ofString "1/0"),.str (Str.ofString "x"),.str (Str.ofString "1.5"),.str (Str.ofString "+1"),.str (Str.ofString "-"),.str (Str.ofString "1/-2"),.str (Str.ofString "--1"),.str (Str.ofString "7/"),.str (Str.ofString "/2")]:=⟨_,_,_,_,rfl,by kernel_rfl⟩;have h1:PS (cxOf CX0 P w K mg base ["_law_number", "_law_some"] "_law_ratio_odd" (qZ zV) a.fyn cdv A outer s H E).nox (bS zV 1) _:=(zj (pe_ix zJ (pe_op ww (pv 1) (yK (pa_c (pe_op op_mul_str qw qx) (pa_c qw (pa_c qw qj))))) (pe_op jk (pv 0) qx)));have hb:zQ zV=[(bS zV 0),(bS zV 1)]:=by rfl
 generalize (bS zV 0)=S0 at *;generalize (bS zV 1)=S1 at *;rw [hb];subst hst0;refine ⟨_,(qK (ps_set (i:=1) xY.nd rfl (Or.inl rfl) (yK (pa_all hv0))) (qJ h1)),?_⟩;refine ⟨(show 14<=sizeLine by decide),fun l1 k1=>?_⟩;have e1:[V.str (Str.ofString ""),V.str (Str.ofString "-0"),V.str (Str.ofString "00"),V.str (Str.ofString "1/1"),V.str (Str.ofString "2/4"),V.str (Str.ofString "1/0"),V.str (Str.ofString "x"),V.str (Str.ofString "1.5"),V.str (Str.ofString "+1"),V.str (Str.ofString "-"),V.str (Str.ofString "1/-2"),V.str (Str.ofString "--1"),V.str (Str.ofString "7/"),V.str (Str.ofString "/2")]=oddR.map V.str:=rfl;rw [e1];have f1:=qy k1 (.lst (oddR.map V.str));have b1:=qk (H:=H) (a:=l1) (o:=.lst (oddR.map V.str));generalize upd H l1 (.lst (oddR.map V.str))=H1 at *;refine ⟨_,rfl,_,_,rfl,rfl,⟨by decide,fun _ _=>by decide,fun _ _=>by decide⟩,(show 3<=sizeLine by decide),fun l2 k2=>?_⟩;have f2:=qy k2 (.lst [.str (Txt.mul (Str.ofString "9") 61),.str (Str.ofString "1;2"),.str (Str.ofString "1:2")]);have b2:=qk (H:=H1) (a:=l2) (o:=.lst [.str (Txt.mul (Str.ofString "9") 61),.str (Str.ofString "1;2"),.str (Str.ofString "1:2")]);have b1:=f2 _ _ b1;refine ⟨_,_,_,_,rfl,rfl,b1,b2,(show 17<=sizeLine by decide),fun l3 k3=>?_⟩;have e3:oddR.map V.str++[.str (Txt.mul (Str.ofString "9") 61),.str (Str.ofString "1;2"),.str (Str.ofString "1:2")]=oddS.map V.str:=rfl;rw [e3];have f3:=qy k3 (.lst (oddS.map V.str));obtain ⟨v,hat,hv⟩:=at_mod (L:=oddS.map V.str) n (by decide);have l17:((oddS.map V.str).length:Int)=17:=rfl
 rw [l17] at hat;obtain ⟨x,hx,rfl⟩:=List.mem_map.mp hv;obtain ⟨o,eo⟩:=List.mem_iff_getElem?.mp hx;have lo:o<17:=(List.getElem?_eq_some_iff.mp eo).1;have ex:oddS.getD o Str.empty=x:=by rw [A0,eo]; rfl
 rw [<- ex] at hat;exact ⟨_,rfl,_,_,rfl,rfl,(show (0:Int)<17 by decide),_,_,_,_,rfl,rfl,SqL.of qk,hat,q o lo _ (f1.trans (f2.trans f3))⟩
def asgList:Stmt->List Expr
 | .Assign _ (.List b _) _=>b
 | _=>[]
def binList:Stmt->List Expr
 | .Assign _ (.BinOp _ _ (.List b _) _) _=>b
 | _=>[]
def spOddL (K:Ap):Sp:=fun vs H Q _=>∃ n:Int,vs=[.int n]/\∀ v H',Same H H'->(IsS K H' v\/∃ x∈oddL,v=.str x)->Q v H'
abbrev wQ (P w K mg base) (a:Adr) (cdv A outer s H E):=(cxOf CX0 P w K mg base ["_law_number", "_law_odd"] "_law_odd_line" (qZ zz) a.fym cdv A outer s H E).nox
theorem okym (T:Txt K mg a):FnOk P w K mg base CX0 1 a.fym a.dym ["_law_number"] (spOddL K):=by
 refine T.Fym.F.ok wj ?_ ?_
 ·walk_at "c"
 walk_at "b"
 obtain ⟨n,rfl,q⟩:=h;obtain ⟨d0_3,u0_4,t0_4,d0_4,d0_5,T0,hR0,hc0_4,hT0⟩:∃ d0_3 u0_4 t0_4 d0_4 d0_5 T0,(asgList (bS zz 0)).drop 3=.List [] d0_3::.Tuple t0_4 u0_4 d0_4::.Dict [] [] d0_5::T0/\cVs t0_4=some [.str (Str.ofString "at"),.str (Str.ofString "1")]/\cVs T0=some [.str (Str.ofString ""),.str (Str.ofString " "),.str (Str.ofString "at"),.str (Str.ofString "box"),.str (Str.ofString "net"),.str (Str.ofString "says"),.str (Str.ofString "says 1"),.str (Str.ofString "most"),.str (Str.ofString "bounds 1")]:=⟨_,_,_,_,_,_,rfl,by kernel_rfl,by kernel_rfl⟩;have hr0:PA (wQ P w K mg base a cdv A outer s H E) (.List [] d0_3::.Tuple t0_4 u0_4 d0_4::.Dict [] [] d0_5::T0) _:=(pa_c (yK qj) (pa_c (j9 (pa_all hc0_4)) (pa_c pe_dict0 (pa_all hT0))));have hv0:cVs ((asgList (bS zz 0)).take 3)=some [.non,.int 7,.bl true]:=by kernel_rfl
 obtain ⟨a0,d0,c0,hst0⟩:∃ a d c,(bS zz 0)=.Assign [.Name (Str.ofString "_law_odd") a] (.List (asgList (bS zz 0)) d) c:=⟨_,_,_,rfl⟩;obtain ⟨t1_9,d1_9,T1,hR1,hc1_9,hT1⟩:∃ t1_9 d1_9 T1,(binList (bS zz 1)).drop 9=.List t1_9 d1_9::T1/\cVs t1_9=some [.str (Str.ofString "at 1")]/\cVs T1=some []:=⟨_,_,_,rfl,by kernel_rfl,by kernel_rfl⟩;have hr1:PA (wQ P w K mg base a cdv A outer s H E) (.List t1_9 d1_9::T1) _:=(pa_c (yK (pa_all hc1_9)) (pa_all hT1));have hv1:cVs ((binList (bS zz 1)).take 9)=some [.str (Str.ofString "smaller 1"),.str (Str.ofString "at 1 1"),.str (Str.ofString "At 1"),.str (Str.ofString "netz"),.str (Str.ofString " at 1"),.str (Str.ofString "at  1"),.str (Str.ofString "\nat 1"),.str (Str.ofString "bounds "),.str (Str.ofString "walk 1")]:=by kernel_rfl
 obtain ⟨a1,d1,c1,e1,q1,hst1⟩:∃ a d c e q,(bS zz 1)=.Assign [.Name (Str.ofString "_law_odd") a] (.BinOp (.Name (Str.ofString "_law_odd") e) .Add (.List (binList (bS zz 1)) d) q) c:=⟨_,_,_,_,_,rfl⟩;have h2:PS (wQ P w K mg base a cdv A outer s H E) (bS zz 2) _:=(zj (pe_ix zJ (pv 1) (pe_op jk (pv 0) (qX (zx) rfl T.m_len boot_len (pa_c (pv 1) qj)))));have hb:zQ zz=[(bS zz 0),(bS zz 1),(bS zz 2)]:=by rfl
 generalize asgList (bS zz 0)=AL0 at *;generalize binList (bS zz 1)=BL1 at *;generalize (bS zz 0)=S0 at *;generalize (bS zz 1)=S1 at *;generalize (bS zz 2)=S2 at *;rw [hb];subst hst0;subst hst1;refine ⟨_,(qK (ps_set (i:=1) wj.nd rfl (Or.inl rfl) (yK (pa_cut 3 hv0 (by rw [hR0]; exact hr0)))) (qK (ps_set (i:=1) wj.nd rfl (Or.inl rfl) (pe_op ww (pv 1) (yK (pa_cut 9 hv1 (by rw [hR1]; exact hr1))))) (qJ h2))),?_⟩;refine ⟨(by decide),fun p1 k1=>⟨(show 2<=sizeLine by decide),fun p2 k2 p3 k3=>⟨(show 15<=sizeLine by decide),fun l1 h1=>?_⟩⟩⟩;have f1:=qy k1 (.lst []);have f2:=qy k2 (.tup [.str (Str.ofString "at"),.str (Str.ofString "1")]);have f3:=qy k3 (.dK []);have b1:=qk (H:=H) (a:=p1) (o:=.lst []);generalize upd H p1 (.lst [])=H1 at *;have b2:=qk (H:=H1) (a:=p2) (o:=.tup [.str (Str.ofString "at"),.str (Str.ofString "1")]);generalize upd H1 p2 (.tup [.str (Str.ofString "at"),.str (Str.ofString "1")])=H2 at *;have b3:=qk (H:=H2) (a:=p3) (o:=.dK []);generalize upd H2 p3 (.dK [])=H3 at *;have b1:=f3 _ _ (f2 _ _ b1);have b2:=f3 _ _ b2;have gA:=f1.trans (f2.trans f3);have str:∀ {H':Hp} {x:Str},x∈oddL->(IsS K H' (.str x)\/∃ y∈oddL,V.str x=.str y):=fun hx=>.inr ⟨_,hx,rfl⟩
 have f4:=qy h1 (.lst ([V.non,V.int 7,V.bl true]++(V.ref p1::V.ref p2::V.ref p3::[V.str (Str.ofString ""),V.str (Str.ofString " "),V.str (Str.ofString "at"),V.str (Str.ofString "box"),V.str (Str.ofString "net"),V.str (Str.ofString "says"),V.str (Str.ofString "says 1"),V.str (Str.ofString "most"),V.str (Str.ofString "bounds 1")])));have b4:=qk (H:=H3) (a:=l1) (o:=.lst ([V.non,V.int 7,V.bl true]++(V.ref p1::V.ref p2::V.ref p3::[V.str (Str.ofString ""),V.str (Str.ofString " "),V.str (Str.ofString "at"),V.str (Str.ofString "box"),V.str (Str.ofString "net"),V.str (Str.ofString "says"),V.str (Str.ofString "says 1"),V.str (Str.ofString "most"),V.str (Str.ofString "bounds 1")])));refine ⟨_,rfl,j7,fun p5 k5=>⟨(show 10<=sizeLine by decide),fun l2 h2=>?_⟩⟩;have f5:=qy k5 (.lst [V.str (Str.ofString "at 1")]);have b5:=qk (H:=upd H3 l1 (.lst ([V.non,V.int 7,V.bl true]++(V.ref p1::V.ref p2::V.ref p3::[V.str (Str.ofString ""),V.str (Str.ofString " "),V.str (Str.ofString "at"),V.str (Str.ofString "box"),V.str (Str.ofString "net"),V.str (Str.ofString "says"),V.str (Str.ofString "says 1"),V.str (Str.ofString "most"),V.str (Str.ofString "bounds 1")])))) (a:=p5) (o:=.lst [V.str (Str.ofString "at 1")]);have f6:=qy h2 (.lst ([V.str (Str.ofString "smaller 1"),V.str (Str.ofString "at 1 1"),V.str (Str.ofString "At 1"),V.str (Str.ofString "netz"),V.str (Str.ofString " at 1"),V.str (Str.ofString "at  1"),V.str (Str.ofString "\nat 1"),V.str (Str.ofString "bounds "),V.str (Str.ofString "walk 1")]++(V.ref p5::[])))
 have b6:=qk (H:=upd (upd H3 l1 (.lst ([V.non,V.int 7,V.bl true]++(V.ref p1::V.ref p2::V.ref p3::[V.str (Str.ofString ""),V.str (Str.ofString " "),V.str (Str.ofString "at"),V.str (Str.ofString "box"),V.str (Str.ofString "net"),V.str (Str.ofString "says"),V.str (Str.ofString "says 1"),V.str (Str.ofString "most"),V.str (Str.ofString "bounds 1")])))) p5 (.lst [V.str (Str.ofString "at 1")])) (a:=l2) (o:=.lst ([V.str (Str.ofString "smaller 1"),V.str (Str.ofString "at 1 1"),V.str (Str.ofString "At 1"),V.str (Str.ofString "netz"),V.str (Str.ofString " at 1"),V.str (Str.ofString "at  1"),V.str (Str.ofString "\nat 1"),V.str (Str.ofString "bounds "),V.str (Str.ofString "walk 1")]++(V.ref p5::[])));refine ⟨_,_,_,_,rfl,rfl,f6 _ _ (f5 _ _ b4),b6,(show 25<=sizeLine by decide),fun l3 h3=>?_⟩;have f7:=qy h3 (.lst (([V.non,V.int 7,V.bl true]++(V.ref p1::V.ref p2::V.ref p3::[V.str (Str.ofString ""),V.str (Str.ofString " "),V.str (Str.ofString "at"),V.str (Str.ofString "box"),V.str (Str.ofString "net"),V.str (Str.ofString "says"),V.str (Str.ofString "says 1"),V.str (Str.ofString "most"),V.str (Str.ofString "bounds 1")]))++([V.str (Str.ofString "smaller 1"),V.str (Str.ofString "at 1 1"),V.str (Str.ofString "At 1"),V.str (Str.ofString "netz"),V.str (Str.ofString " at 1"),V.str (Str.ofString "at  1"),V.str (Str.ofString "\nat 1"),V.str (Str.ofString "bounds "),V.str (Str.ofString "walk 1")]++(V.ref p5::[]))));have gB:=f4.trans (f5.trans (f6.trans f7));have gC:=gA.trans gB;have s1:=gB _ _ b1;have s2:=gB _ _ b2
 have s3:=gB _ _ b3;have s5:=f7 _ _ (f6 _ _ b5);obtain ⟨v,hat,hv⟩:=at_mod (L:=([V.non,V.int 7,V.bl true]++(V.ref p1::V.ref p2::V.ref p3::[V.str (Str.ofString ""),V.str (Str.ofString " "),V.str (Str.ofString "at"),V.str (Str.ofString "box"),V.str (Str.ofString "net"),V.str (Str.ofString "says"),V.str (Str.ofString "says 1"),V.str (Str.ofString "most"),V.str (Str.ofString "bounds 1")]))++([V.str (Str.ofString "smaller 1"),V.str (Str.ofString "at 1 1"),V.str (Str.ofString "At 1"),V.str (Str.ofString "netz"),V.str (Str.ofString " at 1"),V.str (Str.ofString "at  1"),V.str (Str.ofString "\nat 1"),V.str (Str.ofString "bounds "),V.str (Str.ofString "walk 1")]++(V.ref p5::[]))) n (show 0<25 by decide);have hall:∀ {H7:Hp},H7 p1=some (.lst [])->H7 p2=some (.tup [.str (Str.ofString "at"),.str (Str.ofString "1")])->H7 p3=some (.dK [])->H7 p5=some (.lst [V.str (Str.ofString "at 1")])->∀ v∈([V.non,V.int 7,V.bl true]++(V.ref p1::V.ref p2::V.ref p3::[V.str (Str.ofString ""),V.str (Str.ofString " "),V.str (Str.ofString "at"),V.str (Str.ofString "box"),V.str (Str.ofString "net"),V.str (Str.ofString "says"),V.str (Str.ofString "says 1"),V.str (Str.ofString "most"),V.str (Str.ofString "bounds 1")]))++([V.str (Str.ofString "smaller 1"),V.str (Str.ofString "at 1 1"),V.str (Str.ofString "At 1"),V.str (Str.ofString "netz"),V.str (Str.ofString " at 1"),V.str (Str.ofString "at  1"),V.str (Str.ofString "\nat 1"),V.str (Str.ofString "bounds "),V.str (Str.ofString "walk 1")]++(V.ref p5::[])),(IsS K H7 v\/∃ x∈oddL,v=.str x):=by
  intro H7 s1 s2 s3 s5
  simp only [List.cons_append,List.nil_append]
  repeat' (first | refine List.forall_mem_cons.mpr ⟨?_,?_⟩ | exact List.forall_mem_nil _)
  all_goals first | exact .inl .non | exact .inl (.int _) | exact .inl (.bl _) | exact .inl (.lst (SqL.of s1)) | exact .inl (.tup (SqT.of s2)) | exact .inl (.dict s3) | exact .inl (.lst (SqL.of s5)) | exact str (by decide +kernel)
 exact ⟨_,rfl,_,rfl,_,rfl,_,_,rfl,.inl (SqL.of qk),_,_,rfl,rfl,(show (0:Int)<25 by decide),_,_,_,_,rfl,rfl,SqL.of qk,hat,q v _ gC (hall s1 s2 s3 s5 v hv)⟩
def spBadNet (K:Ap):Sp:=fun vs H Q _=>∃ n:Int,vs=[.int n]/\∀ x c p H',((x∈netsN/\c=Cl.net)\/(x∈netsT/\c=Cl.text))->Same H H'->SqT K H' p [.str x,.str c.word]->Q (.ref p) H'
theorem okyi (T:Txt K mg a):FnOk P w K mg base CX0 1 a.fyi a.dyi ["_law_number"] (spBadNet K):=by
 refine T.Fyi.F.ok j5 ?_ ?_
 ·walk_at "c"
 walk_at "b"
 obtain ⟨n,rfl,q⟩:=h;refine ltX ?_
 intros
 refine ⟨_,body7 (by rfl)
  (ps_s 1 j5.nd (yK (pa_c qw (pa_c qw (pa_c qw (pa_c qw (pa_c qw qj)))))))
  (ps_s 1 j5.nd (pe_op ww (pv 1) (yK (pa_c qw (pa_c qw qj)))))
  (ps_s 2 j5.nd (yK (pa_c qw (pa_c qw (pa_c qw (pa_c qw (pa_c qw (pa_c qw qj))))))))
  (ps_s 2 j5.nd (pe_op ww (pv 2) (yK (pa_c qw (pa_c qw (pa_c qw (pa_c qw qj)))))))
  (ps_s 2 j5.nd (pe_op ww (pv 2) (yK (pa_c qw qj))))
  (ps_if (qW op_lt (pe_op jk (pv 0) qx) qx) (qJ (zj (j9 (pa_c (pe_ix zJ (pv 1) (pe_op jk (pv 0) qx)) (pa_c qw qj))))) qY)
  (zj (j9 (pa_c (pe_ix zJ (pv 2) (pe_op op_sub (pe_op jk (pv 0) qx) qx)) (pa_c qw qj)))),?_⟩
 refine lt7 ?_
 intros
 refine ⟨(show 5<=sizeLine by decide),fun l1 k1=>?_⟩;have f1:=qy k1 (.lst [V.str (Str.ofString "ins 0 ; outs 0"),V.str (Str.ofString "ins 7 ; outs 0"),V.str (Str.ofString "ins 1 ; outs 1"),V.str (Str.ofString "ins 1 ; bend 1 ; outs 0"),V.str (Str.ofString "ins 1 ; outs")]);have b1:=qk (H:=H) (a:=l1) (o:=.lst [V.str (Str.ofString "ins 0 ; outs 0"),V.str (Str.ofString "ins 7 ; outs 0"),V.str (Str.ofString "ins 1 ; outs 1"),V.str (Str.ofString "ins 1 ; bend 1 ; outs 0"),V.str (Str.ofString "ins 1 ; outs")]);generalize upd H l1 (.lst [V.str (Str.ofString "ins 0 ; outs 0"),V.str (Str.ofString "ins 7 ; outs 0"),V.str (Str.ofString "ins 1 ; outs 1"),V.str (Str.ofString "ins 1 ; bend 1 ; outs 0"),V.str (Str.ofString "ins 1 ; outs")])=H1 at *;refine ⟨_,rfl,(show 2<=sizeLine by decide),fun l2 k2=>?_⟩;have f2:=qy k2 (.lst [V.str (Str.ofString "ins 1 ; sum 0 0:1 0:2 ; outs 1"),V.str (Str.ofString "ins 1 ; sum 1 1:1 ; outs 1")]);have b2:=qk (H:=H1) (a:=l2) (o:=.lst [V.str (Str.ofString "ins 1 ; sum 0 0:1 0:2 ; outs 1"),V.str (Str.ofString "ins 1 ; sum 1 1:1 ; outs 1")]);generalize upd H1 l2 (.lst [V.str (Str.ofString "ins 1 ; sum 0 0:1 0:2 ; outs 1"),V.str (Str.ofString "ins 1 ; sum 1 1:1 ; outs 1")])=H2 at *;refine ⟨_,_,_,_,rfl,rfl,f2 _ _ b1,b2,(show 7<=sizeLine by decide),fun l3 k3=>?_⟩;rw [show [V.str (Str.ofString "ins 0 ; outs 0"),V.str (Str.ofString "ins 7 ; outs 0"),V.str (Str.ofString "ins 1 ; outs 1"),V.str (Str.ofString "ins 1 ; bend 1 ; outs 0"),V.str (Str.ofString "ins 1 ; outs")]++[V.str (Str.ofString "ins 1 ; sum 0 0:1 0:2 ; outs 1"),V.str (Str.ofString "ins 1 ; sum 1 1:1 ; outs 1")]=netsN.map V.str from rfl]
 have f3:=qy k3 (.lst (netsN.map V.str));have b3:=qk (H:=H2) (a:=l3) (o:=.lst (netsN.map V.str));generalize upd H2 l3 (.lst (netsN.map V.str))=H3 at *;have gA:=f1.trans (f2.trans f3);clear b1 b2;refine ⟨(show 6<=sizeLine by decide),fun l4 k4=>?_⟩;have f4:=qy k4 (.lst [V.str (Str.ofString "ins 1 outs 0"),V.str (Str.ofString "ins 1 ; ; outs 0"),V.str (Str.ofString "ins 1 ; outs 0 ;"),V.str (Str.ofString "; ins 1"),V.str (Str.ofString "ins 1 ; bend 0 0 ; outs 1"),V.str (Str.ofString "x")]);have b4:=qk (H:=H3) (a:=l4) (o:=.lst [V.str (Str.ofString "ins 1 outs 0"),V.str (Str.ofString "ins 1 ; ; outs 0"),V.str (Str.ofString "ins 1 ; outs 0 ;"),V.str (Str.ofString "; ins 1"),V.str (Str.ofString "ins 1 ; bend 0 0 ; outs 1"),V.str (Str.ofString "x")]);generalize upd H3 l4 (.lst [V.str (Str.ofString "ins 1 outs 0"),V.str (Str.ofString "ins 1 ; ; outs 0"),V.str (Str.ofString "ins 1 ; outs 0 ;"),V.str (Str.ofString "; ins 1"),V.str (Str.ofString "ins 1 ; bend 0 0 ; outs 1"),V.str (Str.ofString "x")])=H4 at *;refine ⟨_,rfl,(show 4<=sizeLine by decide),fun l5 k5=>?_⟩;have f5:=qy k5 (.lst [V.str (Str.ofString "ins 1 ; sum ; outs 1"),V.str (Str.ofString "ins 1\nouts 0"),V.str (Str.ofString "ins 01 ; outs 0"),V.str (Str.ofString "ins 1 ; sum 2/2 ; outs 1")]);have b5:=qk (H:=H4) (a:=l5) (o:=.lst [V.str (Str.ofString "ins 1 ; sum ; outs 1"),V.str (Str.ofString "ins 1\nouts 0"),V.str (Str.ofString "ins 01 ; outs 0"),V.str (Str.ofString "ins 1 ; sum 2/2 ; outs 1")]);generalize upd H4 l5 (.lst [V.str (Str.ofString "ins 1 ; sum ; outs 1"),V.str (Str.ofString "ins 1\nouts 0"),V.str (Str.ofString "ins 01 ; outs 0"),V.str (Str.ofString "ins 1 ; sum 2/2 ; outs 1")])=H5 at *
 refine ⟨_,_,_,_,rfl,rfl,f5 _ _ b4,b5,(show 10<=sizeLine by decide),fun l6 k6=>?_⟩;have f6:=qy k6 (.lst ([V.str (Str.ofString "ins 1 outs 0"),V.str (Str.ofString "ins 1 ; ; outs 0"),V.str (Str.ofString "ins 1 ; outs 0 ;"),V.str (Str.ofString "; ins 1"),V.str (Str.ofString "ins 1 ; bend 0 0 ; outs 1"),V.str (Str.ofString "x")]++[V.str (Str.ofString "ins 1 ; sum ; outs 1"),V.str (Str.ofString "ins 1\nouts 0"),V.str (Str.ofString "ins 01 ; outs 0"),V.str (Str.ofString "ins 1 ; sum 2/2 ; outs 1")]));have b6:=qk (H:=H5) (a:=l6) (o:=.lst ([V.str (Str.ofString "ins 1 outs 0"),V.str (Str.ofString "ins 1 ; ; outs 0"),V.str (Str.ofString "ins 1 ; outs 0 ;"),V.str (Str.ofString "; ins 1"),V.str (Str.ofString "ins 1 ; bend 0 0 ; outs 1"),V.str (Str.ofString "x")]++[V.str (Str.ofString "ins 1 ; sum ; outs 1"),V.str (Str.ofString "ins 1\nouts 0"),V.str (Str.ofString "ins 01 ; outs 0"),V.str (Str.ofString "ins 1 ; sum 2/2 ; outs 1")]));generalize upd H5 l6 (.lst ([V.str (Str.ofString "ins 1 outs 0"),V.str (Str.ofString "ins 1 ; ; outs 0"),V.str (Str.ofString "ins 1 ; outs 0 ;"),V.str (Str.ofString "; ins 1"),V.str (Str.ofString "ins 1 ; bend 0 0 ; outs 1"),V.str (Str.ofString "x")]++[V.str (Str.ofString "ins 1 ; sum ; outs 1"),V.str (Str.ofString "ins 1\nouts 0"),V.str (Str.ofString "ins 01 ; outs 0"),V.str (Str.ofString "ins 1 ; sum 2/2 ; outs 1")]))=H6 at *;refine ⟨_,rfl,j7,fun l7 k7=>?_⟩;have f7:=qy k7 (.lst [V.str (Str.ofString "outs 0 ; ins 1")]);have b7:=qk (H:=H6) (a:=l7) (o:=.lst [V.str (Str.ofString "outs 0 ; ins 1")])
 generalize upd H6 l7 (.lst [V.str (Str.ofString "outs 0 ; ins 1")])=H7 at *;refine ⟨_,_,_,_,rfl,rfl,f7 _ _ b6,b7,(show 11<=sizeLine by decide),fun l8 k8=>?_⟩;rw [show ([V.str (Str.ofString "ins 1 outs 0"),V.str (Str.ofString "ins 1 ; ; outs 0"),V.str (Str.ofString "ins 1 ; outs 0 ;"),V.str (Str.ofString "; ins 1"),V.str (Str.ofString "ins 1 ; bend 0 0 ; outs 1"),V.str (Str.ofString "x")]++[V.str (Str.ofString "ins 1 ; sum ; outs 1"),V.str (Str.ofString "ins 1\nouts 0"),V.str (Str.ofString "ins 01 ; outs 0"),V.str (Str.ofString "ins 1 ; sum 2/2 ; outs 1")])++[V.str (Str.ofString "outs 0 ; ins 1")]=netsT.map V.str from rfl];have f8:=qy k8 (.lst (netsT.map V.str));have b8:=qk (H:=H7) (a:=l8) (o:=.lst (netsT.map V.str));generalize upd H7 l8 (.lst (netsT.map V.str))=H8 at *;have gB:=f4.trans (f5.trans (f6.trans (f7.trans f8)));have b3:=gB _ _ b3;have gA:=gA.trans gB;have y0:=Int.emod_nonneg n (show (18:Int)≠0 by decide);have y1:=Int.emod_lt_of_pos n (show (0:Int)<18 by decide);refine ⟨_,rfl,_,_,rfl,rfl,(show (0:Int)<18 by decide),_,_,rfl,rfl,_,rfl,iteD (fun c=>?_) (fun c=>?_)⟩
 ·have c:n%18<7:=c
  obtain ⟨j,ej⟩:∃ j:Nat,n%18=(j:Int):=⟨(n%18).toNat,by omega⟩;have lj:j<netsN.length:=by show j<7; omega
  have hat:atI (netsN.map V.str) (n%18)=some (.str netsN[j]):=by rw [ej]; exact atN (by rw [List.getElem?_map,A4 lj]; rfl)
  refine ⟨_,rfl,_,rfl,_,_,rfl,rfl,(show (0:Int)<18 by decide),_,_,_,_,rfl,rfl,SqL.of b3,hat,vq,fun p hp=>?_⟩;exact q netsN[j] .net p _ (.inl ⟨List.getElem_mem lj,rfl⟩) (gA.trans (qy hp _)) (SqT.of qk)
 ·have c:¬ n%18<7:=c
  obtain ⟨j,ej⟩:∃ j:Nat,n%18 - 7=(j:Int):=⟨(n%18 - 7).toNat,by omega⟩;have lj:j<netsT.length:=by show j<11; omega
  have hat:atI (netsT.map V.str) (n%18 - 7)=some (.str netsT[j]):=by rw [ej]; exact atN (by rw [List.getElem?_map,A4 lj]; rfl)
  refine ⟨_,rfl,_,rfl,_,_,rfl,rfl,(show (0:Int)<18 by decide),_,_,rfl,rfl,_,_,_,_,rfl,rfl,SqL.of b8,hat,vq,fun p hp=>?_⟩;exact q netsT[j] .text p _ (.inr ⟨List.getElem_mem lj,rfl⟩) (gA.trans (qy hp _)) (SqT.of qk)
theorem vj {H:Hp} {l:Addr} {x:Str} {n:Nat} {k:Int} {Q:VK} (hl:H l=none) (e:k=(n:Int)) (hn:n<=3) (q:∀ p H',Same H H'->H' p=some (.lst ((rep n x).map V.str))->Q (.ref p) H'):rRep (.ref l) (.int k) (upd H l (.lst [.str x])) Q:=by
 subst e;refine ⟨l,n,[.str x],rfl,rfl,qk,by omega,by omega,?_,fun p hp=>?_⟩
 ·rw [Int.toNat_natCast,A6,Nat.one_mul]
  exact leB (by omega)
 have e:(List.replicate (n:Int).toNat [V.str x]).flatten=(rep n x).map V.str:=by
  rw [Int.toNat_natCast];unfold rep;rw [List.map_replicate];clear q hn
  induction n with
  | zero=>rfl
  | succ n ih=>rw [List.replicate_succ,List.replicate_succ,List.flatten_cons,ih]; rfl
 rw [e];exact q p _ ((qy hl _).trans (qy hp _)) qk
theorem cat_str {H:Hp} {l b:Addr} {xs zs:List Str} {Q:VK} (hl:H l=some (.lst (xs.map V.str))) (hb:H b=some (.lst (zs.map V.str))) (h:xs.length+zs.length<=100) (q:∀ p H',Same H H'->H' p=some (.lst ((xs++zs).map V.str))->Q (.ref p) H'):rCat (.ref l) (.ref b) H Q:=by
 refine ⟨l,b,_,_,rfl,rfl,hl,hb,by rw [List.length_map,List.length_map]; exact leB (by omega),fun p hp=>?_⟩;rw [<- Al];exact q p _ (qy hp _) qk
theorem jn {ys:List Str} (l:ys.length<=4) (h:∀ y∈ys,y.length<=100):(ys.map (·.length)).sum+ys.length<=1048576:=by have:=wV l h; omega
theorem jj {c:Nat} {ys:List Str} (l:ys.length<=4) (h:∀ y∈ys,y.length<=100):(Str.join ⟨#[c]⟩ ys).length<=404:=Ao (wq ys) (wV l h)
theorem yk (n:Nat) (x:Str):(rep n x).length=n:=A8
theorem mem_rep {n:Nat} {x y:Str} (h:y∈rep n x):y=x:=(List.mem_replicate.mp h).2
theorem odd_len (o:Nat):(oddS.getD o Str.empty).length<=61:=by
 by_cases h:o<17
 ·exact (show ∀ o:Fin 17,(oddS.getD o.1 Str.empty).length<=61 by decide +kernel) ⟨o,h⟩
 ·rw [A0,List.getElem?_eq_none (show oddS.length<=o from Nat.not_lt.mp h)]
  decide
theorem adds (a b:Nat) {x y:Str} (hx:x.length<=a) (hy:y.length<=b) (h:a+b<=1000000:=by decide):x.length+y.length<=sizeLine:=leB (by omega)
theorem appL (a b:Nat) {x y:Str} (hx:x.length<=a) (hy:y.length<=b):(x++y).length<=a+b:=by rw [zK]; omega
theorem Z1 {P:Str->Prop} {xs ys:List Str} (h1:∀ y∈xs,P y) (h2:∀ y∈ys,P y):∀ y∈xs++ys,P y:=fun y hy=>(Ak.mp hy).elim (h1 y) (h2 y)
theorem Z0 {P:Str->Prop} {x:Str} (h:P x):∀ y∈[x],P y:=fun y hy=>List.mem_singleton.mp hy ▸ h
theorem jY {P:Str->Prop} {x:Str} {n:Nat} (h:P x):∀ y∈rep n x,P y:=fun y hy=>mem_rep hy ▸ h
theorem getS_at {L:List Str} {r:Nat} (h:r<L.length):(L.map V.str)[r]?=some (.str (L.getD r Str.empty)):=by rw [List.getElem?_map,A0,A4 h]; rfl
theorem getS_mem {L:List Str} {r:Nat} (h:r<L.length):L.getD r Str.empty∈L:=by rw [A0,A4 h]; exact List.getElem_mem h
theorem Q4 {n:Nat} (h:n<20):((n:Nat):Int).natAbs.log2<1920:=(show ∀ n:Fin 20,((n.1:Nat):Int).natAbs.log2<1920 by decide +kernel) ⟨n,h⟩
def last4 (r:Nat):Str:=[tx "0",tx "0,1,2",tx ",",tx "0,1;"].getD r Str.empty
def last7 (odd:Str) (r:Nat):Str:=[tx "0:",tx ":1",tx "0",tx "00:1",tx "-1:1",tx "0:1:1",tx "0:" ++ odd].getD r Str.empty
theorem kx {n:Nat} (h:n<20):(figs n).length<=20:=(show ∀ n:Fin 20,(figs n.1).length<=20 by decide +kernel) ⟨n,h⟩
def spBad (K:Ap):Sp:=fun vs H Q _=>∃ (n:Int) (m:Nat),vs=[.int n,.int (m:Int),.int ((m:Int)+3)]/\0<=n/\1<=m/\m<=2/\∀ way o r9 r3 r7 r4 p H',way<12->o<17->r9<9->r3<3->r7<7->r4<4->Same H H'->SqT K H' p [.str (badT way m o r9 r3 r7 r4),.bl (badW way),.str (badD way).word]->Q (.ref p) H'
theorem okyh (T:Txt K mg a):FnOk P w K mg base CX0 2 a.fyh a.dyh ["_law_number", "_law_many", "_law_places"] (spBad K):=by
 refine T.Fyh.F.ok v5 ?_ ?_
 ·walk_at "c"
 walk_at "b"
 obtain ⟨n,m,rfl,n0,m1,m2,q⟩:=h;refine ⟨_,PBx.to (x_body (ss:=[(bS zY 0),(bS zY 1),(bS zY 2),(bS zY 3),(bS zY 4),(bS zY 5),(bS zY 6),(bS zY 7),(bS zY 8),(bS zY 9),(bS zY 10),(bS zY 11),(bS zY 12),(bS zY 13),(bS zY 14),(bS zY 15)]) (by rfl)
  (zw (xs_s 3 v5.nd (xe_op jk (shutE (pv 0)) (shutE qx)))
  (zw (xs_s 4 v5.nd (xe_op yw (shutE (pv 0)) (shutE qx)))
  (zw (xs_s 5 v5.nd (shutE (pe_d (okyn T) hr T.Fyn (pa_c (pv 4) qj))))
  (zw (xs_s 6 v5.nd (wK (xa_c (xe_op kY (jQ (xa_c (shutE qw) zX)) (shutE (pv 1))) zX)))
  (zw (xs_if (jw op_eq (shutE (pv 3)) (shutE qx)) (yJ (yX (wz (xa_c (xe_op qV (xe_op qV (xe_op qV (shutE qw) (shutE (pv 6))) (shutE qw)) (shutE qw)) (xa_c (shutE pe_bl) (xa_c (shutE qw) zX)))))) j8)
  (zw (xs_if (jw op_eq (shutE (pv 3)) (shutE qx)) (yJ (yX (wz (xa_c (xe_op qV (shutE qw) (wK (xa_c (xe_op ww (jQ (xa_c (shutE (pv 5)) zX)) (xe_op kY (jQ (xa_c (shutE qw) zX)) (xe_op op_sub (shutE (pv 1)) (shutE qx)))) zX))) (xa_c (shutE pe_bl) (xa_c (shutE qw) zX)))))) j8)
  (zw (xs_if (jw op_eq (shutE (pv 3)) (shutE qx)) (yJ (yX (wz (xa_c (xe_op qV (shutE qw) (wK (xa_c (xe_op kY (jQ (xa_c (shutE qw) zX)) (xe_op jK (shutE (pv 1)) (shutE qx))) zX))) (xa_c (shutE pe_bl) (xa_c (shutE qw) zX)))))) j8)
  (zw (xs_if (jw op_eq (shutE (pv 3)) (shutE qx)) (yJ (yX (wz (xa_c (xe_op qV (shutE qw) (wK (xa_c (xe_op ww (jQ (xa_c (xe_op qV (shutE qw) (shutE (pv 5))) zX)) (xe_op kY (jQ (xa_c (shutE qw) zX)) (xe_op op_sub (shutE (pv 1)) (shutE qx)))) zX))) (xa_c (shutE pe_bl) (xa_c (shutE qw) zX)))))) j8)
  (zw (xs_if (jw op_eq (shutE (pv 3)) (shutE qx)) (yJ (yX (wz (xa_c (xe_op qV (shutE qw) (wK (xa_c (xe_op ww (xe_op kY (jQ (xa_c (shutE qw) zX)) (xe_op op_sub (shutE (pv 1)) (shutE qx))) (jQ (xa_c (xe_op qV (shutE qw) (shutE (yq (j2) rfl T.m_str boot_str (pa_c (pe_op jK qx (pe_op jk (pv 4) qx)) qj)))) zX))) zX))) (xa_c (shutE pe_bl) (xa_c (shutE qw) zX)))))) j8)
  (zw (xs_if (jw op_eq (shutE (pv 3)) (shutE qx)) (yJ (yX (wz (xa_c (xe_op qV (xe_op qV (shutE qw) (shutE (yq (j2) rfl T.m_str boot_str (pa_c (pe_op jK (pv 2) (pe_op jk (pv 4) qx)) qj)))) (shutE qw)) (xa_c (shutE pe_bl) (xa_c (shutE qw) zX)))))) j8)
  (zw (xs_if (jw op_eq (shutE (pv 3)) (shutE qx)) (yJ (yX (wz (xa_c (xe_op qV (xe_op qV (shutE qw) (shutE (pv 5))) (shutE qw)) (xa_c (shutE pe_bl) (xa_c (shutE qw) zX)))))) j8)
  (zw (xs_if (jw op_eq (shutE (pv 3)) (shutE qx)) (zw (xs_s 7 v5.nd (xe_ix zJ (jQ (xa_c (shutE qw) (xa_c (shutE qw) (xa_c (shutE qw) (xa_c (shutE qw) (xa_c (shutE qw) (xa_c (shutE qw) (xa_c (xe_op qV (shutE qw) (shutE (pv 5))) zX)))))))) (xe_op jk (xe_op yw (shutE (pv 4)) (shutE qx)) (shutE qx)))) (yJ (yX (wz (xa_c (xe_op qV (shutE qw) (shutE (pv 7))) (xa_c (shutE pe_bl) (xa_c (shutE qw) zX))))))) j8)
  (zw (xs_if (jw op_eq (shutE (pv 3)) (shutE qx)) (yJ (yX (wz (xa_c (xe_op qV (xe_op qV (xe_op qV (shutE qw) (shutE (yq (j2) rfl T.m_str boot_str (pa_c (pv 2) qj)))) (shutE qw)) (shutE (pv 5))) (xa_c (shutE pe_bl) (xa_c (shutE qw) zX)))))) j8)
  (zw (xs_if (jw op_eq (shutE (pv 3)) (shutE qx)) (zw (xs_s 7 v5.nd (xe_ix zJ (jQ (xa_c (shutE qw) (xa_c (shutE qw) (xa_c (shutE qw) (xa_c (shutE qw) zX))))) (xe_op jk (shutE (pv 4)) (shutE qx)))) (yJ (yX (wz (xa_c (xe_op qV (shutE qw) (wK (xa_c (xe_op ww (xe_op kY (jQ (xa_c (shutE qw) zX)) (xe_op op_sub (shutE (pv 1)) (shutE qx))) (jQ (xa_c (shutE (pv 7)) zX))) zX))) (xa_c (shutE pe_bl) (xa_c (shutE qw) zX))))))) j8)
  (zw (xs_if (jw op_eq (shutE (pv 3)) (shutE qx)) (yJ (yX (wz (xa_c (xe_op qV (shutE qw) (wK (xa_c (xe_op ww (xe_op kY (jQ (xa_c (shutE qw) zX)) (xe_op op_sub (shutE (pv 1)) (shutE qx))) (jQ (xa_c (xe_op qV (shutE qw) (shutE (pv 5))) zX))) zX))) (xa_c (shutE pe_bl) (xa_c (shutE qw) zX)))))) j8)
  (yJ (yX (wz (xa_c (xe_op qV (shutE qw) (wK (xa_c (xe_op kY (jQ (xa_c (shutE qw) zX)) (shutE (pv 1))) zX))) (xa_c (shutE pe_bl) (xa_c (shutE qw) zX)))))))))))))))))))))),?_⟩
 have w0:=Int.emod_nonneg n (show (12:Int)≠0 by decide);have w1:=Int.emod_lt_of_pos n (show (0:Int)<12 by decide);obtain ⟨way,ew⟩:∃ way:Nat,n%12=(way:Int):=⟨(n%12).toNat,by omega⟩;have lw:way<12:=by omega
 refine ⟨_,rfl,_,_,rfl,rfl,(show (0:Int)<12 by decide),?_⟩;refine ⟨_,rfl,_,_,rfl,rfl,⟨by decide,by decide⟩,?_⟩;refine ⟨_,rfl,_,rfl,fun o lo H1 g1=>?_⟩;have lod:=odd_len o;refine ⟨rfl,j7,fun l1 k1=>⟨_,rfl,vj (n:=m) k1 rfl (by omega) fun p2 H2 g2 e2=>⟨_,_,_,congrArg V.str Q5,rfl,SqL.of e2,(by decide),jn (by rw [yk]; omega) (jY (by decide)),?_⟩⟩⟩;have g2:=g1.trans g2;clear e2 g1 k1;have fin:∀ (wy r9 r3 r7 r4:Nat) (t:Str) (H':Hp),wy<12->r9<9->r3<3->r7<7->r4<4->Same H2 H'->t=badT wy m o r9 r3 r7 r4->(3<=sizeLine/\∀ p,H' p=none->Q (.ref p) (upd H' p (.tup [.str t,.bl (badW wy),.str (badD wy).word]))):=by
  intro wy r9 r3 r7 r4 t H' h1 h2 h3 h4 h5 g e;subst e;exact ⟨by decide,fun p hp=>q wy o r9 r3 r7 r4 p _ h1 lo h2 h3 h4 h5 (g2.trans (g.trans (qy hp _))) (SqT.of qk)⟩
 clear q;have s0:Same H2 H2:=Same.refl _;have hm:(m:Int) - 1=((m - 1:Nat):Int):=by omega
 have lm:(rep m (tx "1")).length<=4:=by rw [yk]; omega
 have lg:(Str.join jv (rep m (tx "1"))).length<=404:=jj lm (jY (by decide));refine ⟨_,rfl,rfl,_,rfl,iteD (fun c=>?_) (fun c0=>?_)⟩
 ·exact ⟨_,rfl,_,_,rfl,rfl,adds 20 404 (by decide) lg,_,_,rfl,rfl,adds 424 20 (appL 20 404 (by decide) lg) (by decide),_,_,rfl,rfl,adds 444 20 (appL 424 20 (appL 20 404 (by decide) lg) (by decide)) (by decide),fin 0 0 0 0 0 _ _ (by decide) (by decide) (by decide) (by decide) (by decide) s0 rfl⟩
 refine ⟨_,rfl,rfl,_,rfl,iteD (fun c=>?_) (fun c1=>?_)⟩
 ·refine ⟨rfl,_,rfl,j7,fun l2 k2=>⟨j7,fun l3 k3=>⟨_,rfl,_,_,rfl,rfl,vj (n:=m - 1) k3 hm (by omega) fun p4 H4 g4 e4=>cat_str (xs:=[oddS.getD o Str.empty]) (g4 _ _ qk) e4 (by rw [yk]; show 1+_<=_; omega) fun p5 H5 g5 e5=>?_⟩⟩⟩
  have ll:([oddS.getD o Str.empty]++rep (m - 1) (tx "1")).length<=4:=by rw [Ad,yk]; show 1+_<=_; omega
  have la:∀ y∈[oddS.getD o Str.empty]++rep (m - 1) (tx "1"),y.length<=100:=Z1 (Z0 (by omega)) (jY (by decide));exact ⟨_,_,_,congrArg V.str Q5,rfl,SqL.of e5,(by decide),jn ll la,_,_,rfl,rfl,adds 20 404 (by decide) (jj ll la),fin 1 0 0 0 0 _ _ (by decide) (by decide) (by decide) (by decide) (by decide) ((qy k2 _).trans (g4.trans g5)) rfl⟩
 refine ⟨_,rfl,rfl,_,rfl,iteD (fun c=>?_) (fun c2=>?_)⟩
 ·refine ⟨rfl,j7,fun l2 k2=>⟨_,rfl,_,_,rfl,rfl,vj (n:=m+1) k2 (by omega) (by omega) fun p3 H3 g3 e3=>?_⟩⟩
  have ll:(rep (m+1) (tx "0,1")).length<=4:=by rw [yk]; omega
  have la:∀ y∈rep (m+1) (tx "0,1"),y.length<=100:=jY (by decide);exact ⟨_,_,_,congrArg V.str jW,rfl,SqL.of e3,(by decide),jn ll la,_,_,rfl,rfl,adds 20 404 (by decide) (jj ll la),fin 2 0 0 0 0 _ _ (by decide) (by decide) (by decide) (by decide) (by decide) g3 rfl⟩
 refine ⟨_,rfl,rfl,_,rfl,iteD (fun c=>?_) (fun c3=>?_)⟩
 ·have lx:(tx "0," ++ oddS.getD o Str.empty).length<=81:=appL 20 61 (by decide) lod
  refine ⟨rfl,_,rfl,_,_,rfl,rfl,adds 20 61 (by decide) lod,j7,fun l2 k2=>⟨j7,fun l3 k3=>⟨_,rfl,_,_,rfl,rfl,vj (n:=m - 1) k3 hm (by omega) fun p4 H4 g4 e4=>cat_str (xs:=[tx "0," ++ oddS.getD o Str.empty]) (g4 _ _ qk) e4 (by rw [yk]; show 1+_<=_; omega) fun p5 H5 g5 e5=>?_⟩⟩⟩;have ll:([tx "0," ++ oddS.getD o Str.empty]++rep (m - 1) (tx "0,1")).length<=4:=by rw [Ad,yk]; show 1+_<=_; omega
  have la:∀ y∈[tx "0," ++ oddS.getD o Str.empty]++rep (m - 1) (tx "0,1"),y.length<=100:=Z1 (Z0 (by omega)) (jY (by decide));exact ⟨_,_,_,congrArg V.str jW,rfl,SqL.of e5,(by decide),jn ll la,_,_,rfl,rfl,adds 20 404 (by decide) (jj ll la),fin 3 0 0 0 0 _ _ (by decide) (by decide) (by decide) (by decide) (by decide) ((qy k2 _).trans (g4.trans g5)) rfl⟩
 refine ⟨_,rfl,rfl,_,rfl,iteD (fun c=>?_) (fun c4=>?_)⟩
 ·obtain ⟨r,lr,er⟩:∃ r:Nat,r<9/\n.fdiv 12%9=(r:Int):=⟨(n.fdiv 12%9).toNat,by omega,by omega⟩
  have ev:(2:Int)+n.fdiv 12%9=((2+r:Nat):Int):=by omega
  have lx:(tx "1,1/" ++ figs (2+r)).length<=40:=appL 20 20 (by decide) (kx (by omega));refine ⟨rfl,j7,fun l2 k2=>⟨_,rfl,_,_,rfl,rfl,vj (n:=m - 1) k2 hm (by omega) fun p3 H3 g3 e3=>⟨_,rfl,_,_,rfl,rfl,(show (0:Int)<9 by decide),_,_,rfl,rfl,?_⟩⟩⟩;refine ⟨((2+r:Nat):Int),congrArg (fun z:Int=>[V.int z]) ev,Q4 (by omega),_,_,rfl,rfl,adds 20 20 (by decide) (kx (n:=2+r) (by omega)),j7,fun l4 k4=>cat_str (zs:=[tx "1,1/" ++ figs (2+r)]) ((qy k4 _) _ _ e3) qk (by rw [yk]; show _+1<=_; omega) fun p5 H5 g5 e5=>?_⟩;have ll:(rep (m - 1) (tx "0,1")++[tx "1,1/" ++ figs (2+r)]).length<=4:=by rw [Ad,yk]; show _+1<=_; omega
  have la:∀ y∈rep (m - 1) (tx "0,1")++[tx "1,1/" ++ figs (2+r)],y.length<=100:=Z1 (jY (by decide)) (Z0 (by omega));exact ⟨_,_,_,congrArg V.str jW,rfl,SqL.of e5,(by decide),jn ll la,_,_,rfl,rfl,adds 20 404 (by decide) (jj ll la),fin 4 r 0 0 0 _ _ (by decide) lr (by decide) (by decide) (by decide) (g3.trans ((qy k4 _).trans g5)) rfl⟩
 refine ⟨_,rfl,rfl,_,rfl,iteD (fun c=>?_) (fun c5=>?_)⟩
 ·obtain ⟨r,lr,er⟩:∃ r:Nat,r<3/\n.fdiv 12%3=(r:Int):=⟨(n.fdiv 12%3).toNat,by omega,by omega⟩
  have ev:(m:Int)+3+n.fdiv 12%3=((m+3+r:Nat):Int):=by omega
  refine ⟨_,rfl,_,rfl,_,_,rfl,rfl,(show (0:Int)<3 by decide),_,_,rfl,rfl,?_⟩;have lf:=kx (n:=m+3+r) (by omega);exact ⟨((m+3+r:Nat):Int),congrArg (fun z:Int=>[V.int z]) ev,Q4 (by omega),_,_,rfl,rfl,adds 20 20 (by decide) lf,_,_,rfl,rfl,adds 40 20 (appL 20 20 (by decide) lf) (by decide),fin 5 0 r 0 0 _ _ (by decide) (by decide) lr (by decide) (by decide) s0 rfl⟩
 refine ⟨_,rfl,rfl,_,rfl,iteD (fun c=>?_) (fun c6=>?_)⟩
 ·exact ⟨_,rfl,_,_,rfl,rfl,adds 20 61 (by decide) lod,_,_,rfl,rfl,adds 81 20 (appL 20 61 (by decide) lod) (by decide),fin 6 0 0 0 0 _ _ (by decide) (by decide) (by decide) (by decide) (by decide) s0 rfl⟩
 refine ⟨_,rfl,rfl,_,rfl,iteD (fun c=>?_) (fun c7=>?_)⟩
 ·obtain ⟨r,lr,er⟩:∃ r:Nat,r<7/\(n.fdiv 12).fdiv 17%7=(r:Int):=⟨((n.fdiv 12).fdiv 17%7).toNat,by omega,by omega⟩
  have hat:atI ([tx "0:",tx ":1",tx "0",tx "00:1",tx "-1:1",tx "0:1:1",tx "0:" ++ oddS.getD o Str.empty].map V.str) ((n.fdiv 12).fdiv 17%7)=some (.str (last7 (oddS.getD o Str.empty) r)):=by
   unfold last7;rw [er];exact atN (getS_at (by exact lr))
  have lx:(last7 (oddS.getD o Str.empty) r).length<=81:=by
   unfold last7;have la:∀ y∈[tx "0:",tx ":1",tx "0",tx "00:1",tx "-1:1",tx "0:1:1",tx "0:" ++ oddS.getD o Str.empty],y.length<=81:=Z1 (xs:=[tx "0:",tx ":1",tx "0",tx "00:1",tx "-1:1",tx "0:1:1"]) (by decide) (Z0 (appL 20 61 (by decide) lod));exact la _ (getS_mem (by exact lr))
  refine ⟨_,rfl,_,_,rfl,rfl,adds 20 61 (by decide) lod,(show 7<=sizeLine by decide),fun l2 k2=>⟨_,rfl,_,_,rfl,rfl,⟨by decide,by decide⟩,_,_,rfl,rfl,(show (0:Int)<7 by decide),_,_,_,_,rfl,rfl,SqL.of qk,hat,?_⟩⟩;exact ⟨_,rfl,_,_,rfl,rfl,adds 20 81 (by decide) lx,fin 7 0 0 r 0 _ _ (by decide) (by decide) (by decide) lr (by decide) (qy k2 _) rfl⟩
 refine ⟨_,rfl,rfl,_,rfl,iteD (fun c=>?_) (fun c8=>?_)⟩
 ·have lf:=kx (n:=m+3) (by omega)
  refine ⟨_,rfl,_,rfl,Q4 (n:=m+3) (by omega),?_⟩;exact ⟨_,_,rfl,rfl,adds 20 20 (by decide) lf,_,_,rfl,rfl,adds 40 20 (appL 20 20 (by decide) lf) (by decide),_,rfl,_,_,rfl,rfl,adds 60 61 (appL 40 20 (appL 20 20 (by decide) lf) (by decide)) lod,fin 8 0 0 0 0 _ _ (by decide) (by decide) (by decide) (by decide) (by decide) s0 rfl⟩
 refine ⟨_,rfl,rfl,_,rfl,iteD (fun c=>?_) (fun c9=>?_)⟩
 ·obtain ⟨r,lr,er⟩:∃ r:Nat,r<4/\n.fdiv 12%4=(r:Int):=⟨(n.fdiv 12%4).toNat,by omega,by omega⟩
  have hat:atI ([tx "0",tx "0,1,2",tx ",",tx "0,1;"].map V.str) (n.fdiv 12%4)=some (.str (last4 r)):=by
   unfold last4;rw [er];exact atN (getS_at (by exact lr))
  have lx:(last4 r).length<=81:=by
   unfold last4;have la:∀ y∈[tx "0",tx "0,1,2",tx ",",tx "0,1;"],y.length<=81:=by decide
   exact la _ (getS_mem (by exact lr))
  refine ⟨(show 4<=sizeLine by decide),fun l2 k2=>⟨_,rfl,_,_,rfl,rfl,(show (0:Int)<4 by decide),_,_,_,_,rfl,rfl,SqL.of qk,hat,?_⟩⟩;refine ⟨rfl,j7,fun l3 k3=>⟨_,rfl,_,_,rfl,rfl,vj (n:=m - 1) k3 hm (by omega) fun p4 H4 g4 e4=>⟨_,rfl,j7,fun l5 k5=>cat_str (zs:=[last4 r]) ((qy k5 _) _ _ e4) qk (by rw [yk]; show _+1<=_; omega) fun p6 H6 g6 e6=>?_⟩⟩⟩;have ll:(rep (m - 1) (tx "0,1")++[last4 r]).length<=4:=by rw [Ad,yk]; show _+1<=_; omega
  have la:∀ y∈rep (m - 1) (tx "0,1")++[last4 r],y.length<=100:=Z1 (jY (by decide)) (Z0 (by omega));exact ⟨_,_,_,congrArg V.str jW,rfl,SqL.of e6,(by decide),jn ll la,_,_,rfl,rfl,adds 20 404 (by decide) (jj ll la),fin 9 0 0 0 r _ _ (by decide) (by decide) (by decide) (by decide) lr ((qy k2 _).trans (g4.trans ((qy k5 _).trans g6))) rfl⟩
 refine ⟨_,rfl,rfl,_,rfl,iteD (fun c=>?_) (fun c10=>?_)⟩
 ·have lx:(tx "0," ++ oddS.getD o Str.empty).length<=81:=appL 20 61 (by decide) lod
  refine ⟨rfl,j7,fun l2 k2=>⟨_,rfl,_,_,rfl,rfl,vj (n:=m - 1) k2 hm (by omega) fun p3 H3 g3 e3=>⟨_,rfl,_,_,rfl,rfl,adds 20 61 (by decide) lod,j7,fun l4 k4=>cat_str (zs:=[tx "0," ++ oddS.getD o Str.empty]) ((qy k4 _) _ _ e3) qk (by rw [yk]; show _+1<=_; omega) fun p5 H5 g5 e5=>?_⟩⟩⟩;have ll:(rep (m - 1) (tx "1,0")++[tx "0," ++ oddS.getD o Str.empty]).length<=4:=by rw [Ad,yk]; show _+1<=_; omega
  have la:∀ y∈rep (m - 1) (tx "1,0")++[tx "0," ++ oddS.getD o Str.empty],y.length<=100:=Z1 (jY (by decide)) (Z0 (by omega));exact ⟨_,_,_,congrArg V.str jW,rfl,SqL.of e5,(by decide),jn ll la,_,_,rfl,rfl,adds 20 404 (by decide) (jj ll la),fin 10 0 0 0 0 _ _ (by decide) (by decide) (by decide) (by decide) (by decide) (g3.trans ((qy k4 _).trans g5)) rfl⟩
 refine ⟨rfl,j7,fun l2 k2=>⟨_,rfl,vj (n:=m) k2 rfl (by omega) fun p3 H3 g3 e3=>?_⟩⟩;have ll:(rep m (tx "5,4")).length<=4:=by rw [yk]; omega
 have la:∀ y∈rep m (tx "5,4"),y.length<=100:=jY (by decide);exact ⟨_,_,_,congrArg V.str jW,rfl,SqL.of e3,(by decide),jn ll la,_,_,rfl,rfl,adds 20 404 (by decide) (jj ll la),fin 11 0 0 0 0 _ _ (by decide) (by decide) (by decide) (by decide) (by decide) g3 rfl⟩
theorem at_in {ms:List Int} {i:Int} (h:0<=i) (h':i<ms.length):∃ z,atI (ms.map V.int) i=some (.int z):=by
 obtain ⟨j,rfl⟩:=Int.eq_ofNat_of_zero_le h;have hj:j<ms.length:=by omega
 exact ⟨ms[j],atN (by rw [List.getElem?_map,A4 hj]; rfl)⟩
def spCell (K:Ap):Sp:=fun vs H Q _=>∃ (sa:Addr) (ns:List Int) (k:Nat),vs=[.ref sa,.int k]/\SqL K H sa (ns.map V.int)/\∀ c,Q (.int c) H
theorem okyj (T:Txt K mg a):FnOk P w K mg base CX0 1 a.fyj a.dyj ["_law_script", "_law_k"] (spCell K):=by
 refine T.Fyj.F.ok scyj ?_ ?_
 ·walk_at "c"
 walk_at "b"
 obtain ⟨sa,ns,k,rfl,hS,q⟩:=h;refine ⟨_,(qK (ps_if (qW op_lt (pv 1) (qX (zx) rfl T.m_len boot_len (pa_c (pv 0) qj)))
    (qJ (zj (pe_ix zJ (pv 0) (pv 1))))
    qY)
   (qJ (zj qx))),?_⟩
 refine ⟨_,rfl,_,rfl,_,_,rfl,.inl hS,_,_,rfl,rfl,_,rfl,iteD (fun c=>?_) (fun c=>q 0)⟩;rw [List.length_map] at c;obtain ⟨z,hz⟩:=at_in (ms:=ns) (i:=(k:Int)) (by omega) (by omega);exact ⟨_,rfl,_,rfl,_,_,_,_,rfl,rfl,hS,hz,q z⟩
def usG (m:Nat) (N:Int):List Un:=[.sum (N:Rat) [],.bend m,.sum 0 [(m,1),(0,0)]]
def StD (m:Nat) (N:Int) (stand:Nat):St:=if stand=0 then none else some (m,usG m N,[m,m+2],decide (stand=2))
theorem stD_ok {m:Nat} {N:Int} {stand:Nat} (m1:1<=m) (m2:m<=2):StOk (StD m N stand) (stN stand m):=by
 unfold StD stN
 by_cases h:stand=0
 ·rw [if_pos h,if_pos h]; trivial
 ·rw [if_neg h,if_neg h]
  exact ⟨rfl,rfl,rfl,show 3<=80 by decide,m1,by omega⟩
def strI (N:Int):Str:=Str.ofString (toString N)
theorem fin99 {M:Int->Prop} (h:∀ i:Fin 99,M ((i.1:Int) - 49)) {N:Int} (n1 : -49<=N) (n2:N<=49):M N:=by
 have k:=h ⟨(N+49).toNat,by omega⟩;have e:(((N+49).toNat:Nat):Int) - 49=N:=by omega
 rw [e] at k;exact k
theorem m12 {M:Nat->Prop} (h1:M 1) (h2:M 2) {m:Nat} (m1:1<=m) (m2:m<=2):M m:=by
 rcases (show m=1\/m=2 by omega) with rfl | rfl
 ·exact h1
 ·exact h2
theorem head_str {N:Int} (n1 : -49<=N) (n2:N<=49):headS N=strI N:=fin99 (M:=fun N=>headS N=strI N) (by decide +kernel) n1 n2
theorem strI_len {N:Int} (n1 : -49<=N) (n2:N<=49):(strI N).length<=20:=fin99 (M:=fun N=>(strI N).length<=20) (by decide +kernel) n1 n2
theorem qS_int {N:Int} (n1 : -49<=N) (n2:N<=49):qS (N:Rat)=strI N:=by
 unfold qS txt;rw [show ((N:Rat).den:Int)=1 from rfl,if_pos rfl];exact head_str n1 n2
theorem log_int {N:Int} (n1 : -49<=N) (n2:N<=49):N.natAbs.log2<1920:=fin99 (M:=fun N=>N.natAbs.log2<1920) (by decide +kernel) n1 n2
def lineAt (m:Nat):Str:=tx "at " ++ Str.join jv (rep m (tx "1"))
def AtOk (m:Nat):Prop:=ascB (lineAt m)=true/\(lineAt m).length<=1000/\lineB (lineAt m)=true/\Txt.split (lineAt m) blank=[tx "at",Str.join jv (rep m (tx "1"))]/\wsB [Str.join jv (rep m (tx "1"))]=true/\pointC (Str.join jv (rep m (tx "1")))=some (List.replicate m 1)
theorem at_ok {m:Nat} (m1:1<=m) (m2:m<=2):AtOk m:=m12 (M:=AtOk) (by unfold AtOk; decide +kernel) (by unfold AtOk; decide +kernel) m1 m2
theorem walk_G {m:Nat} (m1:1<=m) (m2:m<=2) (N:Int):outQ (walkN (List.replicate m 1) (usG m N)) [m,m+2]=[(N:Rat),(N:Rat)]:=by
 have e:(0:Rat)+1*(N:Rat)+0*1=(N:Rat):=by grind
 rcases (show m=1\/m=2 by omega) with rfl | rfl
 ·show [(N:Rat),0+1*(N:Rat)+0*1]=_
  rw [e]
 ·show [(N:Rat),0+1*(N:Rat)+0*1]=_
  rw [e]
theorem net_G {m:Nat} (m1:1<=m) (m2:m<=2) (N:Int):NetOk m (usG m N) [m,m+2]:=by
 refine ⟨fun k u e=>?_,(show 3<=80 by decide),(show 1<=20 by decide),m1,by omega,(show 1<=2 by decide),(show 2<=12 by decide),fun o ho=>?_⟩
 ·match k,e with
  | 0,e=>cases e; exact ⟨fun x hx=>(by cases hx),List.nodup_nil,Nat.zero_le _⟩
  | 1,e=>cases e; show m<m+1; omega
  | 2,e =>
   cases e
   refine ⟨fun x hx=>?_,?_,(show 2<=100 by decide)⟩
   ·simp only [List.mem_cons,List.not_mem_nil,or_false] at hx
    rcases hx with rfl | rfl
    ·show m<m+2; omega
    ·show 0<m+2; omega
   ·show [m,0].Nodup
    rw [List.nodup_cons];exact ⟨fun z=>(by have:=List.mem_singleton.mp z; omega),List.nodup_cons.mpr ⟨List.not_mem_nil,List.nodup_nil⟩⟩
 ·show o<m+3
  simp only [List.mem_cons,List.not_mem_nil,or_false] at ho
  omega
theorem bd_int {N:Int} (n1 : -49<=N) (n2:N<=49):Shz (N:Rat):=⟨by show (N:Rat).den∣2520; exact ⟨2520,rfl⟩,by show N.natAbs<=2^31*1; omega⟩
theorem drawn_G {m:Nat} (m1:1<=m) (m2:m<=2) {N:Int} (n1 : -49<=N) (n2:N<=49):Drawn m (usG m N) (List.replicate m 1):=by
 refine ⟨(net_G m1 m2 N).1,(show 3<=24 by decide),fun u hu=>?_,A8,fun q hq=>?_,by omega⟩
 ·simp only [usG,List.mem_cons,List.not_mem_nil,or_false] at hu
  rcases hu with rfl | rfl | rfl
  ·exact ⟨bd_int n1 n2,fun x hx=>(by cases hx),Nat.zero_le _⟩
  ·trivial
  ·refine ⟨bd_int (N:=0) (by decide) (by decide),fun x hx=>?_,(show 2<=30 by decide)⟩
   simp only [List.mem_cons,List.not_mem_nil,or_false] at hx
   rcases hx with rfl | rfl
   ·exact bd_int (N:=1) (by decide) (by decide)
   ·exact bd_int (N:=0) (by decide) (by decide)
 ·rw [(List.mem_replicate.mp hq).2]
  exact ⟨by unfold Sm; decide,by unfold Sm; decide⟩
def isC (o:Option Cl) (c:Cl):Bool:=match o with
 | some d=>d.ix==c.ix
 | none=>false
theorem is_C {o:Option Cl} {c:Cl} (h:isC o c=true):o=some c:=by
 cases o with
 | none=>cases h
 | some d=>cases d <;> cases c <;> first | rfl | cases h
def spKept (K:Ap) (a:Adr):Sp:=fun vs H Q _=>∃ (d:Addr) (m stand:Nat) (N:Int) (b:Bool),vs=[.ref d,.int (m:Int),.int N,.bl b]/\b=decide (0<stand)/\vv K a H d (StD m N stand)/\1<=m/\m<=2 /\ -49<=N/\N<=49/\∀ H',Same H H'->Q (.bl true) H'
theorem okyk (T:Txt K mg a) (B:a.w=w):FnOk P w K mg base CX0 13 a.fyk a.dyk ["_law_desk", "_law_many", "_law_place", "_law_has_net"] (spKept K a):=by
 refine T.Fyk.F.ok scyk ?_ ?_
 ·walk_at "c"
 walk_at "b"
 obtain ⟨d,m,stand,N,b,rfl,eb,hD,m1,m2,n1,n2,q⟩:=h;refine ⟨_,PBx.to (x_body (ss:=[(bS kQ 0),(bS kQ 1)]) (by rfl)
  (zw (xs_if (xt_not (xt_val (shutE (pv 3)))) (yJ (yX (xe_cmpR op_eq (shutE (pe_d (jV T B) hr T.Fyo (pa_c (pv 0) (pa_c qw qj)))) (shutE qw)))) j8)
  (yJ (yX (xe_cmpR op_eq (shutE (x6 (pv 0) T.Cz4 T.tza (xz T B) (hr.mono (by decide)) T.bza .nil passN (pa_c (pe_op qV qw (pe_bm PySem.F.plainAttrs_str PySem.F.slot_str_join PySem.F.type_str_join mt_join qw (pa_c (pe_op kY (yK (pa_c qw qj)) (pv 1)) qj))) qj) (hst:=qz rfl _ _) (hpl:=qQ rfl))) (wK (xa_c (xe_op kY (jQ (xa_c (shutE (yq (j2) rfl T.m_str boot_str (pa_c (pv 2) qj))) zX)) (shutE qx)) zX))))))),?_⟩
 cases b with
 | false =>
  have h0:stand=0:=by have:=of_decide_eq_false eb.symm; omega
  subst h0;have hD:vv K a H d none:=hD;obtain ⟨dx,hd⟩:=id hD;refine ⟨_,rfl,_,rfl,iteT ⟨_,rfl,d,dx,_,.non,.non,.net,rfl,hd,refB_ok (st:=none) (st':=none) trivial (is_C (by decide +kernel)) hD,fun H1 g1=>⟨rfl,?_⟩⟩⟩;rw [decide_eq_true (show V.str Cl.net.word=V.str (Str.ofString "net") from rfl)];exact q H1 g1
 | true =>
  have h0:stand≠0:=by have:=of_decide_eq_true eb.symm; omega
  have eS:StD m N stand=some (m,usG m N,[m,m+2],decide (stand=2)):=if_neg h0;rw [eS] at hD;obtain ⟨dx,p,vb,hd,_,_⟩:=id hD;obtain ⟨a1,a2,a3,a4,a5,a6⟩:=at_ok m1 m2;have wd:=(wsB_ok a5).wds;refine ⟨_,rfl,_,rfl,iteF ?_⟩;refine ⟨_,rfl,d,dx,_,rfl,hd,rfl,rfl,j7,fun l1 k1=>⟨_,rfl,vj (n:=m) k1 rfl (by omega) fun p2 H2 g2 e2=>⟨_,_,_,congrArg V.str Q5,rfl,SqL.of e2,(by decide),jn (by rw [yk]; omega) (jY (by decide)),_,_,rfl,rfl,adds 20 404 (by decide) (jj (by rw [yk]; omega) (jY (by decide))),?_⟩⟩⟩;refine ⟨d,_,_,rfl,hD.mono g2,.inr ⟨lineAt m,rfl,ascB_ok a1,a2,.inr ⟨a3,_,_,a4,.inr (.inr (.inr ⟨by decide,wd,m,usG m N,[m,m+2],_,rfl,.inr (by decide),(show 3<=80 by decide),m1,by omega,.inr (.inl ⟨rfl,_,rfl,fun qs e lq=>?_,fun k=>?_⟩)⟩))⟩⟩⟩
  ·rw [pointO_C,a6] at e
   cases e
   rw [walk_G m1 m2];refine ⟨drawn_G m1 m2 n1 n2,(show 2<=12 by decide),(net_G m1 m2 N).2.2.2.2.2.2.2,fun x hx=>?_,fun H3 g3=>?_⟩
   ·simp only [List.mem_cons,List.not_mem_nil,or_false,or_self] at hx
    subst hx;exact ⟨fin99 (M:=fun N=>N.natAbs<10^60) (by decide +kernel) n1 n2,(show (1:Nat)<10^60 by decide)⟩
   refine ⟨rfl,_,rfl,_,rfl,log_int n1 n2,j7,fun l3 k3=>?_⟩
   delta tC
   dsimp only;refine vj (n:=2) k3 rfl (by decide) fun p4 H4 g4 e4=>⟨_,_,_,congrArg V.str Q5,rfl,SqL.of e4,(by decide),jn (by rw [yk]; decide) (jY (Ao (strI_len n1 n2) (by decide))),rfl,?_⟩
   rw [decide_eq_true]
   ·exact q _ (g2.trans (g3.trans g4))
   ·show V.str (Str.join jv [qS (N:Rat),qS (N:Rat)])=V.str (Str.join jv [strI N,strI N])
    rw [qS_int n1 n2]
  ·exact absurd A8 (k (List.replicate m 1) (by rw [pointO_C]; exact a6))
theorem refB_line {st:Option (Nat×Nat×Bool)} {x:Str} (h:ascB x=true) (l:x.length<=1000) (b:lineB x=false):refB st x=some .line:=by
 unfold refB;rw [if_neg (by rw [h]; rintro (z | z) <;> first | cases z | omega),if_pos b]
theorem oddL_ok:∀ x∈oddL,ascB x=true/\x.length<=1000/\lineB x=false:=by decide +kernel
def netX (x:Str) (c:Cl):Bool:=isC (refB none x) c&&(match Txt.split x blank with
 | w0::_=>decide (w0=tx "net")
 | []=>false)
theorem refB_net {st:Option (Nat×Nat×Bool)} {x:Str} {c:Cl} (h:netX x c=true):refB st x=some c:=by
 obtain ⟨h1,h2⟩:=Bool.and_eq_true_iff.mp h;have h1:=is_C h1;rw [<- h1]
 cases e:Txt.split x blank with
 | nil=>rw [e] at h2; cases h2
 | cons w0 r =>
  rw [e] at h2;have h2:w0=tx "net" := of_decide_eq_true h2;unfold refB;rw [e];dsimp only;rw [if_pos h2,if_pos h2]
theorem netsN_ok:∀ x∈netsN,netX (tx "net " ++ x) .net=true:=by decide +kernel
theorem netsT_ok:∀ x∈netsT,netX (tx "net " ++ x) .text=true:=by decide +kernel
theorem nets_len:∀ x∈netsN++netsT,x.length<=100:=by decide +kernel
def chkX (m:Nat) (x:Str) (wb:Bool) (c:Cl):Bool:=isC (refB (some (m,3,true)) x) c&&(match Txt.split x blank with
 | w0::_=>!decide (w0=tx "net")&&(decide (w0∈inBox)==wb)
 | []=>false)&&lineB x
theorem refB_all {m stand:Nat} {x:Str} {wb:Bool} {c:Cl} (s2:stand<=2) (h:chkX m x wb c=true):refB (stN stand m) x=some (ahead stand wb c):=by
 unfold chkX at h;obtain ⟨h,lb⟩:=Bool.and_eq_true_iff.mp h;obtain ⟨h1,h2⟩:=Bool.and_eq_true_iff.mp h;have h1:=is_C h1;unfold refB at h1 ⊢
 by_cases A:ascB x=false\/1000<x.length
 ·rw [if_pos A] at h1; cases h1
 rw [if_neg A] at h1 ⊢;rw [if_neg (by rw [lb]; exact fun z=>by cases z)] at h1 ⊢
 cases e:Txt.split x blank with
 | nil=>rw [e] at h2; cases h2
 | cons w0 r =>
  rw [e] at h1 h2;dsimp only at h1 h2 ⊢;obtain ⟨h2,h3⟩:=Bool.and_eq_true_iff.mp h2;have hn:w0≠Str.ofString "net" := by
   have:=h2
   simp only [Bool.not_eq_true',decide_eq_false_iff_not] at this
   exact this
  have h3:decide (w0∈inBox)=wb:=by simpa using h3
  by_cases W:wsB r=false
  ·rw [if_pos W] at h1; cases h1
  rw [if_neg W] at h1 ⊢;rw [if_neg hn] at h1 ⊢;rw [if_neg (fun z=>by cases z.1)] at h1;unfold ahead stN
  rcases (show stand=0\/stand=1\/stand=2 by omega) with rfl | rfl | rfl
  ·rfl
  ·by_cases ib:w0∈inBox
   ·rw [decide_eq_true ib] at h3
    subst h3;exact if_pos ⟨rfl,ib⟩
   ·rw [decide_eq_false ib] at h3
    subst h3;exact (if_neg (fun z=>ib z.2)).trans h1
  ·exact (if_neg (fun z=>by cases z.1)).trans (h1.trans (by cases wb <;> rfl))
def chkB (m way o r9 r3 r7 r4:Nat):Bool:=chkX m (badT way m o r9 r3 r7 r4) (badW way) (badD way)
def BadM (m:Nat):Prop:=(∀ o:Fin 17,chkB m 1 o.1 0 0 0 0=true/\chkB m 3 o.1 0 0 0 0=true/\chkB m 6 o.1 0 0 0 0=true/\chkB m 8 o.1 0 0 0 0=true/\chkB m 10 o.1 0 0 0 0=true/\chkB m 7 o.1 0 0 6 0=true)/\(chkB m 0 0 0 0 0 0=true/\chkB m 2 0 0 0 0 0=true/\chkB m 11 0 0 0 0 0=true)/\(∀ r:Fin 9,chkB m 4 0 r.1 0 0 0=true)/\(∀ r:Fin 3,chkB m 5 0 0 r.1 0 0=true)/\(∀ r:Fin 6,chkB m 7 0 0 0 r.1 0=true)/\(∀ r:Fin 4,chkB m 9 0 0 0 0 r.1=true)
instance (m:Nat):Decidable (BadM m):=by unfold BadM; infer_instance
theorem bad1:BadM 1:=by decide +kernel
theorem bad2:BadM 2:=by decide +kernel
theorem bad7 {m o r7:Nat} (h:r7<6):badT 7 m o 0 0 r7 0=badT 7 m 0 0 0 r7 0:=by
 match r7,h with
 | 0,_=>rfl
 | 1,_=>rfl
 | 2,_=>rfl
 | 3,_=>rfl
 | 4,_=>rfl
 | 5,_=>rfl
theorem bad_ok {m way o r9 r3 r7 r4:Nat} (B:BadM m) (h1:way<12) (h2:o<17) (h3:r9<9) (h4:r3<3) (h5:r7<7) (h6:r4<4):chkX m (badT way m o r9 r3 r7 r4) (badW way) (badD way)=true:=by
 obtain ⟨bo,⟨b0,b2,b11⟩,b4,b5,b7,b9⟩:=B;obtain ⟨o1,o3,o6,o8,o10,o7⟩:=bo ⟨o,h2⟩
 match way,h1 with
 | 0,_=>exact b0
 | 1,_=>exact o1
 | 2,_=>exact b2
 | 3,_=>exact o3
 | 4,_=>exact b4 ⟨r9,h3⟩
 | 5,_=>exact b5 ⟨r3,h4⟩
 | 6,_=>exact o6
 | 7,_ =>
  by_cases k:r7<6
  ·rw [show badT 7 m o r9 r3 r7 r4=badT 7 m o 0 0 r7 0 from rfl,bad7 k]
   exact b7 ⟨r7,k⟩
  ·obtain rfl:r7=6:=by omega
   exact o7
 | 8,_=>exact o8
 | 9,_=>exact b9 ⟨r4,h6⟩
 | 10,_=>exact o10
 | 11,_=>exact b11
def lastW:List Str:=[tx "bounds",tx "smaller",tx "says 1 0:1",tx "most 0:1"]
theorem last_ok {m stand:Nat} (m1:1<=m) (m2:m<=2) (s:stand<2):∀ x∈lastW,refB (stN stand m) x=some (if stand=0 then .net else .box):=by
 intro x hx;refine is_C ?_
 rcases (show m=1\/m=2 by omega) with rfl | rfl
 ·rcases (show stand=0\/stand=1 by omega) with rfl | rfl
  ·exact (show ∀ x∈lastW,isC (refB (stN 0 1) x) .net=true by decide +kernel) x hx
  ·exact (show ∀ x∈lastW,isC (refB (stN 1 1) x) .box=true by decide +kernel) x hx
 ·rcases (show stand=0\/stand=1 by omega) with rfl | rfl
  ·exact (show ∀ x∈lastW,isC (refB (stN 0 2) x) .net=true by decide +kernel) x hx
  ·exact (show ∀ x∈lastW,isC (refB (stN 1 2) x) .box=true by decide +kernel) x hx
theorem ahead_word {stand:Nat} {wb:Bool} {c:Cl} (s2:stand<=2):(if decide ((0:Int)<(stand:Int))=false then Str.ofString "net" else if wb=true/\decide ((1:Int)<(stand:Int))=false then Str.ofString "box" else c.word)=(ahead stand wb c).word:=by
 unfold ahead
 rcases (show stand=0\/stand=1\/stand=2 by omega) with rfl | rfl | rfl
 ·rfl
 ·cases wb <;> rfl
 ·cases wb <;> rfl
theorem int_at {zs:List Int} {i:Nat} (h:(zs.map V.int)[i]?=some x):∃ z:Int,zs[i]?=some z/\x=.int z:=by
 rw [List.getElem?_map] at h
 cases e:zs[i]? with
 | none=>rw [e] at h; cases h
 | some z=>rw [e] at h; exact ⟨z,rfl,(Am h).symm⟩
def spLWalked (K:Ap) (a:Adr):Sp:=fun vs H Q _=>∃ (d sa:Addr) (ns:List Int) (m stand:Nat) (N:Int),vs=[.ref d,.ref sa,.int (m:Int),.int N,.int (stand:Int)]/\SqL K H sa (ns.map V.int)/\stand<=2/\vv K a H d (StD m N stand)/\1<=m/\m<=2 /\ -49<=N/\N<=49/\∀ H',Same H H'->Q (.bl true) H'
theorem xW (T:Txt K mg a) (B:a.w=w):FnOk P w K mg base CX0 14 a.fyp a.dyp ["_law_desk", "_law_script", "_law_many", "_law_outs", "_law_stand"] (spLWalked K a):=by
 refine T.Fyp.F.ok yz ?_ ?_
 ·walk_at "c"
 walk_at "b"
 obtain ⟨d,sa,ns,m,stand,N,rfl,hS,s2,hD,m1,m2,n1,n2,q⟩:=h;refine ⟨_,PBx.to (x_body (ss:=[(bS vz 0),(bS vz 1)]) (by rfl)
  (zw (xs_for PassesOwn.never rfl (pi_enum rfl T.m_enumerate (pa_c (pe_op ww (yK (pa_c (pe_d (okyj T) hr T.Fyj (pa_c (pv 1) (pa_c qx qj))) qj)) (w6 Q9 (pv 1) (vK qx) (vK qx))) qj)) (pg_tup rfl (j6 (pg_n 5 yz.nd) (j6 (pg_n 6 yz.nd) pgs_nil))) (zw (xs_s 7 yz.nd (shutE (pe_d (okyl T) hr T.Fyl (pa_c (pv 6) (pa_c (pe_op jK qx (pv 5)) qj))))) (zw (xs_if (jw op_ne (shutE (pe_d (jV T B) hr T.Fyo (pa_c (pv 0) (pa_c (pe_d (okym T) hr T.Fym (pa_c (pv 7) qj)) qj)))) (shutE qw)) (yJ (yX (shutE pe_bl))) j8) (zw (xs_asg (shutE (pe_d (okyh T) hr T.Fyh (pa_c (pe_op yw (pv 7) qx) (pa_c (pv 2) (pa_c (pe_op jK (pv 2) qx) qj))))) (pg_tup rfl (j6 (pg_n 8 yz.nd) (j6 (pg_n 9 yz.nd) (j6 (pg_n 10 yz.nd) pgs_nil))))) (zw (xs_s 10 yz.nd (shutE (pe_d (okyg T) hr T.Fyg (pa_c (x9 op_gt (pv 4) qx) (pa_c (x9 op_gt (pv 4) qx) (pa_c (pv 9) (pa_c (pv 10) qj))))))) (zw (xs_if (jw op_ne (shutE (pe_d (jV T B) hr T.Fyo (pa_c (pv 0) (pa_c (pv 8) qj)))) (shutE (pv 10))) (yJ (yX (shutE pe_bl))) j8) (zw (xs_asg (shutE (pe_d (okyi T) hr T.Fyi (pa_c (pe_op yw (pv 7) qx) qj))) (pg_tup rfl (j6 (pg_n 8 yz.nd) (j6 (pg_n 10 yz.nd) pgs_nil)))) (zw (xs_if (jw op_ne (shutE (pe_d (jV T B) hr T.Fyo (pa_c (pv 0) (pa_c (pe_op qV qw (pv 8)) qj)))) (shutE (pv 10))) (yJ (yX (shutE pe_bl))) j8) (zw (xs_if (xt_not (xt_val (shutE (pe_d (okyk T B) hr T.Fyk (pa_c (pv 0) (pa_c (pv 2) (pa_c (pv 3) (pa_c (x9 op_gt (pv 4) qx) qj)))))))) (yJ (yX (shutE pe_bl))) j8) (zw (xs_s 11 yz.nd (xe_ix zJ (jQ (xa_c (shutE qw) (xa_c (shutE qw) (xa_c (shutE qw) (xa_c (shutE qw) zX))))) (xe_op jk (xe_op yw (shutE (pv 7)) (shutE qx)) (shutE qx)))) (yJ (xs_if (shutT (PW.pt (kW (qW op_lt (pv 4) qx) (vX (qW op_ne (pe_d (jV T B) hr T.Fyo (pa_c (pv 0) (pa_c (pv 11) qj))) (pe_ix zJ (yK (pa_c qw (pa_c qw qj))) (pv 4))))))) (yJ (yX (shutE pe_bl))) j8))))))))))))
  (yJ (yX (shutE pe_bl))))),?_⟩
 have hst:=stD_ok (N:=N) (stand:=stand) m1 m2;refine ⟨_,rfl,sa,ns,0,rfl,hS,fun c0=>⟨j7,fun l1 k1=>?_⟩⟩;have f1:=qy k1 (.lst [.int c0]);have e1:=qk (H:=H) (a:=l1) (o:=.lst [.int c0]);generalize upd H l1 (.lst [.int c0])=H1 at *;refine ⟨_,rfl,_,rfl,_,rfl,_,_,rfl,f1.seq hS,fun c2 k2=>?_⟩;obtain ⟨ks,ek,hk⟩:∃ ks:List Int,cutV (ns.map V.int) (some 1) (some 21)=ks.map V.int/\ks.length<=20:=by
  unfold cutV;rw [<- List.map_drop,<- List.map_take];refine ⟨_,rfl,?_⟩;rw [Aj,List.length_drop];have e1:HT.sIx (ns.map V.int).length 0 (some ((1:Nat):Int))=min 1 (ns.map V.int).length:=HT.sIx_nat ..;have e1:HT.sIx (ns.map V.int).length 0 (some 1)=min 1 (ns.map V.int).length:=e1;have e2:HT.sIx (ns.map V.int).length (ns.map V.int).length (some ((21:Nat):Int))=min 21 (ns.map V.int).length:=HT.sIx_nat ..;have e2:HT.sIx (ns.map V.int).length (ns.map V.int).length (some 21)=min 21 (ns.map V.int).length:=e2;rw [e1,e2,List.length_map];omega
 rw [ek];have f2:=qy k2 (.lst (ks.map V.int));have e2:=qk (H:=H1) (a:=c2) (o:=.lst (ks.map V.int));have e1:=f2 _ _ e1;generalize upd H1 c2 (.lst (ks.map V.int))=H2 at *;refine ⟨_,_,_,_,rfl,rfl,e1,e2,(by rw [List.length_map]; exact leB (by show 1+_<=_; omega)),fun l3 k3=>?_⟩;rw [show [V.int c0]++ks.map V.int=(c0::ks).map V.int from rfl];have f3:=qy k3 (.lst ((c0::ks).map V.int));have e3:=qk (H:=H2) (a:=l3) (o:=.lst ((c0::ks).map V.int));generalize upd H2 l3 (.lst ((c0::ks).map V.int))=H3 at *;have g3:=f1.trans (f2.trans f3);have hD:=hD.mono g3;clear e1 e2 f1 f2 f3 hS k1 k2 k3;generalize hks:c0::ks=zs at *;have lz:zs.length<=21:=by rw [<- hks,List.length_cons]; omega
 clear hks ek hk;have lzm:(zs.map V.int).length=zs.length:=List.length_map ..;obtain ⟨dx,vn,vb,hd⟩:=hD.is;refine ⟨l3,rfl,⟨_,SqL.of e3⟩,for_by (n:=zs.length) (fun i σ H'=>Same H3 H'/\∃ (u5 u6 u7 u8 u9 u10 u11:Option V),σ=[some (.ref d),some (.ref sa),some (.int (m:Int)),some (.int N),some (.int (stand:Int)),u5,u6,u7,u8,u9,u10,u11]) ⟨Same.refl _,_,_,_,_,_,_,_,rfl⟩ ?_ ?_ ?_⟩
 case refine_2 =>
  rintro i σ H' hi ⟨g,_⟩;exact ⟨_,_,SqL.of (g _ _ e3),A4 (by omega)⟩
 case refine_3 =>
  rintro i σ H0 x Hk hi ⟨g,u5,u6,u7,u8,u9,u10,u11,rfl⟩ ⟨p,x2,hp,rfl,rfl,y1⟩;obtain ⟨z,ez,rfl⟩:=int_at (y1 _ (SqL.of (g _ _ e3)));have f:=qy hp (.tup [.int (i:Int),.int z]);refine ⟨p,_,rfl,SqT.of qk,rfl,_,_,rfl,_,_,rfl,rfl,?_⟩;have g:=g.trans f;generalize upd H0 p (.tup [.int (i:Int),.int z])=G0 at *;clear hp f y1 ez;refine ⟨_,rfl,_,rfl,_,_,rfl,rfl,z,_,rfl,fun nu n0 _=>?_⟩;refine ⟨_,rfl,_,rfl,nu,rfl,fun v G1 g1 hv=>?_⟩;have g:=g.trans g1;refine ⟨d,dx,v,vn,vb,.line,rfl,g _ _ hd,?_,fun G2 g2=>⟨rfl,_,rfl,iteNS rfl ?_⟩⟩
  ·rcases hv with is | ⟨y,hy,rfl⟩
   ·exact fun Q E q=>⟨d,v,_,rfl,hD.mono g,.inl ⟨is,q⟩⟩
   ·obtain ⟨o1,o2,o3⟩:=oddL_ok y hy
    exact refB_ok hst (refB_line o1 o2 o3) (hD.mono g)
  have g:=g.trans g2;clear hv g1 g2;refine ⟨_,rfl,_,_,rfl,rfl,⟨by decide,by decide⟩,_,rfl,_,rfl,_,_,rfl,rfl,nu.fdiv 25,m,rfl,?_,m1,m2,fun way o r9 r3 r7 r4 tp G3 b1 b2 b3 b4 b5 b6 g3' hT=>?_⟩
  ·rw [Int.fdiv_eq_ediv_of_nonneg nu (by decide)]
   exact Int.ediv_nonneg n0 (by decide)
  have g:=g.trans g3';have bx:=refB_all s2 (bad_ok (m12 (M:=BadM) bad1 bad2 m1 m2) b1 b2 b3 b4 b5 b6);generalize badT way m o r9 r3 r7 r4=bt at *;generalize badW way=bw at *;generalize badD way=bd at *;refine ⟨tp,_,rfl,hT,rfl,_,_,rfl,_,_,rfl,_,_,rfl,rfl,?_⟩;clear b1 b2 b3 b4 b5 b6 hT g3';refine ⟨_,rfl,_,_,rfl,rfl,_,rfl,_,_,rfl,rfl,_,rfl,_,rfl,_,_,_,_,rfl,?_⟩;refine ⟨_,rfl,_,rfl,d,dx,_,vn,vb,_,rfl,g _ _ hd,refB_ok hst bx (hD.mono g),fun G4 g4=>⟨_,rfl,rfl,_,rfl,iteNS (congrArg V.str (ahead_word s2).symm) ?_⟩⟩;have g:=g.trans g4;clear g4 bx;refine ⟨_,rfl,_,_,rfl,rfl,⟨by decide,by decide⟩,_,rfl,fun y c tp2 G5 hx g5 hT=>?_⟩;have g:=g.trans g5;refine ⟨tp2,_,rfl,hT,rfl,_,_,rfl,_,_,rfl,rfl,?_⟩;have ly:y.length<=100:=nets_len y (Ak.mpr (hx.imp (·.1) (·.1)));refine ⟨_,rfl,_,rfl,_,_,rfl,rfl,adds 20 100 (by decide) ly,d,dx,_,vn,vb,c,rfl,g _ _ hd,refB_ok hst (refB_net ?_) (hD.mono g),fun G6 g6=>⟨_,rfl,rfl,_,rfl,iteNS rfl ?_⟩⟩
  ·rcases hx with ⟨hx,rfl⟩ | ⟨hx,rfl⟩
   ·exact netsN_ok y hx
   ·exact netsT_ok y hx
  have g:=g.trans g6;clear hx hT ly g5 g6;refine ⟨_,rfl,_,rfl,_,rfl,_,rfl,_,_,rfl,rfl,d,m,stand,N,_,rfl,?_,hD.mono g,m1,m2,n1,n2,fun G7 g7=>⟨_,rfl,iteF ?_⟩⟩
  ·exact decide_eq_decide.mpr (by omega)
  have g:=g.trans g7;clear g7;obtain ⟨r,lr,er⟩:∃ r:Nat,r<4/\nu.fdiv 11%4=(r:Int):=⟨(nu.fdiv 11%4).toNat,by omega,by omega⟩;have hat:atI (lastW.map V.str) (nu.fdiv 11%4)=some (.str (lastW.getD r Str.empty)):=by
   rw [er];exact atN (getS_at (by exact lr))
  have hl:lastW.getD r Str.empty∈lastW:=getS_mem (by exact lr);refine ⟨(show 4<=sizeLine by decide),fun l8 k8=>⟨_,rfl,_,_,rfl,rfl,⟨by decide,by decide⟩,_,_,rfl,rfl,(show (0:Int)<4 by decide),_,_,_,_,rfl,rfl,SqL.of qk,hat,?_⟩⟩;have f8:=qy k8 (.lst (lastW.map V.str));have g:=g.trans f8;generalize lastW.getD r Str.empty=lw at *;refine ⟨_,rfl,_,_,rfl,rfl,_,rfl,iteD (fun c=>?_) (fun c=>⟨g,_,_,_,_,_,_,_,rfl⟩)⟩;have c:stand<2:=by have c:(stand:Int)<2:=c; omega
  refine ⟨_,rfl,_,rfl,d,dx,_,vn,vb,_,rfl,g _ _ hd,refB_ok hst (last_ok m1 m2 c lw hl) (hD.mono g),fun G9 g9=>⟨vq,fun l9 k9=>?_⟩⟩;have g:=g.trans (g9.trans (qy k9 (.lst [.str (Str.ofString "net"),.str (Str.ofString "box")])));refine ⟨_,rfl,_,_,_,.str (if stand=0 then Cl.net else Cl.box).word,rfl,rfl,SqL.of qk,?_,rfl,_,rfl,iteNS rfl ⟨g,_,_,_,_,_,_,_,rfl⟩⟩
  rcases (show stand=0\/stand=1 by omega) with rfl | rfl
  ·rfl
  ·rfl
 rintro σ H9 ⟨g,u5,u6,u7,u8,u9,u10,u11,rfl⟩;exact ⟨⟨_,SqL.of (g _ _ e3),by omega⟩,q _ (g3.trans g)⟩
def lineN (m:Nat) (N:Int):Str:=tx "net ins " ++ figs m++tx " ; sum " ++ strI N++tx " ; bend " ++ figs m++tx " ; sum 0 " ++ figs m++tx ":1 0:0" ++ tx " ; outs " ++ figs m++tx " " ++ figs (m+2)
def rA (m:Nat):List Str:=[tx "ins",figs m,semi,tx "sum"]
def rZ (m:Nat):List Str:=[semi,tx "bend",figs m,semi,tx "sum",tx "0",figs m++tx ":1",tx "0:0",semi,tx "outs",figs m,figs (m+2)]
def rN (m:Nat) (N:Int):List Str:=rA m++strI N::rZ m
def wordB (p:Str):Bool:=ascB p&&decide (p.length<=20)&&!decide (32∈p.cps.toList)&&!decide (10∈p.cps.toList)
theorem v9 {p:Str} (h:wordB p=true):Asc p/\p.length<=20/\32∉p.cps.toList/\10∉p.cps.toList:=by
 unfold wordB at h
 simp only [Bool.and_eq_true,Bool.not_eq_true',decide_eq_false_iff_not,decide_eq_true_eq] at h
 exact ⟨ascB_ok h.1.1.1,h.1.1.2,h.1.2,h.2⟩
theorem words_N {m:Nat} {N:Int} (m1:1<=m) (m2:m<=2) (n1 : -49<=N) (n2:N<=49):∀ p∈tx "net" :: rN m N,wordB p=true:=by
 have hw:wordB (strI N)=true:=fin99 (M:=fun N=>wordB (strI N)=true) (by decide +kernel) n1 n2;have ha:∀ p∈rA m,wordB p=true:=m12 (M:=fun m=>∀ p∈rA m,wordB p=true) (by decide +kernel) (by decide +kernel) m1 m2;have hz:∀ p∈rZ m,wordB p=true:=m12 (M:=fun m=>∀ p∈rZ m,wordB p=true) (by decide +kernel) (by decide +kernel) m1 m2;exact List.forall_mem_cons.mpr ⟨by decide +kernel,fun p hp=>(Ak.mp hp).elim (ha p) fun hp=>(List.mem_cons.mp hp).elim (fun e=>e ▸ hw) (hz p)⟩
theorem str_assoc (x y z:Str):x++y++z=x++(y++z):=by
 cases x; cases y; cases z
 exact congrArg Str.mk (Array.append_assoc ..)
theorem line_join {m:Nat} {N:Int} (m1:1<=m) (m2:m<=2):lineN m N=Str.join blank (tx "net" :: rN m N):=by
 have e1:lineN m N=(tx "net ins " ++ figs m++tx " ; sum ")++(strI N++(tx " ; bend " ++ figs m++tx " ; sum 0 " ++ figs m++tx ":1 0:0" ++ tx " ; outs " ++ figs m++tx " " ++ figs (m+2))):=by
  unfold lineN
  simp only [str_assoc]
 have e2:Str.join blank (tx "net" :: rN m N)=(tx "net" ++ blank++(tx "ins" ++ blank++(figs m++blank++(semi++blank++(tx "sum" ++ blank)))))++(strI N++(blank++Str.join blank (rZ m))):=by
  have e:Str.join blank (tx "net" :: rN m N)=tx "net" ++ blank++(tx "ins" ++ blank++(figs m++blank++(semi++blank++(tx "sum" ++ blank++(strI N++blank++Str.join blank (rZ m)))))):=rfl;rw [e]
  simp only [str_assoc]
 rw [e1,e2];have a:tx "net ins " ++ figs m++tx " ; sum " = tx "net" ++ blank++(tx "ins" ++ blank++(figs m++blank++(semi++blank++(tx "sum" ++ blank)))) :=
  m12 (M:=fun m=>tx "net ins " ++ figs m++tx " ; sum " = tx "net" ++ blank++(tx "ins" ++ blank++(figs m++blank++(semi++blank++(tx "sum" ++ blank))))) (by decide +kernel) (by decide +kernel) m1 m2
 have z:tx " ; bend " ++ figs m++tx " ; sum 0 " ++ figs m++tx ":1 0:0" ++ tx " ; outs " ++ figs m++tx " " ++ figs (m+2)=blank++Str.join blank (rZ m) :=
  m12 (M:=fun m=>tx " ; bend " ++ figs m++tx " ; sum 0 " ++ figs m++tx ":1 0:0" ++ tx " ; outs " ++ figs m++tx " " ++ figs (m+2)=blank++Str.join blank (rZ m)) (by decide +kernel) (by decide +kernel) m1 m2
 rw [a,z]
theorem rows_N {m:Nat} {N:Int} (m1:1<=m) (m2:m<=2) (n1 : -49<=N) (n2:N<=49):rowsC (rN m N)=[[tx "ins",figs m],[tx "sum",strI N],[tx "bend",figs m],[tx "sum",tx "0",figs m++tx ":1",tx "0:0"],[tx "outs",figs m,figs (m+2)]]:=by
 have hw:¬ strI N=semi:=fin99 (M:=fun N=>¬ strI N=semi) (by decide +kernel) n1 n2;have hm:¬ figs m=semi:=m12 (M:=fun m=>¬ figs m=semi) (by decide +kernel) (by decide +kernel) m1 m2;have hm2:¬ figs (m+2)=semi:=m12 (M:=fun m=>¬ figs (m+2)=semi) (by decide +kernel) (by decide +kernel) m1 m2;have hmt:¬ figs m++tx ":1" = semi:=m12 (M:=fun m=>¬ figs m++tx ":1" = semi) (by decide +kernel) (by decide +kernel) m1 m2;have h1:¬ tx "ins" = semi:=by decide
 have h2:¬ tx "sum" = semi:=by decide
 have h3:¬ tx "bend" = semi:=by decide
 have h4:¬ tx "0" = semi:=by decide
 have h5:¬ tx "0:0" = semi:=by decide
 have h6:¬ tx "outs" = semi:=by decide
 unfold rowsC cutF rN rA rZ
 simp only [List.cons_append,List.nil_append,List.foldl_cons,List.foldl_nil,cutS,hw,hm,hm2,hmt,h1,h2,h3,h4,h5,h6,if_false,if_true]
theorem net_N {m:Nat} {N:Int} (m1:1<=m) (m2:m<=2) (n1 : -49<=N) (n2:N<=49):netW (rN m N)=some (m,usG m N,[m,m+2]):=by
 have ws:=words_N m1 m2 n1 n2;have rw5:=rows_N m1 m2 n1 n2;have rin:∀ row∈rowsC (rN m N),∀ p∈row,wordB p=true:=fun row hr p hp=>ws p (List.mem_cons_of_mem _ (((rows_cutF _).1 row hr).1 p hp))
 have sp:∀ row∈rowsC (rN m N),row≠[]->Txt.split (Str.join blank row) blank=row:=fun row hr n=>jZ n fun p hp=>(v9 (rin row hr p hp)).2.2.1
 have fr:∀ r∈(rowsC (rN m N)).map (Str.join blank),10∉r.cps.toList:=fun r hr=>by
  obtain ⟨row,h,rfl⟩:=List.mem_map.mp hr;exact join_free (by decide) fun p hp=>(v9 (rin row h p hp)).2.2.2
 unfold netW;rw [if_neg (fun ⟨p,hp,k⟩=>(v9 (ws p (List.mem_cons_of_mem _ hp))).2.2.2 k)];have st:Txt.split (textC (rN m N)) jz=(rowsC (rN m N)).map (Str.join blank):=jZ (by rw [rw5]; exact fun z=>by cases z) fr;rw [rw5] at st sp;have st:Txt.split (textC (rN m N)) jz=Str.join blank [tx "ins",figs m]::[Str.join blank [tx "sum",strI N],Str.join blank [tx "bend",figs m],Str.join blank [tx "sum",tx "0",figs m++tx ":1",tx "0:0"]]++[Str.join blank [tx "outs",figs m,figs (m+2)]]:=st;rw [netO_two st];have s1:=sp [tx "ins",figs m] (by simp) (by simp);have s2:=sp [tx "sum",strI N] (by simp) (by simp);have s3:=sp [tx "bend",figs m] (by simp) (by simp);have s4:=sp [tx "sum",tx "0",figs m++tx ":1",tx "0:0"] (by simp) (by simp);have s5:=sp [tx "outs",figs m,figs (m+2)] (by simp) (by simp);have p1:yZ insW [tx "ins",figs m]=some [m]:=by rw [placesO_C]; exact m12 (M:=fun m=>placesC insW [tx "ins",figs m]=some [m]) (by decide +kernel) (by decide +kernel) m1 m2
 have p5:yZ outW [tx "outs",figs m,figs (m+2)]=some [m,m+2]:=by rw [placesO_C]; exact m12 (M:=fun m=>placesC outW [tx "outs",figs m,figs (m+2)]=some [m,m+2]) (by decide +kernel) (by decide +kernel) m1 m2
 have rN':ratC (strI N)=some (N:Rat):=fin99 (M:=fun N=>ratC (strI N)=some (N:Rat)) (by decide +kernel) n1 n2;have u2:unitO [tx "sum",strI N]=some (.sum (N:Rat) []):=by
  rw [unitO_C];unfold unitC;dsimp only;rw [if_neg (fun z=>absurd z.1 (by decide)),if_pos rfl,rN'];rfl
 have fm:figC (figs m)=some m:=m12 (M:=fun m=>figC (figs m)=some m) (by decide +kernel) (by decide +kernel) m1 m2;have u3:unitO [tx "bend",figs m]=some (.bend m):=by
  rw [unitO_C];unfold unitC;dsimp only;rw [if_pos ⟨rfl,rfl⟩,fm];rfl
 have r0:ratC (tx "0")=some 0:=by decide +kernel
 have t4:allO termC [figs m++tx ":1",tx "0:0"]=some [(m,1),(0,0)]:=m12 (M:=fun m=>allO termC [figs m++tx ":1",tx "0:0"]=some [(m,1),(0,0)]) (by decide +kernel) (by decide +kernel) m1 m2;have u4:unitO [tx "sum",tx "0",figs m++tx ":1",tx "0:0"]=some (.sum 0 [(m,1),(0,0)]):=by
  rw [unitO_C];unfold unitC;dsimp only;rw [if_neg (fun z=>absurd z.1 (by decide)),if_pos rfl,r0,t4]
 rw [s1,s5,p1,p5];unfold allO;rw [s2,u2];unfold allO;rw [s3,u3];unfold allO;rw [s4,u4];rfl
theorem netT_ok {m:Nat} {N:Int} (m1:1<=m) (m2:m<=2) (n1 : -49<=N) (n2:N<=49):Asc (lineN m N)/\(lineN m N).length<=1000/\lineB (lineN m N)=true/\∃ r,Txt.split (lineN m N) blank=tx "net" :: r/\WsOk r/\netW r=some (m,usG m N,[m,m+2]):=by
 have ws:=words_N m1 m2 n1 n2;rw [line_join m1 m2];have sp:Txt.split (Str.join blank (tx "net" :: rN m N)) blank=tx "net" :: rN m N:=jZ (by simp) fun p hp=>(v9 (ws p hp)).2.2.1
 refine ⟨asc_join (by decide) fun p hp=>(v9 (ws p hp)).1,?_,?_,rN m N,sp,?_,net_N m1 m2 n1 n2⟩
 ·have k:=Ao (wq (c:=32) (tx "net" :: rN m N)) (wV (n:=18) (B:=20) (show 18<=18 by decide) fun p hp=>(v9 (ws p hp)).2.1)
  exact Ao k (by decide)
 ·unfold lineB
  rw [sp];show (match tolds wordsD (tx "net") with | some vs=>goodN vs 17 | none=>false)=true
  decide +kernel
 ·exact ⟨(show 17<=24 by decide),fun p hp=>⟨(v9 (ws p (List.mem_cons_of_mem _ hp))).1,Ao (v9 (ws p (List.mem_cons_of_mem _ hp))).2.1 (by decide),(v9 (ws p (List.mem_cons_of_mem _ hp))).2.2.1⟩⟩
def lineX (m:Nat):Str:=Str.join blank ([tx "box"]++rep m (tx "-1,2"))
def BoxT (m:Nat):Prop:=ascB (lineX m)=true/\(lineX m).length<=1000/\lineB (lineX m)=true/\Txt.split (lineX m) blank=tx "box" :: rep m (tx "-1,2")/\wsB (rep m (tx "-1,2"))=true/\allO sideC (rep m (tx "-1,2"))=some (List.replicate m (-1,2))
theorem boxT_ok {m:Nat} (m1:1<=m) (m2:m<=2):BoxT m:=m12 (M:=BoxT) (by unfold BoxT; decide +kernel) (by unfold BoxT; decide +kernel) m1 m2
theorem SqL.but {K:Ap} {H H':Hp} {d dx sa:Addr} {xs:List V} {a:Adr} {vn vb:V} (h:SqL K H sa xs) (hd:H d=some (DeskO a dx vn vb)) (b:But1 d H H'):SqL K H' sa xs:=by
 rcases h with (h | ⟨u,h⟩) | h
 ·exact .inl (.inl (b _ _ (fun z=>by rw [z,hd] at h; cases h) h))
 ·exact .inl (.inr ⟨u,b _ _ (fun z=>by rw [z,hd] at h; cases h) h⟩)
 ·exact .inr h
def spLaw (K:Ap):Sp:=fun vs H Q _=>∃ (a:Addr) (ns:List Int),vs=[.ref a]/\SqL K H a (ns.map V.int)/\ns.length<=63/\∀ H',Q (.bl true) H'
theorem okyf (T:Txt K mg a) (B:a.w=w):FnOk P w K mg base CX0 15 a.fyf a.dyf ["_law_script"] (spLaw K):=by
 refine T.Fyf.F.ok scyf ?_ ?_
 ·walk_at "c"
 walk_at "b"
 obtain ⟨sa,ns,rfl,hS,h63,q⟩:=h;refine ⟨_,PBx.to (x_body (ss:=[(bS syf 0),(bS syf 1),(bS syf 2),(bS syf 3),(bS syf 4),(bS syf 5),(bS syf 6),(bS syf 7),(bS syf 8),(bS syf 9),(bS syf 10),(bS syf 11)]) (by rfl)
  (zw (xs_s 1 scyf.nd (shutE (pe_d (okyl T) hr T.Fyl (pa_c (pe_d (okyj T) hr T.Fyj (pa_c (pv 0) (pa_c qx qj))) (pa_c qx qj)))))
  (zw (xs_s 2 scyf.nd (xe_op jK (shutE qx) (xe_op jk (shutE (pv 1)) (shutE qx))))
  (zw (xs_s 3 scyf.nd (xe_op op_sub (xe_op jk (xe_op yw (shutE (pv 1)) (shutE qx)) (shutE qx)) (shutE qx)))
  (zw (xs_s 4 scyf.nd (shutE (yq (j2) rfl T.m_str boot_str (pa_c (pv 2) qj))))
  (zw (xs_s 5 scyf.nd (xe_make0 T.Mz4 (okz7 T) (hr.mono (by decide)) rfl T.mz4 T.bz7 .nil pass0))
  (zw (xs_if (xt_not (xt_val (shutE (pe_d (xW T B) hr T.Fyp (pa_c (pv 5) (pa_c (pv 0) (pa_c (pv 2) (pa_c qx (pa_c qx qj))))))))) (yJ (yX (shutE pe_bl))) j8)
  (zw (xs_s 6 scyf.nd (xe_op qV (xe_op qV (xe_op qV (shutE qw) (shutE (pv 4))) (shutE qw)) (shutE (yq (j2) rfl T.m_str boot_str (pa_c (pv 3) qj)))))
  (zw (xs_s 6 scyf.nd (xe_op qV (xe_op qV (xe_op qV (xe_op qV (xe_op qV (shutE (pv 6)) (shutE qw)) (shutE (pv 4))) (shutE qw)) (shutE (pv 4))) (shutE qw)))
  (zw (xs_expr (shutE (x6 (pv 5) T.Cz4 T.tza (xz T B) (hr.mono (by decide)) T.bza .nil passN (pa_c (pe_op qV (pe_op qV (pe_op qV (pe_op qV (pv 6) qw) (pv 4)) qw) (yq (j2) rfl T.m_str boot_str (pa_c (pe_op jK (pv 2) qx) qj))) qj) (hst:=qz rfl _ _) (hpl:=qQ rfl))))
  (zw (xs_if (xt_not (xt_val (shutE (pe_d (xW T B) hr T.Fyp (pa_c (pv 5) (pa_c (pv 0) (pa_c (pv 2) (pa_c (pv 3) (pa_c qx qj))))))))) (yJ (yX (shutE pe_bl))) j8)
  (zw (xs_expr (shutE (x6 (pv 5) T.Cz4 T.tza (xz T B) (hr.mono (by decide)) T.bza .nil passN (pa_c (pe_bm PySem.F.plainAttrs_str PySem.F.slot_str_join PySem.F.type_str_join mt_join qw (pa_c (pe_op ww (yK (pa_c qw qj)) (pe_op kY (yK (pa_c qw qj)) (pv 2))) qj)) qj) (hst:=qz rfl _ _) (hpl:=qQ rfl))))
  (yJ (yX (shutE (pe_d (xW T B) hr T.Fyp (pa_c (pv 5) (pa_c (pv 0) (pa_c (pv 2) (pa_c (pv 3) (pa_c qx qj))))))))))))))))))))),?_⟩
 refine ⟨_,rfl,sa,ns,0,rfl,hS,fun c=>⟨_,_,rfl,fun f f0 f1=>?_⟩⟩;have h2:=Int.emod_nonneg f (show (2:Int)≠0 by decide);have h3:=Int.emod_lt_of_pos f (show (0:Int)<2 by decide);obtain ⟨m,em⟩:∃ m:Nat,1+f%2=(m:Int):=⟨(1+f%2).toNat,by omega⟩;have m1:1<=m:=by omega
 have m2:m<=2:=by omega
 have h4:=Int.emod_nonneg (f.fdiv 2) (show (99:Int)≠0 by decide);have h5:=Int.emod_lt_of_pos (f.fdiv 2) (show (0:Int)<99 by decide);obtain ⟨N,eN⟩:∃ N:Int,f.fdiv 2%99 - 49=N:=⟨_,rfl⟩;have n1 : -49<=N:=by omega
 have n2:N<=49:=by omega
 refine ⟨_,rfl,_,_,rfl,rfl,(show (0:Int)<2 by decide),_,_,rfl,rfl,?_⟩;refine ⟨_,rfl,_,_,rfl,rfl,⟨by decide,by decide⟩,_,_,rfl,rfl,(show (0:Int)<99 by decide),_,_,rfl,rfl,?_⟩;dsimp only;rw [em,eN];clear h2 h3 h4 h5 em eN;have lf:(figs m).length<=20:=kx (by omega);have lf2:(figs (m+2)).length<=20:=kx (by omega);have lN:=strI_len n1 n2;refine ⟨_,rfl,_,rfl,Q4 (n:=m) (by omega),?_⟩;intro d dx hx hdx ne;have ga:=qy hdx (.own d);have hx':upd H dx (.own d) d=none:=by rw [zk (Ne.symm ne)]; exact hx
 have gb:=qy hx' (.ins a.cz4 dx []);have hS:=(ga.trans gb).seq hS;have e0:=qk (H:=upd H dx (.own d)) (a:=d) (o:=.ins a.cz4 dx []);refine ⟨d,dx,rfl,e0,rfl,?_⟩;have hS:=SqL.upd_ins (o:=.ins a.cz4 dx [("net",.non)]) hS e0;have e1:=qk (H:=upd (upd H dx (.own d)) d (.ins a.cz4 dx [])) (a:=d) (o:=.ins a.cz4 dx [("net",.non)]);have hS:=SqL.upd_ins (o:=DeskO a dx .non .non) hS e1;have e2:=qk (H:=upd (upd (upd H dx (.own d)) d (.ins a.cz4 dx [])) d (.ins a.cz4 dx [("net",.non)])) (a:=d) (o:=DeskO a dx .non .non);generalize upd (upd (upd (upd H dx (.own d)) d (.ins a.cz4 dx [])) d (.ins a.cz4 dx [("net",.non)])) d (DeskO a dx .non .non)=H0 at *;clear e0 e1 ga gb hx hdx ne hx';refine ⟨_,rfl,_,rfl,_,rfl,d,sa,ns,m,0,0,rfl,hS,by decide,⟨dx,e2⟩,m1,m2,by decide,by decide,fun H1 g1=>⟨_,rfl,iteF ?_⟩⟩;have hS:=g1.seq hS;have e2:=g1 _ _ e2;have L1:=appL 20 20 (x:=tx "net ins ") (by decide) lf;have L2:=appL 40 20 (y:=tx " ; sum ") L1 (by decide);have L3:=appL 60 20 L2 lN;refine ⟨_,rfl,_,_,rfl,rfl,adds 20 20 (by decide) lf,_,_,rfl,rfl,adds 40 20 L1 (by decide),_,rfl,_,rfl,log_int n1 n2,_,_,rfl,rfl,adds 60 20 L2 lN,?_⟩;have L4:=appL 80 20 (y:=tx " ; bend ") L3 (by decide);have L5:=appL 100 20 L4 lf;have L6:=appL 120 20 (y:=tx " ; sum 0 ") L5 (by decide);have L7:=appL 140 20 L6 lf;have L8:=appL 160 20 (y:=tx ":1 0:0") L7 (by decide);refine ⟨_,rfl,_,_,rfl,rfl,adds 80 20 L3 (by decide),_,rfl,_,_,rfl,rfl,adds 100 20 L4 lf,_,_,rfl,rfl,adds 120 20 L5 (by decide),_,rfl,_,_,rfl,rfl,adds 140 20 L6 lf,_,_,rfl,rfl,adds 160 20 L7 (by decide),?_⟩
 have L9:=appL 180 20 (y:=tx " ; outs ") L8 (by decide);have LA:=appL 200 20 L9 lf;have LB:=appL 220 20 (y:=tx " ") LA (by decide);refine ⟨_,rfl,d,dx,_,rfl,e2,rfl,_,rfl,_,_,rfl,rfl,adds 180 20 L8 (by decide),_,rfl,_,_,rfl,rfl,adds 200 20 L9 lf,_,_,rfl,rfl,adds 220 20 LA (by decide),_,rfl,_,_,rfl,rfl,((m+2:Nat):Int),congrArg (fun z:Int=>[V.int z]) (by omega),Q4 (by omega),_,_,rfl,rfl,adds 240 20 LB lf2,?_⟩;clear L1 L2 L3 L4 L5 L6 L7 L8 L9 LA LB lf lf2 lN;obtain ⟨t1,t2,t3,r,t4,t5,t6⟩:=netT_ok m1 m2 n1 n2;refine ⟨d,_,none,rfl,⟨dx,e2⟩,.inr ⟨lineN m N,rfl,t1,t2,.inr ⟨t3,_,r,t4,.inl ⟨rfl,t5,fun m' us outs e ok H2 bt hD=>?_,fun m' us outs e no=>?_,fun e=>?_⟩⟩⟩⟩
 case refine_2 =>
  rw [t6] at e
  cases e
  exact absurd (net_G m1 m2 N) no
 case refine_3 =>
  rw [t6] at e
  cases e
 rw [t6] at e
 cases e
 have hS:=SqL.but hS e2 bt;clear t1 t2 t3 t4 t5 t6 e2 bt ok;refine ⟨_,rfl,_,rfl,_,rfl,_,rfl,d,sa,ns,m,1,N,rfl,hS,by decide,hD,m1,m2,n1,n2,fun H3 g3=>⟨_,rfl,iteF ?_⟩⟩;have hS:=g3.seq hS;have hD:=hD.mono g3;obtain ⟨dx2,p2,vb2,hd,_,_⟩:=id hD;refine ⟨_,rfl,d,dx2,_,rfl,hd,rfl,rfl,j7,fun l1 k1=>⟨j7,fun l2 k2=>⟨_,rfl,vj (n:=m) k2 rfl (by omega) fun p4 H4 g4 e4=>cat_str (xs:=[tx "box"]) (g4 _ _ qk) e4 (by rw [yk]; show 1+_<=_; omega) fun p5 H5 g5 e5=>?_⟩⟩⟩;have ll:([tx "box"]++rep m (tx "-1,2")).length<=4:=by rw [Ad,yk]; show 1+_<=_; omega
 have la:∀ y∈[tx "box"]++rep m (tx "-1,2"),y.length<=100:=Z1 (Z0 (by decide)) (jY (by decide));have g5:=(qy k1 _).trans (g4.trans g5);have hS:=g5.seq hS;have hD:=hD.mono g5;have hd:=g5 _ _ hd;obtain ⟨t1,t2,t3,t4,t5,t6⟩:=boxT_ok m1 m2;refine ⟨_,_,_,congrArg V.str jW,rfl,SqL.of e5,(by decide),jn ll la,?_⟩;refine ⟨d,_,_,rfl,hD,.inr ⟨lineX m,rfl,ascB_ok t1,t2,.inr ⟨t3,_,_,t4,.inr (.inr (.inr ⟨by decide,(wsB_ok t5).wds,m,usG m N,[m,m+2],false,rfl,.inr (by decide),(show 3<=80 by decide),m1,by omega,.inl ⟨rfl,fun ss e l le H6 bt hD6=>?_,fun ss e l nle=>?_,fun k=>?_⟩⟩))⟩⟩⟩
 case refine_2 =>
  rw [sideO_C,t6] at e
  cases e
  exact absurd (fun s hs=>by rw [(List.mem_replicate.mp hs).2]; decide) nle
 case refine_3=>exact absurd A8 (k _ (by rw [sideO_C]; exact t6))
 have hS:=SqL.but hS hd bt;exact ⟨_,rfl,_,rfl,_,rfl,_,rfl,d,sa,ns,m,2,N,rfl,hS,by decide,hD6,m1,m2,n1,n2,fun H7 _=>q H7⟩
end
theorem PF.mk {st:Stmt} (p:PF K x st) (X:K.In h) (G:h.Ns mainGlobals mg):∃ f fd,Fun K x x st f fd/\mg x=some (.ref f):=by
 obtain ⟨f,a,_,_,_,_,_,_,_,_,_,_,l,c,k⟩:=p;exact ⟨f,_,fun_mk l c k,PySem.W.mg_of X G a⟩
theorem PM.mk {st:Stmt} (p:PM K C m q st):∃ f fd,Fun K m q st f fd/\PySem.W.findIn K (.ref C) m=some (some (.ref f))/\PySem.W.isFn K (.ref f)=true/\PySem.W.keepIn K (.ref f)=true:=by
 obtain ⟨f,a,i,_,_,_,_,_,_,_,_,_,l,c,k⟩:=p;exact ⟨f,_,fun_mk l c k,a,i,k⟩
theorem yV {α β:Type} {p:β} {ps:List β}:∀ {us:List α},us.length=(p::ps).length->∃ a t,us=a::t/\t.length=ps.length
 | a::t,h=>⟨a,t,rfl,Nat.succ.inj h⟩
theorem fb1 {st:Stmt} (F:Fun K x q st f fd) (h:∀ (kV doc pm:Value) (an:Option Addr) (cdv ct u0:Value),bindArgs (PySem.W.fnOf x q (v3 st) (zQ st) (qZ st) .none kV doc pm an cdv ct) ⟨[u0],[]⟩=pure [(p0,u0)]:=by intros; rfl):Binds K fd [p0] []:=F.binds fun a b c d e f us hl=>by
 obtain ⟨u0,us,rfl,l0⟩:=yV hl; cases List.eq_nil_of_length_eq_zero l0; exact h a b c d e f u0
theorem fb2 {st:Stmt} (F:Fun K x q st f fd) (h:∀ (kV doc pm:Value) (an:Option Addr) (cdv ct u0 u1:Value),bindArgs (PySem.W.fnOf x q (v3 st) (zQ st) (qZ st) .none kV doc pm an cdv ct) ⟨[u0,u1],[]⟩=pure [(p0,u0),(p1,u1)]:=by intros; rfl):Binds K fd [p0,p1] []:=F.binds fun a b c d e f us hl=>by
 obtain ⟨u0,us,rfl,l0⟩:=yV hl; obtain ⟨u1,us,rfl,l1⟩:=yV l0; cases List.eq_nil_of_length_eq_zero l1; exact h a b c d e f u0 u1
theorem fb3 {st:Stmt} (F:Fun K x q st f fd) (h:∀ (kV doc pm:Value) (an:Option Addr) (cdv ct u0 u1 u2:Value),bindArgs (PySem.W.fnOf x q (v3 st) (zQ st) (qZ st) .none kV doc pm an cdv ct) ⟨[u0,u1,u2],[]⟩=pure [(p0,u0),(p1,u1),(p2,u2)]:=by intros; rfl):Binds K fd [p0,p1,p2] []:=F.binds fun a b c d e f us hl=>by
 obtain ⟨u0,us,rfl,l0⟩:=yV hl; obtain ⟨u1,us,rfl,l1⟩:=yV l0; obtain ⟨u2,us,rfl,l2⟩:=yV l1; cases List.eq_nil_of_length_eq_zero l2; exact h a b c d e f u0 u1 u2
theorem fb4 {st:Stmt} (F:Fun K x q st f fd) (h:∀ (kV doc pm:Value) (an:Option Addr) (cdv ct u0 u1 u2 u3:Value),bindArgs (PySem.W.fnOf x q (v3 st) (zQ st) (qZ st) .none kV doc pm an cdv ct) ⟨[u0,u1,u2,u3],[]⟩=pure [(p0,u0),(p1,u1),(p2,u2),(p3,u3)]:=by intros; rfl):Binds K fd [p0,p1,p2,p3] []:=F.binds fun a b c d e f us hl=>by
 obtain ⟨u0,us,rfl,l0⟩:=yV hl; obtain ⟨u1,us,rfl,l1⟩:=yV l0; obtain ⟨u2,us,rfl,l2⟩:=yV l1; obtain ⟨u3,us,rfl,l3⟩:=yV l2; cases List.eq_nil_of_length_eq_zero l3; exact h a b c d e f u0 u1 u2 u3
theorem fb5 {st:Stmt} (F:Fun K x q st f fd) (h:∀ (kV doc pm:Value) (an:Option Addr) (cdv ct u0 u1 u2 u3 u4:Value),bindArgs (PySem.W.fnOf x q (v3 st) (zQ st) (qZ st) .none kV doc pm an cdv ct) ⟨[u0,u1,u2,u3,u4],[]⟩=pure [(p0,u0),(p1,u1),(p2,u2),(p3,u3),(p4,u4)]:=by intros; rfl):Binds K fd [p0,p1,p2,p3,p4] []:=F.binds fun a b c d e f us hl=>by
 obtain ⟨u0,us,rfl,l0⟩:=yV hl; obtain ⟨u1,us,rfl,l1⟩:=yV l0; obtain ⟨u2,us,rfl,l2⟩:=yV l1; obtain ⟨u3,us,rfl,l3⟩:=yV l2; obtain ⟨u4,us,rfl,l4⟩:=yV l3; cases List.eq_nil_of_length_eq_zero l4; exact h a b c d e f u0 u1 u2 u3 u4
theorem all_mk {l:PySem.W.OpenLaw} {w:World} {K:Ap} {h:Heap} {mg:Str->Option Value} {fa:Addr} (X:K.In h) (G:h.Ns mainGlobals mg) (hfa:mg "law" = some (.ref fa)) (pins:Pins K w) :
  ∃ fd:FuncData,(∀ (s:Shared) (v:Value),BindsTo s fd ⟨[v],[]⟩ [("_law_script",v)])/\∀ base:Heap,K.In base->base.Ns mainGlobals mg->FnOk l.prog w K mg base CX0 15 fa fd ["_law_script"] (spLaw K):=by
 refine pins _ ?_;intro CC_Box CC_Net CC_Desk C0 C1 C2 C3 C4 C5 C6 gg_WORDS tk_MOST_SIDES tk_MOST_FIGURES tk_FIGURES gg_NOUGHT go_NOUGHT gn_NOUGHT gs_NOUGHT gt0_NOUGHT gt1_NOUGHT tk_MOST_BENDS tk_MOST_UNITS tk_MOST_OUTS tk_MOST_INS gg_IN_A_BOX go_IN_A_BOX gn_IN_A_BOX gs_IN_A_BOX gt0_IN_A_BOX gt1_IN_A_BOX gt2_IN_A_BOX gt3_IN_A_BOX gBox gNet gDesk z0 z1 z2 z3 z4 z5 z6 z7 z8 z9 z10 z11 z12 z13 mC0 mC1 mC2 mC3 mC4 mC5 mC6 x0 x1 x2 y1 y2 y3 y4 y5 y6 y7 w0 wC1 wC2 wC3 wC4 wC5 wC6 x1r1 x2r1 y1r1 y2r1 y3r1 y4r1 y5r1 y6r1 y7r1 w0r1 wC1r1 wC2r1 wC3r1 wC4r1 wC5r1 wC6r1 x1r2 x2r2 y1r2 y2r2 y3r2 y4r2 y5r2 y6r2 y7r2 w0r2 wC1r2 wC2r2 wC3r2 wC4r2 wC5r2 wC6r2 x1r3 x2r3 y1r3 y2r3 y3r3 y4r3 y5r3 y6r3 y7r3 w0r3 wC1r3 wC2r3 wC3r3 wC4r3 wC5r3 wC6r3 pgBox hdBox poBox saBox mkBox kcBox naBox_sides pgNet hdNet poNet saNet mkNet kcNet naNet_many naNet_units naNet_outs pgDesk hdDesk poDesk saDesk mkDesk kcDesk naDesk_net naDesk_box qWORDS vlWORDS vhWORDS qMOST_SIDES qMOST_FIGURES qFIGURES qNOUGHT qlNOUGHT qMOST_BENDS qMOST_UNITS qMOST_OUTS qMOST_INS qIN_A_BOX qlIN_A_BOX h0 h1 h2 h3 h4 h5 h6 h7 h8 h9 h10 h11 h12 h13 h14 h15 h16 h17 h18 h19 h20 h21 h22 h23 h24 h25 h26 h27 h28 h29 h30 h31 h32 h33 h34 h35 h36 h37 h38 h39 h40 h41 h42 h43 h44 h45 h46 h47 h48 h49 h50 h51 h52 h53 h54 h55 h56 h57 h58;obtain ⟨_,_,F0,m0⟩:=h0.mk X G;obtain ⟨_,_,F1,a1,i1,k1⟩:=h1.mk;obtain ⟨_,_,F2,m2⟩:=h2.mk X G;obtain ⟨_,_,F3,m3⟩:=h3.mk X G;obtain ⟨_,_,F4,m4⟩:=h4.mk X G;obtain ⟨_,_,F5,m5⟩:=h5.mk X G;obtain ⟨_,_,F6,m6⟩:=h6.mk X G;obtain ⟨_,_,F7,m7⟩:=h7.mk X G
 obtain ⟨_,_,F8,m8⟩:=h8.mk X G;obtain ⟨_,_,F9,a9,i9,k9⟩:=h9.mk;obtain ⟨_,_,F10,m10⟩:=h10.mk X G;obtain ⟨_,_,F11,m11⟩:=h11.mk X G;obtain ⟨_,_,F12,m12⟩:=h12.mk X G;obtain ⟨_,_,F13,m13⟩:=h13.mk X G;obtain ⟨_,_,F14,m14⟩:=h14.mk X G;obtain ⟨_,_,F15,m15⟩:=h15.mk X G;obtain ⟨_,_,F16,m16⟩:=h16.mk X G;obtain ⟨_,_,F17,m17⟩:=h17.mk X G;obtain ⟨_,_,F18,m18⟩:=h18.mk X G;obtain ⟨_,_,F19,a19,i19,k19⟩:=h19.mk;obtain ⟨_,_,F20,m20⟩:=h20.mk X G;obtain ⟨_,_,F21,m21⟩:=h21.mk X G;obtain ⟨_,_,F22,m22⟩:=h22.mk X G;obtain ⟨_,_,F23,m23⟩:=h23.mk X G;obtain ⟨_,_,F24,m24⟩:=h24.mk X G;obtain ⟨_,_,F25,m25⟩:=h25.mk X G;obtain ⟨_,_,F26,m26⟩:=h26.mk X G;obtain ⟨_,_,F27,a27,i27,k27⟩:=h27.mk;obtain ⟨_,_,F28,a28,i28,k28⟩:=h28.mk;obtain ⟨_,_,F29,m29⟩:=h29.mk X G;obtain ⟨_,_,F30,a30,i30,k30⟩:=h30.mk;obtain ⟨_,_,F31,m31⟩:=h31.mk X G;obtain ⟨_,_,F32,m32⟩:=h32.mk X G;obtain ⟨_,_,F33,m33⟩:=h33.mk X G;obtain ⟨_,_,F34,m34⟩:=h34.mk X G;obtain ⟨_,_,F35,a35,i35,k35⟩:=h35.mk;obtain ⟨_,_,F36,a36,i36,k36⟩:=h36.mk;obtain ⟨_,_,F37,m37⟩:=h37.mk X G;obtain ⟨_,_,F38,m38⟩:=h38.mk X G;obtain ⟨_,_,F39,m39⟩:=h39.mk X G;obtain ⟨_,_,F40,m40⟩:=h40.mk X G;obtain ⟨_,_,F41,m41⟩:=h41.mk X G;obtain ⟨_,_,F42,m42⟩:=h42.mk X G;obtain ⟨_,_,F43,m43⟩:=h43.mk X G;obtain ⟨_,_,F44,a44,i44,k44⟩:=h44.mk;obtain ⟨_,_,F45,m45⟩:=h45.mk X G;obtain ⟨_,_,F46,m46⟩:=h46.mk X G;obtain ⟨_,_,F47,m47⟩:=h47.mk X G;obtain ⟨_,_,F48,a48,i48,k48⟩:=h48.mk;obtain ⟨_,_,F49,m49⟩:=h49.mk X G;obtain ⟨_,_,F50,m50⟩:=h50.mk X G;obtain ⟨_,_,F51,m51⟩:=h51.mk X G;obtain ⟨_,_,F52,m52⟩:=h52.mk X G
 obtain ⟨_,_,F53,m53⟩:=h53.mk X G;obtain ⟨_,_,F54,m54⟩:=h54.mk X G;obtain ⟨_,_,F55,m55⟩:=h55.mk X G;obtain ⟨_,_,F56,m56⟩:=h56.mk X G;obtain ⟨_,_,F57,m57⟩:=h57.mk X G;obtain ⟨_,_,F58,m58⟩:=h58.mk X G;have e:=hfa.symm.trans m58
 cases e
 have T:Txt K mg ⟨_,_,_,_,_,_,_,_,_,_,_,_,_,_,_,_,_,_,_,_,_,_,_,_,_,_,_,_,_,_,_,_,_,_,_,_,_,_,_,_,_,_,_,_,_,_,_,_,_,_,_,_,_,_,_,_,_,_,_,_,_,_,_,_,_,_,_,_,_,_,_,_,_,_,_,_,_,_,_,_,_,_,_,_,_,_,_,_,_,_,_,_,_,_,_,_,_,_,_,_,_,_,_,_,_,_,_,_,_,_,_,_,_,_,_,_,_,_,C0,C1,C2,C3,C4,C5,C6,CC_Box,CC_Net,CC_Desk,gg_WORDS,tk_MOST_SIDES,tk_MOST_FIGURES,tk_FIGURES,gg_NOUGHT,tk_MOST_BENDS,tk_MOST_UNITS,tk_MOST_OUTS,tk_MOST_INS,gg_IN_A_BOX,w⟩:=⟨⟨F0,m0,fb2 F0⟩,F1,⟨mkDesk,a1,i1,kcDesk⟩,fb1 F1,⟨F2,m2,fb1 F2⟩,⟨F3,m3,fb2 F3⟩,⟨F4,m4,fb1 F4⟩,⟨F5,m5,fb2 F5⟩,⟨F6,m6,fb1 F6⟩,⟨F7,m7,fb1 F7⟩,⟨F8,m8,fb1 F8⟩,F9,⟨mkBox,a9,i9,kcBox⟩,fb2 F9,⟨F10,m10,fb1 F10⟩,⟨F11,m11,fb1 F11⟩,⟨F12,m12,fb2 F12⟩,⟨F13,m13,fb1 F13⟩,⟨F14,m14,fb1 F14⟩,⟨F15,m15,fb1 F15⟩,⟨F16,m16,fb1 F16⟩,⟨F17,m17,fb1 F17⟩,⟨F18,m18,fb1 F18⟩,F19,⟨a19,i19,k19⟩,fb1 F19,⟨F20,m20,fb2 F20⟩,⟨F21,m21,fb1 F21⟩,⟨F22,m22,fb2 F22⟩,⟨F23,m23,fb2 F23⟩,⟨F24,m24,fb3 F24⟩,⟨F25,m25,fb1 F25⟩,⟨F26,m26,fb2 F26⟩,F27,⟨a27,i27,k27⟩,fb2 F27,F28,⟨a28,i28,k28⟩,fb2 F28,⟨F29,m29,fb2 F29⟩,F30,⟨a30,i30,k30⟩,fb3 F30,⟨F31,m31,fb1 F31⟩,⟨F32,m32,fb1 F32⟩,⟨F33,m33,fb2 F33⟩,⟨F34,m34,fb3 F34⟩,F35,⟨a35,i35,k35⟩,fb3 F35,F36,⟨a36,i36,k36⟩,fb2 F36,⟨F37,m37,fb2 F37⟩,⟨F38,m38,fb2 F38⟩,⟨F39,m39,fb2 F39⟩,⟨F40,m40,fb3 F40⟩,⟨F41,m41,fb2 F41⟩,⟨F42,m42,fb2 F42⟩,⟨F43,m43,fb2 F43⟩,F44,⟨mkNet,a44,i44,kcNet⟩,fb4 F44,⟨F45,m45,fb1 F45⟩,⟨F46,m46,fb1 F46⟩,⟨F47,m47,fb1 F47⟩,F48,⟨a48,i48,k48⟩,fb2 F48,⟨F49,m49,fb1 F49⟩,⟨F50,m50,fb3 F50⟩,⟨F51,m51,fb4 F51⟩,⟨F52,m52,fb1 F52⟩,⟨F53,m53,fb2 F53⟩,⟨F54,m54,fb4 F54⟩,⟨F55,m55,fb2 F55⟩,⟨F56,m56,fb1 F56⟩,⟨F57,m57,fb5 F57⟩,⟨F58,m58,fb1 F58⟩,PySem.W.mg_none_of X G z0,PySem.W.mg_none_of X G z1,PySem.W.mg_none_of X G z2,PySem.W.mg_none_of X G z3,PySem.W.mg_none_of X G z4,PySem.W.mg_none_of X G z5,PySem.W.mg_none_of X G z6,PySem.W.mg_none_of X G z7,PySem.W.mg_none_of X G z8,PySem.W.mg_none_of X G z9,PySem.W.mg_none_of X G z10,PySem.W.mg_none_of X G z11,PySem.W.mg_none_of X G z12,PySem.W.mg_none_of X G z13,PySem.W.mg_of X G mC0,PySem.W.mg_of X G mC1,PySem.W.mg_of X G mC2,PySem.W.mg_of X G mC3,PySem.W.mg_of X G mC4,PySem.W.mg_of X G mC5,PySem.W.mg_of X G mC6,x0,x1,x2,⟨QW x1,y1,y2,y3,y4,y5,y6,y7⟩,w0,wC1,wC2,wC3,wC4,wC5,wC6,x1r1,x2r1,⟨QW x1r1,y1r1,y2r1,y3r1,y4r1,y5r1,y6r1,y7r1⟩,w0r1,wC1r1,wC2r1,wC3r1,wC4r1,wC5r1,wC6r1,x1r2,x2r2,⟨QW x1r2,y1r2,y2r2,y3r2,y4r2,y5r2,y6r2,y7r2⟩,w0r2,wC1r2,wC2r2,wC3r2,wC4r2,wC5r2,wC6r2,x1r3,x2r3,⟨QW x1r3,y1r3,y2r3,y3r3,y4r3,y5r3,y6r3,y7r3⟩,w0r3,wC1r3,wC2r3,wC3r3,wC4r3,wC5r3,wC6r3,⟨pgBox,hdBox,poBox,saBox⟩,PySem.W.mg_of X G gBox,naBox_sides,⟨pgNet,hdNet,poNet,saNet⟩,PySem.W.mg_of X G gNet,naNet_many,naNet_units,naNet_outs,⟨pgDesk,hdDesk,poDesk,saDesk⟩,PySem.W.mg_of X G gDesk,naDesk_net,naDesk_box,PySem.W.mg_of X G qWORDS,words_of (L:=tupQ K) (fun ds v h l=>tup_rel (K:=K) h l) vlWORDS vhWORDS (by decide) (by decide),PySem.W.mg_of X G qMOST_SIDES,PySem.W.mg_of X G qMOST_FIGURES,PySem.W.mg_of X G qFIGURES,PySem.W.mg_of X G qNOUGHT,fun _=>.inr ⟨_,_,_,qlNOUGHT,rfl,rfl,(by show 2<=sizeLine; decide),(.cons ⟨_,rfl⟩ (.cons ⟨_,rfl⟩ .nil))⟩,PySem.W.mg_of X G qMOST_BENDS,PySem.W.mg_of X G qMOST_UNITS,PySem.W.mg_of X G qMOST_OUTS,PySem.W.mg_of X G qMOST_INS,PySem.W.mg_of X G qIN_A_BOX,fun _=>.inr ⟨_,_,_,qlIN_A_BOX,rfl,rfl,(by show 4<=sizeLine; decide),(.cons ⟨_,rfl⟩ (.cons ⟨_,rfl⟩ (.cons ⟨_,rfl⟩ (.cons ⟨_,rfl⟩ .nil))))⟩⟩
 obtain ⟨_,_,_,_,_,_,_,_,_,rfl,_,_⟩:=F58.ex;exact ⟨_,fun s v=>.of_eq rfl,fun base _ _=>okyf T rfl⟩
theorem walk {l:PySem.W.OpenLaw} {q:Program} {loose:List Str} {XP:(Str->Option Value)->Heap->Prop} {YP:World->Heap->Prop} {d:DefRec} {K:Params->Ap} (hn:l.most=some 63) (hdf:d.params.defaults=[])
  (hY:∀ (w:World) (h:Heap),YP w h->(K w.params).In h)
  (F:∀ (w:World) (mg:Str->Option Value) (fa:Addr) (h:Heap),(K w.params).In h->h.Ns mainGlobals mg->mg d.name=some (.ref fa)->∃ fd:FuncData,(∀ (s:Shared) (u:Value),BindsTo s fd ⟨[u],[]⟩ [("_law_script",u)])/\∀ base:Heap,(K w.params).In base->base.Ns mainGlobals mg->FnOk l.prog w (K w.params) mg base CX0 15 fa fd ["_law_script"] (spLaw (K w.params))) :
  PySem.W.WalkO q loose XP YP l.row.toRowW d [] (fun f vs=>PySem.call f vs) :=
 L2.walk_of (n:=63) (k:=15) (x := "_law_script") (CX:=fun _=>CX0) (sp:=fun w=>spLaw (K w.params)) hn (by decide) hdf ⟨rfl,by decide,by decide⟩ hY F (fun _ _ a ns hl _ hS=>⟨a,ns,rfl,hS,hl,fun _=>rfl⟩) fun _ _ _ _ _ z=>z
end BP
open PySem PySem.W PyProof.Rows
set_option maxRecDepth 100000 in
theorem PySem.Challenge.cw_bendproof_k74_desk_refuses_holds : PySem.Challenge.rw_bendproof_k74_desk_refuses.Holds := by
 refine BP.early fun hd hn hY hP=>BP.walk (l:=PySem.Challenge.rw_bendproof_k74_desk_refuses) rfl hd hY fun w mg fa h KX G hmg=>?_
 rw [hn] at hmg;exact BP.all_mk KX G hmg (hP w)
