import PyProof.Rows.All
import Wide.All
import OpenK.AllK
import Wide.FinOn
import Lean
import PyProof.EqAt
import PyProof.EqKinds
import PyProof.TupleCall
import PySem.Challenge.RW_bendproof_k62_smaller_is_normal
set_option Elab.async false
set_option linter.all false
set_option maxRecDepth 100000
set_option maxHeartbeats 0
section
universe ua ub uc ud ue uf ug uh ui uj
variable {A:Sort ua} {B:Sort ub} {C:Sort uc} {D:Sort ud} {E:Sort ue} {F:Sort uf} {G:Sort ug} {H:Sort uh} {I:Sort ui} {J:Sort uj}
inductive Ex2 (p:A→B→Prop):Prop | i a b (h:p a b):Ex2 p
inductive Ex3 (p:A→B→C→Prop):Prop | i a b c (h:p a b c):Ex3 p
inductive Ex4 (p:A→B→C→D→Prop):Prop | i a b c d (h:p a b c d):Ex4 p
inductive Ex5 (p:A→B→C→D→E→Prop):Prop | i a b c d e (h:p a b c d e):Ex5 p
inductive Ex6 (p:A→B→C→D→E→F→Prop):Prop | i a b c d e f (h:p a b c d e f):Ex6 p
inductive Ex7 (p:A→B→C→D→E→F→G→Prop):Prop | i a b c d e f g (h:p a b c d e f g):Ex7 p
inductive Ex8 (p:A→B→C→D→E→F→G→H→Prop):Prop | i a b c d e f g h (h:p a b c d e f g h):Ex8 p
inductive Ex9 (p:A→B→C→D→E→F→G→H→I→Prop):Prop | i a b c d e f g h i (h:p a b c d e f g h i):Ex9 p
inductive Ex10 (p:A→B→C→D→E→F→G→H→I→J→Prop):Prop | i a b c d e f g h i j (h:p a b c d e f g h i j):Ex10 p
end
open Lean in
local macro_rules | `(∃ $xs:explicitBinders, $b) => do
  let c := xs.raw[0]
  let v : Array (Syntax × Syntax) := if c.isOfKind ``Lean.unbracketedExplicitBinders then c[0].getArgs.map fun i => (i[0], if c[1].getNumArgs == 0 then mkNode ``Lean.Parser.Term.hole #[mkAtom "_"] else c[1][1]) else c.getArgs.flatMap fun g => g[1].getArgs.map fun i => (i[0], g[3])
  if v.size < 2 || v.size > 10 then Macro.throwUnsupported
  let f ← v.foldrM (fun (i, t) r => `(fun ($(⟨i⟩) : $(⟨t⟩)) => $r)) b
  `($(mkIdent (.mkSimple s!"Ex{v.size}")) $f)
local macro_rules | `(tactic| walk_at "a") => `(tactic| exact ⟨rfl, rfl, rfl, by decide +kernel, rfl, by decide +kernel, by decide +kernel⟩)
set_option hygiene false in
local macro_rules | `(tactic| walk_at "b") => `(tactic| intro cdv A outer s H vs Q E hr h)
local macro_rules | `(tactic| walk_at "c") => `(tactic| (intro vs H Q E h; cases h; rename_i h; cases h; subst_vars; rfl))
local macro_rules | `(tactic| omega) => `(tactic| first | lia | omega (splitDisjunctions := true))
namespace L2
open PySem
def xk (s:Stmt) (j:Nat):Stmt:=match s with
 | .ClassDef _ _ _ body _ _ _ _ _ _ _=>body.getD j (.Pass ⟨0,0,0,0⟩)
 | _=>.Pass ⟨0,0,0,0⟩
def x5 (s:Stmt):Arguments:=match s with
 | .FunctionDef _ a _ _ _ _ _ _ _ _=>a
 | _=>{ posonlyargs:=[],args:=[],vararg:=none,kwonlyargs:=[],kw_defaults:=[],kwarg:=none,defaults:=[] }
def zY (s:Stmt):List Stmt:=match s with
 | .FunctionDef _ _ b _ _ _ _ _ _ _=>b
 | _=>[]
def qY (s:Stmt):Scope:=match s with
 | .FunctionDef _ _ _ _ _ _ sc _ _ _=>sc
 | _=>{ kind:=.function,names:=[],isGenerator:=false,isCoroutine:=false }
end L2
namespace BP
open PySem L2
def top (i:Nat):Stmt:=PySem.Challenge.pw_bendproof_k62_smaller_is_normal.main.body.getD i (.Pass ⟨0,0,0,0⟩)
abbrev Z4:Stmt:=top 46
abbrev syn:Stmt:=top 47
abbrev sx4:Stmt:=top 48
abbrev sys:Stmt:=top 49
abbrev syp:Stmt:=top 50
abbrev sx0:Stmt:=top 53
abbrev syv:Stmt:=top 54
abbrev sx2:Stmt:=top 55
abbrev syo:Stmt:=top 56
abbrev sya:Stmt:=top 9
abbrev syg:Stmt:=top 8
abbrev syf:Stmt:=top 10
abbrev xJ:Stmt:=top 31
abbrev sx9:Stmt:=top 11
abbrev Qz:Stmt:=top 32
abbrev Z5:Stmt:=top 33
abbrev Qq:Stmt:=top 34
abbrev xZ:Stmt:=top 35
abbrev Qx:Stmt:=top 36
abbrev szo:Stmt:=xk (top 38) 0
abbrev syy:Stmt:=top 51
abbrev syu:Stmt:=top 57
abbrev sz4:Stmt:=xk (top 19) 1
abbrev Z7:Stmt:=xk (top 40) 0
abbrev sxg:Stmt:=top 37
abbrev szr:Stmt:=xk (top 38) 1
abbrev sx6:Stmt:=top 22
abbrev syb:Stmt:=top 21
abbrev sxa:Stmt:=top 12
abbrev sxf:Stmt:=top 13
abbrev Z6:Stmt:=top 23
abbrev ZK:Stmt:=top 25
abbrev sx5:Stmt:=top 14
abbrev syc:Stmt:=top 18
abbrev wW:Stmt:=xk (top 40) 1
abbrev sx8:Stmt:=top 41
abbrev ZW:Stmt:=xk (top 43) 0
abbrev wK:Stmt:=top 42
abbrev sz9:Stmt:=xk (top 43) 1
abbrev ZV:Stmt:=xk (top 43) 2
abbrev szn:Stmt:=xk (top 38) 4
abbrev sxc:Stmt:=top 44
abbrev sym:Stmt:=top 52
abbrev kW:Stmt:=top 59
abbrev syx:Stmt:=top 60
abbrev syq:Stmt:=top 58
abbrev x9:Stmt:=top 62
abbrev wV:Stmt:=top 63
abbrev Q9:Stmt:=top 64
abbrev syj:Stmt:=top 65
abbrev syr:Stmt:=top 66
abbrev sx1:Stmt:=top 61
abbrev Qj:Stmt:=top 17
abbrev sz1:Stmt:=xk (top 19) 0
abbrev syh:Stmt:=top 67
def view:Program:={ PySem.Challenge.pw_bendproof_k62_smaller_is_normal with main:={ PySem.Challenge.pw_bendproof_k62_smaller_is_normal.main with body:=[top 67] } }
def others:List Str:=[Str.ofString "_wall",Str.ofString "BendError",Str.ofString "NoBox",Str.ofString "NoNet",Str.ofString "NOUGHT",Str.ofString "ONE",Str.ofString "is_whole",Str.ofString "common",Str.ofString "is_ratio",Str.ofString "plain",Str.ofString "plus",Str.ofString "times",Str.ofString "less",Str.ofString "MOST_SIDES",Str.ofString "checked_side",Str.ofString "form_ends",Str.ofString "Box",Str.ofString "even_form",Str.ofString "lone_form",Str.ofString "added_times",Str.ofString "terms_form",Str.ofString "MOST_INS",Str.ofString "MOST_UNITS",Str.ofString "MOST_BENDS",Str.ofString "MOST_OUTS",Str.ofString "checked_place",Str.ofString "checked_term",Str.ofString "checked_sum",Str.ofString "checked_unit",Str.ofString "checked_units",Str.ofString "checked_outs",Str.ofString "told_unit",Str.ofString "Net",Str.ofString "Sketch",Str.ofString "out_forms",Str.ofString "needed_variables",Str.ofString "Draft",Str.ofString "smaller",Str.ofString "_law_cell_at",Str.ofString "_law_mixed",Str.ofString "_law_wide",Str.ofString "_law_seeds",Str.ofString "_law_part",Str.ofString "_law_sum",Str.ofString "_law_many",Str.ofString "_law_taken",Str.ofString "_law_small",Str.ofString "_law_unit",Str.ofString "_law_net",Str.ofString "_law_sides",Str.ofString "_law_ratio",Str.ofString "_law_span_of_sum",Str.ofString "_law_spans",Str.ofString "_law_twice",Str.ofString "_law_sum_normal",Str.ofString "_law_units_normal",Str.ofString "_law_all_lead",Str.ofString "_law_bends",Str.ofString "_law_right"]
theorem map_pair {α β γ:Type} {o:Option α} {f:α→β} {g:α→γ} {x:β} {y:γ} (h1:o.map f=some x) (h2:o.map g=some y):o.map (fun s=>(f s,g s))=some (x,y):=by
 cases o with
 | none=>cases h1
 | some s =>
  have a:=Option.some.inj h1;have b:=Option.some.inj h2;rw [← a,← b];rfl
open PySem.W in
def Seen (r:OpenRow) (q:Program) (ls:List Str) (N:Nat):Prop:=∀ w,(openEnds treeTable r.prog w N).map (fun s=>openSeen q ls (importedModules r.prog.main.body) (fun s=>xlAt q [] s&&recOk r.toRowW.records s) true s)=some (openGood q ls)
open PySem.W in
theorem left_two {r:OpenRow} {q:Program} {ls:List Str} {N:Nat} {α:Type} {Yf:Shared→α} {Ya:World→α} (A:Seen r q ls N) (B:∀ w,(openEnds treeTable r.prog w N).map Yf=some (Ya w)) :
  LeftO r.prog q ls (fun s=>xlAt q [] s&&recOk r.toRowW.records s) Yf Ya N:=fun w=>map_pair (A w) (B w)
open PySem.W in
theorem head {r:OpenRow} {q:Program} {ls:List Str} {d:DefRec} {kwd:List (Str×Expr)} (H:Hook) (N:Nat)
  (A:Seen r q ls N) (B:∀ w,(openEnds treeTable r.prog w N).map H.obs=some (H.val w))
  (df:defOf q r.name=some (d,kwd)) (pd:r.prog.theDef r.name=some (d.params,d.body,d.scope))
  (kw:kwWritten? d.params.kwonlyargs d.params.kw_defaults=some kwd) (wr:(!r.writes||r.records.isEmpty)=true) (sd:r.wellSaid=true)
  (ok:(chainsOk q&&opensWell r.prog&&(frees r.toRowW&&r.within.isEmpty))=true) (br:r.prog.bare) (pr:r.toRowW.promised)
  (cl:WalkO q ls (XL q []) H.says r.toRowW d kwd fun f vs=>PySem.call f vs):r.Holds :=
 have both:∀ s:Shared,(xlAt q [] s&&recOk r.toRowW.records s)=true→xlAt q [] s=true∧recOk r.toRowW.records s=true:=fun s e=>by simpa using e
 holds_open (left_two A B) H.of H.keeps (fun s e=>xl_of s (both s e).1) XL.keeps df pd kw (fun s e=>recFacts_of (both s e).2) wr sd ok br pr cl
open PySem.W in
noncomputable def topG (st:SharedT→Thread→Option (SharedT×Thread)) (ok:Thread→Bool) (N:Nat):SharedT→Thread→Option SharedT :=
 Nat.rec (fun _ _=>none) (fun _ go s t=>cond (through t) (some s) (cond (ok t) ((st s t).bind fun x=>go x.1 x.2) none)) N
open PySem.W in
theorem topG_of {tb:String→Option Builtin} {p:Program} {w:World} {m:Nat} {ann:Option Value} (n:Nat):∀ (s z:SharedT) (t:Thread),topG (stepT (denote tb) p w) (stepOk m ann) n s t=some z→topRun tb p w m ann n s.abs t=some z.abs:=by
 induction n with
 | zero=>intro s z t h; cases h
 | succ n ih =>
  intro s z t h
  replace h:cond (through t) (some s) (cond (stepOk m ann t) ((stepT (denote tb) p w s t).bind fun x=>topG (stepT (denote tb) p w) (stepOk m ann) n x.1 x.2) none)=some z:=h
  unfold topRun
  revert h
  cases through t
  ·cases stepOk m ann t
   ·exact fun h=>nomatch h
   ·cases e:stepT (denote tb) p w s t
    ·exact fun h=>nomatch h
    ·intro h
     rw [stepT_spec e];exact ih _ _ _ h
  ·intro h
   rw [Option.some.inj h]
open PySem.W in
noncomputable def startT (P:Params) (os:OsState):SharedT :=
 ⟨List.rec (motive:=fun _=>BT→Nat→BT) (fun T _=>T) (fun o _ go T n=>go (T.ins n o) (n+1)) (boot_heap P).objs.toList .nil 0,11,(boot_heap P).life,#[],boot_drawn,boot_toks,os⟩
open PySem.W in
theorem start_abs (P:Params) (os:OsState):(startT P os).abs=⟨boot_heap P,#[],boot_drawn,boot_toks,os⟩:=by kernel_rfl
open PySem.W in
noncomputable abbrev runT (p:Program) (N:Nat) (w:World) (os:OsState):Option SharedT :=
 topG (stepT (denote treeTable) p w) (stepOk 11 ((boot_heap w.params).nsMap mainGlobals "__annotations__")) N (startT w.params os) (topStub p)
open PySem.W in
noncomputable def Calm (p:Program) (w:World) (s:Shared):Bool:=staticsOk (importedModules p.main.body) (boot_heap w.params) s.heap&&namesBound p s.heap&&gensDone s&&laidKept (boot_heap w.params) s.heap
open PySem.W in
def Ends (p:Program) (N:Nat):Prop:=∀ w:World,∃ os s,runT p N w os=some s∧openEnds treeTable p w N=some s.abs
open PySem.W in
theorem ends_of {p:Program} {N:Nat} (e:opening p=plainProg p.main.scope.names) (hN:Nat.ble 600 N=true) (f:∀ s,fenceModules? p s=some s)
  (A:∀ w os,(runT p N w os).map (fun s=>Calm p w s.abs)=some true):Ends p N:=by
 intro w;obtain ⟨⟨h,gs,d,k,os⟩,e1,e2⟩:=Option.map_eq_some_iff.mp (boot_open e hN f w);obtain ⟨s,e3,e4⟩:=Option.map_eq_some_iff.mp (A w os);refine ⟨os,s,e3,?_⟩;obtain ⟨rfl,rfl,rfl,rfl⟩:h=boot_heap w.params∧gs=Array.mk []∧d=boot_drawn∧k=boot_toks:=by simpa using e2
 have r:=topG_of N _ _ _ e3;rw [start_abs] at r;unfold openEnds;rw [e1];show topFrom treeTable p w N _=_;unfold topFrom;rw [show ((boot_heap w.params).isNs mainGlobals&&(Array.mk []:Array GenState).size==0)=true by kernel_rfl,show (boot_heap w.params).objs.size=11 by rfl];dsimp only;rw [r];show (match Calm p w s.abs with | true=>some s.abs | false=>none)=_;rw [e4]
open PySem.W in
theorem look_of {p:Program} {N:Nat} {α:Type} {f:Shared→α} {v:World→α} (E:Ends p N) (A:∀ w os,(runT p N w os).map (fun s=>f s.abs)=some (v w)) (w:World):(openEnds treeTable p w N).map f=some (v w):=by
 obtain ⟨os,s,e1,e2⟩:=E w;rw [e2,← A w os,e1];rfl
open PySem.W in
def getT (s:SharedT) (a:Addr):Option Obj:=cond (Nat.blt a s.n) (alive ((s.tree.get a).getD default)) none
open PySem.W in
theorem getT_eq (s:SharedT):s.abs.heap.get?=getT s:=by
 funext a
 unfold getT Heap.get?;rw [show s.abs.heap.objs[a]?=_ from absHeap_at s.tree s.n s.life a]
 by_cases h:a<s.n
 ·rw [if_pos h,show Nat.blt a s.n=true from Nat.ble_eq_true_of_le h]
  show (match some ((s.tree.get a).getD default) with | some ⟨_,_,.freed,_⟩=>none | o=>o)=alive ((s.tree.get a).getD default);generalize (s.tree.get a).getD default=o;obtain ⟨c,d,dt,sl⟩:=o
  cases dt <;> rfl
 ·rw [if_neg h]
  cases q:Nat.blt a s.n
  ·rfl
  ·exact absurd (Nat.le_of_ble_eq_true q) h
open PySem.W in
theorem look_k {p:Program} {N:Nat} {K:Params→Frag} {as:List Addr} {e:∀ P,as=(K P).map (·.1)} (E:Ends p N) (A:∀ w os,(runT p N w os).map (fun s=>as.map (getT s))=some ((K w.params).map fun p=>some p.2)) (w:World):(openEnds treeTable p w N).map (kHook K as e).obs=some ((kHook K as e).val w):=by
 refine look_of E (fun w os=>?_) w;refine Eq.trans ?_ (A w os);exact congrArg (fun f=>Option.map f (runT p N w os)) (funext fun s=>by show as.map s.abs.heap.get?=_; rw [getT_eq])
theorem plainly:Ends (PySem.Challenge.rw_bendproof_k62_smaller_is_normal).row.prog 8000:=by
 refine ends_of (by kernel_rfl) rfl (fun s=>by kernel_rfl) ?_;intro w os
 delta runT Calm
 rw [PySem.W.Fast.te14364793385576792824,PySem.W.Fast.te10156331382660048174,PySem.W.Fast.te11892475500146522536,PySem.W.Fast.te6613529449190102663,PySem.W.Fast.te8920871248978507458,PySem.W.Fast.te5923862056798008813]
 kernel_rfl
theorem seen:Seen (PySem.Challenge.rw_bendproof_k62_smaller_is_normal).row view others 8000:=by
 refine look_of plainly ?_;intro w os
 delta runT
 rw [PySem.W.Fast.te14364793385576792824,PySem.W.Fast.te10156331382660048174,PySem.W.Fast.te11892475500146522536,PySem.W.Fast.te6613529449190102663,PySem.W.Fast.te8920871248978507458,PySem.W.Fast.te5923862056798008813,PySem.W.Fast.te4187177175401517315]
 delta PySem.W.Fast.tw4187177175401517315 PySem.W.openGood
 dsimp only
 kernel_rfl
def FnP (K:PySem.W.Frag) (x q:Str) (st:Stmt) (f:Addr):Prop:=∃ (oc:Value) (od an:Option Addr) (sl:Array (Option Value)) (kV dc pm cd ct:Value),K.lookup f=some ⟨oc,od,.func (PySem.W.fnOf x q (x5 st) (zY st) (qY st) .none kV dc pm an cd ct),sl⟩∧PySem.W.codeIn K cd q=true∧PySem.W.keepIn K (.ref f)=true
def PF (K:PySem.W.Frag) (x:Str) (st:Stmt):Prop:=∃ f,PySem.W.nsIn K mainGlobals x=some (some (.ref f))∧True∧FnP K x x st f
def PM (K:PySem.W.Frag) (C:Addr) (m q:Str) (st:Stmt):Prop:=∃ f,PySem.W.findIn K (.ref C) m=some (some (.ref f))∧PySem.W.isFn K (.ref f)=true∧FnP K m q st f
theorem PF.of {K:PySem.W.Frag} {x:Str} {st:Stmt} {f:Addr} {oc:Value} {od an:Option Addr} {sl:Array (Option Value)} {kV dc pm cd ct:Value} (a:PySem.W.nsIn K mainGlobals x=some (some (.ref f))) (l:K.lookup f=some ⟨oc,od,.func (PySem.W.fnOf x x (x5 st) (zY st) (qY st) .none kV dc pm an cd ct),sl⟩) (c:PySem.W.codeIn K cd x=true) (k:PySem.W.keepIn K (.ref f)=true):PF K x st:=⟨f,a,trivial,_,_,_,_,_,_,_,_,_,l,c,k⟩
theorem PM.of {K:PySem.W.Frag} {C:Addr} {m q:Str} {st:Stmt} {f:Addr} {oc:Value} {od an:Option Addr} {sl:Array (Option Value)} {kV dc pm cd ct:Value} (a:PySem.W.findIn K (.ref C) m=some (some (.ref f))) (i:PySem.W.isFn K (.ref f)=true) (l:K.lookup f=some ⟨oc,od,.func (PySem.W.fnOf m q (x5 st) (zY st) (qY st) .none kV dc pm an cd ct),sl⟩) (c:PySem.W.codeIn K cd q=true) (k:PySem.W.keepIn K (.ref f)=true):PM K C m q st:=⟨f,a,i,_,_,_,_,_,_,_,_,_,l,c,k⟩
def Pins (K:PySem.W.Frag):Prop:=∀ C:Prop,(∀ {CC_Box:Addr} {CC_Net:Addr} {CC_Sketch:Addr} {CC_Draft:Addr} {tk_MOST_BENDS:Tok} {tk_MOST_UNITS:Tok} {tk_MOST_OUTS:Tok} {tk_MOST_INS:Tok} {gg_NOUGHT:Addr} {go_NOUGHT:Option Addr} {gn_NOUGHT:Nat} {gs_NOUGHT:Array (Option Value)} {gt0_NOUGHT gt1_NOUGHT:Tok} {gg_ONE:Addr} {go_ONE:Option Addr} {gn_ONE:Nat} {gs_ONE:Array (Option Value)} {gt0_ONE gt1_ONE:Tok} {tk_MOST_SIDES:Tok}
  (gBox:PySem.W.nsIn K mainGlobals "Box" = some (some (.ref CC_Box))) (gNet:PySem.W.nsIn K mainGlobals "Net" = some (some (.ref CC_Net))) (gSketch:PySem.W.nsIn K mainGlobals "Sketch" = some (some (.ref CC_Sketch))) (gDraft:PySem.W.nsIn K mainGlobals "Draft" = some (some (.ref CC_Draft))) (z0:PySem.W.nsIn K mainGlobals "len" = some none) (z1:PySem.W.nsIn K mainGlobals "range" = some none) (z2:PySem.W.nsIn K mainGlobals "enumerate" = some none) (z3:PySem.W.nsIn K mainGlobals "abs" = some none) (z4:PySem.W.nsIn K mainGlobals "divmod" = some none) (z5:PySem.W.nsIn K mainGlobals "list" = some none) (z6:PySem.W.nsIn K mainGlobals "min" = some none) (z7:PySem.W.nsIn K mainGlobals "int" = some none) (z8:PySem.W.nsIn K mainGlobals "isinstance" = some none) (z9:PySem.W.nsIn K mainGlobals "bool" = some none) (z10:PySem.W.nsIn K mainGlobals "tuple" = some none) (z11:PySem.W.nsIn K mainGlobals "set" = some none) (z12:PySem.W.nsIn K mainGlobals "str" = some none) (z13:PySem.W.nsIn K mainGlobals "zip" = some none) (z14:PySem.W.nsIn K mainGlobals "dict" = some none) (z15:PySem.W.nsIn K mainGlobals "sorted" = some none) (z16:PySem.W.nsIn K mainGlobals "any" = some none) (z17:PySem.W.nsIn K mainGlobals "max" = some none) (z18:PySem.W.nsIn K mainGlobals "all" = some none) (z19:PySem.W.nsIn K mainGlobals "reversed" = some none) (z20:PySem.W.nsIn K mainGlobals "sum" = some none) (pgBox:PySem.W.plainGet K CC_Box Str.empty=true) (hdBox:PySem.W.hasDictIn K CC_Box=true) (poBox:PySem.W.plainOver K CC_Box=true) (saBox:PySem.W.findIn K (.ref CC_Box) "__setattr__" = some (some (.builtin "object.__setattr__"))) (mkBox:PySem.W.makesIn K CC_Box=true) (kcBox:PySem.W.keepIn K (.ref CC_Box)=true) (naBox_sides:PySem.W.findIn K (.ref CC_Box) "sides" = some none) (pgNet:PySem.W.plainGet K CC_Net Str.empty=true) (hdNet:PySem.W.hasDictIn K CC_Net=true) (poNet:PySem.W.plainOver K CC_Net=true) (saNet:PySem.W.findIn K (.ref CC_Net) "__setattr__" = some (some (.builtin "object.__setattr__"))) (mkNet:PySem.W.makesIn K CC_Net=true) (kcNet:PySem.W.keepIn K (.ref CC_Net)=true) (naNet_many:PySem.W.findIn K (.ref CC_Net) "many" = some none) (naNet_units:PySem.W.findIn K (.ref CC_Net) "units" = some none) (naNet_outs:PySem.W.findIn K (.ref CC_Net) "outs" = some none) (pgSketch:PySem.W.plainGet K CC_Sketch Str.empty=true) (hdSketch:PySem.W.hasDictIn K CC_Sketch=true) (poSketch:PySem.W.plainOver K CC_Sketch=true) (saSketch:PySem.W.findIn K (.ref CC_Sketch) "__setattr__" = some (some (.builtin "object.__setattr__"))) (mkSketch:PySem.W.makesIn K CC_Sketch=true) (kcSketch:PySem.W.keepIn K (.ref CC_Sketch)=true) (naSketch_widths:PySem.W.findIn K (.ref CC_Sketch) "widths" = some none) (naSketch_bent_forms:PySem.W.findIn K (.ref CC_Sketch) "bent_forms" = some none) (naSketch_variables:PySem.W.findIn K (.ref CC_Sketch) "variables" = some none) (naSketch_total:PySem.W.findIn K (.ref CC_Sketch) "total" = some none) (pgDraft:PySem.W.plainGet K CC_Draft Str.empty=true) (hdDraft:PySem.W.hasDictIn K CC_Draft=true) (poDraft:PySem.W.plainOver K CC_Draft=true) (saDraft:PySem.W.findIn K (.ref CC_Draft) "__setattr__" = some (some (.builtin "object.__setattr__"))) (mkDraft:PySem.W.makesIn K CC_Draft=true) (kcDraft:PySem.W.keepIn K (.ref CC_Draft)=true) (naDraft_many:PySem.W.findIn K (.ref CC_Draft) "many" = some none) (naDraft_units:PySem.W.findIn K (.ref CC_Draft) "units" = some none) (naDraft_places:PySem.W.findIn K (.ref CC_Draft) "places" = some none) (naDraft_sums:PySem.W.findIn K (.ref CC_Draft) "sums" = some none) (qMOST_BENDS:PySem.W.nsIn K mainGlobals "MOST_BENDS" = some (some (.int 20 tk_MOST_BENDS))) (qMOST_UNITS:PySem.W.nsIn K mainGlobals "MOST_UNITS" = some (some (.int 80 tk_MOST_UNITS))) (qMOST_OUTS:PySem.W.nsIn K mainGlobals "MOST_OUTS" = some (some (.int 12 tk_MOST_OUTS))) (qMOST_INS:PySem.W.nsIn K mainGlobals "MOST_INS" = some (some (.int 6 tk_MOST_INS))) (qNOUGHT:PySem.W.nsIn K mainGlobals "NOUGHT" = some (some (.ref gg_NOUGHT))) (qlNOUGHT:K.lookup gg_NOUGHT=some ⟨.type "tuple",go_NOUGHT,.seq #[.int 0 gt0_NOUGHT,.int 1 gt1_NOUGHT] gn_NOUGHT,gs_NOUGHT⟩) (qONE:PySem.W.nsIn K mainGlobals "ONE" = some (some (.ref gg_ONE))) (qlONE:K.lookup gg_ONE=some ⟨.type "tuple",go_ONE,.seq #[.int 1 gt0_ONE,.int 1 gt1_ONE] gn_ONE,gs_ONE⟩) (qMOST_SIDES:PySem.W.nsIn K mainGlobals "MOST_SIDES" = some (some (.int 6 tk_MOST_SIDES))) (h0:PF K "_law_cell_at" Z4) (h1:PF K "_law_mixed" syn) (h2:PF K "_law_wide" sx4) (h3:PF K "_law_seeds" sys) (h4:PF K "_law_part" syp) (h5:PF K "_law_taken" sx0) (h6:PF K "_law_small" syv) (h7:PF K "_law_unit" sx2) (h8:PF K "_law_net" syo) (h9:PF K "common" sya) (h10:PF K "is_whole" syg) (h11:PF K "is_ratio" syf) (h12:PF K "checked_place" xJ) (h13:PF K "plain" sx9) (h14:PF K "checked_term" Qz) (h15:PF K "checked_sum" Z5) (h16:PF K "checked_unit" Qq) (h17:PF K "checked_units" xZ) (h18:PF K "checked_outs" Qx) (h19:PM K CC_Net "__init__" "Net.__init__" szo) (h20:PF K "_law_sum" syy) (h21:PF K "_law_sides" syu) (h22:PM K CC_Box "told" "Box.told" sz4) (h23:PM K CC_Sketch "__init__" "Sketch.__init__" Z7) (h24:PF K "told_unit" sxg) (h25:PM K CC_Net "told" "Net.told" szr) (h26:PF K "lone_form" sx6) (h27:PF K "even_form" syb) (h28:PF K "plus" sxa) (h29:PF K "times" sxf) (h30:PF K "added_times" Z6) (h31:PF K "terms_form" ZK) (h32:PF K "less" sx5) (h33:PF K "form_ends" syc) (h34:PM K CC_Sketch "bend_form" "Sketch.bend_form" wW) (h35:PF K "out_forms" sx8) (h36:PM K CC_Draft "__init__" "Draft.__init__" ZW) (h37:PF K "needed_variables" wK) (h38:PM K CC_Draft "put" "Draft.put" sz9) (h39:PM K CC_Draft "seat" "Draft.seat" ZV) (h40:PM K CC_Net "bends" "Net.bends" szn) (h41:PF K "smaller" sxc) (h42:PF K "_law_many" sym) (h43:PF K "_law_span_of_sum" kW) (h44:PF K "_law_spans" syx) (h45:PF K "_law_ratio" syq) (h46:PF K "_law_sum_normal" x9) (h47:PF K "_law_units_normal" wV) (h48:PF K "_law_all_lead" Q9) (h49:PF K "_law_bends" syj) (h50:PF K "_law_right" syr) (h51:PF K "_law_twice" sx1) (h52:PF K "checked_side" Qj) (h53:PM K CC_Box "__init__" "Box.__init__" sz1) (h54:PF K "law" syh),C)→C
end BP
section
open PySem PySem.W PyProof.Rows
local macro_rules | `(tactic| o_head $H) => `(tactic| refine BP.head (q := BP.view) $H 8000 BP.seen ?_ rfl rfl rfl rfl (by assumption) (by decide +kernel) ⟨rfl, rfl, rfl, rfl, rfl, by decide +kernel⟩ ?_ ?_)
set_option maxRecDepth 100000 in
theorem BP.early (fin:∀ {q:Program} {loose:List Str} {XP:(Str→Option Value)→Heap→Prop} {YP:World→Heap→Prop} {d:DefRec} {K:Params→PySem.W.Frag},d.params.defaults=[]→d.name = "law" → (∀ (w:World) (h:Heap),YP w h→(K w.params).In h)→(∀ w:World,BP.Pins (K w.params))→PySem.W.WalkO q loose XP YP (PySem.Challenge.rw_bendproof_k62_smaller_is_normal).row.toRowW d [] (fun f vs=>PySem.call f vs)):PySem.Challenge.rw_bendproof_k62_smaller_is_normal.Holds:=by
 w_on; o_law; k_head
 ·refine BP.look_k BP.plainly ?_
  intro w os
  delta BP.runT
  rw [PySem.W.Fast.te14364793385576792824,PySem.W.Fast.te10156331382660048174,PySem.W.Fast.te11892475500146522536,PySem.W.Fast.te6613529449190102663,PySem.W.Fast.te8920871248978507458]
  kernel_rfl
 ·w_witness2
 k_fill
 refine fin rfl rfl (fun w h Y=>PySem.W.kIn_of Y) ?F
 case F =>
  intro w C k;refine' k ?gBox ?gNet ?gSketch ?gDraft ?z0 ?z1 ?z2 ?z3 ?z4 ?z5 ?z6 ?z7 ?z8 ?z9 ?z10 ?z11 ?z12 ?z13 ?z14 ?z15 ?z16 ?z17 ?z18 ?z19 ?z20 ?pgBox ?hdBox ?poBox ?saBox ?mkBox ?kcBox ?naBox_sides ?pgNet ?hdNet ?poNet ?saNet ?mkNet ?kcNet ?naNet_many ?naNet_units ?naNet_outs ?pgSketch ?hdSketch ?poSketch ?saSketch ?mkSketch ?kcSketch ?naSketch_widths ?naSketch_bent_forms ?naSketch_variables ?naSketch_total ?pgDraft ?hdDraft ?poDraft ?saDraft ?mkDraft ?kcDraft ?naDraft_many ?naDraft_units ?naDraft_places ?naDraft_sums ?qMOST_BENDS ?qMOST_UNITS ?qMOST_OUTS ?qMOST_INS ?qNOUGHT ?qlNOUGHT ?qONE ?qlONE ?qMOST_SIDES ?h0 ?h1 ?h2 ?h3 ?h4 ?h5 ?h6 ?h7 ?h8 ?h9 ?h10 ?h11 ?h12 ?h13 ?h14 ?h15 ?h16 ?h17 ?h18 ?h19 ?h20 ?h21 ?h22 ?h23 ?h24 ?h25 ?h26 ?h27 ?h28 ?h29 ?h30 ?h31 ?h32 ?h33 ?h34 ?h35 ?h36 ?h37 ?h38 ?h39 ?h40 ?h41 ?h42 ?h43 ?h44 ?h45 ?h46 ?h47 ?h48 ?h49 ?h50 ?h51 ?h52 ?h53 ?h54
  (case gBox=>k_is)
  (case gNet=>k_is)
  (case gSketch=>k_is)
  (case gDraft=>k_is)
  (case z0=>k_is)
  (case z1=>k_is)
  (case z2=>k_is)
  (case z3=>k_is)
  (case z4=>k_is)
  (case z5=>k_is)
  (case z6=>k_is)
  (case z7=>k_is)
  (case z8=>k_is)
  (case z9=>k_is)
  (case z10=>k_is)
  (case z11=>k_is)
  (case z12=>k_is)
  (case z13=>k_is)
  (case z14=>k_is)
  (case z15=>k_is)
  (case z16=>k_is)
  (case z17=>k_is)
  (case z18=>k_is)
  (case z19=>k_is)
  (case z20=>k_is)
  (case pgBox=>k_is)
  (case hdBox=>k_is)
  (case poBox=>k_is)
  (case saBox=>k_is)
  (case mkBox=>k_is)
  (case kcBox=>k_is)
  (case naBox_sides=>k_is)
  (case pgNet=>k_is)
  (case hdNet=>k_is)
  (case poNet=>k_is)
  (case saNet=>k_is)
  (case mkNet=>k_is)
  (case kcNet=>k_is)
  (case naNet_many=>k_is)
  (case naNet_units=>k_is)
  (case naNet_outs=>k_is)
  (case pgSketch=>k_is)
  (case hdSketch=>k_is)
  (case poSketch=>k_is)
  (case saSketch=>k_is)
  (case mkSketch=>k_is)
  (case kcSketch=>k_is)
  (case naSketch_widths=>k_is)
  (case naSketch_bent_forms=>k_is)
  (case naSketch_variables=>k_is)
  (case naSketch_total=>k_is)
  (case pgDraft=>k_is)
  (case hdDraft=>k_is)
  (case poDraft=>k_is)
  (case saDraft=>k_is)
  (case mkDraft=>k_is)
  (case kcDraft=>k_is)
  (case naDraft_many=>k_is)
  (case naDraft_units=>k_is)
  (case naDraft_places=>k_is)
  (case naDraft_sums=>k_is)
  (case qMOST_BENDS=>k_is)
  (case qMOST_UNITS=>k_is)
  (case qMOST_OUTS=>k_is)
  (case qMOST_INS=>k_is)
  (case qNOUGHT=>k_is)
  (case qlNOUGHT=>k_is)
  (case qONE=>k_is)
  (case qlONE=>k_is)
  (case qMOST_SIDES=>k_is)
  all_goals first | (refine' PF.of ?a ?l ?c ?k; (case a=>k_is); (case l=>k_is); (case c=>k_is); (case k=>k_is)) | (refine' PM.of ?a ?i ?l ?c ?k; (case a=>k_is); (case i=>k_is); (case l=>k_is); (case c=>k_is); (case k=>k_is))
end
theorem A0:type_of% @List.getElem?_append_right.{0}:=@List.getElem?_append_right
theorem A1:type_of% @List.getElem?_eq_some_iff.{0}:=@List.getElem?_eq_some_iff
theorem A2:type_of% @List.getElem?_take_of_lt.{0}:=@List.getElem?_take_of_lt
theorem A3:type_of% @Int.mul_fdiv_cancel_left:=@Int.mul_fdiv_cancel_left
theorem A4:type_of% @List.getElem?_eq_getElem.{0}:=@List.getElem?_eq_getElem
theorem A5:type_of% @List.take_of_length_le.{0}:=@List.take_of_length_le
theorem A6:type_of% @List.length_singleton.{0}:=@List.length_singleton
theorem A7:type_of% @List.mem_append_right.{0}:=@List.mem_append_right
theorem A8:type_of% @List.mem_of_getElem?.{0}:=@List.mem_of_getElem?
theorem A9:type_of% @List.mem_cons_of_mem.{0}:=@List.mem_cons_of_mem
theorem Aa:type_of% @List.getElem?_of_mem.{0}:=@List.getElem?_of_mem
theorem Ab:type_of% @List.mem_append_left.{0}:=@List.mem_append_left
theorem Ac:type_of% @Nat.pow_le_pow_right:=@Nat.pow_le_pow_right
theorem Ad:type_of% @List.length_append.{0}:=@List.length_append
theorem Ae:type_of% @List.mem_singleton.{0}:=@List.mem_singleton
theorem Af:type_of% @List.mem_cons_self.{0}:=@List.mem_cons_self
theorem Ag:type_of% @Nat.lt_of_lt_of_le:=@Nat.lt_of_lt_of_le
theorem Ah:type_of% @Int.natAbs_natCast:=@Int.natAbs_natCast
theorem Ai:type_of% @Rat.num_divInt_den:=@Rat.num_divInt_den
theorem Aj:type_of% @List.length_range:=@List.length_range
theorem Ak:type_of% @List.length_take.{0}:=@List.length_take
theorem Al:type_of% @List.length_map.{0,0}:=@List.length_map
theorem Am:type_of% @List.mem_append.{0}:=@List.mem_append
theorem An:type_of% @List.map_append.{0,0}:=@List.map_append
theorem Ao:type_of% @Rat.intCast_mul:=@Rat.intCast_mul
theorem Ap:type_of% @Option.some.inj.{0}:=@Option.some.inj
theorem Aq:type_of% @Int.natAbs_mul:=@Int.natAbs_mul
theorem Ar:type_of% @Nat.le_trans:=@Nat.le_trans
abbrev As:=PySem.W.Frag
namespace L2
open PySem PySem.Spec PyProof.Rows
abbrev Key:=Sum Int Str
def keyIs:Key→Value→Bool
 | .inl k,v=>Value.isInt k v
 | .inr x,v=>Value.isStrOf x v
def keyH (w:World):Key→Int
 | .inl k=>hashInt k
 | .inr x=>hashStr w x
theorem jZ:∀ {k:Key} {v:Value},keyIs k v=true→(∃ i t,k=Sum.inl i∧v=Value.int i t)∨(∃ x t,k=Sum.inr x∧v=Value.str x t)
 | .inl i,v,h=>by
  obtain ⟨t,e⟩:=Value.isInt_shape (k:=i) (v:=v) h;exact .inl ⟨i,t,rfl,e⟩
 | .inr x,v,h=>by
  obtain ⟨t,e⟩:=Value.isStrOf_shape (x:=x) (v:=v) h;exact .inr ⟨x,t,rfl,e⟩
theorem keyIs_int (i:Int) (t:Tok):keyIs (.inl i) (.int i t)=true:=by simp [keyIs,Value.isInt]
theorem keyIs_str (x:Str) (t:Tok):keyIs (.inr x) (.str x t)=true:=by simp [keyIs,Value.isStrOf]
theorem key_ll (a b:Int):decide ((Sum.inl a:Key)=Sum.inl b)=(a==b):=by
 by_cases e:a=b
 ·subst e; simp
 ·have h:¬ (Sum.inl a:Key)=Sum.inl b:=fun q=>e (Sum.inl.inj q)
  rw [decide_eq_false h];exact (beq_eq_false_iff_ne.mpr e).symm
theorem key_rr (a b:Str):decide ((Sum.inr a:Key)=Sum.inr b)=decide (a=b):=by
 by_cases e:a=b
 ·subst e; simp
 ·have h:¬ (Sum.inr a:Key)=Sum.inr b:=fun q=>e (Sum.inr.inj q)
  rw [decide_eq_false h,decide_eq_false e]
theorem key_lr (a:Int) (b:Str):decide ((Sum.inl a:Key)=Sum.inr b)=false:=decide_eq_false (fun q=>nomatch q)
theorem key_rl (a:Str) (b:Int):decide ((Sum.inr a:Key)=Sum.inl b)=false:=decide_eq_false (fun q=>nomatch q)
def v8 (prog:Program) (w:World):PySem.KeyKind prog w Key where
 is:=keyIs
 hash:=keyH w
 inj:=fun v a b ha hb=>by
  rcases jZ ha with ⟨i,t,rfl,rfl⟩ | ⟨x,t,rfl,rfl⟩
  ·rcases jZ hb with ⟨j,u,rfl,e⟩ | ⟨y,u,rfl,e⟩
   ·injection e with e1 _; rw [e1]
   ·exact nomatch e
  ·rcases jZ hb with ⟨j,u,rfl,e⟩ | ⟨y,u,rfl,e⟩
   ·exact nomatch e
   ·injection e with e1 _; rw [e1]
 byValue:=fun k v h=>by
  rcases jZ h with ⟨i,t,rfl,rfl⟩ | ⟨x,t,rfl,rfl⟩ <;> rfl
 pyHash:=fun hv h=>by
  rcases jZ hv with ⟨i,t,rfl,rfl⟩ | ⟨x,t,rfl,rfl⟩
  ·exact wpAny_pyHash_int h
  ·exact wpAny_pyHash_str h
 eqBool:=fun hu hv h=>by
  rcases jZ hu with ⟨i,t,rfl,rfl⟩ | ⟨x,t,rfl,rfl⟩
  ·rcases jZ hv with ⟨j,u,rfl,rfl⟩ | ⟨y,u,rfl,rfl⟩
   ·rw [key_ll] at h; exact wpAny_eqBool_int h
   ·rw [key_lr] at h; exact SeqAt.EqAt.int_str i t y u _ _ _ _ h
  ·rcases jZ hv with ⟨j,u,rfl,rfl⟩ | ⟨y,u,rfl,rfl⟩
   ·rw [key_rl] at h; exact SeqAt.EqAt.str_int x t j u _ _ _ _ h
   ·rw [key_rr] at h; exact wpAny_eqBool_str h
 «strs»:=fun k x t v h=>by
  rcases jZ h with ⟨i,u,rfl,e⟩ | ⟨y,u,rfl,e⟩
  ·exact nomatch e
  ·injection e with e1 _
   subst e1
   cases v <;> rfl
theorem mixKind_int (prog:Program) (w:World) (i:Int) (t:Tok):(v8 prog w).is (.inl i) (.int i t)=true:=keyIs_int i t
theorem mixKind_str (prog:Program) (w:World) (x:Str) (t:Tok):(v8 prog w).is (.inr x) (.str x t)=true:=keyIs_str x t
inductive V where
 | non | bl (b:Bool) | int (i:Int) | str (x:Str) | byt (b:Array UInt8) | flt (b:UInt64) | ref (a:Addr) | ty (n:String)
 deriving DecidableEq
def RelV:V→Value→Prop
 | .non,u=>u=Value.none
 | .bl b,u=>u=Value.bool b
 | .int i,u=>∃ t,u=Value.int i t
 | .str x,u=>∃ t,u=Value.str x t
 | .byt b,u=>∃ t,u=Value.bytes b t
 | .flt b,u=>∃ t,u=Value.float b t
 | .ref a,u=>u=Value.ref a
 | .ty n,u=>u=Value.type n
abbrev Vals:List V→List Value→Prop:=Paired RelV
theorem Vals.length {xs:List V} {us:List Value} (r:Vals xs us):xs.length=us.length:=Paired.length r
theorem Vals.get:∀ {xs:List V} {us:List Value} {i:Nat} {x:V},Vals xs us→xs[i]?=some x→∃ u,us[i]?=some u∧RelV x u
 | _,_,_,_,.nil,e=>by simp at e
 | _,_,0,_,.cons r _,e=>by simp at e; subst e; exact ⟨_,rfl,r⟩
 | _,_,i+1,x,.cons _ t,e=>by
  obtain ⟨u,h1,h2⟩:=Vals.get (i:=i) (x:=x) t (by simpa using e);exact ⟨u,by simpa using h1,h2⟩
theorem Vals.append:∀ {xs ys:List V} {us ws:List Value},Vals xs us→Vals ys ws→Vals (xs++ys) (us++ws)
 | _,_,_,_,.nil,s=>s
 | _,_,_,_,.cons r t,s=>.cons r (Vals.append t s)
theorem Vals.take:∀ {xs:List V} {us:List Value} (n:Nat),Vals xs us→Vals (xs.take n) (us.take n)
 | _,_,0,_=>.nil
 | _,_,_+1,.nil=>.nil
 | _,_,n+1,.cons r t=>.cons r (Vals.take n t)
theorem Vals.drop:∀ {xs:List V} {us:List Value} (n:Nat),Vals xs us→Vals (xs.drop n) (us.drop n)
 | _,_,0,r=>r
 | _,_,_+1,.nil=>.nil
 | _,_,n+1,.cons _ t=>Vals.drop n t
def RelO:Option V→Option Value→Prop
 | some v,some u=>RelV v u
 | none,none=>True
 | _,_=>False
def KV {κ:Type}:List (κ×V)→List (κ×Value)→Prop:=Paired fun (p:κ×V) (q:κ×Value)=>p.1=q.1∧RelV p.2 q.2
def kV:Key→V
 | .inl i=>.int i
 | .inr x=>.str x
inductive HO where
 | lst (xs:List V)
 | tup (xs:List V)
 | dK (kvs:List (Key×V)) | dT (kvs:List (List Key×V))
 | set (S:Int→Bool) (n:Nat)
 | ins (C dx:Addr) (fs:List (Str×V))
 | own (x:Addr)
 | xd (fs:List (Str×V))
 | met (f x:Addr)
 | rng (lo hi:Int)
 | frz (o:Obj) (u:HO)
 | tbl (ps:Array Value)
 | ext (φ:Heap→Prop)
abbrev Hp:=Addr→Option HO
def upd (H:Hp) (a:Addr) (o:HO):Hp:=fun b=>if b=a then some o else H b
theorem qz {H:Hp} {a:Addr} {o:HO}:upd H a o a=some o:=by unfold upd; rw [if_pos rfl]
theorem qJ {H:Hp} {a b:Addr} {o:HO} (h:b≠a):upd H a o b=H b:=by unfold upd; rw [if_neg h]
theorem ne_of {H:Hp} {a b:Addr} {o u:HO} (h:H a=some o) (h':H b=some u) (d:o≠u):a≠b:=by
 intro e; subst e; rw [h] at h'; exact d (Ap h')
theorem qQ {H:Hp} {a b:Addr} {o:HO} (h:H a=some o) (h':H b=none):a≠b:=by
 intro e; subst e; rw [h] at h'; cases h'
section
variable (P:Program) (w:World)
def ObjOk (H:Hp) (h:Heap) (a:Addr):HO→Prop
 | .lst xs=>xs.length≤sizeLine∧∃ (its:List Value) (n:Nat),Vals xs its∧h.get? a=some { cls:=.type "list",data:=.seq its.toArray n }
 | .tup xs=>xs.length≤sizeLine∧∃ its:List Value,Vals xs its∧IsTup h a its.toArray
 | .dK kvs=>kvs.length≤sizeLine∧(a==sysModules)=false∧∃ vs,KV kvs vs∧h.DictOf (v8 P w) a vs
 | .dT kvs=>kvs.length≤sizeLine∧(a==sysModules)=false∧∃ xs:List (List Key×Addr×Value),Paired (fun (p:List Key×V) (q:List Key×Addr×Value)=>p.1=q.1∧H q.2.1=some (.tup (p.1.map kV))∧RelV p.2 q.2.2) kvs xs∧∃ o es ep,h.get? a=some o∧o.ExactDict∧o.data=.dict es ep∧es.toList=xs.map (entryOfKey (tupleKind (v8 P w)))∧(xs.map (·.1)).Nodup
 | .set S n=>h.SetOf (intKind P w) a S n
 | .ins C dx fs=>H dx=some (.own a)∧fs.length≤1000∧dx≠a∧h.get? a=some (PySem.W.instObj C dx)∧∃ mA,h.Ns1 dx mA∧(∀ f,RelO (fs.lookup f) (mA f))∧PySem.Within mA (fs.map (·.1))
 | .own _=>∃ o,h.get? a=some o
 | .xd fs=>∃ mA,h.Ns1 a mA∧∀ f,RelO (fs.lookup f) (mA f)
 | .rng lo hi=>∃ t u v,h.get? a=some { cls:=.type "range",data:=.fields #[.int lo t,.int hi u,.int 1 v] }
 | .frz o u=>h.get? a=some o∧ObjOk H h a u
 | .tbl ps=>h.get? a=some { cls:=.none,data:=.fields ps }
 | .met f x=>h.get? a=some (PySem.W.methodObj (.ref f) (.ref x))
 | .ext φ=>φ h∧(∃ o,h.get? a=some o)∧∀ h1 h2:Heap,φ h1→(∀ o,h1.get? a=some o→h2.get? a=some o)→φ h2
def HOk (H:Hp) (h:Heap):Prop:=∀ a o,H a=some o→ObjOk P w H h a o
end
section
variable {P:Program} {w:World} {H H':Hp} {h h':Heap} {a:Addr} {o:HO}
theorem ObjOk.lt (x:ObjOk P w H h a o):a<h.objs.size:=by
 cases o with
 | lst xs=>obtain ⟨_,_,_,_,e⟩:=x; exact Heap.lt_size e
 | tup xs=>obtain ⟨_,_,_,p⟩:=x; exact p.lt
 | dK kvs=>obtain ⟨_,_,_,_,o,_,_,e,_⟩:=x; exact Heap.lt_size e
 | dT kvs=>obtain ⟨_,_,_,_,o,_,_,e,_⟩:=x; exact Heap.lt_size e
 | set S n=>obtain ⟨o,_,_,_,e,_⟩:=x; exact Heap.lt_size e
 | ins C dx fs=>obtain ⟨_,_,_,e,_⟩:=x; exact Heap.lt_size e
 | own y=>obtain ⟨_,e⟩:=x; exact Heap.lt_size e
 | xd fs=>obtain ⟨_,⟨_,_,_,e,_⟩,_⟩:=x; exact Heap.lt_size e
 | rng lo hi=>obtain ⟨_,_,_,e⟩:=x; exact Heap.lt_size e
 | frz ob u=>obtain ⟨e,_⟩:=x; exact Heap.lt_size e
 | tbl ps=>exact Heap.lt_size (show h.get? a=some _ from x)
 | met f y=>exact Heap.lt_size (show h.get? a=some _ from x)
 | ext φ=>obtain ⟨_,⟨_,e⟩,_⟩:=x; exact Heap.lt_size e
theorem Paired.mapP {α β:Type} {F G:α→β→Prop}:∀ {l₁:List α} {l₂:List β},Paired F l₁ l₂→(∀ a b,F a b→G a b)→Paired G l₁ l₂
 | _,_,.nil,_=>.nil
 | _,_,.cons r t,f=>.cons (f _ _ r) (Paired.mapP t f)
theorem ObjOk.stay (x:ObjOk P w H h a o) (k:∀ b u,(b=a∨H b=some (.own a))→h.get? b=some u→h'.get? b=some u)
  (ho:∀ b,H b=some (.own a)→H' b=some (.own a)) (ht:∀ b xs,H b=some (.tup xs)→H' b=some (.tup xs)):ObjOk P w H' h' a o:=by
 induction o with
 | lst xs=>obtain ⟨z,its,n,r,e⟩:=x; exact ⟨z,its,n,r,k _ _ (.inl rfl) e⟩
 | tup xs=>obtain ⟨z,its,r,ob,e,c⟩:=x; exact ⟨z,its,r,ob,k _ _ (.inl rfl) e,c⟩
 | dK kvs=>obtain ⟨z,y,vs,r,ob,es,ep,e,c⟩:=x; exact ⟨z,y,vs,r,ob,es,ep,k _ _ (.inl rfl) e,c⟩
 | dT kvs =>
  obtain ⟨z,y,xs,r,ob,es,ep,e,c⟩:=x;exact ⟨z,y,xs,Paired.mapP r fun p q z=>⟨z.1,ht _ _ z.2.1,z.2.2⟩,ob,es,ep,k _ _ (.inl rfl) e,c⟩
 | set S n=>obtain ⟨ob,es,ep,t,e,c⟩:=x; exact ⟨ob,es,ep,t,k _ _ (.inl rfl) e,c⟩
 | ins C dx fs =>
  obtain ⟨d,z,ne,e,mA,⟨od,es,ep,e2,c⟩,r⟩:=x;exact ⟨ho _ d,z,ne,k _ _ (.inl rfl) e,mA,⟨od,es,ep,k _ _ (.inr d) e2,c⟩,r⟩
 | own y=>obtain ⟨ob,e⟩:=x; exact ⟨ob,k _ _ (.inl rfl) e⟩
 | xd fs=>obtain ⟨mA,⟨od,es,ep,e,c⟩,r⟩:=x; exact ⟨mA,⟨od,es,ep,k _ _ (.inl rfl) e,c⟩,r⟩
 | rng lo hi=>obtain ⟨t,u,v,e⟩:=x; exact ⟨t,u,v,k _ _ (.inl rfl) e⟩
 | frz ob u ih=>obtain ⟨e,q⟩:=x; exact ⟨k _ _ (.inl rfl) e,ih q⟩
 | tbl ps =>
  have e:h.get? a=some { cls:=.none,data:=.fields ps }:=x;show h'.get? a=some { cls:=.none,data:=.fields ps };exact k a _ (.inl rfl) e
 | met f y =>
  have e:h.get? a=some (PySem.W.methodObj (.ref f) (.ref y)):=x;show h'.get? a=some (PySem.W.methodObj (.ref f) (.ref y));exact k a _ (.inl rfl) e
 | ext φ=>obtain ⟨p,⟨o,e⟩,st⟩:=x; exact ⟨st _ _ p fun o q=>k _ _ (.inl rfl) q,⟨o,k _ _ (.inl rfl) e⟩,st⟩
theorem HOk.lt (x:HOk P w H h) (e:H a=some o):a<h.objs.size:=(x a o e).lt
theorem HOk.fresh (x:HOk P w H h) (e:h.objs.size≤a):H a=none:=by
 cases q:H a with
 | none=>rfl
 | some u=>exact absurd (Ag (x.lt q) e) (Nat.lt_irrefl _)
theorem HOk.kept (x:HOk P w H h) (k:∀ b u,h.get? b=some u→h'.get? b=some u):HOk P w H h':=fun a o e =>
 (x a o e).stay (fun b u _ q=>k b u q) (fun _ q=>q) fun _ _ q=>q
theorem HOk.laid (x:HOk P w H h) (k:∀ b u,h.get? b=some u→h'.get? b=some u) (hp:h.objs.size≤a) (new:ObjOk P w (upd H a o) h' a o):HOk P w (upd H a o) h':=fun b u e=>by
 have hn:=x.fresh hp
 by_cases hb:b=a
 ·subst hb; rw [qz] at e; cases e; exact new
 ·rw [qJ hb] at e
  exact (x b u e).stay (fun c v _ q=>k c v q) (fun c q=>by rw [qJ (qQ q hn)]; exact q) fun c xs q=>by rw [qJ (qQ q hn)]; exact q
end
def Rd (H:Hp) (a:Addr) (u:HO):Prop:=H a=some u∨∃ o,H a=some (.frz o u)
theorem Rd.ok {P:Program} {w:World} {H:Hp} {h:Heap} {a:Addr} {u:HO} (r:Rd H a u) (x:HOk P w H h):ObjOk P w H h a u:=by
 rcases r with r | ⟨o,r⟩
 ·exact x a u r
 ·obtain ⟨_,q⟩:=x a _ r
  exact q
def Mut:Option HO→Prop
 | some (.lst _)=>True
 | some (.dK _)=>True
 | some (.dT _)=>True
 | some (.set _ _)=>True
 | some (.ins _ _ _)=>True
 | some (.ext _)=>True
 | _=>False
section
variable {P:Program} {w:World} {H:Hp} {h h':Heap} {x e:Addr} {o':HO}
theorem HOk.write (ok:HOk P w H h) (mu:Mut (H x)) (he:e=x∨H e=some (.own x)) (k:∀ b u,b≠e→h.get? b=some u→h'.get? b=some u) (heo:∃ u,h'.get? e=some u)
  (new:ObjOk P w (upd H x o') h' x o'):HOk P w (upd H x o') h':=fun b u q=>by
 have nown:∀ c y,H c=some (.own y)→c≠x:=fun c y r z=>by subst z; rw [r] at mu; exact mu
 have ntup:∀ c xs,H c=some (.tup xs)→c≠x:=fun c xs r z=>by subst z; rw [r] at mu; exact mu
 by_cases hb:b=x
 ·subst hb; rw [qz] at q; cases q; exact new
 ·rw [qJ hb] at q
  by_cases hbe:b=e
  ·have q':H b=some (.own x):=by
    rcases he with z | z
    ·exact absurd (hbe.trans z) hb
    ·rw [hbe]; exact z
   rw [q] at q'; cases q';obtain ⟨v,hv⟩:=heo;exact ⟨v,by rw [hbe]; exact hv⟩
  ·refine (ok b u q).stay (fun c v hc r=>k c v ?_ r) (fun c r=>by rw [qJ (nown c b r)]; exact r) fun c xs r=>by rw [qJ (ntup c xs r)]; exact r
   rcases hc with rfl | hc
   ·exact hbe
   ·rintro rfl
    rcases he with z | z
    ·exact nown c b hc z
    ·rw [hc] at z; cases z; exact hb rfl
end
structure Un (fs ex:List Addr) (H H':Hp) (h h':Heap):Prop where
 keep:∀ b o,h.get? b=some o→H b=none→b∉fs→b∉ex→h'.get? b=some o
 slot:∀ b o,h.get? b=some o→H b=none→b∈fs→b∉ex→∃ sl,h'.get? b=some { o with slots:=sl }
 free:∀ b o,h.get? b=some o→H b=none→b∉ex→H' b=none
 there:∀ b o,h.get? b=some o→b∉ex→∃ o',h'.get? b=some o'
 tups:∀ b xs,H b=some (.tup xs)→H' b=some (.tup xs)
 frzs:∀ b o u,H b=some (.frz o u)→H' b=some (.frz o u)
 tbls:∀ b ps,H b=some (.tbl ps)→∃ more,H' b=some (.tbl (ps++more))
section
variable {fs fs' ex ex':List Addr} {H H1 H2:Hp} {h h1 h2 h':Heap} {a x e:Addr} {o:HO}
theorem Un.any (u:Un fs ex H H1 h h1) {b:Addr} {ob:Obj} (q:h.get? b=some ob) (n:H b=none) (hx:b∉ex):∃ sl,h1.get? b=some { ob with slots:=sl }:=by
 by_cases hb:b∈fs
 ·exact u.slot b ob q n hb hx
 ·exact ⟨ob.slots,u.keep b ob q n hb hx⟩
theorem Un.kept (k:∀ b u,h.get? b=some u→h'.get? b=some u):Un fs ex H H h h' :=
 ⟨fun b ob q _ _ _=>k b ob q,fun b ob q _ _ _=>⟨ob.slots,k b ob q⟩,fun _ _ _ n _=>n,fun b ob q _=>⟨ob,k b ob q⟩,fun _ _ q=>q,fun _ _ _ q=>q,fun _ ps q=>⟨#[],by rw [q]; simp⟩⟩
theorem Un.refl:Un fs ex H H h h:=Un.kept fun _ _ q=>q
theorem Un.laid (k:∀ b u,h.get? b=some u→h'.get? b=some u) (hp:h.objs.size≤a) (hn:H a=none):Un fs ex H (upd H a o) h h' where
 keep:=fun b u q _ _ _=>k b u q
 slot:=fun b u q _ _ _=>⟨u.slots,k b u q⟩
 free:=fun b u q n _=>by rw [qJ (Nat.ne_of_lt (Ag (Heap.lt_size q) hp))]; exact n
 there:=fun b u q _=>⟨u,k b u q⟩
 tups:=fun b xs q=>by rw [qJ (qQ q hn)]; exact q
 frzs:=fun b u xs q=>by rw [qJ (qQ q hn)]; exact q
 tbls:=fun b ps q=>⟨#[],by rw [qJ (qQ q hn),q]; simp⟩
theorem Un.write (mu:Mut (H x)) (he:e=x∨H e=some (.own x)) (k:∀ b u,b≠e→h.get? b=some u→h'.get? b=some u) (heo:∃ u,h'.get? e=some u):Un fs ex H (upd H x o) h h':=by
 have hx:∀ b,H b=none→b≠x:=fun b n z=>by subst z; rw [n] at mu; exact mu
 have hb:∀ b,H b=none→b≠e:=fun b n z=>by
  subst z
  rcases he with r | r
  ·exact hx b n r
  ·rw [n] at r; cases r
 have hm:∀ b u,H b=some u→¬ Mut (some u)→b≠x:=fun b u q nm z=>by subst z; rw [q] at mu; exact nm mu
 refine ⟨fun b u q n _ _=>k b u (hb b n) q,fun b u q n _ _=>⟨u.slots,k b u (hb b n) q⟩,fun b u q n _=>by rw [qJ (hx b n)]; exact n,fun b u q _=>?_,fun b xs q=>by rw [qJ (hm b _ q fun z=>z)]; exact q,fun b u xs q=>by rw [qJ (hm b _ q fun z=>z)]; exact q,fun b ps q=>⟨#[],by rw [qJ (hm b _ q fun z=>z),q]; simp⟩⟩
 by_cases hbe:b=e
 ·subst hbe; exact heo
 ·exact ⟨u,k b u hbe q⟩
end
def trk (h:Heap) (H:Hp):List Addr:=(List.range h.objs.size).filter fun a=>(H a).isSome
def hidT (h:Heap) (H:Hp):Heap:=PySem.W.hideAll h (trk h H)
theorem hidT_size (h:Heap) (H:Hp):(hidT h H).objs.size=h.objs.size:=PySem.W.hideAll_size _ _
theorem hidT_get {h:Heap} {H:Hp} {b:Addr} {o:Obj} (e:h.get? b=some o) (n:H b=none):(hidT h H).get? b=some o :=
 PySem.W.hideAll_get _ e fun hm=>by
  have q:(H b).isSome=true:=(List.mem_filter.mp hm).2;rw [n] at q; simp at q
theorem of_hidT {h:Heap} {H:Hp} {b:Addr} {o:Obj} (e:(hidT h H).get? b=some o):h.get? b=some o∧H b=none:=by
 have e':h.get? b=some o:=PySem.W.of_hideAll (trk h H) e;refine ⟨e',?_⟩
 cases q:H b with
 | none=>rfl
 | some x =>
  have hm:b∈trk h H:=List.mem_filter.mpr ⟨List.mem_range.mpr (Heap.lt_size e'),by simp [q]⟩;have z:(hidT h H).get? b=none:=PySem.W.hideAll_none (trk h H) hm;rw [z] at e; cases e
def allNews (g h:Heap) (L:Addr):List (Addr×Obj):=(List.range h.objs.size).filterMap fun a=>if a=L∨(g.get? a).isSome=true then none else (h.get? a).map fun o=>(a,o)
def rest (g h:Heap) (L d:Addr):List (Addr×Obj):=(allNews g h L).filter fun p=>decide (p.1≠d)
structure Mod (K:As) (mg:Str→Option Value) (base:Heap):Prop where
 kin:K.In base
 glob:base.Ns mainGlobals mg
 blt:∃ mb,base.Ns builtinsNs mb∧∀ x:Str,x ≠ "__name__" → mb x=bootBuiltins x
 nolimit:base.NoLimit
structure Cx where
 prog:Program
 w:World
 K:As
 mg:Str→Option Value
 base:Heap
 A:Around
 N:List Str
 s₀:Shared
 H₀:Hp
 env:Env
 outer:List Env
 stack:List Env
 ex:List Addr
 fn:Str→Bool
 calm:Bool
 pn:List (Addr×Obj)
 xe:Value→Shared→Prop
def frs (l:List Env):List Addr:=l.filterMap (·.frame)
abbrev Cx.fs (X:Cx):List Addr:=frs X.outer
def Vis (sc:Scope) (x:Str):Prop:=sc.names.lookup x=some .local∨sc.names.lookup x=some .cell∨sc.names.lookup x=some .free
def Loc (sc:Scope) (x:Str):Prop:=sc.names.lookup x=some .local∨sc.names.lookup x=some .cell
def Look (env:Env) (h:Heap) (m:Str→Option Value) (x:Str) (u:Value):Prop :=
 (env.kindOf x=some .local∧m x=some u)∨((env.kindOf x=some .cell∨env.kindOf x=some .free)∧∃ c,env.cells.lookup x=some c∧h.IsCell c (some u))
structure Cx.Ok (X:Cx):Prop where
 mod:Mod X.K X.mg X.base
 kind:X.env.scope.kind=.function
 glob:X.env.globals=mainGlobals
 blt:X.env.builtins=builtinsNs
 above:X.s₀.heap.objs.size≤X.env.locals
 inj:∀ x y c,X.env.cells.lookup x=some c→X.env.cells.lookup y=some c→x=y
 has:∀ x,(X.env.kindOf x=some .cell∨X.env.kindOf x=some .free)→∃ c,X.env.cells.lookup x=some c
 cab:∀ x c,X.fn x=true→X.env.cells.lookup x=some c→X.s₀.heap.objs.size≤c
 hd:X.calm=true→X.A.handled=none
 frames:X.A.frames=some X.stack
 stk:X.stack=X.outer∨(X.stack=X.env::X.outer∧X.env.frame=some X.env.locals)
 exf:∀ b∈X.ex,b≠X.env.locals∧∀ x c,X.env.cells.lookup x=some c→c≠b
 bs:∀ b o,X.base.get? b=some o→X.s₀.heap.get? b=some o∧X.H₀ b=none
 bsz:X.base.objs.size≤X.s₀.heap.objs.size
 noex:∀ b o,X.base.get? b=some o→b∉X.ex
 exfs:∀ b∈X.ex,b∉X.fs
 funs:X.s₀.heap.FunFrames X.base X.outer
 frf:∀ b∈X.fs,X.H₀ b=none
structure Inv (X:Cx) (pins:List (Addr×Obj)) (σ:List (Option V)) (H:Hp) (s:Shared):Prop where
 ok:X.Ok
 os:s.os=X.s₀.os
 bare:AllBare s.gens
 base:Un X.fs X.ex X.H₀ H X.s₀.heap s.heap
 loc:∃ m,s.heap.Ns X.env.locals m∧∀ (i:Nat) (x:Str) (v:V),X.N[i]?=some x→σ[i]?=some (some v)→Vis X.env.scope x→∃ u,RelV v u∧Look X.env s.heap m x u
 cell:∀ x c,X.env.cells.lookup x=some c→∃ v,s.heap.IsCell c v
 free:H X.env.locals=none
 freeC:∀ x c,X.env.cells.lookup x=some c→H c=none
 pin:∀ p∈X.pn++pins,s.heap.get? p.1=some p.2∧H p.1=none∧p.1≠X.env.locals∧p.1∉X.fs∧∀ v,p.2.data≠.cell v
 hok:HOk X.prog X.w H s.heap
 len:σ.length=X.N.length
section
variable {X:Cx} {pins:List (Addr×Obj)} {σ:List (Option V)} {H H':Hp} {s:Shared} {h':Heap}
theorem Cx.Ok.nofr (ok:X.Ok) {b:Addr} {o:Obj} (e:X.base.get? b=some o):b∉X.fs:=fun hb=>by
 have:=(ok.funs.mem hb).1;rw [e] at this; cases this
theorem Inv.bs (I:Inv X pins σ H s):∀ b o,X.base.get? b=some o→s.heap.get? b=some o∧H b=none:=fun b o e =>
 ⟨I.base.keep b o (I.ok.bs b o e).1 (I.ok.bs b o e).2 (I.ok.nofr e) (I.ok.noex b o e),I.base.free b o (I.ok.bs b o e).1 (I.ok.bs b o e).2 (I.ok.noex b o e)⟩
theorem Inv.bk (I:Inv X pins σ H s):∀ b o,X.base.get? b=some o→s.heap.get? b=some o:=fun b o e=>(I.bs b o e).1
theorem Inv.mod (I:Inv X pins σ H s):Mod X.K X.mg X.base:=I.ok.mod
theorem Inv.kIn (I:Inv X pins σ H s):X.K.In s.heap:=I.ok.mod.kin.keeps I.bk
theorem Inv.lt (I:Inv X pins σ H s):X.env.locals<s.heap.objs.size:=let ⟨_,hn,_⟩:=I.loc; hn.lt
theorem Inv.sz (I:Inv X pins σ H s):X.s₀.heap.objs.size≤s.heap.objs.size:=Ar I.ok.above (Nat.le_of_lt I.lt)
theorem Inv.nofs (I:Inv X pins σ H s) {a:Addr} (h:s.heap.objs.size≤a):a∉X.fs:=fun hb=>by
 obtain ⟨_,o,ho,_⟩:=I.ok.funs.mem hb;exact absurd (Ag (Heap.lt_size ho) (Ar I.sz h)) (Nat.lt_irrefl _)
theorem Inv.cne (I:Inv X pins σ H s):∀ x c,X.env.cells.lookup x=some c→c≠X.env.locals:=fun x c e z=>by
 obtain ⟨v,o,ho,hd⟩:=I.cell x c e;obtain ⟨m,⟨o',es,ep,ho',hd',_⟩,_⟩:=I.loc;rw [z,ho'] at ho; cases ho; rw [hd'] at hd; cases hd
theorem Inv.funs (I:Inv X pins σ H s):s.heap.FunFrames X.base X.outer:=by
 have all:∀ (l:List Env),(∀ b∈frs l,b∈X.fs)→X.s₀.heap.FunFrames X.base l→s.heap.FunFrames X.base l:=by
  intro l
  induction l with
  | nil=>intro _ _; trivial
  | cons env r ih =>
   intro hs hl;obtain ⟨hk,⟨L,o,hf,hn,ho,hd⟩,hr⟩:=hl;have hL:L∈X.fs:=hs L (by unfold frs; rw [List.filterMap_cons,hf]; exact Af);obtain ⟨sl,e⟩:=I.base.slot L o ho (I.ok.frf L hL) hL fun z=>I.ok.exfs L z hL
   exact ⟨hk,⟨L,_,hf,hn,e,hd⟩,ih (fun b hb=>hs b (by unfold frs; rw [List.filterMap_cons,hf]; exact A9 _ hb)) hr⟩
 exact all X.outer (fun _ hb=>hb) I.ok.funs
theorem Inv.stack (I:Inv X pins σ H s):s.heap.FunFrames X.base X.stack:=by
 rcases I.ok.stk with e | ⟨e,hf⟩
 ·rw [e]; exact I.funs
 ·rw [e]
  obtain ⟨m,hn,_⟩:=I.loc;refine .cons (by rw [I.ok.kind]; decide) hf hn ?_ I.funs;exact Heap.get?_none_of_le (Ar I.ok.bsz I.ok.above)
theorem Inv.stkSub (I:Inv X pins σ H s):∀ b∈frs X.stack,b∈X.env.locals::X.fs:=fun b hb=>by
 rcases I.ok.stk with e | ⟨e,hf⟩
 ·rw [e] at hb; exact A9 _ hb
 ·rw [e] at hb
  unfold frs at hb;rw [List.filterMap_cons,hf] at hb;exact hb
theorem Inv.stkFree (I:Inv X pins σ H s):∀ b∈frs X.stack,H b=none:=fun b hb=>by
 rcases List.mem_cons.mp (I.stkSub b hb) with e | hb
 ·rw [e]; exact I.free
 ·obtain ⟨_,o,ho,_⟩:=I.ok.funs.mem hb
  exact I.base.free b o ho (I.ok.frf b hb) fun z=>I.ok.exfs b z hb
theorem Inv.step {g':Array GenState} {t':Nat} {d':Drawn} {ch:List Addr} (I:Inv X pins σ H s)
  (hch:∀ b∈ch,(b∈X.ex∨X.s₀.heap.objs.size≤b)∧b≠X.env.locals∧(∀ x c,X.env.cells.lookup x=some c→c≠b)∧∀ p∈X.pn++pins,p.1≠b)
  (keep:∀ b o,b≠X.env.locals→b∉X.fs→b∉ch→s.heap.get? b=some o→H b=none→h'.get? b=some o)
  (slot:∀ b o,b≠X.env.locals→b∈X.fs→b∉ch→s.heap.get? b=some o→H b=none→∃ sl,h'.get? b=some { o with slots:=sl }) (free:∀ b o,b∉ch→s.heap.get? b=some o→H b=none→H' b=none)
  (there:∀ b o,b∉ch→s.heap.get? b=some o→∃ o',h'.get? b=some o')
  (tups:∀ b xs,H b=some (.tup xs)→H' b=some (.tup xs)) (frzs:∀ b o u,H b=some (.frz o u)→H' b=some (.frz o u)) (tbls:∀ b ps,H b=some (.tbl ps)→∃ more,H' b=some (.tbl (ps++more)))
  (ns:∀ m,s.heap.Ns X.env.locals m→h'.Ns X.env.locals m) (hok:HOk X.prog X.w H' h') (hg:AllBare g') :
  Inv X pins σ H' { s with heap:=h',gens:=g',drawn:=d',toks:=t' }:=by
 have neL:∀ b o,X.s₀.heap.get? b=some o→b≠X.env.locals:=fun b o e=>Nat.ne_of_lt (Ag (Heap.lt_size e) I.ok.above)
 have neC:∀ b o,X.s₀.heap.get? b=some o→b∉X.ex→b∉ch:=fun b o e hx hb=>by
  rcases (hch b hb).1 with z | z
  ·exact hx z
  ·exact absurd (Ag (Heap.lt_size e) z) (Nat.lt_irrefl _)
 have cellK:∀ x c,X.env.cells.lookup x=some c→∀ v,s.heap.IsCell c v→h'.IsCell c v:=fun x c e v ⟨o,ho,hd⟩=>by
  have nch:c∉ch:=fun z=>(hch c z).2.2.1 x c e rfl
  by_cases hc:c∈X.fs
  ·obtain ⟨sl,q⟩:=slot c o (I.cne x c e) hc nch ho (I.freeC x c e)
   exact ⟨_,q,hd⟩
  ·exact ⟨o,keep c o (I.cne x c e) hc nch ho (I.freeC x c e),hd⟩
 refine ⟨I.ok,I.os,hg,⟨fun b o e n hb hx=>?_,fun b o e n hb hx=>?_,fun b o e n hx=>?_,fun b o e hx=>?_,fun b xs e=>tups b xs (I.base.tups b xs e),fun b o xs e=>frzs b o xs (I.base.frzs b o xs e),fun b ps e=>?_⟩,?_,fun x c e=>?_,?_,fun x c e=>?_,fun p hp=>?_,hok,I.len⟩
 ·exact keep b o (neL b o e) hb (neC b o e hx) (I.base.keep b o e n hb hx) (I.base.free b o e n hx)
 ·obtain ⟨sl,e1⟩:=I.base.slot b o e n hb hx
  obtain ⟨sl',e2⟩:=slot b _ (neL b o e) hb (neC b o e hx) e1 (I.base.free b o e n hx);exact ⟨sl',e2⟩
 ·obtain ⟨o',e1⟩:=I.base.there b o e hx
  exact free b o' (neC b o e hx) e1 (I.base.free b o e n hx)
 ·obtain ⟨o',e1⟩:=I.base.there b o e hx
  exact there b o' (neC b o e hx) e1
 ·obtain ⟨m1,e1⟩:=I.base.tbls b ps e
  obtain ⟨m2,e2⟩:=tbls b _ e1;exact ⟨m1++m2,by rw [e2,Array.append_assoc]⟩
 ·obtain ⟨m,hn,hl⟩:=I.loc
  refine ⟨m,ns m hn,fun i x v e1 e2 e3=>?_⟩;obtain ⟨u,r,l⟩:=hl i x v e1 e2 e3;refine ⟨u,r,?_⟩
  rcases l with l | ⟨k,c,e,z⟩
  ·exact .inl l
  ·exact .inr ⟨k,c,e,cellK x c e _ z⟩
 ·obtain ⟨v,z⟩:=I.cell x c e
  exact ⟨v,cellK x c e v z⟩
 ·obtain ⟨m,⟨o,_,_,ho,_⟩,_⟩:=I.loc
  exact free _ o (fun z=>(hch _ z).2.1 rfl) ho I.free
 ·obtain ⟨v,o,ho,hd⟩:=I.cell x c e
  exact free c o (fun z=>(hch c z).2.2.1 x c e rfl) ho (I.freeC x c e)
 ·obtain ⟨e,n,ne,nf,d⟩:=I.pin p hp
  have nch:p.1∉ch:=fun z=>(hch p.1 z).2.2.2 p hp rfl
  exact ⟨keep p.1 p.2 ne nf nch e n,free p.1 p.2 nch e n,ne,nf,d⟩
theorem Inv.un {t':Nat} (I:Inv X pins σ H s) (u:Un X.fs [] H H' s.heap h') (hok:HOk X.prog X.w H' h'):Inv X pins σ H' { s with heap:=h',toks:=t' }:=by
 obtain ⟨m,⟨o,es,ep,ho,r⟩,_⟩:=id I.loc;obtain ⟨sl,hL⟩:=u.any ho I.free (by simp);exact I.step (g':=s.gens) (d':=s.drawn) (ch:=[]) (fun _ z=>nomatch z) (fun b o _ hb _ e n=>u.keep b o e n hb (by simp)) (fun b o _ hb _ e n=>u.slot b o e n hb (by simp)) (fun b o _ e n=>u.free b o e n (by simp)) (fun b o _ e=>u.there b o e (by simp)) u.tups u.frzs u.tbls (fun m' hm=>by
  obtain ⟨o',es',ep',ho',r'⟩:=hm;rw [ho] at ho'; cases ho';exact ⟨_,es',ep',hL,r'⟩) hok I.bare
theorem Inv.call {g':Array GenState} {t':Nat} {d':Drawn} {ch:List Addr} (I:Inv X pins σ H s) (u:Un (frs X.stack) ch H H' s.heap h') (hok:HOk X.prog X.w H' h') (hg:AllBare g')
  (hch:∀ b∈ch,(b∈X.ex∨X.s₀.heap.objs.size≤b)∧b≠X.env.locals∧(∀ x c,X.env.cells.lookup x=some c→c≠b)∧∀ p∈X.pn++pins,p.1≠b) :
  Inv X pins σ H' { s with heap:=h',gens:=g',drawn:=d',toks:=t' }:=by
 obtain ⟨m,⟨o,es,ep,ho,r⟩,_⟩:=id I.loc;obtain ⟨sl,hL⟩:=u.any ho I.free fun z=>(hch _ z).2.1 rfl
 exact I.step (ch:=ch) hch (fun b o hL hb hc e n=>u.keep b o e n (fun z=>(List.mem_cons.mp (I.stkSub b z)).elim hL hb) hc) (fun b o _ _ hc e n=>u.any e n hc) (fun b o hc e n=>u.free b o e n hc) (fun b o hc e=>u.there b o e hc) u.tups u.frzs u.tbls (fun m' hm=>by
  obtain ⟨o',es',ep',ho',r'⟩:=hm;rw [ho] at ho'; cases ho';exact ⟨_,es',ep',hL,r'⟩) hok hg
theorem Inv.turned {t':Nat} {it:Addr} (I:Inv X pins σ H s) (k:∀ b o,b≠it→s.heap.get? b=some o→h'.get? b=some o) (hn:H it=none) (hL:it≠X.env.locals)
  (h1:it∈X.ex∨X.s₀.heap.objs.size≤it) (h2:∀ x c,X.env.cells.lookup x=some c→c≠it) (h3:∀ p∈X.pn++pins,p.1≠it):Inv X pins σ H { s with heap:=h',toks:=t' }:=by
 have nit:∀ b u,H b=some u→b≠it:=fun b u e z=>by rw [z,hn] at e; cases e
 refine I.step (g':=s.gens) (d':=s.drawn) (ch:=[it]) (fun b hb=>?_) (fun b o _ _ hc e _=>k b o (fun z=>hc (by simp [z])) e) (fun b o _ _ hc e _=>⟨o.slots,k b o (fun z=>hc (by simp [z])) e⟩) (fun _ _ _ _ n=>n)
  (fun b o hc e=>⟨o,k b o (fun z=>hc (by simp [z])) e⟩) (fun _ _ e=>e) (fun _ _ _ e=>e) (fun b ps e=>⟨#[],by rw [e]; simp⟩) (fun m hm=>?_) (fun b u e=>?_) I.bare
 ·have e:b=it:=by simpa using hb
  subst e;exact ⟨h1,hL,h2,h3⟩
 ·obtain ⟨o,es,ep,ho,r⟩:=hm
  exact ⟨o,es,ep,k _ o (Ne.symm hL) ho,r⟩
 ·refine (I.hok b u e).stay (fun c v hc q=>k c v ?_ q) (fun _ q=>q) fun _ _ q=>q
  rcases hc with z | z
  ·rw [z]; exact nit b u e
  ·exact nit c _ z
theorem Inv.tok (I:Inv X pins σ H s) (t:Nat):Inv X pins σ H { s with toks:=t }:=I.un (h':=s.heap) (t':=t) Un.refl I.hok
theorem Inv.kept {t':Nat} (I:Inv X pins σ H s) (k:∀ b u,s.heap.get? b=some u→h'.get? b=some u):Inv X pins σ H { s with heap:=h',toks:=t' }:=I.un (Un.kept k) (I.hok.kept k)
theorem Inv.laid {a:Addr} {o:HO} {t':Nat} (I:Inv X pins σ H s) (k:∀ b u,s.heap.get? b=some u→h'.get? b=some u) (hp:s.heap.objs.size≤a) (new:ObjOk X.prog X.w (upd H a o) h' a o) :
  Inv X pins σ (upd H a o) { s with heap:=h',toks:=t' }:=I.un (Un.laid k hp (I.hok.fresh hp)) (I.hok.laid k hp new)
theorem Inv.write {x e:Addr} {o:HO} {t':Nat} (I:Inv X pins σ H s) (mu:Mut (H x)) (he:e=x∨H e=some (.own x)) (k:∀ b u,b≠e→s.heap.get? b=some u→h'.get? b=some u) (heo:∃ u,h'.get? e=some u)
  (new:ObjOk X.prog X.w (upd H x o) h' x o):Inv X pins σ (upd H x o) { s with heap:=h',toks:=t' }:=I.un (Un.write mu he k heo) (I.hok.write mu he k heo new)
theorem Inv.weak {σ':List (Option V)} (I:Inv X pins σ H s) (hl:σ'.length=σ.length) (w:∀ (i:Nat) v,σ'[i]?=some (some v)→σ[i]?=some (some v)):Inv X pins σ' H s :=
 ⟨I.ok,I.os,I.bare,I.base,let ⟨m,hn,hl'⟩:=I.loc; ⟨m,hn,fun i x v e1 e2 e3=>hl' i x v e1 (w i v e2) e3⟩,I.cell,I.free,I.freeC,I.pin,I.hok,hl.trans I.len⟩
theorem Inv.pins_of {pins':List (Addr×Obj)} (I:Inv X pins σ H s) (h:∀ p∈pins',s.heap.get? p.1=some p.2∧H p.1=none∧p.1≠X.env.locals∧p.1∉X.fs∧∀ v,p.2.data≠.cell v):Inv X pins' σ H s :=
 ⟨I.ok,I.os,I.bare,I.base,I.loc,I.cell,I.free,I.freeC,fun p hp=>(Am.mp hp).elim (fun z=>I.pin p (Ab _ z)) (h p),I.hok,I.len⟩
theorem nodup_ix {N:List Str} (hN:N.Nodup) {i j:Nat} {x:Str} (a:N[i]?=some x) (b:N[j]?=some x):i=j:=by
 obtain ⟨h1,e1⟩:=A1.mp a;obtain ⟨h2,e2⟩:=A1.mp b;exact (List.getElem_inj hN).mp (e1.trans e2.symm)
theorem store_ok2 {M:Model} {A:Around} {E:Value→Shared→Prop} {i:Nat} {x:Str} {v:V} {u:Value} {Q:Unit→Shared→Prop} (I:Inv X pins σ H s) (hN:X.N.Nodup) (hi:X.N[i]?=some x) (hx:Loc X.env.scope x) (r:RelV v u)
  (h:∀ s',Inv X pins (σ.set i (some v)) H s'→(∃ a,Heap.SameBut a s.heap s'.heap∧(a=X.env.locals∨X.env.cells.lookup x=some a))→Q () s') (hf:X.fn x=true∨X.env.scope.names.lookup x=some .local:=by first | exact .inl rfl | exact .inr rfl | assumption):wpAny M A (storeName X.env x u) Q E s:=by
 obtain ⟨m,hn,hl⟩:=id I.loc;have hcls:(X.env.scope.kind==.class||(X.env.scope.kind==.module&&X.env.locals != X.env.globals))=false:=by rw [I.ok.kind]; rfl
 have hiσ:i<σ.length:=by rw [I.len]; exact (A1.mp hi).1
 have cne:=I.cne;have tracked:∀ {a:Addr} {h':Heap},(∃ o,s.heap.get? a=some o∧H a=none)→Heap.SameBut a s.heap h'→HOk X.prog X.w H h':=fun {a h'} ha hs b ob e=>by
  obtain ⟨_,_,hfree⟩:=ha;refine (I.hok b ob e).stay (fun c w' hc q=>(hs.2 c ?_).trans q) (fun _ q=>q) fun _ _ q=>q
  rintro rfl
  rcases hc with rfl | hc
  ·rw [hfree] at e; cases e
  ·rw [hfree] at hc; cases hc
 rcases hx with hk | hk
 ·refine wpAny_storeName_local hk hn (fun h' hn' hs=>?_) hcls
  obtain ⟨oL,_,_,hoL,_⟩:=id hn;refine h _ ⟨I.ok,I.os,I.bare,⟨fun b o e n hb hx=>?_,fun b o e n hb hx=>?_,I.base.free,fun b o e hx=>?_,I.base.tups,I.base.frzs,I.base.tbls⟩,⟨_,hn',fun j y v' e1 e2 e3=>?_⟩,fun y c e=>?_,I.free,I.freeC,fun p hp=>?_,tracked ⟨oL,hoL,I.free⟩ hs,by simpa using I.len⟩ ⟨_,hs,.inl rfl⟩
  ·exact (hs.2 b (Nat.ne_of_lt (Ag (Heap.lt_size e) I.ok.above))).trans (I.base.keep b o e n hb hx)
  ·obtain ⟨sl,e1⟩:=I.base.slot b o e n hb hx
   exact ⟨sl,(hs.2 b (Nat.ne_of_lt (Ag (Heap.lt_size e) I.ok.above))).trans e1⟩
  ·obtain ⟨o',e1⟩:=I.base.there b o e hx
   exact ⟨o',(hs.2 b (Nat.ne_of_lt (Ag (Heap.lt_size e) I.ok.above))).trans e1⟩
  ·by_cases hj:j=i
   ·subst hj
    rw [hi] at e1; cases e1;rw [List.getElem?_set_self hiσ] at e2
    cases e2
    exact ⟨u,r,.inl ⟨hk,by simp⟩⟩
   ·rw [List.getElem?_set_ne (Ne.symm hj)] at e2
    obtain ⟨u',r',q⟩:=hl j y v' e1 e2 e3;refine ⟨u',r',?_⟩
    rcases q with ⟨k,e⟩ | ⟨k,c,e,z⟩
    ·refine .inl ⟨k,?_⟩
     have:y≠x:=fun e=>hj (nodup_ix hN e1 (e ▸ hi))
     simp [this,e]
    ·exact .inr ⟨k,c,e,z.sameBut hs (cne y c e)⟩
  ·obtain ⟨w',z⟩:=I.cell y c e
   exact ⟨w',z.sameBut hs (cne y c e)⟩
  ·obtain ⟨e,n,ne,nf,d⟩:=I.pin p hp
   exact ⟨(hs.2 p.1 ne).trans e,n,ne,nf,d⟩
 ·have hfn:X.fn x=true:=by
   rcases hf with z | z
   ·exact z
   ·rw [z] at hk; cases hk
  obtain ⟨c,hc⟩:=I.ok.has x (.inl hk);obtain ⟨w',z⟩:=I.cell x c hc;refine wpAny_storeName_cell I.ok.kind hk hc z (fun h' hc' hs=>?_);obtain ⟨oc,hoc,hocd⟩:=id z;refine h { s with heap:=h' } ⟨I.ok,I.os,I.bare,⟨fun b o e n hb hx=>?_,fun b o e n hb hx=>?_,I.base.free,fun b o e hx=>?_,I.base.tups,I.base.frzs,I.base.tbls⟩,⟨m,hn.sameBut hs (Ne.symm (cne x c hc)),fun j y v' e1 e2 e3=>?_⟩,fun y c' e=>?_,I.free,I.freeC,fun p hp=>?_,tracked ⟨oc,hoc,I.freeC x c hc⟩ hs,by simpa using I.len⟩ ⟨c,hs,.inr hc⟩
  ·exact (hs.2 b (Nat.ne_of_lt (Ag (Heap.lt_size e) (I.ok.cab x c hfn hc)))).trans (I.base.keep b o e n hb hx)
  ·obtain ⟨sl,e1⟩:=I.base.slot b o e n hb hx
   exact ⟨sl,(hs.2 b (Nat.ne_of_lt (Ag (Heap.lt_size e) (I.ok.cab x c hfn hc)))).trans e1⟩
  ·obtain ⟨o',e1⟩:=I.base.there b o e hx
   exact ⟨o',(hs.2 b (Nat.ne_of_lt (Ag (Heap.lt_size e) (I.ok.cab x c hfn hc)))).trans e1⟩
  ·by_cases hj:j=i
   ·subst hj
    rw [hi] at e1; cases e1;rw [List.getElem?_set_self hiσ] at e2
    cases e2
    exact ⟨u,r,.inr ⟨.inl hk,c,hc,hc'⟩⟩
   ·rw [List.getElem?_set_ne (Ne.symm hj)] at e2
    obtain ⟨u',r',q⟩:=hl j y v' e1 e2 e3;refine ⟨u',r',?_⟩
    rcases q with q | ⟨k,c',e,z'⟩
    ·exact .inl q
    ·refine .inr ⟨k,c',e,z'.sameBut hs ?_⟩
     rintro rfl;exact hj (nodup_ix hN e1 (I.ok.inj _ _ _ e hc ▸ hi))
  ·by_cases hcc:c'=c
   ·subst hcc; exact ⟨_,hc'⟩
   ·obtain ⟨w2,z2⟩:=I.cell y c' e
    exact ⟨w2,z2.sameBut hs hcc⟩
  ·obtain ⟨e,n,ne,nf,d⟩:=I.pin p hp
   refine ⟨(hs.2 p.1 ?_).trans e,n,ne,nf,d⟩;intro q;rw [q,hoc] at e;have q':oc=p.2:=Ap e;exact d w' (by rw [← q']; exact hocd)
theorem store_ok {M:Model} {A:Around} {E:Value→Shared→Prop} {i:Nat} {x:Str} {v:V} {u:Value} {Q:Unit→Shared→Prop} (I:Inv X pins σ H s) (hN:X.N.Nodup) (hi:X.N[i]?=some x) (hx:Loc X.env.scope x) (r:RelV v u)
  (h:∀ s',Inv X pins (σ.set i (some v)) H s'→Q () s') (hf:X.fn x=true∨X.env.scope.names.lookup x=some .local:=by first | exact .inl rfl | exact .inr rfl | assumption):wpAny M A (storeName X.env x u) Q E s :=
 store_ok2 I hN hi hx r (fun s' I' _=>h s' I') hf
theorem Inv.call' {s':Shared} {ch:List Addr} (I:Inv X pins σ H s) (ho:s'.os=s.os) (u:Un (frs X.stack) ch H H' s.heap s'.heap) (hok:HOk X.prog X.w H' s'.heap) (hg:AllBare s'.gens)
  (hch:∀ b∈ch,(b∈X.ex∨X.s₀.heap.objs.size≤b)∧b≠X.env.locals∧(∀ x c,X.env.cells.lookup x=some c→c≠b)∧∀ p∈X.pn++pins,p.1≠b):Inv X pins σ H' s':=by
 obtain ⟨h',g',d',t',o'⟩:=s';have e:o'=s.os:=ho;subst e;exact I.call (g':=g') (t':=t') (d':=d') u hok hg hch
end
abbrev XK:=Value→Option Addr→Hp→Prop
abbrev St:=List (Option V)
abbrev VK:=V→Hp→Prop
abbrev TE:=St→Hp→VK→Prop
abbrev TT:=St→Hp→(Bool→Hp→Prop)→Prop
abbrev TA:=St→Hp→(List V→Hp→Prop)→Prop
structure Ends where
 nx:St→Hp→Prop
 rt:VK
 bk:St→Hp→Prop:=fun _ _=>False
 ct:St→Hp→Prop:=fun _ _=>False
abbrev TS:=Ends→St→Hp→Prop
def EP (X:Cx) (pins:List (Addr×Obj)) (σ:St) (Q:VK) (u:Value) (s':Shared):Prop:=∃ v H',Inv X pins σ H' s'∧RelV v u∧Q v H'
def TP (X:Cx) (pins:List (Addr×Obj)) (σ:St) (Q:Bool→Hp→Prop) (b:Bool) (s':Shared):Prop:=∃ H',Inv X pins σ H' s'∧Q b H'
def AP (X:Cx) (pins:List (Addr×Obj)) (σ:St) (Q:List V→Hp→Prop) (us:List Value) (s':Shared):Prop:=∃ vs H',Inv X pins σ H' s'∧Vals vs us∧Q vs H'
def SP (X:Cx) (pins:List (Addr×Obj)) (D:Ends) (f:Flow) (s':Shared):Prop :=
 match f with
 | .next=>∃ σ' H',Inv X pins σ' H' s'∧D.nx σ' H'
 | .brk=>∃ σ' H',Inv X pins σ' H' s'∧D.bk σ' H'
 | .cont=>∃ σ' H',Inv X pins σ' H' s'∧D.ct σ' H'
 | .ret u=>∃ v σ' H',Inv X pins σ' H' s'∧RelV v u∧D.rt v H'
def PE (X:Cx) (e:Expr) (t:TE):Prop :=
 ∀ (pins:List (Addr×Obj)) (s:Shared) (σ:St) (H:Hp) (Q:VK),Inv X pins σ H s→t σ H Q→wpAny (model X.prog X.w) X.A (eval e X.env) (EP X pins σ Q) X.xe s
def PT (X:Cx) (e:Expr) (t:TT):Prop :=
 ∀ (pins:List (Addr×Obj)) (s:Shared) (σ:St) (H:Hp) (Q:Bool→Hp→Prop),Inv X pins σ H s→t σ H Q→wpAny (model X.prog X.w) X.A (isTrue e X.env (eval e X.env)) (TP X pins σ Q) X.xe s
def PW (X:Cx) (e:Expr) (t:TT):Prop :=
 ∀ (whole:Sem Value) (pins:List (Addr×Obj)) (s:Shared) (σ:St) (H:Hp) (Q:Bool→Hp→Prop),Inv X pins σ H s→t σ H Q→wpAny (model X.prog X.w) X.A (isTrue e X.env whole) (TP X pins σ Q) X.xe s
theorem PW.pt {X:Cx} {e:Expr} {t:TT} (h:PW X e t):PT X e t:=h _
def PA (X:Cx) (es:List Expr) (t:TA):Prop :=
 ∀ (pos:Pos) (pins:List (Addr×Obj)) (s:Shared) (σ:St) (H:Hp) (Q:List V→Hp→Prop),Inv X pins σ H s→t σ H Q→wpAny (model X.prog X.w) X.A (spliced (backTo pos (starEach es X.env))) (AP X pins σ Q) X.xe s
def PS (X:Cx) (st:Stmt) (t:TS):Prop :=
 ∀ (pins:List (Addr×Obj)) (s:Shared) (σ:St) (H:Hp) (D:Ends),Inv X pins σ H s→t D σ H→wpAny (model X.prog X.w) X.A (exec st X.env) (SP X pins D) X.xe s
def PSs (X:Cx) (st:List Stmt) (t:TS):Prop :=
 ∀ (pins:List (Addr×Obj)) (s:Shared) (σ:St) (H:Hp) (D:Ends),Inv X pins σ H s→t D σ H→wpAny (model X.prog X.w) X.A (execs st X.env) (SP X pins D) X.xe s
theorem thn {α:Type} {t:Sem α} {Q Q':α→Shared→Prop} {M:Model} {A:Around} {E:Value→Shared→Prop} {s:Shared} (h:wpAny M A t Q E s) (hQ:∀ a s,Q a s→Q' a s):wpAny M A t Q' E s:=wpAny_mono h hQ fun _ _ x=>x
section
variable {X:Cx}
def tVar (i:Nat):TE:=fun σ H Q=>∃ v,σ[i]?=some (some v)∧Q v H
def tC (v:V):TE:=fun _ H Q=>Q v H
theorem pe_var {i:Nat} {x:Str} {pos:Pos} (hN:X.N[i]?=some x) (hv:Vis X.env.scope x) (hd:(x==("__debug__" : Str))=false:=by decide) (hcd:(x==("__classdict__" : Str))=false:=by decide):PE X (.Name x pos) (tVar i):=by
 intro pins s σ H Q I h;obtain ⟨v,e,h⟩:=h;obtain ⟨m,hn,hl⟩:=I.loc;obtain ⟨u,r,l⟩:=hl i x v hN e hv;have fin:EP X pins σ Q u s:=⟨v,H,I,r,h⟩
 rcases l with ⟨hk,hm⟩ | ⟨hk,c,hc,hcell⟩
 ·exact wpAny_Name (wpAny_loadName_local I.ok.kind hk hn hm fin) hd
 ·rcases hk with hk | hk
  ·exact wpAny_Name (wpAny_loadName_cell I.ok.kind hk hc hcell fin) hd
  ·exact wpAny_Name (wpAny_loadName_free I.ok.kind hk hc hcell fin hcd) hd
theorem qk {i j pos}:PE X (.Constant (.int i) j pos) (tC (.int i)):=fun _ _ _ H _ I h=>wpAny_Constant_int ⟨.int i,H,I.tok _,⟨_,rfl⟩,h⟩
theorem pe_bl {b j pos}:PE X (.Constant (.bool b) j pos) (tC (.bl b)):=fun _ _ _ H _ I h=>Constant_bool ⟨.bl b,H,I,rfl,h⟩
theorem jY {x j pos}:PE X (.Constant (.str x) j pos) (tC (.str x)):=fun _ _ _ H _ I h=>Calls.Constant_str ⟨.str x,H,I.tok _,⟨_,rfl⟩,h⟩
def Gl (X:Cx) (x:Str):Prop:=X.env.kindOf x=some .globalImplicit
theorem ld_glob {E:Value→Shared→Prop} {pins:List (Addr×Obj)} {s:Shared} {σ:St} {H:Hp} {x:Str} {u:Value} {pos:Pos} {Q:Value→Shared→Prop} (I:Inv X pins σ H s) (hg:Gl X x) (hm:X.mg x=some u) (h:Q u s)
  (hd:(x==("__debug__" : Str))=false:=by decide):wpAny (model X.prog X.w) X.A (eval (.Name x pos) X.env) Q E s :=
 Calls.Name_function_global I.ok.kind hg (Calls.loadGlobal_global (by rw [I.ok.glob]; exact I.mod.glob.keeps I.bk) hm h) hd
theorem Qw {E:Value→Shared→Prop} {pins:List (Addr×Obj)} {s:Shared} {σ:St} {H:Hp} {x:Str} {u:Value} {pos:Pos} {Q:Value→Shared→Prop} (I:Inv X pins σ H s) (hg:Gl X x) (hm:X.mg x=none) (hv:bootBuiltins x=some u) (h:Q u s)
  (hn:x ≠ "__name__" := by decide) (hd:(x==("__debug__" : Str))=false:=by decide):wpAny (model X.prog X.w) X.A (eval (.Name x pos) X.env) Q E s:=by
 obtain ⟨mb,h1,h2⟩:=I.mod.blt;exact Calls.Name_function_global I.ok.kind hg (Calls.loadGlobal_builtin (by rw [I.ok.glob]; exact I.mod.glob.keeps I.bk) hm (by rw [I.ok.blt]; exact h1.keeps I.bk) ((h2 x hn).trans hv) h) hd
theorem jj {x:Str} {v:V} {u:Value} {pos:Pos} (hg:Gl X x) (hm:X.mg x=some u) (r:RelV v u) (hd:(x==("__debug__" : Str))=false:=by decide):PE X (.Name x pos) (tC v) :=
 fun _ _ _ H _ I h=>ld_glob I hg hm ⟨v,H,I,r,h⟩ hd
theorem vW {x:Str} {v:V} {u:Value} {pos:Pos} (hg:Gl X x) (hm:X.mg x=none) (hv:bootBuiltins x=some u) (r:RelV v u) (hn:x ≠ "__name__" := by decide) (hd:(x==("__debug__" : Str))=false:=by decide):PE X (.Name x pos) (tC v) :=
 fun _ _ _ H _ I h=>Qw I hg hm hv ⟨v,H,I,r,h⟩ hn hd
variable {a b:Expr} {ta tb:TE} {pos:Pos}
def PC (X:Cx) (op:CmpOp) (a b:Expr) (t:TE):Prop :=
 ∀ (pins:List (Addr×Obj)) (s:Shared) (σ:St) (H:Hp) (Q:VK),Inv X pins σ H s→t σ H Q→wpAny (model X.prog X.w) X.A (eval a X.env) (fun v s₁=>wpAny (model X.prog X.w) X.A (eval b X.env) (fun u s₂=>wpAny (model X.prog X.w) X.A (compareOp op v u) (EP X pins σ Q) X.xe s₂) X.xe s₁) X.xe s
def tB (t:TE):TT:=fun σ H Q=>t σ H fun x H1=>∃ c,x=.bl c∧Q c H1
theorem pt_cmp {op:CmpOp} {t:TE} (h:PC X op a b t) (h1:behindInMarks op b=false:=by first | exact nobehind _ (by decide) (by decide) | rfl):PT X (.Compare a [op] [b] pos) (tB t):=by
 intro pins s σ H Q I hw;refine wpAny_isTrue_Compare1 (thn (h pins s σ H _ I hw) fun v s1 h1=>thn h1 fun u s2 h2=>thn h2 fun c s3 ⟨x,H1,I1,r1,q1⟩=>?_) h1;obtain ⟨d,rfl,q⟩:=q1
 cases r1
 exact wpAny_truthy_bool ⟨H1,I1,q⟩
theorem yk {e:Expr} {t:TE} (h:PE X e t) (he:∀ whole,isTrue e X.env whole=(do let v ← whole; standAt e.pos; holding [v] (truthy v)):=by intro _; rfl):PT X e (tB t):=by
 intro pins s σ H Q I hw;refine isTrue_plain (thn (h pins s σ H _ I hw) fun v s1 ⟨x,H1,I1,r1,q1⟩=>?_) (he _);obtain ⟨d,rfl,q⟩:=q1
 cases r1
 exact wpAny_truthy_bool ⟨H1,I1,q⟩
variable {tA tB':TT} {rest:List Expr}
def tAnd (t u:TT):TT:=fun σ H Q=>t σ H fun c H1=>if c=true then u σ H1 Q else Q false H1
def tOr (t u:TT):TT:=fun σ H Q=>t σ H fun c H1=>if c=true then Q true H1 else u σ H1 Q
def tNot (t:TT):TT:=fun σ H Q=>t σ H fun c H1=>Q (!c) H1
theorem pw_and1 (ha:PT X a tA):PW X (.BoolOp .And [a] pos) tA:=by
 intro wh pins s σ H Q I h;refine isTrue_and (thn (ha pins s σ H Q I h) fun c s1 e=>?_)
 cases c with
 | true=>exact isTrue_and_nil e
 | false=>exact e
theorem wj (ha:PT X a tA):PW X (.BoolOp .Or [a] pos) tA:=by
 intro wh pins s σ H Q I h;refine isTrue_or (thn (ha pins s σ H Q I h) fun c s1 e=>?_)
 cases c with
 | false=>exact isTrue_or_nil e
 | true=>exact e
theorem pw_and (ha:PT X a tA) (hb:PW X (.BoolOp .And (b::rest) pos) tB'):PW X (.BoolOp .And (a::b::rest) pos) (tAnd tA tB'):=by
 intro wh pins s σ H Q I h;refine isTrue_and (thn (ha pins s σ H _ I h) fun c s1 ⟨H1,I1,q1⟩=>?_)
 cases c with
 | true=>exact hb wh pins s1 σ H1 Q I1 q1
 | false=>exact ⟨H1,I1,q1⟩
theorem pw_or (ha:PT X a tA) (hb:PW X (.BoolOp .Or (b::rest) pos) tB'):PW X (.BoolOp .Or (a::b::rest) pos) (tOr tA tB'):=by
 intro wh pins s σ H Q I h;refine isTrue_or (thn (ha pins s σ H _ I h) fun c s1 ⟨H1,I1,q1⟩=>?_)
 cases c with
 | true=>exact ⟨H1,I1,q1⟩
 | false=>exact hb wh pins s1 σ H1 Q I1 q1
theorem j6 (ha:PT X a tA):PT X (.UnaryOp .Not a pos) (tNot tA):=by
 intro pins s σ H Q I h;exact isTrue_not (ha pins s σ H (fun c H1=>Q (!c) H1) I h)
def tAndV (ta tb:TE):TE:=fun σ H Q=>ta σ H fun x H1=>∃ c,x=.bl c∧if c=true then tb σ H1 Q else Q (.bl false) H1
def tOrV (ta tb:TE):TE:=fun σ H Q=>ta σ H fun x H1=>∃ c,x=.bl c∧if c=true then Q (.bl true) H1 else tb σ H1 Q
def tNotV (ta:TE):TE:=fun σ H Q=>ta σ H fun x H1=>∃ c,x=.bl c∧Q (.bl (!c)) H1
theorem pe_one {op} {t:TE} (h:PE X a t):PE X (.BoolOp op [a] pos) t:=fun pins s σ H Q I hw=>BoolOp_one (h pins s σ H Q I hw)
theorem pe_and (ha:PE X a ta) (hb:PE X (.BoolOp .And (b::rest) pos) tb):PE X (.BoolOp .And (a::b::rest) pos) (tAndV ta tb):=by
 intro pins s σ H Q I h;refine BoolOp_and (thn (ha pins s σ H _ I h) fun v s1 ⟨x,H1,I1,r1,q1⟩=>?_);obtain ⟨c,rfl,q1⟩:=q1
 cases r1
 refine wpAny_truthy_bool ?_
 cases c with
 | true=>exact hb pins s1 σ H1 Q I1 q1
 | false=>exact ⟨.bl false,H1,I1,rfl,q1⟩
theorem pe_or (ha:PE X a ta) (hb:PE X (.BoolOp .Or (b::rest) pos) tb):PE X (.BoolOp .Or (a::b::rest) pos) (tOrV ta tb):=by
 intro pins s σ H Q I h;refine BoolOp_or (thn (ha pins s σ H _ I h) fun v s1 ⟨x,H1,I1,r1,q1⟩=>?_);obtain ⟨c,rfl,q1⟩:=q1
 cases r1
 refine wpAny_truthy_bool ?_
 cases c with
 | false=>exact hb pins s1 σ H1 Q I1 q1
 | true=>exact ⟨.bl true,H1,I1,rfl,q1⟩
theorem pe_not (ha:PE X a ta):PE X (.UnaryOp .Not a pos) (tNotV ta):=by
 intro pins s σ H Q I h;refine UnaryOp_ (thn (ha pins s σ H _ I h) fun v s1 ⟨x,H1,I1,r1,q1⟩=>?_);obtain ⟨c,rfl,q1⟩:=q1
 cases r1
 exact not_of (wpAny_truthy_bool ⟨.bl (!c),H1,I1,rfl,q1⟩)
def tIf (t:TT) (ta tb:TE):TE:=fun σ H Q=>t σ H fun c H1=>if c=true then ta σ H1 Q else tb σ H1 Q
theorem pe_ifExp {c:Expr} (hc:PT X c tA) (ha:PE X a ta) (hb:PE X b tb):PE X (.IfExp c a b pos) (tIf tA ta tb):=by
 intro pins s σ H Q I h;refine wpAny_IfExp (thn (hc pins s σ H _ I h) fun d s1 ⟨H1,I1,q1⟩=>?_)
 cases d with
 | true=>exact ha pins s1 σ H1 Q I1 q1
 | false=>exact hb pins s1 σ H1 Q I1 q1
end
def SqL (K:As) (H:Hp) (a:Addr) (xs:List V):Prop :=
 Rd H a (.lst xs) ∨
  ∃ (o:Obj) (its:Array Value) (n:Nat),K.lookup a=some o∧o.cls=.type "list" ∧ o.dict=none∧o.data=.seq its n∧its.size≤sizeLine∧Vals xs its.toList
def SqT (K:As) (H:Hp) (a:Addr) (xs:List V):Prop :=
 Rd H a (.tup xs) ∨
  ∃ (o:Obj) (its:Array Value) (n:Nat),K.lookup a=some o∧o.cls=.type "tuple" ∧ o.data=.seq its n∧its.size≤sizeLine∧Vals xs its.toList
def absV:Value→Option V
 | .none=>some .non
 | .bool b=>some (.bl b)
 | .int i _=>some (.int i)
 | .str x _=>some (.str x)
 | .bytes b _=>some (.byt b)
 | .float b _=>some (.flt b)
 | .ref a=>some (.ref a)
 | .type n=>some (.ty n)
 | _=>none
theorem RelV.abs {x:V} {u:Value} (r:RelV x u):absV u=some x:=by
 cases x with
 | non=>cases r; rfl
 | bl _=>cases r; rfl
 | int _=>obtain ⟨t,rfl⟩:=r; rfl
 | str _=>obtain ⟨t,rfl⟩:=r; rfl
 | byt _=>obtain ⟨t,rfl⟩:=r; rfl
 | flt _=>obtain ⟨t,rfl⟩:=r; rfl
 | ref _=>cases r; rfl
 | ty _=>cases r; rfl
theorem RelV.inj {x y:V} {u:Value} (r:RelV x u) (q:RelV y u):x=y:=Ap (r.abs.symm.trans q.abs)
theorem Vals.inj:∀ {xs ys:List V} {us:List Value},Vals xs us→Vals ys us→xs=ys
 | _,_,_,.nil,.nil=>rfl
 | _,_,_,.cons r t,.cons r' t'=>by rw [r.inj r',Vals.inj t t']
section
variable {X:Cx} {pins:List (Addr×Obj)} {σ:St} {H:Hp} {s:Shared} {a:Addr} {xs ys:List V}
theorem SqL.of {K:As} (h:H a=some (.lst xs)):SqL K H a xs:=.inl (.inl h)
theorem SqT.of {K:As} (h:H a=some (.tup xs)):SqT K H a xs:=.inl (.inl h)
theorem Inv.list (I:Inv X pins σ H s) (h:SqL X.K H a xs):∃ its:List Value,Vals xs its∧PlainL s.heap a its.toArray∧xs.length≤sizeLine:=by
 rcases h with h | ⟨o,its,n,hk,hc,hd,hs,hz,r⟩
 ·obtain ⟨z,its,n,r,e⟩:=h.ok I.hok
  exact ⟨its,r,⟨_,n,e,rfl,rfl,rfl⟩,z⟩
 ·refine ⟨its.toList,r,⟨o,n,I.kIn a o hk,hc,hd,by simpa using hs⟩,?_⟩
  have e:=r.length
  simp only [Array.length_toList] at e
  omega
theorem Inv.tuple (I:Inv X pins σ H s) (h:SqT X.K H a xs):∃ its:List Value,Vals xs its∧IsTup s.heap a its.toArray∧xs.length≤sizeLine:=by
 rcases h with h | ⟨o,its,n,hk,hc,hs,hz,r⟩
 ·obtain ⟨z,its,r,p⟩:=h.ok I.hok
  exact ⟨its,r,p,z⟩
 ·refine ⟨its.toList,r,⟨o,I.kIn a o hk,hc,n,by simpa using hs⟩,?_⟩
  have e:=r.length
  simp only [Array.length_toList] at e
  omega
theorem Inv.list_inj (I:Inv X pins σ H s) (h:SqL X.K H a xs) (h':SqL X.K H a ys):xs=ys:=by
 obtain ⟨its,r,⟨o,n,e,_,_,d⟩,_⟩:=I.list h;obtain ⟨its',r',⟨o',n',e',_,_,d'⟩,_⟩:=I.list h';rw [e] at e'; cases e';rw [d] at d'
 injection d' with d1 _
 have:its=its':=by simpa using congrArg Array.toList d1
 subst this;exact r.inj r'
theorem Inv.tuple_inj (I:Inv X pins σ H s) (h:SqT X.K H a xs) (h':SqT X.K H a ys):xs=ys:=by
 obtain ⟨its,r,⟨o,e,_,n,d⟩,_⟩:=I.tuple h;obtain ⟨its',r',⟨o',e',_,n',d'⟩,_⟩:=I.tuple h';rw [e] at e'; cases e';rw [d] at d'
 injection d' with d1 _
 have:its=its':=by simpa using congrArg Array.toList d1
 subst this;exact r.inj r'
end
abbrev Cx.wish (X:Cx) (E:Value→Shared→Prop):Cx:={ X with xe:=E }
abbrev Cx.nox (X:Cx):Cx:=X.wish fun _ _=>False
theorem Cx.Ok.wish {X:Cx} (ok:X.Ok) (E:Value→Shared→Prop):(X.wish E).Ok :=
 ⟨ok.mod,ok.kind,ok.glob,ok.blt,ok.above,ok.inj,ok.has,ok.cab,ok.hd,ok.frames,ok.stk,ok.exf,ok.bs,ok.bsz,ok.noex,ok.exfs,ok.funs,ok.frf⟩
theorem Cx.Ok.unwish {X:Cx} {E:Value→Shared→Prop} (ok:(X.wish E).Ok):X.Ok :=
 ⟨ok.mod,ok.kind,ok.glob,ok.blt,ok.above,ok.inj,ok.has,ok.cab,ok.hd,ok.frames,ok.stk,ok.exf,ok.bs,ok.bsz,ok.noex,ok.exfs,ok.funs,ok.frf⟩
section
variable {X:Cx} {pins:List (Addr×Obj)} {σ:St} {H:Hp} {s:Shared} {E:Value→Shared→Prop}
theorem Inv.wish (I:Inv X pins σ H s) (E:Value→Shared→Prop):Inv (X.wish E) pins σ H s:=⟨I.ok.wish E,I.os,I.bare,I.base,I.loc,I.cell,I.free,I.freeC,I.pin,I.hok,I.len⟩
theorem Inv.unwish (I:Inv (X.wish E) pins σ H s):Inv X pins σ H s:=⟨I.ok.unwish,I.os,I.bare,I.base,I.loc,I.cell,I.free,I.freeC,I.pin,I.hok,I.len⟩
theorem SP.unwish {D:Ends} {f:Flow} {s':Shared} (h:SP (X.wish E) pins D f s'):SP X pins D f s':=by
 cases f with
 | next=>obtain ⟨σ',H',I,q⟩:=h; exact ⟨σ',H',I.unwish,q⟩
 | brk=>obtain ⟨σ',H',I,q⟩:=h; exact ⟨σ',H',I.unwish,q⟩
 | cont=>obtain ⟨σ',H',I,q⟩:=h; exact ⟨σ',H',I.unwish,q⟩
 | ret u=>obtain ⟨v,σ',H',I,r,q⟩:=h; exact ⟨v,σ',H',I.unwish,r,q⟩
theorem PSs.nox {st:List Stmt} {t:TS} (h:PSs X.nox st t):PSs X st t:=fun pins s σ H D I hw =>
 wpAny_mono (h pins s σ H D (I.wish _) hw) (fun _ _ q=>q.unwish) fun _ _ z=>False.elim z
end
section
variable {X:Cx} {st:Stmt} {rest:List Stmt} {t u:TS} {e:Expr} {te:TE} {pos:Pos}
def tNext:TS:=fun D σ H=>D.nx σ H
def tSeq (t u:TS):TS:=fun D σ H=>t { D with nx:=u D } σ H
theorem zQ:PSs X [] tNext:=fun _ _ σ H _ I h=>wpAny_execs_nil ⟨σ,H,I,h⟩
theorem qX (h1:PS X st t) (h2:PSs X rest u):PSs X (st::rest) (tSeq t u):=by
 intro pins s σ H D I h;refine wpAny_execs_cons (thn (h1 pins s σ H { D with nx:=u D } I h) fun f s1 q=>?_)
 cases f with
 | next =>
  obtain ⟨σ',H',I',q⟩:=q;exact h2 pins s1 σ' H' D I' q
 | ret v=>exact q
 | brk=>exact q
 | cont=>exact q
theorem qZ (h1:PS X st t):PSs X [st] t:=by
 intro pins s σ H D I h;refine wpAny_execs_cons (thn (h1 pins s σ H D I h) fun f s1 q=>?_)
 cases f with
 | next=>exact wpAny_execs_nil q
 | ret v=>exact q
 | brk=>exact q
 | cont=>exact q
theorem Inv.quiet {pins:List (Addr×Obj)} {σ:St} {H:Hp} {s:Shared} (I:Inv X pins σ H s):interactive X.env=false:=by simp [interactive,I.ok.kind]
def tDrop (te:TE):TS:=fun D σ H=>te σ H fun _ H1=>D.nx σ H1
theorem jy (he:PE X e te) (hs:swapsWith e none pos.line X.env=pure false:=by rfl):PS X (.Expr e pos) (tDrop te):=by
 intro pins s σ H D I h;exact wpAny_Expr_any (thn (he pins s σ H _ I h) fun v s1 ⟨x,H1,I1,r1,q1⟩=>⟨σ,H1,I1,q1⟩) I.quiet hs
def tRet (te:TE):TS:=fun D σ H=>te σ H D.rt
theorem zw (he:PE X e te):PS X (.Return (some e) pos) (tRet te):=by
 intro pins s σ H D I h;exact wpAny_Return_some (thn (he pins s σ H _ I h) fun v s1 ⟨x,H1,I1,r1,q1⟩=>⟨x,σ,H1,I1,r1,q1⟩)
def tIfS (c:TT) (t u:TS):TS:=fun D σ H=>c σ H fun b H1=>if b=true then t D σ H1 else u D σ H1
theorem ps_if {c:Expr} {a b:List Stmt} {tc:TT} (hc:PT X c tc) (ha:PSs X a t) (hb:PSs X b u):PS X (.If c a b pos) (tIfS tc t u):=by
 intro pins s σ H D I h;refine wpAny_If (thn (hc pins s σ H _ I h) fun d s1 ⟨H1,I1,q1⟩=>?_)
 cases d with
 | true=>exact ha pins s1 σ H1 D I1 q1
 | false=>exact hb pins s1 σ H1 D I1 q1
def tNever:TS:=fun _ _ _=>False
theorem j7:PS X st tNever:=fun _ _ _ _ _ _ h=>h.elim
end
abbrev TG:=V→St→Hp→(St→Hp→Prop)→Prop
abbrev TGs:=List V→St→Hp→(St→Hp→Prop)→Prop
def PG (X:Cx) (target:Expr) (t:TG):Prop :=
 ∀ (pins:List (Addr×Obj)) (s:Shared) (σ:St) (H:Hp) (v:V) (u:Value) (Q:St→Hp→Prop),Inv X pins σ H s→RelV v u→t v σ H Q→wpAny (model X.prog X.w) X.A (assign target X.env u) (fun _ s'=>∃ σ' H',Inv X pins σ' H' s'∧Q σ' H') X.xe s
def PGs (X:Cx) (ts:List Expr) (t:TGs):Prop :=
 ∀ (pins:List (Addr×Obj)) (s:Shared) (σ:St) (H:Hp) (vs:List V) (us:List Value) (Q:St→Hp→Prop),Inv X pins σ H s→Vals vs us→t vs σ H Q→wpAny (model X.prog X.w) X.A (assignInOrder ((assignEach ts X.env).map (·.2)) us) (fun _ s'=>∃ σ' H',Inv X pins σ' H' s'∧Q σ' H') X.xe s
abbrev TSet:=V→V→V→Hp→(Hp→Prop)→Prop
def PSet (X:Cx) (t:TSet):Prop :=
 ∀ (pins:List (Addr×Obj)) (s:Shared) (σ:St) (H:Hp) (o i v:V) (ov iv u:Value) (Q:Hp→Prop),Inv X pins σ H s→RelV o ov→RelV i iv→RelV v u→t o i v H Q→wpAny (model X.prog X.w) X.A (setItem ov iv u) (fun _ s'=>∃ H',Inv X pins σ H' s'∧Q H') X.xe s
section
variable {X:Cx} {pos:Pos}
def gName (i:Nat):TG:=fun v σ H Q=>Q (σ.set i (some v)) H
theorem pg_name {i:Nat} {x:Str} (hN:X.N.Nodup) (hi:X.N[i]?=some x) (hx:Loc X.env.scope x) (hf:X.fn x=true∨X.env.scope.names.lookup x=some .local:=by first | exact .inl rfl | exact .inr rfl | assumption):PG X (.Name x pos) (gName i):=by
 intro pins s σ H v u Q I r h;exact wpAny_assign_Name (store_ok I hN hi hx r (fun s' I'=>⟨_,H,I',h⟩) hf)
def gNil:TGs:=fun vs σ H Q=>vs=[]∧Q σ H
def gCons (t:TG) (u:TGs):TGs:=fun vs σ H Q=>∃ v r,vs=v::r∧t v σ H fun σ' H'=>u r σ' H' Q
theorem zV:PGs X [] gNil:=by
 intro pins s σ H vs us Q I r h;obtain ⟨e,h⟩:=h;subst e
 cases r
 exact assignInOrder_nil ⟨σ,H,I,h⟩
theorem zz {e:Expr} {es:List Expr} {t:TG} {u:TGs} (h1:PG X e t) (h2:PGs X es u)
  (hs:(assignEach (e::es) X.env).map (·.2)=assign e X.env::(assignEach es X.env).map (·.2):=by rfl):PGs X (e::es) (gCons t u):=by
 intro pins s σ H vs us Q I r h;obtain ⟨v,vr,e1,h⟩:=h;subst e1
 cases r with
 | cons r rr =>
  rw [hs];refine assignInOrder_cons (thn (h1 pins s σ H _ _ _ I r h) fun _ s1 ⟨σ1,H1,I1,q1⟩=>?_);exact h2 pins s1 σ1 H1 _ _ Q I1 rr q1
def gTup (K:As) (n:Nat) (t:TGs):TG:=fun v σ H Q=>∃ a xs,v=.ref a∧SqT K H a xs∧xs.length=n∧t xs σ H Q
theorem yJ {es:List Expr} {k:Nat} {t:TGs} {n:Nat} (hc:X.calm=true) (h:PGs X es t)
  (hn:(assignEach es X.env).length=n:=by rfl) (hst:(assignEach es X.env).findIdx? (·.1)=none:=by rfl):PG X (.Tuple es k pos) (gTup X.K n t):=by
 intro pins s σ H v u Q I r hw;obtain ⟨a,xs,e1,hq,hl,hw⟩:=hw;subst e1
 cases r
 obtain ⟨its,rv,ht,hz⟩:=I.tuple hq;refine assign_Tuple_tuple (I.ok.hd hc) ht (by simp [hn,← hl,rv.length]) hst fun h' hx=>?_
 have I1:Inv X pins σ H { s with heap:=h' }:=I.kept (t':=s.toks) fun b o e=>hx b o (Nat.ne_of_lt (Heap.lt_size e)) e
 exact h pins _ σ H xs _ Q I1 (by simpa using rv) hw
def gSub (to ti:TE) (t:TSet):TG:=fun v σ H Q=>to σ H fun o H1=>ti σ H1 fun i H2=>t o i v H2 fun H3=>Q σ H3
theorem pg_sub {o i:Expr} {to ti:TE} {t:TSet} (ho:PE X o to) (hi:PE X i ti) (hs:PSet X t)
  (ha:∀ v,assign (.Subscript o i pos) X.env v=(do
   let ov ← holding [v] (eval o X.env)
   let iv ← holding [v,ov] (eval i X.env)
   standAt pos
   holding [v,ov,iv] (setItem ov iv v)
   release [v,ov,iv] []):=by intro _; rfl):PG X (.Subscript o i pos) (gSub to ti t):=by
 intro pins s σ H v u Q I r h;rw [ha];refine wpAny_bind (wpAny_holding (thn (ho pins s σ H _ I h) fun ov s1 ⟨x,H1,I1,r1,q1⟩=>?_));refine wpAny_bind (wpAny_holding (thn (hi pins s1 σ H1 _ I1 q1) fun iv s2 ⟨y,H2,I2,r2,q2⟩=>?_));refine wpAny_bind (wpAny_standAt (wpAny_bind (wpAny_holding (thn (hs pins s2 σ H2 x y v ov iv u _ I2 r1 r2 r q2) fun _ s3 ⟨H3,I3,q3⟩=>?_))));exact wpAny_release ⟨σ,H3,I3,q3⟩
def tAsg (te:TE) (g:TG):TS:=fun D σ H=>te σ H fun x H1=>g x σ H1 D.nx
theorem vY {tg e:Expr} {te:TE} {g:TG} (he:PE X e te) (hg:PG X tg g) (hs:swapsWithSole [tg] e pos.line X.env=pure false:=by rfl) (hw:swappedStores [tg] e X.env=pure none:=by rfl)
  (h1:(assignEach [tg] X.env).map (·.2)=[assign tg X.env]:=by rfl):PS X (.Assign [tg] e pos) (tAsg te g):=by
 intro pins s σ H D I h;refine wpAny_Assign_stores (thn (he pins s σ H _ I h) fun v s1 ⟨x,H1,I1,r1,q1⟩=>?_) hs hw;rw [h1];exact thn (hg pins s1 σ H1 x v _ I1 r1 q1) fun _ s2 q=>q
theorem ps_set {i:Nat} {x:Str} {e:Expr} {te:TE} {pos':Pos} (hN:X.N.Nodup) (hi:X.N[i]?=some x) (hx:Loc X.env.scope x) (he:PE X e te) (hs:swapsWith e (some (.Name x pos')) pos.line X.env=pure false:=by rfl) (hf:X.fn x=true∨X.env.scope.names.lookup x=some .local:=by first | exact .inl rfl | exact .inr rfl | assumption) :
  PS X (.Assign [.Name x pos'] e pos) (tAsg te (gName i)):=by
 intro pins s σ H D I h;refine wpAny_Assign_Name (thn (he pins s σ H _ I h) fun v s1 ⟨y,H1,I1,r1,q1⟩=>?_) hs;exact store_ok I1 hN hi hx r1 (fun s2 I2=>⟨_,H1,I2,q1⟩) hf
def tPar (i j:Nat) (ta:TA):TS:=fun D σ H=>ta σ H fun vs H1=>∃ v w,vs=[v,w]∧D.nx ((σ.set i (some v)).set j (some w)) H1
theorem ps_par {i j:Nat} {x y:Str} {a b:Expr} {ta:TA} {px py pt:Pos} {kt k2 pt2} (hc:X.calm=true) (hN:X.N.Nodup) (hi:X.N[i]?=some x) (hj:X.N[j]?=some y) (hij:i≠j)
  (hx:X.env.scope.names.lookup x=some .local) (hy:X.env.scope.names.lookup y=some .local) (ha:PA X [a,b] ta)
  (hw:swappedStores [.Tuple [.Name x px,.Name y py] kt pt] (.Tuple [a,b] k2 pt2) X.env=pure (some [x,y]))
  (hs:swapsWithSole [.Tuple [.Name x px,.Name y py] kt pt] (.Tuple [a,b] k2 pt2) pos.line X.env=pure false:=by rfl) :
  PS X (.Assign [.Tuple [.Name x px,.Name y py] kt pt] (.Tuple [a,b] k2 pt2) pos) (tPar i j ta):=by
 intro pins s σ H D I h;rw [exec_Assign_arm];refine wpAny_bind (wpAny_standAt ?_);rw [hs];refine wpAny_bind (wpAny_pure ?_);rw [if_neg (by decide)];refine wpAny_bind (Tuple_ (thn (ha _ pins s σ H _ I h) fun us s1 ⟨vs,H1,I1,r1,q1⟩=>?_));obtain ⟨v,w,e1,q1⟩:=q1;subst e1;obtain ⟨u1,u2,rfl,rv,rw'⟩:∃ u1 u2,us=[u1,u2]∧RelV v u1∧RelV w u2:=by
  cases r1 with
  | cons p q =>
   cases q with
   | cons p' q' =>
    cases q'
    exact ⟨_,_,rfl,p,p'⟩
 refine wpAny_newObj_type ?_ (by show 2≤sizeLine; decide);have I2:Inv X pins σ H1 { s1 with heap:=s1.heap.push { cls:=.type "tuple",data:=.seq [u1,u2].toArray } }:=I1.kept (t':=s1.toks) fun b o e=>Heap.get?_push_of_some _ e
 rw [hw];refine wpAny_bind (wpAny_pure ?_);show wpAny (model X.prog X.w) X.A (do rule "assign.swapped-stores"; let items ← unpackItems (.ref s1.heap.objs.size) 2 none; assignInOrder [fun v=>bindName X.env y v,fun v=>bindName X.env x v] items.reverse; pure Flow.next) _ _ _;refine wpAny_bind (wpAny_rule (wpAny_bind (unpackItems_tuple (items:=#[u1,u2]) (I.ok.hd hc) (IsTup.new s1.heap _) fun h' hx'=>?_)));have I3:=I2.kept (h':=h') (t':=s1.toks) fun b o e=>hx' b o (Nat.ne_of_lt (Heap.lt_size e)) e
 show wpAny _ _ (assignInOrder [fun v=>bindName X.env y v,fun v=>bindName X.env x v] [u2,u1] >>= fun _=>pure Flow.next) _ _ _;refine wpAny_bind (assignInOrder_cons (wpAny_bindName (store_ok I3 hN hj (.inl hy) rw' (fun s2 I4=>?_) (.inr hy))));refine assignInOrder_cons (wpAny_bindName (store_ok I4 hN hi (.inl hx) rv (fun s3 I5=>assignInOrder_nil (wpAny_pure ?_)) (.inr hx)));rw [List.set_comm _ _ (Ne.symm hij)] at I5;exact ⟨_,H1,I5,q1⟩
end
section
variable {X:Cx} {pos:Pos}
def tWhile (c:TT) (tb:TS):TS:=fun D σ H=>∃ W:Nat→St→Hp→Prop,(∃ m,W m σ H)∧∀ m σ H,W m σ H→c σ H fun b H1=>if b=true then ∃ N:St→Hp→Prop,(∀ σ' H',N σ' H'→∃ m',m'<m∧W m' σ' H')∧tb { D with nx:=N,ct:=N,bk:=D.nx } σ H1 else D.nx σ H1
theorem ps_while {c:Expr} {body:List Stmt} {tc:TT} {tb:TS} (hp:PassesOwn (model X.prog X.w) X.A X.env X.xe) (hc:PT X c tc) (hb:PSs X body tb):PS X (.While c body [] pos) (tWhile tc tb):=by
 intro pins s σ H D I h;obtain ⟨W,⟨m0,w0⟩,turn⟩:=h;refine wpAny_While (codeAny_whileLoop (fun n s'=>∃ σ' H',Inv X pins σ' H' s'∧W n σ' H') ?_ m0 ⟨σ,H,I,w0⟩);rintro n s1 ⟨σ1,H1,I1,w1⟩;refine wpAny_passesOwn hp (thn (hc pins s1 σ1 H1 _ I1 (turn n σ1 H1 w1)) fun b s2 ⟨H2,I2,q2⟩=>?_)
 cases b with
 | true =>
  obtain ⟨N,hN,q2⟩:=q2;rw [if_pos rfl];refine wpAny_passesOwn hp (thn (hb pins s2 σ1 H2 _ I2 q2) fun f s3 q3=>?_)
  cases f with
  | next =>
   obtain ⟨σ3,H3,I3,n3⟩:=q3;obtain ⟨m',hm,w3⟩:=hN σ3 H3 n3;exact ⟨m',hm,σ3,H3,I3,w3⟩
  | cont =>
   obtain ⟨σ3,H3,I3,n3⟩:=q3;obtain ⟨m',hm,w3⟩:=hN σ3 H3 n3;exact ⟨m',hm,σ3,H3,I3,w3⟩
  | brk=>exact q3
  | ret v=>exact q3
 | false =>
  rw [if_neg Bool.false_ne_true];exact wpAny_execs_nil ⟨σ1,H2,I2,q2⟩
end
structure It where
 go:Nat→Hp→Prop
 yld:Nat→Hp→V→Hp→Prop
 stop:Nat→Hp→Prop
def FpOk (X:Cx) (pins:List (Addr×Obj)) (H:Hp) (b:Addr):Prop :=
 H b=none∧b≠X.env.locals∧b∉X.fs∧(b∈X.ex∨X.s₀.heap.objs.size≤b)∧(∀ x c,X.env.cells.lookup x=some c→c≠b)∧∀ p∈X.pn++pins,p.1≠b
theorem Inv.fpOk {X:Cx} {pins:List (Addr×Obj)} {σ:St} {H H':Hp} {s:Shared} {b:Addr} (I:Inv X pins σ H s) (hb:s.heap.objs.size≤b) (hn:H' b=none):FpOk X pins H' b:=by
 refine ⟨hn,Nat.ne_of_gt (Ag I.lt hb),I.nofs hb,.inr (Ar I.sz hb),fun x c e z=>?_,fun p hp z=>?_⟩
 ·obtain ⟨v,q⟩:=I.cell x c e
  exact absurd (Ag q.lt (by rw [z]; exact hb)) (Nat.lt_irrefl _)
 ·exact absurd (Ag (Heap.lt_size (I.pin p hp).1) (by rw [z]; exact hb)) (Nat.lt_irrefl _)
structure Turn (P:Program) (w:World) (K:As) (tg:Expr) (J:It) (fp:List Addr) (it:Addr) (tn:Nat→Heap→Prop):Prop where
 mem:it∈fp
 obj:∀ i h,tn i h→∀ b∈fp,∃ o,h.get? b=some o∧∀ v,o.data≠.cell v
 keep:∀ i h h',tn i h→(∀ b∈fp,∀ o,h.get? b=some o→h'.get? b=some o)→tn i h'
 item:∀ (X:Cx),X.prog=P→X.w=w→X.K=K→X.calm=true→∀ (i:Nat) (pins:List (Addr×Obj)) (s:Shared) (σ:St) (H:Hp) (E:Value→Shared→Prop),Inv X pins σ H s→(∀ b∈fp,FpOk X pins H b)→tn i s.heap→J.go i H→wpAny (model P w) X.A (pyNext (.ref it)) (fun r s1=>∃ u,r=some u∧wpAny (model P w) X.A (letOwnedTupleGo tg (.ref it) u) (fun _ s2=>∃ x H',Inv X pins σ H' s2∧RelV x u∧J.yld i H x H'∧tn (i+1) s2.heap∧∀ b∈fp,H' b=none) E s1) E s
 done:∀ (X:Cx),X.prog=P→X.w=w→X.K=K→X.calm=true→∀ (i:Nat) (pins:List (Addr×Obj)) (s:Shared) (σ:St) (H:Hp) (E:Value→Shared→Prop),Inv X pins σ H s→(∀ b∈fp,FpOk X pins H b)→tn i s.heap→J.stop i H→wpAny (model P w) X.A (pyNext (.ref it)) (fun r s1=>r=none∧Inv X pins σ H s1) E s
 self:∀ (A:Around) (i:Nat) (s:Shared) (Q:Value→Shared→Prop) (E:Value→Shared→Prop),tn i s.heap→Q (.ref it) s→wpAny (model P w) A (pyIter (.ref it)) Q E s
abbrev TI:=St→Hp→(It→Hp→Prop)→Prop
def PIE (X:Cx) (pins:List (Addr×Obj)) (σ:St) (tg:Expr) (R:It→Hp→Prop) (itv:Value) (s2:Shared):Prop :=
 ∃ (it:Addr) (fp:List Addr) (tn:Nat→Heap→Prop) (J:It) (H':Hp),itv=.ref it∧Inv X pins σ H' s2∧Turn X.prog X.w X.K tg J fp it tn∧tn 0 s2.heap∧(∀ b∈fp,FpOk X pins H' b)∧R J H'
def PI (X:Cx) (tg iter:Expr) (wi:TI):Prop :=
 ∀ (pins:List (Addr×Obj)) (s:Shared) (σ:St) (H:Hp) (R:It→Hp→Prop),Inv X pins σ H s→wi σ H R→wpAny (model X.prog X.w) X.A (eval iter X.env) (fun v s1=>wpAny (model X.prog X.w) X.A (pyIter v) (PIE X pins σ tg R) X.xe s1) X.xe s
theorem go_of {M:Model} {A:Around} {E:Value→Shared→Prop} {s:Shared} {tg:Expr} {it:Addr} {u:Value} {o:Obj} {n:String} {vs:Array Value} {Q:Unit→Shared→Prop} (ho:s.heap.get? it=some o) (hc:o.cls=.type n) (hd:o.data=.fields vs)
    (hn:["enumerate", "zip", "dict_itemiterator", "dict_reverseitemiterator", "odict_iterator", "itertools.zip_longest", "itertools.pairwise"].contains n=false) (hQ:Q () s):wpAny M A (letOwnedTupleGo tg (.ref it) u) Q E s:=by
  unfold letOwnedTupleGo
  cases tg <;> first
    | exact wpAny_pure hQ
    | (cases u <;> first
        | exact wpAny_pure hQ
        | (refine wpAny_bind (wpAny_load ho ?_)
           rw [hc,hd];show wpAny M A (if (["enumerate", "zip", "dict_itemiterator", "dict_reverseitemiterator", "odict_iterator", "itertools.zip_longest", "itertools.pairwise"].contains n&&vs[0]?==some (rawInt _))=true then _ else _) Q E s;rw [if_neg (by intro h; rw [hn,Bool.false_and] at h; cases h)];exact wpAny_pure hQ))
def Itl (K:As) (a:Addr):It :=
 ⟨fun i H=>∃ xs x,SqL K H a xs∧xs[i]?=some x,fun i H x H'=>H'=H∧∀ xs,SqL K H a xs→xs[i]?=some x,fun i H=>∃ xs,SqL K H a xs∧xs.length≤i⟩
def Itt (K:As) (a:Addr):It :=
 ⟨fun i H=>∃ xs x,SqT K H a xs∧xs[i]?=some x,fun i H x H'=>H'=H∧∀ xs,SqT K H a xs→xs[i]?=some x,fun i H=>∃ xs,SqT K H a xs∧xs.length≤i⟩
def Itr (lo:Int) (n:Nat):It:=⟨fun i _=>i<n,fun i H x H'=>H'=H∧x=.int (lo+i),fun i _=>n≤i⟩
theorem turn_list {P:Program} {w:World} {K:As} {tg:Expr} (a it:Addr):Turn P w K tg (Itl K a) [it] it (fun i h=>h.IsListIter it a i) where
 mem:=by simp
 obj:=fun i h st b hb=>by
  have e:b=it:=by simpa using hb
  subst e;obtain ⟨o,e,c,d⟩:=st;exact ⟨o,e,fun v z=>by rw [d] at z; cases z⟩
 keep:=fun i h h' st k=>st.at fun o e=>k it (by simp) o e
 item:=by
  intro X hP hw hK hc i pins s σ H E I hf st hg;subst hP hw hK;obtain ⟨xs,x,hq,hx⟩:=hg;obtain ⟨its,rv,p,hz⟩:=I.list hq;obtain ⟨u,hu,ru⟩:=rv.get hx;obtain ⟨f0,f1,f2,f3,f4,f5⟩:=hf it (by simp);refine wpAny_pyNext_list_item st p.isList (x:=u) (by simpa using hu) fun h' st' sb=>?_
  have I1:Inv X pins σ H { s with heap:=h' }:=I.turned (t':=s.toks) (fun b o hb e=>(sb.2 b hb).trans e) f0 f1 f3 f4 f5;obtain ⟨o,e,c,d⟩:=id st';exact ⟨u,rfl,go_of (s:={ s with heap:=h' }) e c d (by decide) ⟨x,H,I1,ru,⟨rfl,fun ys hy=>by rw [I.list_inj hy hq]; exact hx⟩,st',fun b hb=>(hf b hb).1⟩⟩
 done:=by
  intro X hP hw hK hc i pins s σ H E I hf st hg;subst hP hw hK;obtain ⟨xs,hq,hx⟩:=hg;obtain ⟨its,rv,p,hz⟩:=I.list hq;obtain ⟨f0,f1,f2,f3,f4,f5⟩:=hf it (by simp);have hl:=rv.length;exact wpAny_pyNext_list_end (I.ok.hd hc) st p.isList (by simp; omega) fun h' eb=>⟨rfl,I.turned (t':=s.toks) (fun b o hb e=>eb b o hb e) f0 f1 f3 f4 f5⟩
 self:=fun _ _ _ _ _ st h=>wpAny_pyIter_listiter st h
theorem turn_tuple {P:Program} {w:World} {K:As} {tg:Expr} (a it:Addr):Turn P w K tg (Itt K a) [it] it (fun i h=>h.IsTupleIter it a i) where
 mem:=by simp
 obj:=fun i h st b hb=>by
  have e:b=it:=by simpa using hb
  subst e;obtain ⟨o,e,c,d⟩:=st;exact ⟨o,e,fun v z=>by rw [d] at z; cases z⟩
 keep:=fun i h h' st k=>st.at fun o e=>k it (by simp) o e
 item:=by
  intro X hP hw hK hc i pins s σ H E I hf st hg;subst hP hw hK;obtain ⟨xs,x,hq,hx⟩:=hg;obtain ⟨its,rv,p,hz⟩:=I.tuple hq;obtain ⟨u,hu,ru⟩:=rv.get hx;obtain ⟨f0,f1,f2,f3,f4,f5⟩:=hf it (by simp);refine wpAny_pyNext_tuple_item st (show s.heap.IsTuple a its.toArray from p) (x:=u) (by simpa using hu) fun h' st' sb=>?_
  have I1:Inv X pins σ H { s with heap:=h' }:=I.turned (t':=s.toks) (fun b o hb e=>(sb.2 b hb).trans e) f0 f1 f3 f4 f5;obtain ⟨o,e,c,d⟩:=id st';exact ⟨u,rfl,go_of (s:={ s with heap:=h' }) e c d (by decide) ⟨x,H,I1,ru,⟨rfl,fun ys hy=>by rw [I.tuple_inj hy hq]; exact hx⟩,st',fun b hb=>(hf b hb).1⟩⟩
 done:=by
  intro X hP hw hK hc i pins s σ H E I hf st hg;subst hP hw hK;obtain ⟨xs,hq,hx⟩:=hg;obtain ⟨its,rv,p,hz⟩:=I.tuple hq;obtain ⟨f0,f1,f2,f3,f4,f5⟩:=hf it (by simp);have hl:=rv.length;exact wpAny_pyNext_tuple_end (I.ok.hd hc) st (show s.heap.IsTuple a its.toArray from p) (by simp; omega) fun h' eb=>⟨rfl,I.turned (t':=s.toks) (fun b o hb e=>eb b o hb e) f0 f1 f3 f4 f5⟩
 self:=fun _ _ _ _ _ st h=>wpAny_pyIter_tupleiter st h
theorem turn_range {P:Program} {w:World} {K:As} {tg:Expr} (it:Addr) (lo:Int) (n:Nat):Turn P w K tg (Itr lo n) [it] it (fun i h=>IsRangeIter h it (lo+(i:Nat)*1) ((n:Int) - (i:Nat)) 1) where
 mem:=by simp
 obj:=fun i h st b hb=>by
  have e:b=it:=by simpa using hb
  subst e;exact ⟨_,st,fun v z=>by
   have z':Data.fields _=Data.cell v:=z
   cases z'⟩
 keep:=fun i h h' st k=>k it (by simp) _ st
 item:=by
  intro X hP hw hK hc i pins s σ H E I hf st hg;subst hP hw hK;obtain ⟨f0,f1,f2,f3,f4,f5⟩:=hf it (by simp);have W:=Walks.range (prog:=X.prog) (w:=X.w) (I.ok.hd hc) it lo 1 n;refine W.item i s _ _ hg st fun v h' tk hv st' kk=>?_
  obtain ⟨t,rfl⟩:=hv;have I1:Inv X pins σ H { s with heap:=h',toks:=tk }:=I.turned (fun b o hb e=>kk b o (by simpa using hb) e) f0 f1 f3 f4 f5;refine ⟨_,rfl,go_of (s:={ s with heap:=h',toks:=tk }) (n := "range_iterator") st' rfl rfl (by decide) ⟨.int (lo+i),H,I1,⟨t,?_⟩,⟨rfl,rfl⟩,st',fun b hb=>(hf b hb).1⟩⟩;rw [Int.mul_one]
 done:=by
  intro X hP hw hK hc i pins s σ H E I hf st hg;subst hP hw hK;obtain ⟨f0,f1,f2,f3,f4,f5⟩:=hf it (by simp);exact wpAny_pyNext_range_end (I.ok.hd hc) st (by have:n≤i:=hg; omega) fun h' eb=>⟨rfl,I.turned (t':=s.toks) (fun b o hb e=>eb b o hb e) f0 f1 f3 f4 f5⟩
 self:=fun _ _ _ _ _ st h=>wpAny_pyIter_rangeiter st h
section
variable {X:Cx} {tg:Expr}
def iList (K:As) (tl:TE):TI:=fun σ H R=>tl σ H fun x H1=>∃ a,x=.ref a∧(∃ xs,SqL K H1 a xs)∧R (Itl K a) H1
def iTup (K:As) (tl:TE):TI:=fun σ H R=>tl σ H fun x H1=>∃ a,x=.ref a∧(∃ xs,SqT K H1 a xs)∧R (Itt K a) H1
theorem yq {l:Expr} {tl:TE} (hl:PE X l tl):PI X tg l (iList X.K tl):=by
 intro pins s σ H R I h;refine thn (hl pins s σ H _ I h) fun v s1 ⟨x,H1,I1,r1,q1⟩=>?_
 obtain ⟨a,e,⟨xs,hq⟩,q⟩:=q1;subst e
 cases r1
 obtain ⟨its,rv,p,hz⟩:=I1.list hq;refine wpAny_pyIter_list p.isList ?_;refine ⟨s1.heap.objs.size,[s1.heap.objs.size],_,_,H1,rfl,I1.kept (t':=s1.toks) fun b o e=>Heap.get?_push_of_some _ e,turn_list a _,⟨_,Heap.get?_push_size _ rfl,rfl,rfl⟩,fun b hb=>?_,q⟩;have e:b=s1.heap.objs.size:=by simpa using hb
 subst e;exact I1.fpOk (Nat.le_refl _) (I1.hok.fresh (Nat.le_refl _))
theorem pi_tup {l:Expr} {tl:TE} (hl:PE X l tl):PI X tg l (iTup X.K tl):=by
 intro pins s σ H R I h;refine thn (hl pins s σ H _ I h) fun v s1 ⟨x,H1,I1,r1,q1⟩=>?_
 obtain ⟨a,e,⟨xs,hq⟩,q⟩:=q1;subst e
 cases r1
 obtain ⟨its,rv,p,hz⟩:=I1.tuple hq;refine wpAny_pyIter_tuple (show s1.heap.IsTuple a its.toArray from p) ?_;refine ⟨s1.heap.objs.size,[s1.heap.objs.size],_,_,H1,rfl,I1.kept (t':=s1.toks) fun b o e=>Heap.get?_push_of_some _ e,turn_tuple a _,⟨_,Heap.get?_push_size _ rfl,rfl,rfl⟩,fun b hb=>?_,q⟩;have e:b=s1.heap.objs.size:=by simpa using hb
 subst e;exact I1.fpOk (Nat.le_refl _) (I1.hok.fresh (Nat.le_refl _))
theorem range_it {pins:List (Addr×Obj)} {σ:St} {H:Hp} {s:Shared} {R:It→Hp→Prop} {E:Value→Shared→Prop} {lo hi:Int} {t u v:Tok} {tk:Nat} (I:Inv X pins σ H s) (h1 : -(2^62)≤lo) (h2:lo<2^62) (h3 : -(2^62)≤hi) (h4:hi<2^62)
  (q:R (Itr lo (hi - lo).toNat) H):wpAny (model X.prog X.w) X.A (pyIter (.ref s.heap.objs.size)) (PIE X pins σ tg R) E { s with heap:=s.heap.push { cls:=.type "range",data:=.fields #[.int lo t,.int hi u,.int 1 v] },toks:=tk }:=by
 refine wpAny_pyIter_range (IsRange.new ..) (small_one h1 h2 h3 h4) ?_;have I1:Inv X pins σ H { s with heap:=s.heap.push { cls:=.type "range",data:=.fields #[.int lo t,.int hi u,.int 1 v] },toks:=tk }:=I.kept fun b o e=>Heap.get?_push_of_some _ e
 refine ⟨(s.heap.push { cls:=.type "range",data:=.fields #[.int lo t,.int hi u,.int 1 v] }).objs.size,[(s.heap.push { cls:=.type "range",data:=.fields #[.int lo t,.int hi u,.int 1 v] }).objs.size],_,_,H,rfl,I1.kept (t':=tk) fun b o e=>Heap.get?_push_of_some _ e,turn_range _ lo (hi - lo).toNat,?_,fun b hb=>?_,q⟩
 ·have e1:lo+((0:Nat):Int)*1=lo:=by simp
  have e2:(((hi - lo).toNat:Nat):Int) - ((0:Nat):Int)=Builtin.Range.rangeSize lo hi 1:=by rw [rangeSize_one]; split <;> omega
  show IsRangeIter _ _ (lo+((0:Nat):Int)*1) ((((hi - lo).toNat:Nat):Int) - ((0:Nat):Int)) 1;rw [e1,e2];exact Heap.get?_push_size _ rfl
 ·have e:b=(s.heap.push { cls:=.type "range",data:=.fields #[.int lo t,.int hi u,.int 1 v] }).objs.size:=by simpa using hb
  subst e;exact I1.fpOk (Nat.le_refl _) (I1.hok.fresh (Nat.le_refl _))
def iRng1 (ta:TA):TI:=fun σ H R=>ta σ H fun vs H1=>∃ j:Int,vs=[.int j] ∧ -(2^62)≤j∧j<2^62∧R (Itr 0 j.toNat) H1
theorem xq {a:Expr} {ta:TA} {p pos:Pos} (hg:Gl X "range") (hm:X.mg "range" = none) (ha:PA X [a] ta) (hs:starEach [a] X.env=[(false,eval a X.env)]:=by rfl):PI X tg (.Call (.Name "range" p) [a] [] pos) (iRng1 ta):=by
 intro pins s σ H R I h;refine Call_ (Qw I hg hm boot_range (PyProof.Rows.callWith_type1 (thn (ha pos pins s σ H _ I h) fun us s1 ⟨vs,H1,I1,r1,q1⟩=>?_) hs rfl));obtain ⟨j,e,q1,q2,q⟩:=q1;subst e
 cases r1 with
 | cons r rr =>
  cases rr
  obtain ⟨t,rfl⟩:=r;exact call_range_1 (range_it I1 (by omega) (by omega) q1 q2 (by simpa using q))
def tFor (wi:TI) (g:TG) (tb:TS):TS:=fun D σ H=>wi σ H fun J H1=>∃ W:Nat→Nat→St→Hp→Prop,(∃ m,W 0 m σ H1)∧∀ i m σ H,W i m σ H→(J.stop i H∧D.nx σ H)∨(J.go i H∧∃ N:St→Hp→Prop,(∀ σ' H',N σ' H'→∃ m',m'<m∧W (i+1) m' σ' H')∧∀ x H',J.yld i H x H'→g x σ H' fun σ2 H2=>tb { D with nx:=N,ct:=N,bk:=D.nx } σ2 H2)
def pinsAt (fp:List Addr) (h:Heap):List (Addr×Obj):=fp.filterMap fun b=>(h.get? b).map fun o=>(b,o)
theorem mem_pinsAt {fp:List Addr} {h:Heap} {b:Addr} {o:Obj} (hb:b∈fp) (e:h.get? b=some o):(b,o)∈pinsAt fp h:=List.mem_filterMap.mpr ⟨b,hb,by rw [e]; rfl⟩
theorem of_pinsAt {fp:List Addr} {h:Heap} {p:Addr×Obj} (hp:p∈pinsAt fp h):p.1∈fp∧h.get? p.1=some p.2:=by
 obtain ⟨b,hb,e⟩:=List.mem_filterMap.mp hp
 cases q:h.get? b with
 | none=>rw [q] at e; cases e
 | some o =>
  rw [q] at e;have e':(b,o)=p:=Ap e;subst e';exact ⟨hb,q⟩
theorem Inv.pinned {pins:List (Addr×Obj)} {σ:St} {H:Hp} {s:Shared} {fp:List Addr} (I:Inv X pins σ H s) (hf:∀ b∈fp,FpOk X pins H b) (ho:∀ b∈fp,∃ o,s.heap.get? b=some o∧∀ v,o.data≠.cell v):Inv X (pins++pinsAt fp s.heap) σ H s :=
 I.pins_of fun p hp=>(Am.mp hp).elim (fun z=>I.pin p (A7 _ z)) fun z=>by
  obtain ⟨hb,e⟩:=of_pinsAt z;obtain ⟨f0,f1,f2,_⟩:=hf p.1 hb;obtain ⟨o,e',d⟩:=ho p.1 hb;rw [e] at e'; cases e';exact ⟨e,f0,f1,f2,d⟩
theorem Inv.unpinned {pins pl:List (Addr×Obj)} {σ:St} {H:Hp} {s:Shared} (I:Inv X (pins++pl) σ H s):Inv X pins σ H s:=I.pins_of fun p hp=>I.pin p (A7 _ (Ab _ hp))
theorem jW {iter:Expr} {body:List Stmt} {wi:TI} {g:TG} {tb:TS} {pos:Pos} (hp:PassesOwn (model X.prog X.w) X.A X.env X.xe) (hc:X.calm=true) (hi:PI X tg iter wi) (hg:PG X tg g) (hb:PSs X body tb)
  (hs:∀ x,foldedSetIterable iter X.env x=pure x:=by intro _; rfl):PS X (.For tg iter body [] pos) (tFor wi g tb):=by
 intro pins s σ H D I h;refine wpAny_For (thn (hi pins s σ H _ I h) fun v s1 h1=>thn h1 fun itv s2 h2=>?_) hs;obtain ⟨it,fp,tn,J,H2,e,I2,T,st2,f2,W,⟨m0,w0⟩,turn⟩:=h2;subst e;have stat:∀ {H':Hp},(∀ b∈fp,H' b=none)→∀ b∈fp,FpOk X pins H' b:=fun hn b hb=>⟨hn b hb,(f2 b hb).2⟩
 refine codeAny_forLoop_any (fun n s'=>∃ i σ' H',Inv X pins σ' H' s'∧tn i s'.heap∧(∀ b∈fp,H' b=none)∧W i n σ' H') ?_ m0 ⟨0,σ,H2,I2,st2,fun b hb=>(f2 b hb).1,w0⟩;rintro n s3 ⟨i,σ3,H3,I3,st3,fr3,w3⟩
 rcases turn i n σ3 H3 w3 with ⟨stop,qn⟩ | ⟨go,N,hN,step⟩
 ·refine wpAny_passesOwn hp (thn (T.done X rfl rfl rfl hc i pins s3 σ3 H3 X.xe I3 (stat fr3) st3 stop) fun r s4 ⟨hr,I4⟩=>?_)
  subst hr;exact wpAny_execs_nil ⟨σ3,H3,I4,qn⟩
 ·refine wpAny_passesOwn hp (thn (T.item X rfl rfl rfl hc i pins s3 σ3 H3 X.xe I3 (stat fr3) st3 go) fun r s4 ⟨u,hr,h4⟩=>?_)
  subst hr;refine wpAny_passesOwn hp (thn h4 fun _ s5 ⟨x,H5,I5,r5,y5,st5,fr5⟩=>?_);have I5':=I5.pinned (stat fr5) (T.obj _ _ st5);refine wpAny_passesOwn hp (thn (hg _ s5 σ3 H5 x u _ I5' r5 (step x H5 y5)) fun _ s6 ⟨σ6,H6,I6,q6⟩=>?_);refine wpAny_passesOwn hp (thn (hb _ s6 σ6 H6 _ I6 q6) fun f s7 q7=>?_);have again:∀ {σ7:St} {H7:Hp},Inv X (pins++pinsAt fp s5.heap) σ7 H7 s7→N σ7 H7→∃ m,m<n∧∃ i σ' H',Inv X pins σ' H' s7∧tn i s7.heap∧(∀ b∈fp,H' b=none)∧W i m σ' H':=fun {σ7 H7} I7 n7=>by
   obtain ⟨m',hm,w7⟩:=hN σ7 H7 n7;refine ⟨m',hm,i+1,σ7,H7,I7.unpinned,T.keep _ _ _ st5 fun b hb o e=>(I7.pin (b,o) (A7 _ (A7 _ (mem_pinsAt hb e)))).1,fun b hb=>?_,w7⟩;obtain ⟨o,e,d⟩:=T.obj _ _ st5 b hb;exact (I7.pin (b,o) (A7 _ (A7 _ (mem_pinsAt hb e)))).2.1
  cases f with
  | next=>obtain ⟨σ7,H7,I7,n7⟩:=q7; exact again I7 n7
  | cont=>obtain ⟨σ7,H7,I7,n7⟩:=q7; exact again I7 n7
  | brk=>obtain ⟨σ7,H7,I7,q7⟩:=q7; exact ⟨σ7,H7,I7.unpinned,q7⟩
  | ret v=>obtain ⟨x7,σ7,H7,I7,r7,q7⟩:=q7; exact ⟨x7,σ7,H7,I7.unpinned,r7,q7⟩
end
theorem while_by {c:TT} {tb:TS} {D:Ends} {σ:St} {H:Hp} (Pv:St→Hp→Prop) (μ:St→Hp→Nat) (h0:Pv σ H)
  (hs:∀ σ H,Pv σ H→c σ H fun b H1=>if b=true then tb { D with nx:=fun σ' H'=>Pv σ' H'∧μ σ' H'<μ σ H,ct:=fun σ' H'=>Pv σ' H'∧μ σ' H'<μ σ H,bk:=D.nx } σ H1 else D.nx σ H1)
  (mono:∀ σ H Q Q',(∀ b H1,Q b H1→Q' b H1)→c σ H Q→c σ H Q'):tWhile c tb D σ H:=by
 refine ⟨fun m σ H=>m=μ σ H∧Pv σ H,⟨_,rfl,h0⟩,?_⟩;rintro m σ H ⟨rfl,p⟩;refine mono σ H _ _ (fun b H1 q=>?_) (hs σ H p)
 cases b with
 | true=>exact ⟨_,fun σ' H' ⟨p',l⟩=>⟨_,l,rfl,p'⟩,q⟩
 | false=>exact q
abbrev R2:=V→V→Hp→VK→Prop
def OpR (X:Cx) (f:Value→Value→Sem Value) (r:R2):Prop :=
 ∀ (pins:List (Addr×Obj)) (s:Shared) (σ:St) (H:Hp) (x y:V) (v u:Value) (Q:VK),Inv X pins σ H s→RelV x v→RelV y u→r x y H Q→wpAny (model X.prog X.w) X.A (f v u) (EP X pins σ Q) X.xe s
def CallR (X:Cx) (f:Value) (r:List V→Hp→VK→Prop):Prop :=
 ∀ (pins:List (Addr×Obj)) (s:Shared) (σ:St) (H:Hp) (xs:List V) (us:List Value) (Q:VK),Inv X pins σ H s→Vals xs us→r xs H Q→wpAny (model X.prog X.w) X.A (call f us) (EP X pins σ Q) X.xe s
def tOp (r:R2) (ta tb:TE):TE:=fun σ H Q=>ta σ H fun x H1=>tb σ H1 fun y H2=>r x y H2 Q
def rI (C:Int→Int→Prop) (g:Int→Int→V):R2:=fun x y H Q=>∃ i j,x=.int i∧y=.int j∧C i j∧Q (g i j) H
def rI0 (g:Int→Int→V):R2:=fun x y H Q=>∃ i j,x=.int i∧y=.int j∧Q (g i j) H
def rU (g:Int→V):V→Hp→VK→Prop:=fun x H Q=>∃ i,x=.int i∧Q (g i) H
section
variable {X:Cx} {a b c:Expr} {ta tb tc:TE} {pos:Pos}
theorem binT (ha:PE X a ta) (hb:PE X b tb) {pins:List (Addr×Obj)} {s:Shared} {σ:St} {H:Hp} {R:V→V→Hp→Prop} (I:Inv X pins σ H s)
  (h:ta σ H fun x H1=>tb σ H1 fun y H2=>R x y H2) {Q:Value→Shared→Prop} {f:Value→Value→Sem Value}
  (hf:∀ v u s2 x y H2,Inv X pins σ H2 s2→RelV x v→RelV y u→R x y H2→wpAny (model X.prog X.w) X.A (f v u) Q X.xe s2) :
  wpAny (model X.prog X.w) X.A (eval a X.env) (fun v s₁=>wpAny (model X.prog X.w) X.A (eval b X.env) (fun u s₂=>wpAny (model X.prog X.w) X.A (f v u) Q X.xe s₂) X.xe s₁) X.xe s:=by
 refine thn (ha pins s σ H _ I h) fun v s1 ⟨x,H1,I1,r1,q1⟩=>?_
 refine thn (hb pins s1 σ H1 _ I1 q1) fun u s2 ⟨y,H2,I2,r2,q2⟩=>?_
 exact hf v u s2 x y H2 I2 r1 r2 q2
theorem pe_op {op:Operator} {r:R2} (ho:OpR X (binaryOp op) r) (ha:PE X a ta) (hb:PE X b tb):PE X (.BinOp a op b pos) (tOp r ta tb):=by
 intro pins s σ H Q I h;exact wpAny_BinOp (binT ha hb I h fun v u s2 x y H2 I2 rx ry q=>ho pins s2 σ H2 x y v u Q I2 rx ry q)
theorem opI {f:Value→Value→Sem Value} {C:Int→Int→Prop} {g:Int→Int→Int}
  (rule:∀ (i j:Int) (t u:Tok) (s:Shared) (Q:Value→Shared→Prop) (E:Value→Shared→Prop),C i j→Q (.int (g i j) s.toks) { s with toks:=s.toks+1 }→wpAny (model X.prog X.w) X.A (f (.int i t) (.int j u)) Q E s) :
  OpR X f (rI C fun i j=>.int (g i j)):=by
 intro pins s σ H x y v u Q I rx ry h;obtain ⟨i,j,rfl,rfl,hc,q⟩:=h;obtain ⟨t,rfl⟩:=rx;obtain ⟨t',rfl⟩:=ry;exact rule i j t t' s _ _ hc ⟨.int (g i j),H,I.tok _,⟨_,rfl⟩,q⟩
theorem opI0 {f:Value→Value→Sem Value} {g:Int→Int→Int}
  (rule:∀ (i j:Int) (t u:Tok) (s:Shared) (Q:Value→Shared→Prop) (E:Value→Shared→Prop),Q (.int (g i j) s.toks) { s with toks:=s.toks+1 }→wpAny (model X.prog X.w) X.A (f (.int i t) (.int j u)) Q E s) :
  OpR X f (rI0 fun i j=>.int (g i j)):=by
 intro pins s σ H x y v u Q I rx ry h;obtain ⟨i,j,rfl,rfl,q⟩:=h;obtain ⟨t,rfl⟩:=rx;obtain ⟨t',rfl⟩:=ry;exact rule i j t t' s _ _ ⟨.int (g i j),H,I.tok _,⟨_,rfl⟩,q⟩
theorem opB0 {f:Value→Value→Sem Value} {g:Int→Int→Bool}
  (rule:∀ (i j:Int) (t u:Tok) (s:Shared) (Q:Value→Shared→Prop) (E:Value→Shared→Prop),Q (.bool (g i j)) s→wpAny (model X.prog X.w) X.A (f (.int i t) (.int j u)) Q E s) :
  OpR X f (rI0 fun i j=>.bl (g i j)):=by
 intro pins s σ H x y v u Q I rx ry h;obtain ⟨i,j,rfl,rfl,q⟩:=h;obtain ⟨t,rfl⟩:=rx;obtain ⟨t',rfl⟩:=ry;exact rule i j t t' s _ _ ⟨.bl (g i j),H,I,rfl,q⟩
def CDiv (i j:Int):Prop:=0<j∧j<1073741824
def CPow (i j:Int):Prop:=0≤j∧j≤1000000∧i.natAbs<2^64
theorem y9:OpR X (binaryOp .Add) (rI0 fun i j=>.int (i+j)):=opI0 fun _ _ _ _ _ _ _ q=>add_int q
theorem op_sub:OpR X (binaryOp .Sub) (rI0 fun i j=>.int (i - j)):=opI0 fun _ _ _ _ _ _ _ q=>sub_int q
theorem vJ:OpR X (binaryOp .Mod) (rI (fun _ j=>0<j) fun i j=>.int (i%j)):=opI fun i j _ _ _ _ _ hc q=>by
 have h1:(0:Int)<j:=hc;exact mod_int' (by omega) (by rw [Int.fmod_eq_emod_of_nonneg i (by omega)]; exact q)
theorem op_pow:OpR X (binaryOp .Pow) (rI CPow fun i j=>.int (i^j.toNat)):=opI fun _ _ _ _ _ _ _ hc q=>pow_int_small hc.1 hc.2.1 hc.2.2 q
end
def scal:V→V→Bool
 | .non,.non=>true | .non,.int _=>true | .int _,.non=>true | .non,.bl _=>true | .bl _,.non=>true | .non,.str _=>true | .str _,.non=>true
 | .int _,.int _=>true | .bl _,.bl _=>true | .str _,.str _=>true | .byt _,.byt _=>true
 | .int _,.str _=>true | .str _,.int _=>true | .bl _,.str _=>true | .str _,.bl _=>true
 | _,_=>false
def rEq:R2:=fun x y H Q=>scal x y=true∧Q (.bl (decide (x=y))) H
def rNe:R2:=fun x y H Q=>scal x y=true∧Q (.bl (!decide (x=y))) H
theorem dec_int {i j:Int}:decide (V.int i=V.int j)=(i==j):=by
 rw [Bool.eq_iff_iff]
 simp
theorem dec_bl {i j:Bool}:decide (V.bl i=V.bl j)=(i==j):=by
 rw [Bool.eq_iff_iff]
 simp
theorem dec_str {i j:Str}:decide (V.str i=V.str j)=(i==j):=by
 rw [Bool.eq_iff_iff]
 simp
theorem dec_byt {i j:Array UInt8}:decide (V.byt i=V.byt j)=(i.toList==j.toList):=by
 rw [Bool.eq_iff_iff]
 cases i
 cases j
 simp
section
variable {X:Cx} {a b c:Expr} {ta tb tc:TE} {pos:Pos}
theorem yX {pins:List (Addr×Obj)} {σ:St} {H:Hp} {s:Shared} {Q:VK} {k k':Bool} (I:Inv X pins σ H s) (q:Q (.bl k) H) (e:k=k'):EP X pins σ Q (.bool k') s:=by
 subst e;exact ⟨.bl k,H,I,rfl,q⟩
theorem op_eq:OpR X (compareOp .Eq) rEq:=by
 intro pins s σ H x y v u Q I rx ry h;obtain ⟨hs,q⟩:=h
 cases x with
 | non =>
  cases rx
  cases y with
  | non=>cases ry; exact PySem.EqNone.eq_none_none (yX I q (by simp))
  | bl j=>cases ry; exact PySem.EqNone.eq_none_bool (yX I q (by simp))
  | int j=>obtain ⟨t',rfl⟩:=ry; exact PySem.EqNone.eq_none_int (yX I q (by simp))
  | str j=>obtain ⟨t',rfl⟩:=ry; exact PySem.EqNone.eq_none_str (yX I q (by simp))
  | _=>exact absurd (show false=true from hs) Bool.false_ne_true
 | bl i =>
  cases rx
  cases y with
  | non=>cases ry; exact PySem.EqNone.eq_bool_none (yX I q (by simp))
  | bl j=>cases ry; exact eq_bool (yX I q dec_bl)
  | str j=>obtain ⟨t',rfl⟩:=ry; exact PySem.EqMixed.eq_bool_str (yX I q (by simp))
  | _=>exact absurd (show false=true from hs) Bool.false_ne_true
 | int i =>
  obtain ⟨t,rfl⟩:=rx
  cases y with
  | non=>cases ry; exact PySem.EqNone.eq_int_none (yX I q (by simp))
  | int j=>obtain ⟨t',rfl⟩:=ry; exact eq_int (yX I q dec_int)
  | str j=>obtain ⟨t',rfl⟩:=ry; exact PySem.EqMixed.eq_int_str (yX I q (by simp))
  | _=>exact absurd (show false=true from hs) Bool.false_ne_true
 | str i =>
  obtain ⟨t,rfl⟩:=rx
  cases y with
  | non=>cases ry; exact PySem.EqNone.eq_str_none (yX I q (by simp))
  | bl j=>cases ry; exact PySem.EqMixed.eq_str_bool (yX I q (by simp))
  | int j=>obtain ⟨t',rfl⟩:=ry; exact PySem.EqMixed.eq_str_int (yX I q (by simp))
  | str j=>obtain ⟨t',rfl⟩:=ry; exact eq_str (yX I q dec_str)
  | _=>exact absurd (show false=true from hs) Bool.false_ne_true
 | byt i =>
  obtain ⟨t,rfl⟩:=rx
  cases y with
  | byt j=>obtain ⟨t',rfl⟩:=ry; exact PySem.W.eq_bytes (yX I q dec_byt)
  | _=>exact absurd (show false=true from hs) Bool.false_ne_true
 | _=>cases y <;> exact absurd (show false=true from hs) Bool.false_ne_true
theorem op_ne:OpR X (compareOp .NotEq) rNe:=by
 intro pins s σ H x y v u Q I rx ry h;obtain ⟨hs,q⟩:=h
 cases x with
 | non =>
  cases rx
  cases y with
  | non=>cases ry; exact PySem.EqNone.ne_none_none (yX I q (by simp))
  | bl j=>cases ry; exact PySem.EqNone.ne_none_bool (yX I q (by simp))
  | int j=>obtain ⟨t',rfl⟩:=ry; exact PySem.EqNone.ne_none_int (yX I q (by simp))
  | str j=>obtain ⟨t',rfl⟩:=ry; exact PySem.EqNone.ne_none_str (yX I q (by simp))
  | _=>exact absurd (show false=true from hs) Bool.false_ne_true
 | bl i =>
  cases rx
  cases y with
  | non=>cases ry; exact PySem.EqNone.ne_bool_none (yX I q (by simp))
  | bl j=>cases ry; exact ne_bool (yX I q (congrArg not dec_bl))
  | str j=>obtain ⟨t',rfl⟩:=ry; exact PySem.EqMixed.ne_bool_str (yX I q (by simp))
  | _=>exact absurd (show false=true from hs) Bool.false_ne_true
 | int i =>
  obtain ⟨t,rfl⟩:=rx
  cases y with
  | non=>cases ry; exact PySem.EqNone.ne_int_none (yX I q (by simp))
  | int j=>obtain ⟨t',rfl⟩:=ry; exact ne_int (yX I q (congrArg not dec_int))
  | str j=>obtain ⟨t',rfl⟩:=ry; exact PySem.EqMixed.ne_int_str (yX I q (by simp))
  | _=>exact absurd (show false=true from hs) Bool.false_ne_true
 | str i =>
  obtain ⟨t,rfl⟩:=rx
  cases y with
  | non=>cases ry; exact PySem.EqNone.ne_str_none (yX I q (by simp))
  | bl j=>cases ry; exact PySem.EqMixed.ne_str_bool (yX I q (by simp))
  | int j=>obtain ⟨t',rfl⟩:=ry; exact PySem.EqMixed.ne_str_int (yX I q (by simp))
  | str j=>obtain ⟨t',rfl⟩:=ry; exact ne_str (yX I q (congrArg not dec_str))
  | _=>exact absurd (show false=true from hs) Bool.false_ne_true
 | byt i =>
  obtain ⟨t,rfl⟩:=rx
  cases y with
  | byt j=>obtain ⟨t',rfl⟩:=ry; exact PySem.W.ne_bytes (yX I q (congrArg not dec_byt))
  | _=>exact absurd (show false=true from hs) Bool.false_ne_true
 | _=>cases y <;> exact absurd (show false=true from hs) Bool.false_ne_true
theorem op_lt:OpR X (compareOp .Lt) (rI0 fun i j=>.bl (decide (i<j))):=opB0 fun _ _ _ _ _ _ _ q=>lt_int q
theorem op_le:OpR X (compareOp .LtE) (rI0 fun i j=>.bl (decide (i≤j))):=opB0 fun _ _ _ _ _ _ _ q=>le_int q
theorem op_gt:OpR X (compareOp .Gt) (rI0 fun i j=>.bl (decide (j<i))):=opB0 fun _ _ _ _ _ _ _ q=>gt_int q
theorem op_ge:OpR X (compareOp .GtE) (rI0 fun i j=>.bl (decide (j≤i))):=opB0 fun _ _ _ _ _ _ _ q=>ge_int q
theorem nomark (b:Expr) {op:CmpOp} (h:op≠.In:=by decide) (h2:op≠.NotIn:=by decide):behindInMarks op b=false:=by
 have e1:(op==CmpOp.In)=false:=by cases op <;> first | rfl | exact absurd rfl h
 have e2:(op==CmpOp.NotIn)=false:=by cases op <;> first | rfl | exact absurd rfl h2
 cases b <;> simp [behindInMarks,e1,e2]
theorem vV {op:CmpOp} {r:R2} (ho:OpR X (compareOp op) r) (ha:PE X a ta) (hb:PE X b tb) (hm:behindInMarks op b=false:=by exact nomark _):PE X (.Compare a [op] [b] pos) (tOp r ta tb):=by
 intro pins s σ H Q I h;exact wpAny_Compare1 (binT ha hb I h fun v u s2 x y H2 I2 rx ry q=>ho pins s2 σ H2 x y v u Q I2 rx ry q) hm
def tTest (t:TE):TT:=fun σ H Q=>t σ H fun x H'=>∃ k,x=.bl k∧Q k H'
theorem zv {op:CmpOp} {r:R2} (ho:OpR X (compareOp op) r) (ha:PE X a ta) (hb:PE X b tb) (hm:behindInMarks op b=false:=by exact nomark _):PT X (.Compare a [op] [b] pos) (tTest (tOp r ta tb)):=by
 intro pins s σ H Q I h;refine wpAny_isTrue_Compare1 (thn (ha pins s σ H _ I h) fun v s1 ⟨x,H1,I1,r1,q1⟩=>thn (hb pins s1 σ H1 _ I1 q1) fun u s2 ⟨y,H2,I2,r2,q2⟩ =>
  thn (ho pins s2 σ H2 x y v u _ I2 r1 r2 q2) fun c s3 ⟨z,H3,I3,r3,k,e,q3⟩=>?_) hm
 subst e
 cases r3
 exact wpAny_truthy_bool ⟨H3,I3,q3⟩
theorem line63:(sizeLine:Nat)<2^63:=by rw [sizeLine_eq]; decide
theorem vals1 {x:V} {us:List Value} (r:Vals [x] us):∃ u,us=[u]∧RelV x u:=by
 cases r with
 | cons r1 r2=>cases r2; exact ⟨_,rfl,r1⟩
theorem vals2 {x y:V} {us:List Value} (r:Vals [x,y] us):∃ u w',us=[u,w']∧RelV x u∧RelV y w':=by
 cases r with
 | cons r1 r2 =>
  cases r2 with
  | cons r3 r4=>cases r4; exact ⟨_,_,rfl,r1,r3⟩
theorem QQ:CallR X (.builtin "abs") (fun xs H Q=>∃ i,xs=[.int i]∧Q (.int (if i<0 then -i else i)) H):=by
 intro pins s σ H xs us Q I r h;obtain ⟨i,rfl,q⟩:=h;obtain ⟨u,rfl,t,rfl⟩:=vals1 r;exact call_abs_int fun u tk=>⟨.int (if i<0 then -i else i),H,I.tok _,⟨_,rfl⟩,q⟩
theorem call_max2 (hc:X.calm=true):CallR X (.builtin "max") (fun xs H Q=>∃ i j,xs=[.int i,.int j]∧Q (.int (if j>i then j else i)) H):=by
 intro pins s σ H xs us Q I r h;obtain ⟨i,j,rfl,q⟩:=h;obtain ⟨u,w',rfl,⟨t,rfl⟩,⟨t',rfl⟩⟩:=vals2 r;refine max_two_ints (I.ok.hd hc) fun h' tk k=>⟨_,H,I.kept k,?_,q⟩
 by_cases hj:j>i
 ·rw [if_pos hj,if_pos hj]; exact ⟨_,rfl⟩
 ·rw [if_neg hj,if_neg hj]; exact ⟨_,rfl⟩
theorem call_min2 (hc:X.calm=true):CallR X (.builtin "min") (fun xs H Q=>∃ i j,xs=[.int i,.int j]∧Q (.int (if j<i then j else i)) H):=by
 intro pins s σ H xs us Q I r h;obtain ⟨i,j,rfl,q⟩:=h;obtain ⟨u,w',rfl,⟨t,rfl⟩,⟨t',rfl⟩⟩:=vals2 r;refine min_two_ints (I.ok.hd hc) fun h' tk k=>⟨_,H,I.kept k,?_,q⟩
 by_cases hj:j<i
 ·rw [if_pos hj,if_pos hj]; exact ⟨_,rfl⟩
 ·rw [if_neg hj,if_neg hj]; exact ⟨_,rfl⟩
theorem vQ:CallR X (.type "int") (fun xs H Q=>(∃ i,xs=[.int i]∧Q (.int i) H)∨∃ k,xs=[.bl k]∧Q (.int (if k then 1 else 0)) H):=by
 intro pins s σ H xs us Q I r h
 rcases h with ⟨i,rfl,q⟩ | ⟨k,rfl,q⟩
 ·obtain ⟨u,rfl,t,rfl⟩:=vals1 r
  exact call_int_int ⟨.int i,H,I,⟨_,rfl⟩,q⟩
 ·obtain ⟨u,rfl,r1⟩:=vals1 r
  cases r1
  exact call_int_bool ⟨.int (if k then 1 else 0),H,I.tok _,⟨_,rfl⟩,q⟩
theorem j9:CallR X (.builtin "divmod") (fun xs H Q=>∃ i j,xs=[.int i,.int j]∧CDiv i j∧∀ p,H p=none→Q (.ref p) (upd H p (.tup [.int (i/j),.int (i%j)]))):=by
 intro pins s σ H xs us Q I r h;obtain ⟨i,j,rfl,⟨h1,h2⟩,q⟩:=h;obtain ⟨u,w',rfl,⟨t,rfl⟩,⟨t',rfl⟩⟩:=vals2 r;refine divmod_int (by omega) ?_ (.inl (PyProof.noPylong_small (by omega)));rw [Int.fdiv_eq_ediv_of_nonneg i (by omega),Int.fmod_eq_emod_of_nonneg i (by omega)];have hn:H s.heap.objs.size=none:=I.hok.fresh (Nat.le_refl _);refine ⟨.ref s.heap.objs.size,_,?_,rfl,q _ hn⟩;refine I.laid (fun b o e=>Heap.get?_push_of_some _ e) (Nat.le_refl _) ⟨by simp only [List.length_cons,List.length_nil]; rw [sizeLine_eq]; decide,[.int (i/j) s.toks,.int (i%j) (s.toks+1)],.cons ⟨_,rfl⟩ (.cons ⟨_,rfl⟩ .nil),?_⟩;exact ⟨_,Heap.get?_push_size s.heap rfl,rfl,0,rfl⟩
end
structure ObjM (h:Heap) (x dx C:Addr) (mA:Str→Option Value):Prop where
 obj:h.get? x=some (PySem.W.instObj C dx)
 ns:h.Ns1 dx mA
 ne:dx≠x
theorem lookIn_ns {h:Heap} {dx:Addr} {mA:Str→Option Value} (n:h.Ns1 dx mA):∃ od,h.get? dx=some od∧∀ name,PySem.W.lookIn name od=some (mA name):=by
 obtain ⟨o,es,ep,ho,hd,hk,_,hm⟩:=n;refine ⟨o,ho,fun name=>?_⟩;have e:=hm name;unfold nsFind findBy at e;rw [← Array.find?_toList] at e;unfold PySem.W.lookIn;rw [hd];dsimp only
 split
 ·rename_i y q
  rw [q] at e;exact congrArg some e
 ·rename_i q
  rw [q] at e;have a:es.toList.any (·.refKey)=false:=by
   rw [List.any_eq_false];intro y hy;obtain ⟨z,t,hkey⟩:=hk y (Array.mem_toList_iff.mp hy)
   simp [DictEntry.refKey,hkey]
  have a':¬ es.toList.any (·.refKey)=true:=by rw [a]; exact Bool.false_ne_true
  rw [if_neg a'];exact congrArg some e
theorem ObjM.look {h:Heap} {x dx C:Addr} {mA:Str→Option Value} (I:ObjM h x dx C mA):∃ od,PySem.W.InstAt h x (PySem.W.instObj C dx) C (some od)∧∀ name,PySem.W.lookIn name od=some (mA name) :=
 let ⟨od,ho,hl⟩:=lookIn_ns I.ns
 ⟨od,⟨I.obj,rfl,rfl,ho⟩,hl⟩
section
variable {prog:Program} {w:World} {A:Around} {E:Value→Shared→Prop} {s:Shared} {K:As} {x dx C f:Addr} {mA:Str→Option Value} {name:Str} {v:Value}
theorem get_map {expr:Bool} {Q:Value→Shared→Prop} (X:K.In s.heap) (I:ObjM s.heap x dx C mA) (hg:PySem.W.plainGet K C name=true) (hh:PySem.W.hasDictIn K C=true)
  (ha:PySem.W.findIn K (.ref C) name=some none) (hv:mA name=some v) (hv':PySem.W.handedIn v=true) (h:Q v { s with toks:=s.toks+1 }) :
  wpAny (model prog w) A (getAttr (.ref x) name expr) Q E s:=by
 obtain ⟨od,J,hl⟩:=I.look;exact PySem.W.get_value X J (PySem.W.plainGet_of hg).1 (PySem.W.findObj_own hh ha rfl (by rw [hl,hv])) hv' h
theorem get_meth {pl:Sem Bool} {Q:Value×List Value→Shared→Prop} (X:K.In s.heap) (I:ObjM s.heap x dx C mA) (hg:PySem.W.plainGet K C name=true)
  (hf:PySem.W.findIn K (.ref C) name=some (some (.ref f))) (ht:PySem.W.isFn K (.ref f)=true) (hv:mA name=none) (h:Q (.ref f,[.ref x]) s) :
  wpAny (model prog w) A (getMethod (.ref x) name pl) Q E s:=by
 obtain ⟨od,J,hl⟩:=I.look;exact PySem.W.method_fn X J (PySem.W.plainGet_of hg).1 (PySem.W.plainGet_of hg).2 hf (beq_iff_eq.mp ht) (by show (PySem.W.lookIn name od).map (·.isSome)=some false; rw [hl,hv]; rfl) h
theorem set_map {ns:List Str} {Q:Unit→Shared→Prop} (X:K.In s.heap) (I:ObjM s.heap x dx C mA)
  (hs:PySem.W.findIn K (.ref C) "__setattr__" = some (some (.builtin "object.__setattr__"))) (hp:PySem.W.plainOver K C=true) (ht:PySem.W.takerIn K C name=some none) (hh:PySem.W.hasDictIn K C=true)
  (hw:PySem.Within mA ns) (hsz:ns.length≤sizeLine)
  (h:∀ h',ObjM h' x dx C (fun y=>if y=name then some v else mA y)→Heap.SameBut dx s.heap h'→Q () { s with heap:=h',toks:=s.toks+2 }) :
  wpAny (model prog w) A (setAttr (.ref x) name v) Q E s:=by
 obtain ⟨od,J,hl⟩:=I.look;refine PySem.W.set_plain X J hs (PySem.W.osa_open (s:={ s with toks:=s.toks+1 }) (r:=none) X J hp ht fun b=>?_);obtain ⟨cd,hc,hd'⟩:=PySem.W.any_some hh;have hx:s.heap.get? x=some ⟨.ref C,some dx,.plain,#[]⟩:=I.obj;refine wpAny_bind (wpAny_pure (wpAny_bind (wpAny_bind (wpAny_loadPart hx (wpAny_bind (PySem.W.Looks.here (s:={ s with toks:=s.toks+1 }) (PySem.W.looks_clsIn X hc) ?_))))));rw [hd'];refine wpAny_pure (a:=some dx) (wpAny_bind (wpAny_pure (wpAny_bind ?_)));refine wpAny_nsSet1 (s:={ s with toks:=s.toks+1 }) I.ns fun h' hn2 hs2=>?_
 obtain ⟨oD,esD,epD,hoD,hdD,hcD⟩:=hn2.count (PySem.Within.cons name v hw);refine wpAny_bind (wpAny_lookBehind hoD (by rw [hdD]; exact pastItsLine_dict (Ar hcD (by rw [List.length_cons]; omega))) ?_);exact wpAny_pure (h _ ⟨(hs2.2 _ (Ne.symm I.ne)).trans I.obj,hn2,I.ne⟩ hs2)
theorem make_map {R:Result→Shared→Prop} {vs:List Value} {kw:List (Str×Value)} (X:K.In s.heap) (hm:PySem.W.makesIn K C=true)
  (hi:PySem.W.findIn K (.ref C) "__init__" = some (some (.ref f))) (hf:PySem.W.typeIn K (.ref f)=some (.type "function"))
  (h:codeAny (model prog w) (A.under (.builtin "type.__call__" ⟨.ref C::vs,kw⟩)) (.call (.ref f) ⟨.ref (s.heap.objs.size+1)::vs,kw⟩) (PySem.W.InitBack (s.heap.objs.size+1) R)
   { s with heap:=(s.heap.push PySem.W.emptyDict).push (PySem.W.instObj C s.heap.objs.size) }) :
  codeAny (model prog w) A (.call (.ref C) ⟨vs,kw⟩) R s:=by
 obtain ⟨hh,g,d,t,os⟩:=s;exact PySem.W.make_core (PySem.W.makes_of X hm) (PySem.W.looks_findIn X hi) (fun self=>PySem.W.bind_fn X self hf) (.inl rfl) h
end
def putF (f:Str) (v:V):List (Str×V)→List (Str×V)
 | []=>[(f,v)]
 | (g,x)::r=>if g=f then (g,v)::r else (g,x)::putF f v r
theorem lookup_putF (f g:Str) (v:V):∀ fs:List (Str×V),(putF f v fs).lookup g=if g=f then some v else fs.lookup g
 | []=>by
  show List.lookup g [(f,v)]=_
  by_cases h:g=f
  ·have hb:(g==f)=true:=beq_iff_eq.mpr h
   simp only [List.lookup,hb,if_pos h]
  ·have hb:(g==f)=false:=beq_eq_false_iff_ne.mpr h
   simp only [List.lookup,hb,if_neg h]
 | (k,x)::r=>by
  have ih:=lookup_putF f g v r;rw [show putF f v ((k,x)::r)=(if k=f then (k,v)::r else (k,x)::putF f v r) from rfl]
  by_cases hk:k=f
  ·rw [if_pos hk]
   by_cases h:g=k
   ·have hb:(g==k)=true:=beq_iff_eq.mpr h
    simp only [List.lookup,hb,if_pos (h.trans hk)]
   ·have hb:(g==k)=false:=beq_eq_false_iff_ne.mpr h
    simp only [List.lookup,hb,if_neg (fun e:g=f=>h (e.trans hk.symm))]
  ·rw [if_neg hk]
   by_cases h:g=k
   ·have hb:(g==k)=true:=beq_iff_eq.mpr h
    simp only [List.lookup,hb,if_neg (fun e:g=f=>hk (h.symm.trans e))]
   ·have hb:(g==k)=false:=beq_eq_false_iff_ne.mpr h
    simp only [List.lookup,hb]
    exact ih
theorem keys_putF (f:Str) (v:V):∀ fs:List (Str×V),f∈(putF f v fs).map (·.1)∧∀ g,g∈fs.map (·.1)→g∈(putF f v fs).map (·.1)
 | []=>⟨by simp [putF],fun g h=>by simp at h⟩
 | (k,x)::r=>by
  obtain ⟨i1,i2⟩:=keys_putF f v r;rw [show putF f v ((k,x)::r)=(if k=f then (k,v)::r else (k,x)::putF f v r) from rfl]
  by_cases hk:k=f
  ·rw [if_pos hk]
   subst hk;exact ⟨by simp,fun g h=>by simpa using h⟩
  ·rw [if_neg hk]
   refine ⟨?_,fun g h=>?_⟩
   ·rw [List.map_cons]
    exact A9 _ i1
   ·rw [List.map_cons] at h ⊢
    rcases List.mem_cons.mp h with e | e
    ·exact List.mem_cons.mpr (.inl e)
    ·exact A9 _ (i2 g e)
theorem length_putF (f:Str) (v:V):∀ fs:List (Str×V),(putF f v fs).length≤fs.length+1
 | []=>by simp [putF]
 | (k,x)::r=>by
  have ih:=length_putF f v r;rw [show putF f v ((k,x)::r)=(if k=f then (k,v)::r else (k,x)::putF f v r) from rfl]
  by_cases hk:k=f
  ·rw [if_pos hk,List.length_cons,List.length_cons]; omega
  ·rw [if_neg hk,List.length_cons,List.length_cons]; omega
theorem RelO.some_of {v:V} {o:Option Value} (r:RelO (some v) o):∃ u,o=some u∧RelV v u:=by
 cases o with
 | none=>exact (show False from r).elim
 | some u=>exact ⟨u,rfl,r⟩
theorem RelO.none_of {o:Option Value} (r:RelO none o):o=none:=by
 cases o with
 | none=>rfl
 | some u=>exact (show False from r).elim
theorem handed_of {v:V} {u:Value} (r:RelV v u):PySem.W.handedIn u=true:=by
 cases v with
 | non=>cases (show u=Value.none from r); rfl
 | bl b=>cases (show u=Value.bool b from r); rfl
 | int i=>obtain ⟨t,e⟩:=(show ∃ t,u=Value.int i t from r); cases e; rfl
 | str x=>obtain ⟨t,e⟩:=(show ∃ t,u=Value.str x t from r); cases e; rfl
 | byt b=>obtain ⟨t,e⟩:=(show ∃ t,u=Value.bytes b t from r); cases e; rfl
 | flt b=>obtain ⟨t,e⟩:=(show ∃ t,u=Value.float b t from r); cases e; rfl
 | ref a=>cases (show u=Value.ref a from r); rfl
 | ty n=>cases (show u=Value.type n from r); rfl
section
variable {P:Program} {w:World} {H H':Hp} {h h':Heap} {a C dx:Addr} {fs fs':List (Str×V)}
theorem ins_get (hok:HOk P w H h) (e:H a=some (.ins C dx fs)):∃ mA,ObjM h a dx C mA∧(∀ f,RelO (fs.lookup f) (mA f))∧PySem.Within mA (fs.map (·.1))∧fs.length≤1000∧H dx=some (.own a):=by
 obtain ⟨d,z,ne,ob,mA,n,r,q⟩:=(show ObjOk P w H h a (.ins C dx fs) from hok a _ e);exact ⟨mA,⟨ob,n,ne⟩,r,q,z,d⟩
end
structure Cls (K:As) (C:Addr):Prop where
 pg:PySem.W.plainGet K C Str.empty=true
 hd:PySem.W.hasDictIn K C=true
 po:PySem.W.plainOver K C=true
 sa:PySem.W.findIn K (.ref C) "__setattr__" = some (some (.builtin "object.__setattr__"))
theorem Cls.get {K:As} {C:Addr} (c:Cls K C) (f:Str):PySem.W.plainGet K C f=true:=c.pg
def vX (K:As) (C:Addr) (f:Str):Prop:=PySem.W.findIn K (.ref C) f=some none
theorem vX.taker {K:As} {C:Addr} {f:Str} (n:vX K C f):PySem.W.takerIn K C f=some none:=by
 unfold PySem.W.takerIn;rw [show PySem.W.findIn K (.ref C) f=some none from n];rfl
structure Con (K:As) (C:Addr) (f:Str) (v:V) (u:Value):Prop where
 at_:PySem.W.findIn K (.ref C) f=some (some u)
 rel:RelV v u
 get:PySem.W.specialIn K u "__get__" = some none
 cp:PySem.W.copiedNames.contains f=false
structure Meth (K:As) (C:Addr) (m:Str) (f:Addr):Prop where
 at_:PySem.W.findIn K (.ref C) m=some (some (.ref f))
 fn:PySem.W.isFn K (.ref f)=true
 kp:PySem.W.keepIn K (.ref f)=true
section
variable {X:Cx} {pins:List (Addr×Obj)} {σ:St} {H:Hp} {s:Shared} {a C dx:Addr} {fs:List (Str×V)} {f:Str} {v:V} {A:Around} {E:Value→Shared→Prop}
theorem getattr_ok {b:Bool} {Q:Value→Shared→Prop} (I:Inv X pins σ H s) (e:H a=some (.ins C dx fs)) (c:Cls X.K C) (n:vX X.K C f) (l:fs.lookup f=some v)
  (h:∀ u s',Inv X pins σ H s'→RelV v u→Q u s'):wpAny (model X.prog X.w) A (getAttr (.ref a) f b) Q E s:=by
 obtain ⟨mA,O,r,_,_,_⟩:=ins_get I.hok e;obtain ⟨u,hu,ru⟩:=RelO.some_of (v:=v) (o:=mA f) (by rw [← l]; exact r f);exact get_map I.kIn O (c.get f) c.hd n hu (handed_of ru) (h u _ (I.tok _) ru)
theorem getmeth_ok {m:Str} {g:Addr} {pl:Sem Bool} {Q:Value×List Value→Shared→Prop} (I:Inv X pins σ H s) (e:H a=some (.ins C dx fs)) (c:Cls X.K C) (k:Meth X.K C m g) (l:fs.lookup m=none)
  (h:Q (.ref g,[.ref a]) s):wpAny (model X.prog X.w) A (getMethod (.ref a) m pl) Q E s:=by
 obtain ⟨mA,O,r,_,_,_⟩:=ins_get I.hok e;have hn:mA m=none:=RelO.none_of (by rw [← l]; exact r m);exact get_meth I.kIn O (c.get m) k.at_ k.fn hn h
theorem setattr_ok {y:V} {u:Value} {Q:Unit→Shared→Prop} (I:Inv X pins σ H s) (e:H a=some (.ins C dx fs)) (c:Cls X.K C) (n:vX X.K C f) (hl:fs.length<1000) (ry:RelV y u)
  (h:∀ s',Inv X pins σ (upd H a (.ins C dx (putF f y fs))) s'→Q () s'):wpAny (model X.prog X.w) A (setAttr (.ref a) f u) Q E s:=by
 obtain ⟨mA,O,r,wi,_,ho⟩:=ins_get I.hok e;have hz:(fs.map (·.1)).length≤sizeLine:=by rw [Al,sizeLine_eq]; omega
 refine set_map I.kIn O c.sa c.po n.taker c.hd wi hz fun h' O' sb=>h _ ?_
 have hd:∃ o,h'.get? dx=some o:=let ⟨o,_,_,e',_⟩:=O'.ns; ⟨o,e'⟩
 refine I.write (x:=a) (e:=dx) (by rw [e]; exact True.intro) (.inr ho) (fun b q hb z=>(sb.2 b hb).trans z) hd ?_;refine ⟨by rw [qJ O.ne]; exact ho,?_,O.ne,O'.obj,_,O'.ns,fun g=>?_,fun g hg=>?_⟩
 ·have:=length_putF f y fs; omega
 ·show RelO ((putF f y fs).lookup g) (if g=f then some u else mA g)
  rw [lookup_putF]
  by_cases q:g=f
  ·rw [if_pos q,if_pos q]; exact ry
  ·rw [if_neg q,if_neg q]; exact r g
 ·by_cases q:g=f
  ·rw [q]; exact (keys_putF f y fs).1
  ·refine (keys_putF f y fs).2 g (wi g fun z=>hg ?_)
   show (if g=f then some u else mA g)=none;rw [if_neg q]; exact z
theorem Inv.made (I:Inv X pins σ H s):Inv X pins σ (upd (upd H s.heap.objs.size (.own (s.heap.objs.size+1))) (s.heap.objs.size+1) (.ins C s.heap.objs.size []))
  { s with heap:=(s.heap.push PySem.W.emptyDict).push (PySem.W.instObj C s.heap.objs.size) }:=by
 have e1:(s.heap.push PySem.W.emptyDict).get? s.heap.objs.size=some PySem.W.emptyDict:=Heap.get?_push_size s.heap rfl;have e2:((s.heap.push PySem.W.emptyDict).push (PySem.W.instObj C s.heap.objs.size)).get? (s.heap.objs.size+1)=some (PySem.W.instObj C s.heap.objs.size):=by
  have:=Heap.get?_push_size (s.heap.push PySem.W.emptyDict) (o:=PySem.W.instObj C s.heap.objs.size) rfl
  rwa [Heap.size_push] at this
 have e3:(s.heap.push PySem.W.emptyDict).Ns s.heap.objs.size (fun _=>none):=⟨PySem.W.emptyDict,#[],_,e1,rfl,(fun e he=>absurd he (by simp)),fun _=>rfl⟩;have I1:=I.laid (a:=s.heap.objs.size) (o:=.own (s.heap.objs.size+1)) (h':=s.heap.push PySem.W.emptyDict) (t':=s.toks) (fun b u q=>Heap.get?_push_of_some _ q) (Nat.le_refl _) ⟨_,e1⟩;refine I1.laid (a:=s.heap.objs.size+1) (o:=.ins C s.heap.objs.size []) (t':=s.toks) (fun b u q=>Heap.get?_push_of_some _ q) (Nat.le_of_eq (Heap.size_push _ _)) ?_;have ne:s.heap.objs.size≠s.heap.objs.size+1:=Nat.ne_of_lt (Nat.lt_succ_self _);refine ⟨by rw [qJ ne,qz],Nat.zero_le _,ne,e2,fun _=>none,(Heap.Ns1.of_empty e3).at fun o q=>Heap.get?_push_of_some _ q,fun _=>True.intro,fun y hy=>absurd rfl hy⟩
theorem attr_of {prog:Program} {w:World} {env:Env} {e:Expr} {f:Str} {pos:Pos} {s:Shared} {Q:Value→Shared→Prop} (hb:attributeBase e f env (eval e env)=eval e env)
  (h:wpAny (model prog w) A (eval e env) (fun o s₁=>wpAny (model prog w) A (getAttr o f true) Q E s₁) E s):wpAny (model prog w) A (eval (.Attribute e f pos) env) Q E s :=
 Attribute_any_ h (by rw [arm_eval_Attribute,hb])
end
def tFld (K:As) (ta:TE) (f:Str):TE:=fun σ H Q=>ta σ H fun x H1=>∃ a C dx fs v,x=.ref a∧H1 a=some (.ins C dx fs)∧Cls K C∧vX K C f∧fs.lookup f=some v∧Q v H1
def sFld (K:As) (ta tv:TE) (f:Str):TS:=fun D σ H=>tv σ H fun y H1=>ta σ H1 fun x H2=>∃ a C dx fs,x=.ref a∧H2 a=some (.ins C dx fs)∧Cls K C∧vX K C f∧fs.length<1000∧D.nx σ (upd H2 a (.ins C dx (putF f y fs)))
section
variable {X:Cx} {o e value:Expr} {f:Str} {pos pos' tpos:Pos} {ta tv:TE}
theorem yx (he:PE X e ta) (hb:attributeBase e f X.env (eval e X.env)=eval e X.env):PE X (.Attribute e f pos) (tFld X.K ta f):=by
 intro pins s σ H Q I h;refine attr_of hb (thn (he pins s σ H _ I h) fun u s1 ⟨x,H1,I1,rx,a,C,dx,fs,v,ex,ea,c,n,l,q⟩=>?_);subst ex;obtain rfl:u=Value.ref a:=rx;exact getattr_ok I1 ea c n l fun u' s2 I2 ru=>⟨v,H1,I2,ru,q⟩
theorem xX (ha:PE X o ta) (hv:PE X value tv) (hs:swapsWith value (some (.Attribute o f pos')) pos.line X.env=pure false):PS X (.Assign [.Attribute o f pos'] value pos) (sFld X.K ta tv f):=by
 intro pins s σ H D I h;refine plainObj_wpAny_Assign_Attribute (thn (hv pins s σ H _ I h) fun u s1 ⟨y,H1,I1,ry,q⟩=>thn (ha pins s1 σ H1 _ I1 q) fun ov s2 ⟨x,H2,I2,rx,a,C,dx,fs,ex,ea,c,n,l,q2⟩=>?_) hs;subst ex;obtain rfl:ov=Value.ref a:=rx;exact setattr_ok I2 ea c n l ry fun s3 I3=>⟨σ,_,I3,q2⟩
end
section
variable {X:Cx} {pins:List (Addr×Obj)} {σ:St} {H:Hp} {s:Shared} {A:Around} {E:Value→Shared→Prop} {Q:Value→Shared→Prop} {c:Value} {b:Bool}
inductive TyOf (K:As) (H:Hp):V→Value→Prop where
 | non:TyOf K H .non (.type "NoneType")
 | bl (x:Bool):TyOf K H (.bl x) (.type "bool")
 | int (i:Int):TyOf K H (.int i) (.type "int")
 | str (x:Str):TyOf K H (.str x) (.type "str")
 | flt (x:UInt64):TyOf K H (.flt x) (.type "float")
 | lst {a:Addr} {xs:List V} (e:H a=some (.lst xs)):TyOf K H (.ref a) (.type "list")
 | frz {a:Addr} {o:Obj} {xs:List V} (e:H a=some (.frz o (.lst xs))):TyOf K H (.ref a) (.type "list")
 | tup {a:Addr} {xs:List V} (e:H a=some (.tup xs)):TyOf K H (.ref a) (.type "tuple")
 | dK {a:Addr} {kvs:List (Key×V)} (e:H a=some (.dK kvs)):TyOf K H (.ref a) (.type "dict")
 | dT {a:Addr} {kvs:List (List Key×V)} (e:H a=some (.dT kvs)):TyOf K H (.ref a) (.type "dict")
 | ins {a C dx:Addr} {fs:List (Str×V)} (e:H a=some (.ins C dx fs)) (cl:Cls K C) (ha:PySem.W.findIn K (.ref C) "__class__" = some (some (.builtin "object.__class__")))
   (hn:PySem.W.specialIn K (.builtin "object.__class__") "__get__" = some (some (.builtin "getset_descriptor.__get__"))) (htk:PySem.W.takesIn K (.builtin "object.__class__")=some true)
   (hm:PySem.W.mroIn K C (.type "object")=some true):TyOf K H (.ref a) (.ref C)
end
structure Room (k:Nat) (A:Around):Prop where
 hd:A.handled=none
 dp:A.depth+3*k+5<recursionLimit
 un:A.units+16*k+200<cLine
theorem Room.mono {j k:Nat} {A:Around} (r:Room k A) (h:j≤k):Room j A:=⟨r.hd,by have:=r.dp; omega,by have:=r.un; omega⟩
theorem Room.deeper {k:Nat} {A:Around} (r:Room (k+1) A) (env:Env):Room k (A.deeper env) :=
 ⟨r.hd,by have:=r.dp; show A.depth+1+3*k+5<_; omega,by have:=r.un; show A.units+3+16*k+200<_; omega⟩
theorem make_depth {A:Around} {C:Addr} {us:List Value} {kw:List (Str×Value)}:(A.under (.builtin "type.__call__" ⟨.ref C::us,kw⟩)).depth=A.depth+1:=by
 first | rfl | simp [Around.under,Code.weight,Code.isCreation,Code.isGuard,Code.isCaller,Code.frames,Code.isFrame,guardIds]
theorem make_units {A:Around} {C:Addr} {us:List Value} {kw:List (Str×Value)}:(A.under (.builtin "type.__call__" ⟨.ref C::us,kw⟩)).units=A.units+1:=by
 first | rfl | simp [Around.under,Code.cUnits,Code.frames,Code.isFrame]
theorem Room.make {k:Nat} {A:Around} (r:Room (k+1) A) (C:Addr) (us:List Value) (kw:List (Str×Value)):Room k (A.under (.builtin "type.__call__" ⟨.ref C::us,kw⟩)) :=
 ⟨r.hd,by have:=r.dp; rw [make_depth]; omega,by have:=r.un; rw [make_units]; omega⟩
theorem Room.depth {k:Nat} {A:Around} (r:Room k A):A.depth<recursionLimit:=by have:=r.dp; omega
theorem Room.units {k:Nat} {A:Around} (r:Room k A):A.units+64<cLine:=by have:=r.un; omega
def tNil:TA:=fun _ H Q=>Q [] H
def tCons (ta:TE) (tr:TA):TA:=fun σ H Q=>ta σ H fun x H1=>tr σ H1 fun xs H2=>Q (x::xs) H2
section
variable {X:Cx} {e:Expr} {es:List Expr} {te:TE} {t:TA} {pos:Pos}
theorem qj:PA X [] tNil:=fun _ _ _ _ H Q I h=>Calls.spliced_nil ⟨[],H,I,.nil,h⟩
theorem pa_cons (ha:PE X e te) (hr:PA X es t) (hs:starEach (e::es) X.env=(false,eval e X.env)::starEach es X.env:=by rfl):PA X (e::es) (tCons te t):=by
 intro pos pins s σ H Q I h;rw [hs];show wpAny _ _ (spliced ((false,eval e X.env)::backTo pos (starEach es X.env))) _ _ s;refine Calls.spliced_cons (thn (ha pins s σ H _ I h) fun u s1 ⟨x,H1,I1,r1,q1⟩=>?_);exact thn (hr pos pins s1 σ H1 _ I1 q1) fun us s2 ⟨xs,H2,I2,r2,q2⟩=>⟨x::xs,H2,I2,.cons r1 r2,q2⟩
def tTup (t:TA):TE:=fun σ H Q=>t σ H fun xs H1=>xs.length≤sizeLine∧∀ p,H1 p=none→Q (.ref p) (upd H1 p (.tup xs))
def tLst (t:TA):TE:=fun σ H Q=>t σ H fun xs H1=>xs.length≤sizeLine∧∀ p,H1 p=none→Q (.ref p) (upd H1 p (.lst xs))
theorem yz {x1} (h:PA X es t):PE X (.Tuple es x1 pos) (tTup t):=by
 intro pins s σ H Q I hq;refine wpAny_Tuple_spliced (thn (h pos pins s σ H _ I hq) fun us s1 ⟨xs,H1,I1,r,z,q⟩=>⟨by rw [← r.length]; exact z,?_⟩);have hf:H1 s1.heap.objs.size=none:=I1.hok.fresh (Nat.le_refl _);refine ⟨.ref s1.heap.objs.size,upd H1 s1.heap.objs.size (.tup xs),I1.laid (t':=s1.toks) (fun b u e=>Heap.get?_push_of_some _ e) (Nat.le_refl _) ?_,rfl,q _ hf⟩;exact ⟨z,us,r,⟨_,Heap.get?_push_size _ rfl,rfl,_,rfl⟩⟩
theorem x4 (h:PA X es t):PE X (.List es pos) (tLst t):=by
 intro pins s σ H Q I hq;refine wpAny_List_spliced (thn (h pos pins s σ H _ I hq) fun us s1 ⟨xs,H1,I1,r,z,q⟩=>⟨by rw [← r.length]; exact z,?_⟩);have hf:H1 s1.heap.objs.size=none:=I1.hok.fresh (Nat.le_refl _);refine ⟨.ref s1.heap.objs.size,upd H1 s1.heap.objs.size (.lst xs),I1.laid (t':=s1.toks) (fun b u e=>Heap.get?_push_of_some _ e) (Nat.le_refl _) ?_,rfl,q _ hf⟩;exact ⟨z,us,0,r,Heap.get?_push_size _ rfl⟩
end
abbrev Sp:=List V→Hp→VK→XK→Prop
abbrev CXT:=List Env→Hp→Shared→XK→Value→Shared→Prop
structure Env0 (P:Program) (w:World) (K:As) (mg:Str→Option Value) (base:Heap) (A:Around) (outer:List Env) (s:Shared) (H:Hp):Prop where
 frames:A.frames=some outer
 mod:Mod K mg base
 bs:∀ b o,base.get? b=some o→s.heap.get? b=some o∧H b=none
 bsz:base.objs.size≤s.heap.objs.size
 funs:s.heap.FunFrames base outer
 frf:∀ b∈frs outer,H b=none
 hok:HOk P w H s.heap
 bare:AllBare s.gens
def CE (outer:List Env) (P:Program) (w:World) (H:Hp) (s:Shared) (Q:VK) (u:Value) (s':Shared):Prop :=
 ∃ v H',s'.os=s.os∧AllBare s'.gens∧Un (frs outer) [] H H' s.heap s'.heap∧HOk P w H' s'.heap∧RelV v u∧Q v H'
def CR (CX:CXT) (outer:List Env) (P:Program) (w:World) (H:Hp) (s:Shared) (Q:VK) (E:XK) (r:Result) (s':Shared):Prop :=
 match r with
 | .ok (.ret u)=>CE outer P w H s Q u s'
 | .ok _=>False
 | .error e=>CX outer H s E e s'
structure FnOk (P:Program) (w:World) (K:As) (mg:Str→Option Value) (base:Heap) (CX:CXT) (k:Nat) (f:Addr) (fd:FuncData) (ps:List Str) (sp:Sp):Prop where
 len:∀ vs H Q E,sp vs H Q E→vs.length=ps.length
 run:∀ (A:Around) (outer:List Env) (s:Shared) (H:Hp) (args:Args) (us:List Value) (vs:List V) (Q:VK) (E:XK),Room k A→Env0 P w K mg base A outer s H→BindsTo s fd args (ps.zip us)→Vals vs us→sp vs H Q E→codeAny (model P w) A (.call (.ref f) args) (CR CX outer P w H s Q E) s
theorem FnOk.imp {P:Program} {w:World} {K:As} {mg:Str→Option Value} {base:Heap} {CX:CXT} {k:Nat} {f:Addr} {fd:FuncData} {ps:List Str} {sp sp':Sp} (F:FnOk P w K mg base CX k f fd ps sp)
  (h:∀ vs H Q E,sp' vs H Q E→sp vs H Q E):FnOk P w K mg base CX k f fd ps sp' :=
 ⟨fun vs H Q E q=>F.len vs H Q E (h _ _ _ _ q),fun A outer s H args us vs Q E hr he hb hv hs=>F.run A outer s H args us vs Q E hr he hb hv (h _ _ _ _ hs)⟩
theorem Env0.make {P:Program} {w:World} {K:As} {mg:Str→Option Value} {base:Heap} {A:Around} {outer:List Env} {s:Shared} {H:Hp} (e:Env0 P w K mg base A outer s H) (C:Addr) (us:List Value) (kw:List (Str×Value)) :
  Env0 P w K mg base (A.under (.builtin "type.__call__" ⟨.ref C::us,kw⟩)) outer s H:=⟨by first | exact e.frames | (simpa [Around.under,Code.envs,Code.isFrame,pushEnvs] using e.frames),e.mod,e.bs,e.bsz,e.funs,e.frf,e.hok,e.bare⟩
section
variable {X:Cx} {pins:List (Addr×Obj)} {σ:St} {H:Hp} {s s':Shared}
theorem Inv.env0 (I:Inv X pins σ H s):Env0 X.prog X.w X.K X.mg X.base X.A X.stack s H :=
 ⟨I.ok.frames,I.ok.mod,I.bs,Ar I.ok.bsz I.sz,I.stack,I.stkFree,I.hok,I.bare⟩
theorem Inv.after {Q:VK} {u:Value} (I:Inv X pins σ H s) (h:CE X.stack X.prog X.w H s Q u s'):EP X pins σ Q u s':=by
 obtain ⟨v,H',os,bare,un,hok,r,q⟩:=h;obtain ⟨hh,g,d,t,os'⟩:=s';obtain rfl:os'=s.os:=os;exact ⟨v,H',I.call (h':=hh) (g':=g) (d':=d) (t':=t) (ch:=[]) un hok bare (fun b z=>absurd z (by simp)),r,q⟩
end
def tCall (sp:Sp) (dvs:List V) (E:XK) (t:TA):TE:=fun σ H Q=>t σ H fun vs H1=>sp (vs++dvs) H1 Q E
def tMeth (C:Addr) (m:Str) (sp:Sp) (dvs:List V) (E:XK) (ta:TE) (t:TA):TE:=fun σ H Q=>ta σ H fun x H1=>∃ a dx fs,x=.ref a∧H1 a=some (.ins C dx fs)∧fs.lookup m=none∧t σ H1 fun vs H2=>sp (x::(vs++dvs)) H2 Q E
def tMake (C:Addr) (sp:Sp) (dvs:List V) (E:XK) (t:TA):TE:=fun σ H Q=>t σ H fun vs H1=>∀ x dx,H1 x=none→H1 dx=none→dx≠x→sp (.ref x::(vs++dvs)) (upd (upd H1 dx (.own x)) x (.ins C dx [])) (fun v H2=>v=.non∧Q (.ref x) H2) E
def Binds (K:As) (fd:FuncData) (ps:List Str) (ds:List Value):Prop :=
 ∀ (s:Shared) (us:List Value),K.In s.heap→(us++ds).length=ps.length→BindsTo s fd ⟨us,[]⟩ (ps.zip (us++ds))
theorem Binds.all {K:As} {fd:FuncData} {ps:List Str} (h:∀ us:List Value,us.length=ps.length→bindArgs fd ⟨us,[]⟩=pure (ps.zip us)):Binds K fd ps []:=fun s us _ hl=>by
 rw [List.append_nil] at hl ⊢;exact .of_eq (h us hl)
def Passes (CX:CXT) (X:Cx) (E:XK):Prop:=∀ (pins:List (Addr×Obj)) (σ:St) (H:Hp) (s:Shared) (e:Value) (s':Shared),Inv X pins σ H s→CX X.stack H s E e s'→X.xe e s'
section
variable {X:Cx} {CX:CXT} {k:Nat} {f C:Addr} {fd:FuncData} {ps:List Str} {sp:Sp} {dvs:List V} {ds:List Value} {E:XK} {x m:Str} {p pos apos:Pos} {e o:Expr} {es:List Expr} {ta:TE} {t:TA}
theorem run_fn {pins:List (Addr×Obj)} {σ:St} {H:Hp} {s:Shared} {Q:VK} {us:List Value} {vs:List V} (F:FnOk X.prog X.w X.K X.mg X.base CX k f fd ps sp) (hr:Room k X.A) (hb:Binds X.K fd ps ds) (hd:Vals dvs ds) (hx:Passes CX X E)
  (I:Inv X pins σ H s) (r:Vals vs us) (h:sp (vs++dvs) H Q E):wpAny (model X.prog X.w) X.A (call (.ref f) us) (EP X pins σ Q) X.xe s:=by
 have r2:Vals (vs++dvs) (us++ds):=r.append hd;have hl:(us++ds).length=ps.length:=by rw [← r2.length]; exact F.len _ _ _ _ h
 refine wpAny_call (codeAny_mono (F.run X.A X.stack s H ⟨us,[]⟩ (us++ds) (vs++dvs) Q E hr I.env0 (hb s us I.kIn hl) r2 h) fun r s' hq=>?_)
 cases r with
 | error e=>exact hx pins σ H s e s' I hq
 | ok fl =>
  cases fl with
  | ret u=>exact I.after hq
  | next=>exact False.elim hq
  | brk=>exact False.elim hq
  | cont=>exact False.elim hq
theorem pe_call (F:FnOk X.prog X.w X.K X.mg X.base CX k f fd ps sp) (hr:Room k X.A) (hg:Gl X x) (hm:X.mg x=some (.ref f)) (hk:PySem.W.keepIn X.K (.ref f)=true) (hb:Binds X.K fd ps ds) (hd:Vals dvs ds) (hx:Passes CX X E)
  (ha:PA X (e::es) t) (hdb:(x==("__debug__" : Str))=false:=by decide) (he:starEach (e::es) X.env=(false,eval e X.env)::starEach es X.env:=by exact qq rfl _ _) (hpl:(backTo pos (starEach es X.env)).any (·.1)=false:=by exact qV rfl) :
  PE X (.Call (.Name x p) (e::es) [] pos) (tCall sp dvs E t):=by
 intro pins s σ H Q I h;refine wpAny_Call_Name_kw (ld_glob I hg hm ?_ hdb);refine PySem.W.callWith_K (h₀:=X.base) I.ok.mod.kin hk (thn (ha pos pins s σ H _ I h) fun us s1 ⟨vs,H1,I1,r,q⟩=>⟨I1.kIn,?_⟩) he hpl;exact run_fn F hr hb hd hx I1 r q
theorem pe_meth {pl:Sem Bool} (he:PE X o ta) (c:Cls X.K C) (hm:Meth X.K C m f) (F:FnOk X.prog X.w X.K X.mg X.base CX k f fd ps sp) (hr:Room k X.A) (hb:Binds X.K fd ps ds) (hd:Vals dvs ds) (hx:Passes CX X E) (ha:PA X (e::es) t)
  (hst:starEach (e::es) X.env=(false,eval e X.env)::starEach es X.env:=by exact qq rfl _ _) (hpl:(backTo pos (starEach es X.env)).any (·.1)=false:=by exact qV rfl)
  (ht:eval (.Call (.Attribute o m apos) (e::es) [] pos) X.env=(do
   let ov ← eval o X.env
   standAt apos.atName
   let (f,first) ← holding [ov] (getMethod ov m pl)
   callWith pos f first (backTo pos (starEach (e::es) X.env)) (backToKw pos (keywordEach [] X.env))):=by rfl) :
  PE X (.Call (.Attribute o m apos) (e::es) [] pos) (tMeth C m sp dvs E ta t):=by
 intro pins s σ H Q I h;refine PySem.W.methodCall_KW (pl:=pl) (thn (he pins s σ H _ I h) fun u s1 ⟨x,H1,I1,rx,a,dx,fs,ex,ea,l,q⟩=>?_) ht;subst ex;obtain rfl:u=Value.ref a:=rx;refine getmeth_ok I1 ea c hm l ?_;refine PySem.W.callWith_K (first:=[.ref a]) (h₀:=X.base) I.ok.mod.kin hm.kp (thn (ha pos pins s1 σ H1 _ I1 q) fun us s2 ⟨vs,H2,I2,r,q2⟩=>⟨I2.kIn,?_⟩) hst hpl;exact run_fn (us:=.ref a::us) (vs:=.ref a::vs) F hr hb hd hx I2 (.cons rfl r) q2
theorem xy {pl:Sem Bool} (he:PE X o ta) (c:Cls X.K C) (hm:Meth X.K C m f) (F:FnOk X.prog X.w X.K X.mg X.base CX k f fd ps sp) (hr:Room k X.A) (hb:Binds X.K fd ps ds) (hd:Vals dvs ds) (hx:Passes CX X E)
  (ht:eval (.Call (.Attribute o m apos) [] [] pos) X.env=(do
   let ov ← eval o X.env
   standAt apos.atName
   let (f,first) ← holding [ov] (getMethod ov m pl)
   callWith pos f first (backTo pos (starEach [] X.env)) (backToKw pos (keywordEach [] X.env))):=by rfl) :
  PE X (.Call (.Attribute o m apos) [] [] pos) (tMeth C m sp dvs E ta tNil):=by
 intro pins s σ H Q I h;refine PySem.W.methodCall_KW (pl:=pl) (thn (he pins s σ H _ I h) fun u s1 ⟨x,H1,I1,rx,a,dx,fs,ex,ea,l,q⟩=>?_) ht;subst ex;obtain rfl:u=Value.ref a:=rx;refine getmeth_ok I1 ea c hm l ?_;exact PySem.W.callWith_K0 (first:=[.ref a]) I1.kIn hm.kp (run_fn (us:=[.ref a]) (vs:=[.ref a]) F hr hb hd hx I1 (.cons rfl .nil) q)
structure Mk (K:As) (C f:Addr):Prop where
 makes:PySem.W.makesIn K C=true
 init:PySem.W.findIn K (.ref C) "__init__" = some (some (.ref f))
 fn:PySem.W.isFn K (.ref f)=true
 kp:PySem.W.keepIn K (.ref C)=true
theorem run_make {pins:List (Addr×Obj)} {σ:St} {H:Hp} {s:Shared} {Q:VK} {us:List Value} {vs:List V} (M:Mk X.K C f) (F:FnOk X.prog X.w X.K X.mg X.base CX k f fd ps sp) (hr:Room (k+1) X.A) (hb:Binds X.K fd ps ds) (hd:Vals dvs ds)
  (hx:Passes CX X E) (I:Inv X pins σ H s) (r:Vals vs us)
  (h:∀ x dx,H x=none→H dx=none→dx≠x→sp (.ref x::(vs++dvs)) (upd (upd H dx (.own x)) x (.ins C dx [])) (fun v H2=>v=.non∧Q (.ref x) H2) E) :
  wpAny (model X.prog X.w) X.A (call (.ref C) us) (EP X pins σ Q) X.xe s:=by
 have hq:=h (s.heap.objs.size+1) s.heap.objs.size (I.hok.fresh (Nat.le_succ _)) (I.hok.fresh (Nat.le_refl _)) (Nat.ne_of_lt (Nat.lt_succ_self _));have I2:=Inv.made (C:=C) I;have r2:Vals (V.ref (s.heap.objs.size+1)::(vs++dvs)) (Value.ref (s.heap.objs.size+1)::(us++ds)):=.cons rfl (r.append hd);have hl:(Value.ref (s.heap.objs.size+1)::us++ds).length=ps.length:=by
  have e:=r2.length;rw [F.len _ _ _ _ hq] at e;exact e.symm
 refine wpAny_call (make_map (f:=f) I.kIn M.makes M.init (beq_iff_eq.mp M.fn) (codeAny_mono (F.run _ X.stack _ _ ⟨Value.ref (s.heap.objs.size+1)::us,[]⟩ (Value.ref (s.heap.objs.size+1)::(us++ds)) _ _ E (hr.make C us [])
  (I2.env0.make C us []) (hb _ (Value.ref (s.heap.objs.size+1)::us) I2.kIn hl) r2 hq) fun r s' hq'=>?_))
 cases r with
 | error e=>exact hx pins σ _ _ e s' I2 hq'
 | ok fl =>
  cases fl with
  | ret u =>
   obtain ⟨v,H',I3,rv,ev,q3⟩:=I2.after hq';subst ev;exact ⟨rv,⟨V.ref (s.heap.objs.size+1),H',I3,rfl,q3⟩⟩
  | next=>exact False.elim hq'
  | brk=>exact False.elim hq'
  | cont=>exact False.elim hq'
theorem ZY (M:Mk X.K C f) (F:FnOk X.prog X.w X.K X.mg X.base CX k f fd ps sp) (hr:Room (k+1) X.A) (hg:Gl X x) (hm:X.mg x=some (.ref C)) (hb:Binds X.K fd ps ds) (hd:Vals dvs ds) (hx:Passes CX X E)
  (ha:PA X (e::es) t) (hdb:(x==("__debug__" : Str))=false:=by decide) (he:starEach (e::es) X.env=(false,eval e X.env)::starEach es X.env:=by exact qq rfl _ _) (hpl:(backTo pos (starEach es X.env)).any (·.1)=false:=by exact qV rfl) :
  PE X (.Call (.Name x p) (e::es) [] pos) (tMake C sp dvs E t):=by
 intro pins s σ H Q I h;refine wpAny_Call_Name_kw (ld_glob I hg hm ?_ hdb);refine PySem.W.callWith_K (h₀:=X.base) I.ok.mod.kin M.kp (thn (ha pos pins s σ H _ I h) fun us s1 ⟨vs,H1,I1,r,q⟩=>⟨I1.kIn,?_⟩) he hpl;exact run_make M F hr hb hd hx I1 r q
end
section
variable {X:Cx} {CX:CXT} {k:Nat} {f C:Addr} {fd:FuncData} {ps ks:List Str} {sp:Sp} {E:XK} {x m:Str} {p pos apos kpos:Pos} {e o:Expr} {es:List Expr} {kws:List Keyword} {te ta:TE} {t tk:TA} {nm:Option Str}
structure KBinds (K:As) (fd:FuncData) (ps ks:List Str) (g:List Value→List Value→List Value) (gV:List V→List V→List V):Prop where
 to:∀ (s:Shared) (us ws:List Value),K.In s.heap→(g us ws).length=ps.length→BindsTo s fd ⟨us,ks.zip ws⟩ (ps.zip (g us ws))
 rel:∀ {vs:List V} {us:List Value} {zs:List V} {ws:List Value},Vals vs us→Vals zs ws→Vals (gV vs zs) (g us ws)
variable {g:List Value→List Value→List Value} {gV:List V→List V→List V}
end
structure FnScope (N P:List Str) (sc:Scope):Prop where
 kind:sc.kind=.function
 co:sc.isCoroutine=false
 gen:sc.isGenerator=false
 nd:N.Nodup
 pre:N.take P.length=P
 par:∀ x∈P,sc.names.lookup x=some .local∨sc.names.lookup x=some .cell
 nofree:∀ y∈sc.names,y.2≠.free
theorem bindL_out {kindOf:Str→Option NameKind} {x:Str}:∀ {binds:List (Str×Value)} {m:Str→Option Value},(∀ v,(x,v)∉binds)→bindL kindOf binds m x=m x
 | [],_,_=>rfl
 | (n,v)::r,m,h=>by
  unfold bindL;rw [bindL_out fun w hw=>h w (A9 _ hw)]
  split
  ·have:x≠n:=by rintro rfl; exact h v Af
   simp [this]
  ·rfl
theorem bindC_out {kindOf:Str→Option NameKind} {x:Str}:∀ {binds:List (Str×Value)} {m:Str→Option Value},(∀ v,(x,v)∉binds)→bindC kindOf binds m x=m x
 | [],_,_=>rfl
 | (n,v)::r,m,h=>by
  unfold bindC;rw [bindC_out fun w hw=>h w (A9 _ hw)]
  split
  ·rfl
  ·have:x≠n:=by rintro rfl; exact h v Af
   simp [this]
theorem bindL_get {kindOf:Str→Option NameKind} {x:Str} {v:Value}:∀ {P:List Str} {vs:List Value} {i:Nat} {m:Str→Option Value},P.Nodup→P[i]?=some x→vs[i]?=some v→kindOf x=some .local→bindL kindOf (P.zip vs) m x=some v
 | [],_,_,_,_,h,_,_=>by simp at h
 | _::_,[],_,_,_,_,h,_=>by simp at h
 | p::P,w::vs,0,m,nd,h1,h2,hk=>by
  simp at h1 h2; subst h1; subst h2
  show bindL kindOf ((p,w)::P.zip vs) m p=_;unfold bindL;rw [bindL_out fun v hv=>(List.nodup_cons.mp nd).1 (List.of_mem_zip hv).1,if_pos hk]
  simp
 | p::P,w::vs,i+1,m,nd,h1,h2,hk=>by
  show bindL kindOf ((p,w)::P.zip vs) m x=_;unfold bindL;exact bindL_get (i:=i) (List.nodup_cons.mp nd).2 (by simpa using h1) (by simpa using h2) hk
theorem bindC_get {kindOf:Str→Option NameKind} {x:Str} {v:Value}:∀ {P:List Str} {vs:List Value} {i:Nat} {m:Str→Option Value},P.Nodup→P[i]?=some x→vs[i]?=some v→kindOf x≠some .local→bindC kindOf (P.zip vs) m x=some v
 | [],_,_,_,_,h,_,_=>by simp at h
 | _::_,[],_,_,_,_,h,_=>by simp at h
 | p::P,w::vs,0,m,nd,h1,h2,hk=>by
  simp at h1 h2; subst h1; subst h2
  show bindC kindOf ((p,w)::P.zip vs) m p=_;unfold bindC;rw [bindC_out fun v hv=>(List.nodup_cons.mp nd).1 (List.of_mem_zip hv).1,if_neg hk]
  simp
 | p::P,w::vs,i+1,m,nd,h1,h2,hk=>by
  show bindC kindOf ((p,w)::P.zip vs) m x=_;unfold bindC;exact bindC_get (i:=i) (List.nodup_cons.mp nd).2 (by simpa using h1) (by simpa using h2) hk
def start (N:List Str) (vs:List V):St:=vs.map some++List.replicate (N.length - vs.length) none
def cxOf (CX:CXT) (P:Program) (w:World) (K:As) (mg:Str→Option Value) (base:Heap) (N:List Str) (qual:Str) (scope:Scope) (f:Addr) (cd:Value) (A:Around) (outer:List Env) (s:Shared) (H:Hp) (E:XK):Cx where
 prog:=P
 w:=w
 K:=K
 mg:=mg
 base:=base
 A:=A.deeper (envOfC qual scope s.heap.objs.size f cd)
 N:=N
 s₀:=s
 H₀:=H
 env:=envOfC qual scope s.heap.objs.size f cd
 outer:=outer
 stack:=envOfC qual scope s.heap.objs.size f cd::outer
 ex:=[]
 calm:=true
 fn:=fun _=>true
 pn:=[]
 xe:=fun e s'=>wpAny (model P w) (A.deeper (envOfC qual scope s.heap.objs.size f cd)) (leaving (envOfC qual scope s.heap.objs.size f cd) e) (fun _ s''=>CX outer H s E e s'') (fun e' s''=>CX outer H s E e' s'') s'
theorem cell_has {sc:Scope} {n:Nat} {x:Str} (h:sc.names.lookup x=some .cell):∃ c,(cellsFrom n sc.names []).lookup x=some c:=by
 have q:=PySem.W.cellsFrom_some sc.names n [] (.inl h);exact Option.isSome_iff_exists.mp q
theorem inv_start {CX:CXT} {P:Program} {w:World} {K:As} {mg:Str→Option Value} {base:Heap} {N ps:List Str} {qual:Str} {scope:Scope} {f:Addr} {cd:Value} {A:Around} {outer:List Env} {s s1:Shared} {H:Hp} {E:XK} {us:List Value} {vs:List V}
  (S:FnScope N ps scope) (hd:A.handled=none) (e0:Env0 P w K mg base A outer s H) (hl:vs.length=ps.length) (r:Vals vs us)
  (x:InCallC s s.heap.objs.size (bindL (envOfC qual scope s.heap.objs.size f cd).kindOf (ps.zip us) fun _=>none) (cellsFrom (s.heap.objs.size+1) scope.names []) (bindC (envOfC qual scope s.heap.objs.size f cd).kindOf (ps.zip us) fun _=>none) s1) :
  Inv (cxOf CX P w K mg base N qual scope f cd A outer s H E) [] (start N vs) H s1:=by
 have hpl:ps.length≤N.length:=by have:=congrArg List.length S.pre; rw [Ak] at this; omega
 obtain ⟨h1,tk,rfl,hk⟩:=x.done;have noA:∀ b:Addr,b∉(cxOf CX P w K mg base N qual scope f cd A outer s H E).ex:=fun b z=>absurd (show b∈([]:List Addr) from z) (by simp)
 refine ⟨⟨e0.mod,S.kind,rfl,rfl,Nat.le_refl _,fun y z c h1 h2=>?_,fun y hy=>?_,fun y c _ h=>?_,fun _=>hd,Around.frames_deeper e0.frames,.inr ⟨rfl,rfl⟩,fun b z=>absurd z (noA b),e0.bs,e0.bsz,fun b _ _=>noA b,fun b z=>absurd z (noA b),e0.funs,e0.frf⟩,rfl,e0.bare,Un.kept hk,⟨_,x.toInCall.ns,fun i y v h1 h2 h3=>?_⟩,fun y c h=>⟨_,x.cell y c h⟩,e0.hok.fresh (Nat.le_refl _),fun y c h=>?_,fun p hp=>absurd (show p∈([]:List (Addr×Obj)) from hp) (by simp),e0.hok.kept hk,?_⟩
 ·exact name_of_addr x.apart (PySem.mem_of_lookup h1) (PySem.mem_of_lookup h2)
 ·have hy:scope.names.lookup y=some .cell∨scope.names.lookup y=some .free:=hy
  rcases hy with hy | hy
  ·exact cell_has hy
  ·exact absurd rfl (S.nofree _ (PySem.mem_of_lookup hy))
 ·exact Nat.le_of_lt (x.above y c (PySem.mem_of_lookup h))
 ·have hi:i<vs.length:=by
   unfold start at h2
   by_cases hi:i<vs.length
   ·exact hi
   ·rw [A0 (by simpa using hi)] at h2
    rw [List.getElem?_replicate] at h2
    split at h2 <;> cases h2
  have ha:vs[i]?=some v:=by
   unfold start at h2;rw [List.getElem?_append_left (by simpa using hi),List.getElem?_map] at h2
   cases e:vs[i]? with
   | none=>rw [e] at h2; cases h2
   | some a=>rw [e] at h2; cases h2; rfl
  obtain ⟨u,hu,rv⟩:=r.get ha;have hp:ps[i]?=some y:=by
   rw [← S.pre,A2 (by omega)]; exact h1
  have ndP:ps.Nodup:=by rw [← S.pre]; exact S.nd.sublist (List.take_sublist _ _)
  refine ⟨u,rv,?_⟩
  rcases S.par y (A8 hp) with k | k
  ·exact .inl ⟨k,bindL_get ndP hp hu k⟩
  ·obtain ⟨c,e⟩:=cell_has (n:=s.heap.objs.size+1) k
   refine .inr ⟨.inl k,c,e,?_⟩;have q:=x.cell y c e;rw [bindC_get ndP hp hu (by show scope.names.lookup y≠_; rw [k]; decide)] at q;exact q
 ·exact e0.hok.fresh (Nat.le_of_lt (x.above y c (PySem.mem_of_lookup h)))
 ·unfold start
  show _=N.length;rw [Ad,Al,List.length_replicate];omega
theorem fn_of {CX:CXT} {P:Program} {w:World} {K:As} {mg:Str→Option Value} {base:Heap} {k:Nat} {f:Addr} {name qual:Str} {params:Arguments} {body:List Stmt} {scope:Scope} {dV kV doc pm cdv ct oc:Value} {an od:Option Addr}
  {osl:Array (Option Value)} {N ps:List Str} {sp:Sp} (lk:K.lookup f=some ⟨oc,od,.func (PySem.W.fnOf name qual params body scope dV kV doc pm an cdv ct),osl⟩) (hcd:PySem.W.codeIn K cdv qual=true) (S:FnScope N ps scope)
  (len:∀ vs H Q E,sp vs H Q E→vs.length=ps.length)
  (hbody:∀ (A:Around) (outer:List Env) (s:Shared) (H:Hp) (vs:List V) (Q:VK) (E:XK),Room k (A.deeper (envOfC qual scope s.heap.objs.size f cdv))→sp vs H Q E→∃ t,PSs (cxOf CX P w K mg base N qual scope f cdv A outer s H E) body t∧t { nx:=fun _ H'=>Q .non H',rt:=Q } (start N vs) H) :
  FnOk P w K mg base CX (k+1) f (PySem.W.fnOf name qual params body scope dV kV doc pm an cdv ct) ps sp:=by
 refine ⟨len,fun A outer s H args us vs Q E hr e0 hb r hsp=>?_⟩;have hl:=len _ _ _ _ hsp;have KX:K.In s.heap:=e0.mod.kin.keeps fun b o e=>(e0.bs b o e).1
 have lim:s.heap.NoLimit:=e0.mod.nolimit.keeps fun b o e=>(e0.bs b o e).1
 have hkind:∀ y∈ps.zip us,scope.names.lookup y.1=some .local∨(scope.names.lookup y.1=some .cell∧((cellsFrom (s.heap.objs.size+1) scope.names []).lookup y.1).isSome=true):=fun ⟨n,v⟩ hy=>by
  rcases S.par n (List.of_mem_zip hy).1 with q | q
  ·exact .inl q
  ·exact .inr ⟨q,PySem.W.cellsFrom_some _ _ _ (.inl q)⟩
 refine codeAny_call_function hr.depth (KX _ _ lk) rfl S.co S.gen rfl (PySem.W.codeRec_of KX hcd) (hb _ _ _ _ ?_);refine wpAny_newFunctionEnv_cells S.kind hkind fun env he s1 x=>?_
 subst he;refine ⟨lim.keeps x.toInCall.keep,codeAny_func ?_⟩;obtain ⟨t,ht,hq⟩:=hbody A outer s H vs Q E (hr.deeper _) hsp;have I:Inv (cxOf CX P w K mg base N qual scope f cdv A outer s H E) [] (start N vs) H s1:=inv_start S hr.hd e0 hl r x;refine wpAny_mono (ht [] s1 (start N vs) H _ I hq) (fun fl s' hs=>?_) fun e s' hs=>hs
 have fin:∀ {σ':St} {H':Hp} {v:V} {u:Value},Inv (cxOf CX P w K mg base N qual scope f cdv A outer s H E) [] σ' H' s'→RelV v u→Q v H'→CE outer P w H s Q u s' :=
  fun {σ' H' v u} J rv q=>⟨v,H',J.os,J.bare,J.base,J.hok,rv,q⟩
 cases fl with
 | ret u =>
  obtain ⟨v,σ',H',J,rv,q⟩:=hs;exact fin J rv q
 | next =>
  obtain ⟨σ',H',J,q⟩:=hs;exact fin (v:=V.non) (u:=Value.none) J rfl q
 | brk =>
  obtain ⟨_,_,_,q⟩:=hs;exact False.elim q
 | cont =>
  obtain ⟨_,_,_,q⟩:=hs;exact False.elim q
section
variable {X:Cx} {x:Str} {p pos:Pos} {e:Expr} {es:List Expr} {t:TA} {id T:String} {r:List V→Hp→VK→Prop}
def tCB (r:List V→Hp→VK→Prop) (t:TA):TE:=fun σ H Q=>t σ H fun vs H1=>r vs H1 Q
theorem qW (hc:CallR X (.builtin id) r) (hg:Gl X x) (hm:X.mg x=none) (hv:bootBuiltins x=some (.builtin id)) (ha:PA X (e::es) t) (hn:x ≠ "__name__" := by decide) (hdb:(x==("__debug__" : Str))=false:=by decide)
  (he:starEach (e::es) X.env=(false,eval e X.env)::starEach es X.env:=by exact qq rfl _ _) (hpl:(backTo pos (starEach es X.env)).any (·.1)=false:=by exact qV rfl):PE X (.Call (.Name x p) (e::es) [] pos) (tCB r t):=by
 intro pins s σ H Q I h;refine wpAny_Call_Name_kw (Qw I hg hm hv ?_ hn hdb);exact PyProof.Rows.callWith_builtin1 (thn (ha pos pins s σ H _ I h) fun us s1 ⟨vs,H1,I1,r1,q1⟩=>hc pins s1 σ H1 vs us Q I1 r1 q1) he hpl
theorem zy (hc:CallR X (.type T) r) (hg:Gl X x) (hm:X.mg x=none) (hv:bootBuiltins x=some (.type T)) (ha:PA X (e::es) t) (hn:x ≠ "__name__" := by decide) (hdb:(x==("__debug__" : Str))=false:=by decide)
  (he:starEach (e::es) X.env=(false,eval e X.env)::starEach es X.env:=by exact qq rfl _ _) (hpl:(backTo pos (starEach es X.env)).any (·.1)=false:=by exact qV rfl):PE X (.Call (.Name x p) (e::es) [] pos) (tCB r t):=by
 intro pins s σ H Q I h;refine wpAny_Call_Name_kw (Qw I hg hm hv ?_ hn hdb);exact PyProof.Rows.callWith_type1 (thn (ha pos pins s σ H _ I h) fun us s1 ⟨vs,H1,I1,r1,q1⟩=>hc pins s1 σ H1 vs us Q I1 r1 q1) he hpl
end
end L2
namespace HT
open PySem PyProof.Rows
section
open PySem.SeqAt
open PySem.AutoSeq1 (wpAny_loadPart')
open PySem.MeetsSeq PySem.MeetsSeq2 PySem.MeetsSeq3
end
section
variable {prog:Program} {w:World} {A:Around} {E:Value→Shared→Prop} {s:Shared}
def sIx (n d:Nat):Option Int→Nat
 | none=>d
 | some v=>if v<0 then (v+(n:Int)).toNat else min v.toNat n
theorem sIx_none (n d:Nat):sIx n d none=d:=rfl
theorem sIx_nat (n d k:Nat):sIx n d (some (k:Int))=min k n:=by
 show (if (k:Int)<0 then ((k:Int)+(n:Int)).toNat else min (k:Int).toNat n)=min k n;rw [if_neg (by omega),Int.toNat_natCast]
theorem sIx_le (n d:Nat) (hd:d≤n) (o:Option Int):sIx n d o≤n:=by
 cases o with
 | none=>exact hd
 | some v =>
  show (if v<0 then (v+(n:Int)).toNat else min v.toNat n)≤n
  by_cases hv:v<0
  ·rw [if_pos hv]; omega
  ·rw [if_neg hv]; exact Nat.min_le_right _ _
theorem clip_eq (v:Int) (n d:Nat):(if v<0 then max (v+(n:Int)) 0 else min v (n:Int))=((sIx n d (some v):Nat):Int):=by
 show (if v<0 then max (v+(n:Int)) 0 else min v (n:Int))=(((if v<0 then (v+(n:Int)).toNat else min v.toNat n):Nat):Int)
 by_cases hv:v<0
 ·simp only [if_pos hv]; omega
 ·simp only [if_neg hv]; omega
theorem adjust_gen (lo hi:Option Int) (n:Nat):Builtin.Slice.sliceAdjust lo hi 1 (n:Int)=(((sIx n 0 lo:Nat):Int),((sIx n n hi:Nat):Int)):=by
 have h1:¬ ((1:Int)<0):=by omega
 unfold Builtin.Slice.sliceAdjust
 simp only [h1,if_false]
 refine Prod.ext ?_ ?_
 ·cases lo with
  | none=>rfl
  | some v=>exact clip_eq v n 0
 ·cases hi with
  | none=>rfl
  | some v=>exact clip_eq v n n
theorem places_gen (i j:Nat):Builtin.Slice.slicePlaces (i:Int) (j:Int) 1=j - i:=by
 unfold Builtin.Slice.slicePlaces;have h1:(1:Int)>0:=by omega
 simp only [h1,if_true,Int.ediv_one]
 split <;> omega
theorem slicePart_ {v:Value} {o:Option Int} {Q:Option Int→Shared→Prop} (p:IsPart v o) (h:Q o s):wpAny (model prog w) A (Builtin.Slice.slicePartIndex v) Q E s:=by
 cases p with
 | none=>exact slicePart_none h
 | int i t=>exact slicePart_int h
theorem sliceApplied_gen {sl:Addr} {vl vu:Value} {lo hi:Option Int} {n:Nat} {Q:Int×Int×Nat→Shared→Prop} (hs:s.heap.IsSliceOf sl vl vu .none) (pl:IsPart vl lo) (pu:IsPart vu hi)
  (h:Q (((sIx n 0 lo:Nat):Int),1,sIx n n hi - sIx n 0 lo) s):wpAny (model prog w) A (Builtin.Slice.sliceApplied (.ref sl) (pure (n:Int))) Q E s:=by
 obtain ⟨os,hos,hcs,hds⟩:=id hs;unfold Builtin.Slice.sliceApplied Builtin.Slice.sliceFields;refine wpAny_bind (wpAny_bind (wpAny_field hos hds (x:=vl) rfl (wpAny_bind (wpAny_field hos hds (x:=vu) rfl (wpAny_bind (wpAny_field hos hds (x:=.none) rfl (wpAny_pure ?_)))))));refine wpAny_bind (slicePart_none ?_);show wpAny _ _ (if ((1:Int)==0)=true then _ else _) _ _ s;rw [if_neg (by decide)];refine wpAny_bind (slicePart_ pl (wpAny_bind (slicePart_ pu (wpAny_bind (wpAny_pure ?_)))));show wpAny _ _ (match Builtin.Slice.sliceAdjust lo hi 1 (n:Int) with | (lo,hi)=>pure (lo,(1:Int),Builtin.Slice.slicePlaces lo hi 1)) _ _ s;rw [adjust_gen lo hi n];show wpAny _ _ (pure (((sIx n 0 lo:Nat):Int),(1:Int),Builtin.Slice.slicePlaces ((sIx n 0 lo:Nat):Int) ((sIx n n hi:Nat):Int) 1)) _ _ s;rw [places_gen];exact wpAny_pure h
theorem pick_gen (xs:Array Value) (i k:Nat):((List.range k).filterMap fun (m:Nat)=>xs[((i:Int)+(m:Int)*1).toNat]?).toArray=((xs.toList.drop i).take k).toArray:=by
 have e:(fun (m:Nat)=>xs[((i:Int)+(m:Int)*1).toNat]?)=fun m=>xs[i+m]?:=by
  funext m
  have:((i:Int)+(m:Int)*1).toNat=i+m:=by omega
  rw [this]
 rw [e];have:=pick_run xs i k;rw [List.filterMap_map] at this;have e2:((fun x=>xs[x]?) ∘ fun x=>i+x)=fun m=>xs[i+m]?:=rfl
 rw [e2] at this;rw [this]
theorem getItem_tuple_cut {t sl:Addr} {items:Array Value} {vl vu:Value} {lo hi:Option Int} {Q:Value→Shared→Prop} (ht:IsTup s.heap t items) (hs:s.heap.IsSliceOf sl vl vu .none) (pl:IsPart vl lo) (pu:IsPart vu hi)
  (hw:¬ (sIx items.size 0 lo=0∧sIx items.size items.size hi=items.size))
  (h:Q (.ref s.heap.objs.size) { s with heap:=s.heap.push { cls:=.type "tuple",data:=.seq ((items.toList.drop (sIx items.size 0 lo)).take (sIx items.size items.size hi - sIx items.size 0 lo)).toArray } })
  (hsz:items.size≤sizeLine):wpAny (model prog w) A (getItem (.ref t) (.ref sl)) Q E s:=by
 have htake:sizeOk (.seq ((items.toList.drop (sIx items.size 0 lo)).take (sIx items.size items.size hi - sIx items.size 0 lo)).toArray):=by
  show ((items.toList.drop (sIx items.size 0 lo)).take (sIx items.size items.size hi - sIx items.size 0 lo)).toArray.size≤sizeLine;rw [List.size_toArray,Ak,List.length_drop,Array.length_toList];omega
 have hj:sIx items.size items.size hi≤items.size:=sIx_le _ _ (Nat.le_refl _) hi;obtain ⟨os,hos,hcs,hds⟩:=id hs;have hTs:s.TypeIs (.ref sl) "slice" := ⟨os,hos,hcs⟩;unfold getItem
 try with_reducible refine wpAny_holding ?_
 first | refine wpAny_bind (wpAny_pure ?_) | skip
 refine wpAny_bind (wpAny_sequenceKey ht.typeIs (by decide) ?_);refine wpAny_bind (wpAny_callSpecial?_slot (name:=Str.ofString "__getitem__") ht.typeIs PyProof.Rows.slot_tuple_getitem
  (wpAny_call_entry PyProof.Rows.slot_tuple_getitem ht.typeIs entry_tuple_getitem ?_ (args_tuple_getitem _ _)))
 show wpAny _ _ (Builtin.Tuple.tupleItemsOf (.ref t) >>= _) _ _ s;refine wpAny_bind (tupleItemsOf_ ht ?_);refine wpAny_bind (wpAny_typeOf hTs ?_);rw [if_pos (by decide)];refine wpAny_bind (sliceApplied_gen hs pl pu ?_);have hno:¬ ((((sIx items.size 0 lo:Nat):Int)==0&&(1:Int)==1&&(sIx items.size items.size hi - sIx items.size 0 lo)==items.size)=true):=by
  intro q;rw [Bool.and_eq_true,Bool.and_eq_true] at q;have q1:((sIx items.size 0 lo:Nat):Int)=0:=eq_of_beq q.1.1;have q2:sIx items.size items.size hi - sIx items.size 0 lo=items.size:=eq_of_beq q.2;exact hw ⟨by omega,by omega⟩
 show wpAny _ _ (if (((sIx items.size 0 lo:Nat):Int)==0&&(1:Int)==1&&(sIx items.size items.size hi - sIx items.size 0 lo)==items.size)=true then _ else _) _ _ s;rw [if_neg hno,pick_gen]
 first
  | exact wpAny_bind (m:=Builtin.Tuple.tupleExact _) (wpAny_newObj_type (wpAny_pure ⟨_,rfl,wpAny_pure h⟩) htake)
  | exact wpAny_bind (m:=Builtin.Tuple.tupleExact _) (wpAny_newObj_type (wpAny_bind (wpAny_pure (wpAny_pure ⟨_,rfl,wpAny_pure h⟩))) htake)
  | exact wpAny_bind (wpAny_bind (m:=Builtin.Tuple.tupleExact _) (wpAny_newObj_type (wpAny_pure (wpAny_pure ⟨_,rfl,wpAny_pure h⟩)) htake))
  | exact wpAny_bind (wpAny_bind (m:=Builtin.Tuple.tupleExact _) (wpAny_newObj_type (wpAny_pure ⟨_,rfl,wpAny_pure h⟩) htake))
end
end HT
namespace L2
open PySem PySem.Spec PyProof.Rows
abbrev TO:=St→Hp→(Option Int→Hp→Prop)→Prop
def PO (X:Cx) (e:Option Expr) (t:TO):Prop :=
 ∀ (pins:List (Addr×Obj)) (s:Shared) (σ:St) (H:Hp) (Q:Option Int→Hp→Prop),Inv X pins σ H s→t σ H Q→wpAny (model X.prog X.w) X.A (evalPart e X.env) (fun u s'=>∃ o H',Inv X pins σ H' s'∧IsPart u o∧Q o H') X.xe s
def tNoPart:TO:=fun _ H Q=>Q none H
def tPart (t:TE):TO:=fun σ H Q=>t σ H fun x H1=>∃ i,x=.int i∧Q (some i) H1
section
variable {X:Cx} {e:Expr} {te:TE} {lo hi:Option Expr} {tl th:TO} {pos p2:Pos}
theorem po_none:PO X none tNoPart:=by
 intro pins s σ H Q I h;rw [evalPart_none];exact wpAny_pure ⟨none,H,I,.none,h⟩
theorem xY (h:PE X e te):PO X (some e) (tPart te):=by
 intro pins s σ H Q I hw;rw [evalPart_some];refine thn (h pins s σ H _ I hw) fun u s1 ⟨x,H1,I1,r1,q1⟩=>?_
 obtain ⟨i,rfl,q⟩:=q1;obtain ⟨t,rfl⟩:=r1;exact ⟨some i,H1,I1,.int i t,q⟩
def SlR (X:Cx) (r:V→Option Int→Option Int→Hp→VK→Prop):Prop :=
 ∀ (pins:List (Addr×Obj)) (s:Shared) (σ:St) (H:Hp) (x:V) (v vl vu:Value) (lo hi:Option Int) (sl:Addr) (Q:VK),Inv X pins σ H s→RelV x v→s.heap.IsSliceOf sl vl vu .none→IsPart vl lo→IsPart vu hi→r x lo hi H Q→∃ T id,typeLookup (.type T) "__getitem__" = pure (some (.builtin id))∧s.TypeIs v T∧wpAny (model X.prog X.w) X.A (getItem v (.ref sl)) (EP X pins σ Q) X.xe s
theorem SlR.or {r r':V→Option Int→Option Int→Hp→VK→Prop} (h:SlR X r) (h':SlR X r'):SlR X (fun x lo hi H Q=>r x lo hi H Q∨r' x lo hi H Q):=by
 intro pins s σ H x v vl vu lo hi sl Q I rx hs pl pu q
 rcases q with q | q
 ·exact h pins s σ H x v vl vu lo hi sl Q I rx hs pl pu q
 ·exact h' pins s σ H x v vl vu lo hi sl Q I rx hs pl pu q
def tSl (r:V→Option Int→Option Int→Hp→VK→Prop) (te:TE) (tl th:TO):TE:=fun σ H Q=>te σ H fun x H1=>tl σ H1 fun l H2=>th σ H2 fun u H3=>r x l u H3 Q
theorem Qk {r:V→Option Int→Option Int→Hp→VK→Prop} (hr:SlR X r) (he:PE X e te) (hl:PO X lo tl) (hu:PO X hi th):PE X (.Subscript e (.Slice lo hi none p2) pos) (tSl r te tl th):=by
 intro pins s σ H Q I h;refine Subscript_ (thn (he pins s σ H _ I h) fun v s1 ⟨x,H1,I1,r1,q1⟩=>?_);refine wpAny_Slice (thn (hl pins s1 σ H1 _ I1 q1) fun vl s2 ⟨l,H2,I2,pl,q2⟩=>thn (hu pins s2 σ H2 _ I2 q2) fun vu s3 ⟨u,H3,I3,pu,q3⟩=>?_);rw [evalPart_none];refine wpAny_pure ?_;have I4:Inv X pins σ H3 { s3 with heap:=s3.heap.push { cls:=.type "slice",data:=.fields #[vl,vu,.none] } }:=I3.kept (t':=s3.toks) fun b ob q=>Heap.get?_push_of_some _ q
 obtain ⟨T,id,hT,ht,hg⟩:=hr pins { s3 with heap:=s3.heap.push { cls:=.type "slice",data:=.fields #[vl,vu,.none] } } σ H3 x v vl vu l u s3.heap.objs.size Q I4 r1 (Heap.IsSliceOf.new ..) pl pu q3;show wpAny (model X.prog X.w) X.A (subscriptTail e (.Slice lo hi none p2) v (.ref s3.heap.objs.size)) (EP X pins σ Q) X.xe { s3 with heap:=s3.heap.push { cls:=.type "slice",data:=.fields #[vl,vu,.none] } };exact tail_any (ops:=[.ref s3.heap.objs.size,v]) ht hT hg (by with_unfolding_all rfl)
def cutV (xs:List V) (lo hi:Option Int):List V:=(xs.drop (HT.sIx xs.length 0 lo)).take (HT.sIx xs.length xs.length hi - HT.sIx xs.length 0 lo)
theorem cutV_length (xs:List V) (lo hi:Option Int):(cutV xs lo hi).length≤xs.length:=by
 unfold cutV;rw [Ak,List.length_drop];omega
def rSlT (K:As):V→Option Int→Option Int→Hp→VK→Prop:=fun x lo hi H Q=>∃ a xs,x=.ref a∧SqT K H a xs∧¬ (HT.sIx xs.length 0 lo=0∧HT.sIx xs.length xs.length hi=xs.length)∧∀ p,H p=none→Q (.ref p) (upd H p (.tup (cutV xs lo hi)))
theorem sl_tup:SlR X (rSlT X.K):=by
 intro pins s σ H x v vl vu lo hi sl Q I rx hs pl pu h;obtain ⟨a,xs,rfl,hx,hw,q⟩:=h
 cases rx
 obtain ⟨its,r,ht,hz⟩:=I.tuple hx;have hlen:its.toArray.size=xs.length:=by rw [List.size_toArray]; exact r.length.symm
 refine ⟨"tuple",_,PyProof.Rows.slot_tuple_getitem.lookup,ht.typeIs,?_⟩;refine HT.getItem_tuple_cut ht hs pl pu (by rw [hlen]; exact hw) ?_ (by rw [hlen]; exact hz);rw [hlen];refine ⟨.ref s.heap.objs.size,_,I.laid (t':=s.toks) (o:=.tup (cutV xs lo hi)) (fun b ob q=>Heap.get?_push_of_some _ q) (Nat.le_refl _) ?_,rfl,q _ (I.hok.fresh (Nat.le_refl _))⟩;exact ⟨Ar (cutV_length xs lo hi) hz,_,(r.drop (HT.sIx xs.length 0 lo)).take (HT.sIx xs.length xs.length hi - HT.sIx xs.length 0 lo),IsTup.new _ _⟩
end
def ixN (n:Nat) (i:Int):Option Nat:=if 0≤i then (if i<n then some i.toNat else none) else if -(n:Int)≤i then some (i+n).toNat else none
def atI {α:Type} (xs:List α) (i:Int):Option α:=(ixN xs.length i).bind fun j=>xs[j]?
theorem ixN_seq {n:Nat} {i:Int} {j:Nat} (h:ixN n i=some j):seqIndex? i n=some j∧j<n ∧ -(n:Int)≤i∧i<n:=by
 unfold ixN at h
 by_cases h0:0≤i
 ·rw [if_pos h0] at h
  by_cases h1:i<n
  ·rw [if_pos h1] at h
   have e:i.toNat=j:=Ap h;exact ⟨by rw [seqIndex_of h0 h1,e],by omega,by omega,h1⟩
  ·rw [if_neg h1] at h; cases h
 ·rw [if_neg h0] at h
  by_cases h1 : -(n:Int)≤i
  ·rw [if_pos h1] at h
   have e:(i+n).toNat=j:=Ap h;exact ⟨by rw [seqIndex_neg (by omega) h1,e],by omega,h1,by omega⟩
  ·rw [if_neg h1] at h; cases h
theorem atI_get {α:Type} {xs:List α} {i:Int} {v:α} (h:atI xs i=some v):∃ j,seqIndex? i xs.length=some j∧xs[j]?=some v∧j<xs.length ∧ -(xs.length:Int)≤i∧i<xs.length:=by
 unfold atI at h
 cases e:ixN xs.length i with
 | none=>rw [e] at h; cases h
 | some j =>
  rw [e] at h;obtain ⟨h1,h2,h3,h4⟩:=ixN_seq e;exact ⟨j,h1,h,h2,h3,h4⟩
def PlainIx (b:Expr):Prop:=∀ o i,subscripted b false o i=operate [o,i] (getItem o i)
def IxR (X:Cx) (r:R2):Prop :=
 ∀ (value slice:Expr) (pins:List (Addr×Obj)) (s:Shared) (σ:St) (H:Hp) (x y:V) (v u:Value) (Q:VK),Inv X pins σ H s→RelV x v→RelV y u→r x y H Q→subscripted slice false v u=operate [v,u] (getItem v u)→wpAny (model X.prog X.w) X.A (subscriptTail value slice v u) (EP X pins σ Q) X.xe s
def MtR (X:Cx) (id:String) (r:V→List V→Hp→VK→Prop):Prop :=
 ∀ (pins:List (Addr×Obj)) (s:Shared) (σ:St) (H:Hp) (x:V) (xs:List V) (v:Value) (us:List Value) (Q:VK),Inv X pins σ H s→RelV x v→Vals xs us→r x xs H Q→wpAny (model X.prog X.w) X.A (call (.builtin id) (v::us)) (EP X pins σ Q) X.xe s
section
variable {X:Cx} {a b:Expr} {ta tb:TE} {pos:Pos}
theorem IxR.or {r r':R2} (h:IxR X r) (h':IxR X r'):IxR X (fun x y H Q=>r x y H Q∨r' x y H Q):=by
 intro value slice pins s σ H x y v u Q I rx ry q hs
 rcases q with q | q
 ·exact h value slice pins s σ H x y v u Q I rx ry q hs
 ·exact h' value slice pins s σ H x y v u Q I rx ry q hs
theorem pe_ix {r:R2} (hr:IxR X r) (ha:PE X a ta) (hb:PE X b tb) (hs:PlainIx b:=by exact fun _ _=>rfl):PE X (.Subscript a b pos) (tOp r ta tb):=by
 intro pins s σ H Q I h;exact Subscript_ (binT ha hb I h fun v u s2 x y H2 I2 rx ry q=>hr a b pins s2 σ H2 x y v u Q I2 rx ry q (hs _ _))
def rIxL (K:As):R2:=fun x y H Q=>∃ p xs i v,x=.ref p∧y=.int i∧SqL K H p xs∧atI xs i=some v∧Q v H
def rIxT (K:As):R2:=fun x y H Q=>∃ p xs i v,x=.ref p∧y=.int i∧SqT K H p xs∧atI xs i=some v∧Q v H
def rIxS:R2:=fun x y H Q=>∃ z i c,x=.str z∧y=.int i∧z.length≤sizeLine∧atI z.cps.toList i=some c∧Q (.str ⟨#[c]⟩) H
theorem yV:IxR X (rIxL X.K):=by
 intro value slice pins s σ H x y v u Q I rx ry h hs;obtain ⟨p,xs,i,z,rfl,rfl,hq,he,q⟩:=h
 cases rx
 obtain ⟨t,rfl⟩:=ry;obtain ⟨its,r,pl,hz⟩:=I.list hq;obtain ⟨j,h1,h2,h3,h4,h5⟩:=atI_get he;obtain ⟨w,ew,rw'⟩:=r.get h2;have hl:=r.length;have hn:=line63;have fin:EP X pins σ Q w s:=⟨z,H,I,rw',q⟩
 by_cases h0:0≤i
 ·have hj:i.toNat=j:=by
   rw [seqIndex_of h0 h5] at h1;exact Ap h1
  exact item_listR pl.isList h0 (by omega) (by rw [hj]; simpa using ew) fin hs
 ·have hj:(i+(its.toArray.size:Int)).toNat=j:=by
   rw [seqIndex_neg (by omega) h4] at h1;rw [List.size_toArray,← hl];exact Ap h1
  exact subscriptTail_builtinR (x:=w) pl.isList.typeIs slot_list_getitem.lookup
   (wpAny_getItem_list_neg (Q:=fun r s'=>r=w∧EP X pins σ Q r s') pl.isList (by omega) (by rw [List.size_toArray] <;> omega) (by omega) (by rw [hj]; simpa using ew) ⟨rfl,fin⟩) hs
theorem qK:IxR X (rIxT X.K):=by
 intro value slice pins s σ H x y v u Q I rx ry h hs;obtain ⟨p,xs,i,z,rfl,rfl,hq,he,q⟩:=h
 cases rx
 obtain ⟨t,rfl⟩:=ry;obtain ⟨its,r,pl,hz⟩:=I.tuple hq;obtain ⟨j,h1,h2,h3,h4,h5⟩:=atI_get he;obtain ⟨w,ew,rw'⟩:=r.get h2;have hl:=r.length;have hn:=line63;have fin:EP X pins σ Q w s:=⟨z,H,I,rw',q⟩;exact subscriptTail_builtinR (x:=w) pl.typeIs slot_tuple_getitem.lookup
  (getItem_tuple (j:=j) (Q:=fun r s'=>r=w∧EP X pins σ Q r s') pl (by omega) (by omega) (by rw [List.size_toArray,← hl]; exact h1) (by simpa using ew) ⟨rfl,fin⟩) hs
theorem ix_str:IxR X rIxS:=by
 intro value slice pins s σ H x y v u Q I rx ry h hs;obtain ⟨z,i,c,rfl,rfl,hz,he,q⟩:=h;obtain ⟨t,rfl⟩:=rx;obtain ⟨t',rfl⟩:=ry;obtain ⟨j,h1,h2,h3,h4,h5⟩:=atI_get he;have hl:z.cps.toList.length=z.length:=by simp [Str.length]
 rw [hl] at h1 h4 h5;have hn:=line63;exact tail_any (typeIs_str s z t) slot_str_getitem.lookup (getItem_str (c:=c) (by
  have e1:decide (i < -(2^63:Int))=false:=decide_eq_false (by omega);have e2:decide (i≥2^63)=false:=decide_eq_false (by omega);rw [e1,e2,Bool.or_false]) (by rw [h1]; simpa using h2) ⟨.str ⟨#[c]⟩,H,I.tok _,⟨_,rfl⟩,q⟩) hs
def rIx (K:As):R2:=fun x y H Q=>rIxL K x y H Q∨rIxT K x y H Q∨rIxS x y H Q
theorem ix_seq:IxR X (rIx X.K):=yV.or (qK.or ix_str)
theorem slice_bounds (lo hi:Option Int) (n:Nat):(sliceBounds lo hi none n).1=((HT.sIx n 0 lo:Nat):Int)∧(sliceBounds lo hi none n).2.1=((HT.sIx n n hi:Nat):Int)∧(sliceBounds lo hi none n).2.2=1:=by
 refine ⟨?_,?_,rfl⟩
 ·cases lo with
  | none=>simp [sliceBounds,HT.sIx]
  | some i =>
   simp only [sliceBounds,HT.sIx,Option.getD_none,show (1:Int)>0 by decide,if_true]
   by_cases h:i<0
   ·simp only [h,if_true] <;> omega
   ·simp only [h,if_false] <;> omega
 ·cases hi with
  | none=>simp [sliceBounds,HT.sIx]
  | some i =>
   simp only [sliceBounds,HT.sIx,Option.getD_none,show (1:Int)>0 by decide,if_true]
   by_cases h:i<0
   ·simp only [h,if_true] <;> omega
   ·simp only [h,if_false] <;> omega
theorem slicePick_cut (its:List Value) (lo hi:Option Int):slicePick its.toArray lo hi none=((its.drop (HT.sIx its.length 0 lo)).take (HT.sIx its.length its.length hi - HT.sIx its.length 0 lo)).toArray:=by
 obtain ⟨h1,h2,h3⟩:=slice_bounds lo hi its.toArray.size;unfold slicePick;rw [h1,h2,h3]
 simp only [sliceRange_one,pick_run,List.size_toArray] <;> rfl
def rSlL (K:As):V→Option Int→Option Int→Hp→VK→Prop:=fun x lo hi H Q=>∃ a xs,x=.ref a∧SqL K H a xs∧∀ p,H p=none→Q (.ref p) (upd H p (.lst (cutV xs lo hi)))
theorem ZZ:SlR X (rSlL X.K):=by
 intro pins s σ H x v vl vu lo hi sl Q I rx hs pl pu h;obtain ⟨a,xs,rfl,hx,q⟩:=h
 cases rx
 obtain ⟨its,r,ht,hz⟩:=I.list hx;have hlen:=r.length;refine ⟨"list",_,slot_list_getitem.lookup,ht.isList.typeIs,?_⟩;refine wpAny_getItem_list_slice ht.isList hs pl pu .none (by simp) ?_ (by rw [List.size_toArray] <;> omega);rw [slicePick_cut,← hlen];refine ⟨.ref s.heap.objs.size,_,I.laid (t':=s.toks) (o:=.lst (cutV xs lo hi)) (fun b ob q=>Heap.get?_push_of_some _ q) (Nat.le_refl _) ?_,rfl,q _ (I.hok.fresh (Nat.le_refl _))⟩;exact ⟨Ar (cutV_length xs lo hi) hz,_,0,(r.drop (HT.sIx xs.length 0 lo)).take (HT.sIx xs.length xs.length hi - HT.sIx xs.length 0 lo),Heap.get?_push_size _ rfl⟩
def flatV:V→Bool
 | .non=>true
 | .bl _=>true
 | .int _=>true
 | .str _=>true
 | _=>false
def eqV:V→V→Bool
 | .non,.non=>true
 | .bl a,.bl b=>a==b
 | .bl a,.int b=>(if a then 1 else 0)==b
 | .int a,.bl b=>a==(if b then 1 else 0)
 | .int a,.int b=>a==b
 | .str a,.str b=>a==b
 | _,_=>false
theorem eqAt_V {A:Around} {s:Shared} {y x:V} {u v:Value} (ry:RelV y u) (rx:RelV x v) (fy:flatV y=true) (fx:flatV x=true):SeqAt.EqAt A s u v (eqV y x):=by
 cases y with
 | non =>
  cases ry
  cases x with
  | non=>cases rx; exact SeqAt.EqAt.same _
  | bl b=>cases rx; exact SeqAt.EqAt.none_bool b
  | int b=>obtain ⟨t,rfl⟩:=rx; exact SeqAt.EqAt.none_int b t
  | str b=>obtain ⟨t,rfl⟩:=rx; exact SeqAt.EqAt.none_str b t
  | _=>exact absurd (show false=true from fx) Bool.false_ne_true
 | bl a =>
  cases ry
  cases x with
  | non=>cases rx; exact SeqAt.EqAt.bool_none a
  | bl b=>cases rx; exact SeqAt.EqAt.bool_bool a b
  | int b=>obtain ⟨t,rfl⟩:=rx; exact SeqAt.EqAt.bool_int a b t
  | str b=>obtain ⟨t,rfl⟩:=rx; exact SeqAt.EqAt.bool_str a b t
  | _=>exact absurd (show false=true from fx) Bool.false_ne_true
 | int a =>
  obtain ⟨t',rfl⟩:=ry
  cases x with
  | non=>cases rx; exact SeqAt.EqAt.int_none a t'
  | bl b=>cases rx; exact SeqAt.EqAt.int_bool a t' b
  | int b=>obtain ⟨t,rfl⟩:=rx; exact SeqAt.EqAt.int_int a t' b t
  | str b=>obtain ⟨t,rfl⟩:=rx; exact SeqAt.EqAt.int_str a t' b t
  | _=>exact absurd (show false=true from fx) Bool.false_ne_true
 | str a =>
  obtain ⟨t',rfl⟩:=ry
  cases x with
  | non=>cases rx; exact SeqAt.EqAt.str_none a t'
  | bl b=>cases rx; exact SeqAt.EqAt.str_bool a t' b
  | int b=>obtain ⟨t,rfl⟩:=rx; exact SeqAt.EqAt.str_int a t' b t
  | str b=>obtain ⟨t,rfl⟩:=rx; exact SeqAt.EqAt.str_str a t' b t
  | _=>exact absurd (show false=true from fx) Bool.false_ne_true
 | _=>exact absurd (show false=true from fy) Bool.false_ne_true
def eqU (x:V) (u:Value):Bool:=match u with
 | .none=>eqV .non x
 | .bool b=>eqV (.bl b) x
 | .int i _=>eqV (.int i) x
 | .str z _=>eqV (.str z) x
 | _=>false
theorem eqU_of {x y:V} {u:Value} (r:RelV y u) (f:flatV y=true):eqU x u=eqV y x:=by
 cases y with
 | non=>cases r; rfl
 | bl b=>cases r; rfl
 | int i=>obtain ⟨t,rfl⟩:=r; rfl
 | str z=>obtain ⟨t,rfl⟩:=r; rfl
 | _=>exact absurd (show false=true from f) Bool.false_ne_true
theorem any_eqU {x:V}:∀ {xs:List V} {us:List Value},Vals xs us→xs.all flatV=true→us.any (eqU x)=xs.any fun y=>eqV y x
 | _,_,.nil,_=>rfl
 | y::xs,u::us,.cons r t,f=>by
  rw [List.all_cons,Bool.and_eq_true] at f;rw [List.any_cons,List.any_cons,eqU_of r f.1,any_eqU t f.2]
theorem mem_eqAt {A:Around} {s:Shared} {x:V} {v:Value} (rx:RelV x v) (fx:flatV x=true):∀ {xs:List V} {us:List Value},Vals xs us→xs.all flatV=true→∀ u∈us,SeqAt.EqAt A s u v (eqU x u)
 | _,_,.nil,_=>fun u hu=>by cases hu
 | y::xs,u::us,.cons r t,f=>fun u' hu=>by
  rw [List.all_cons,Bool.and_eq_true] at f
  rcases List.mem_cons.mp hu with rfl | hu
  ·rw [eqU_of r f.1]; exact eqAt_V r rx f.1 fx
  ·exact mem_eqAt rx fx t f.2 u' hu
def inV (x:V) (xs:List V):Bool:=xs.any fun y=>eqV y x
def rIn (K:As) (neg:Bool):R2:=fun x y H Q=>∃ p xs,y=.ref p∧(SqL K H p xs∨SqT K H p xs)∧flatV x=true∧xs.all flatV=true∧Q (.bl (if neg then !inV x xs else inV x xs)) H
theorem op_notIn_seq:OpR X (compareOp .NotIn) (rIn X.K true):=by
 intro pins s σ H x y v u Q I rx ry h;obtain ⟨p,xs,rfl,hq,fx,fs,q⟩:=h
 cases ry
 rcases hq with hq | hq
 ·obtain ⟨its,r,pl,hz⟩:=I.list hq
  refine SeqAt.notIn_listAt (eqU x) pl.isList (fun w hw=>mem_eqAt rx fx r fs w (by simpa using hw)) ⟨.bl _,H,I,rfl,?_⟩;rw [show its.toArray.any (eqU x)=its.any (eqU x) by simp,any_eqU r fs];exact q
 ·obtain ⟨its,r,pl,hz⟩:=I.tuple hq
  refine SeqAt.notIn_tupleAt (eqU x) pl (fun w hw=>mem_eqAt rx fx r fs w (by simpa using hw)) ⟨.bl _,H,I,rfl,?_⟩;rw [show its.toArray.any (eqU x)=its.any (eqU x) by simp,any_eqU r fs];exact q
theorem zk:CallR X (.builtin "len") (fun xs H Q=>∃ p ys,xs=[.ref p]∧(SqL X.K H p ys∨SqT X.K H p ys)∧Q (.int ys.length) H):=by
 intro pins s σ H xs us Q I r h;obtain ⟨p,ys,rfl,hq,q⟩:=h;obtain ⟨u,rfl,rx⟩:=vals1 r
 cases rx
 have hn:=line63
 rcases hq with hq | hq
 ·obtain ⟨its,r',pl,hz⟩:=I.list hq
  have hlen:=r'.length;exact Calls.call_len_list pl.isList (by simp only [List.size_toArray] <;> omega) ⟨.int ys.length,H,I.tok _,⟨s.toks+1,by rw [List.size_toArray,hlen]⟩,q⟩
 ·obtain ⟨its,r',pl,hz⟩:=I.tuple hq
  have hlen:=r'.length;exact len_tuple pl (by simp only [List.size_toArray] <;> omega) ⟨.int ys.length,H,I.tok _,⟨s.toks+1,by rw [List.size_toArray,hlen]⟩,q⟩
theorem j0:CallR X (.type "list") (fun xs H Q=>∃ p ys,xs=[.ref p]∧(SqL X.K H p ys∨SqT X.K H p ys)∧∀ l,H l=none→Q (.ref l) (upd H l (.lst ys))):=by
 intro pins s σ H xs us Q I r h;obtain ⟨p,ys,rfl,hq,q⟩:=h;obtain ⟨u,rfl,rx⟩:=vals1 r
 cases rx
 have fin:∀ (its:List Value),Vals ys its→ys.length≤sizeLine→∀ (h':Heap) (c':Nat),(∀ b o',s.heap.get? b=some o'→h'.get? b=some o')→h'.get? s.heap.objs.size=some { cls:=.type "list",dict:=none,data:=.seq its.toArray c',slots:=#[] }→EP X pins σ Q (.ref s.heap.objs.size) { s with heap:=h' }:=fun its r' hz h' c' kp e =>
  ⟨.ref s.heap.objs.size,_,I.laid (t':=s.toks) kp (Nat.le_refl _) (show ObjOk X.prog X.w _ h' _ (.lst ys) from ⟨hz,its,c',r',e⟩),rfl,q _ (I.hok.fresh (Nat.le_refl _))⟩
 rcases hq with hq | hq
 ·obtain ⟨its,r',pl,hz⟩:=I.list hq
  have hlen:=r'.length;obtain ⟨o,ho,hc,n,hd⟩:=pl.isList;exact call_list_seq p (.inl rfl) ho hc hd (fun h' c' kp e=>fin its r' hz h' c' kp e) (by simp only [List.size_toArray] <;> omega)
 ·obtain ⟨its,r',pl,hz⟩:=I.tuple hq
  have hlen:=r'.length;obtain ⟨o,ho,hc,n,hd⟩:=pl;exact call_list_seq p (.inr rfl) ho hc hd (fun h' c' kp e=>fin its r' hz h' c' kp e) (by simp only [List.size_toArray] <;> omega)
theorem ww:CallR X (.type "tuple") (fun xs H Q=>∃ p ys,xs=[.ref p]∧((SqL X.K H p ys∧∀ l,H l=none→Q (.ref l) (upd H l (.tup ys)))∨(SqT X.K H p ys∧Q (.ref p) H))):=by
 intro pins s σ H xs us Q I r h;obtain ⟨p,ys,rfl,h⟩:=h;obtain ⟨u,rfl,rx⟩:=vals1 r
 cases rx
 rcases h with ⟨hq,q⟩ | ⟨hq,q⟩
 ·obtain ⟨its,r',pl,hz⟩:=I.list hq
  have hlen:=r'.length;refine call_tuple_list pl.isList (fun h' kp=>?_) (by simp only [List.size_toArray] <;> omega);have I1:Inv X pins σ H { s with heap:=h' }:=I.kept (t':=s.toks) kp;have I2:Inv X pins σ (upd H h'.objs.size (.tup ys)) { s with heap:=h'.push { cls:=.type "tuple",data:=.seq its.toArray } } :=
   I1.laid (t':=s.toks) (fun b o e=>Heap.get?_push_of_some _ e) (Nat.le_refl _) (show ObjOk X.prog X.w _ _ _ (.tup ys) from ⟨hz,its,r',IsTup.new _ _⟩)
  exact ⟨.ref h'.objs.size,_,I2,rfl,q _ (I1.hok.fresh (Nat.le_refl _))⟩
 ·obtain ⟨its,r',pl,hz⟩:=I.tuple hq
  exact call_tuple_same pl ⟨.ref p,H,I,rfl,q⟩
def tyV (K:As) (T:String) (x:V) (H:Hp):Prop:=match x with
 | .str _=>T = "str"
 | .int _=>T = "int"
 | .ref p=>(T = "list" ∧ ∃ xs,SqL K H p xs)∨(T = "tuple" ∧ ∃ o,K.lookup p=some o∧o.cls=.type "tuple" ∧ o.dict=none) ∨
   (T = "dict" ∧ ((∃ kvs,H p=some (.dK kvs))∨∃ kvs,H p=some (.dT kvs)))∨(T = "set" ∧ ∃ S n,H p=some (.set S n))
 | _=>False
theorem tyV_is {pins:List (Addr×Obj)} {σ:St} {H:Hp} {s:Shared} {T:String} {x:V} {v:Value} (I:Inv X pins σ H s) (r:RelV x v) (ty:tyV X.K T x H) :
  s.TypeIs v T∧∀ a,v=.ref a→∃ ob,s.heap.get? a=some ob∧ob.dict=none:=by
 cases x with
 | str z =>
  obtain ⟨t,rfl⟩:=r
  cases (show T = "str" from ty)
  exact ⟨typeIs_str s z t,fun _ e=>nomatch e⟩
 | int i =>
  obtain ⟨t,rfl⟩:=r
  cases (show T = "int" from ty)
  exact ⟨typeIs_int s i t,fun _ e=>nomatch e⟩
 | ref p =>
  cases r
  rcases ty with ⟨rfl,xs,hq⟩ | ⟨rfl,o,hk,hc,hd⟩ | ⟨rfl,hk⟩ | ⟨rfl,S,n,hk⟩
  ·obtain ⟨its,_,pl,_⟩:=I.list hq
   refine ⟨pl.isList.typeIs,fun a e=>?_⟩
   cases e
   obtain ⟨o,n,e,c,hd,_⟩:=pl;exact ⟨o,e,hd⟩
  ·refine ⟨⟨o,I.kIn p o hk,hc⟩,fun a e=>?_⟩
   cases e
   exact ⟨o,I.kIn _ o hk,hd⟩
  ·have z:∃ o,s.heap.get? p=some o∧o.ExactDict:=by
    rcases hk with ⟨kvs,hk⟩ | ⟨kvs,hk⟩
    ·obtain ⟨_,_,_,_,o,_,_,e,ex,_⟩:=I.hok p _ hk
     exact ⟨o,e,ex⟩
    ·obtain ⟨_,_,_,_,o,_,_,e,ex,_⟩:=I.hok p _ hk
     exact ⟨o,e,ex⟩
   obtain ⟨o,e,ex⟩:=z;refine ⟨⟨o,e,ex.1⟩,fun a e2=>?_⟩
   cases e2
   exact ⟨o,e,ex.2.1⟩
  ·obtain ⟨o,_,_,_,e,ex,_⟩:=I.hok p _ hk
   refine ⟨⟨o,e,ex.1⟩,fun a e2=>?_⟩
   cases e2
   exact ⟨o,e,ex.2.1⟩
 | _=>exact False.elim ty
def tBM (K:As) (T:String) (r:V→List V→Hp→VK→Prop) (to:TE) (t:TA):TE:=fun σ H Q=>to σ H fun x H1=>tyV K T x H1∧t σ H1 fun xs H2=>r x xs H2 Q
variable {o e:Expr} {es:List Expr} {to:TE} {t:TA} {name:Str} {apos cpos:Pos} {T id:String} {r:V→List V→Hp→VK→Prop}
theorem pe_bm (pa:PlainAttrs T) (slot:Slot T name id) (hty:typeOf (.builtin id)=pure (.type "method_descriptor")) (hm:MtR X id r) (ho:PE X o to) (ha:PA X (e::es) t)
  (hbase:attributeBase o name X.env (eval o X.env)=eval o X.env:=by rfl)
  (hfew:((backTo cpos (starEach (e::es) X.env)).all (fun x=>!x.1)&&(backToKw cpos (keywordEach [] X.env)).all (fun x=>x.1.isSome)
   && decide ((e::es).length+([]:List Keyword).length+(if ([]:List Keyword).isEmpty then 0 else 1)<30))=true:=by rfl)
  (hline:(apos.endLine==cpos.line)=true:=by rfl) (hs:starEach (e::es) X.env=(false,eval e X.env)::starEach es X.env:=by exact qq rfl _ _) (hplain:(backTo cpos (starEach es X.env)).any (·.1)=false:=by rfl) :
  PE X (.Call (.Attribute o name apos) (e::es) [] cpos) (tBM X.K T r to t):=by
 intro pins s σ H Q I h;refine wpAny_Call_method_late hbase hfew hline rfl (thn (ho pins s σ H _ I h) fun v s1 ⟨x,H1,I1,r1,ty,q1⟩=>?_);obtain ⟨h1,h2⟩:=tyV_is I1 r1 ty;refine ⟨T,id,pa,slot,hty,h1,h2,?_⟩;have hA:=ha cpos pins s1 σ H1 _ I1 q1;rw [hs] at hA ⊢;refine Calls.callWith_builtin (by show (false||(backTo cpos (starEach es X.env)).any (·.1))=false; rw [hplain] <;> rfl) (Calls.evalArgs_plain ?_);exact thn hA fun us s2 ⟨vs,H2,I2,r2,q2⟩=>hm pins s2 σ H2 x vs v us Q I2 r1 r2 q2
end
def MtM (X:Cx) (id:String) (r:V→List V→Hp→VK→Prop):Prop :=
 ∀ (pins:List (Addr×Obj)) (s:Shared) (σ:St) (H:Hp) (x:V) (xs:List V) (v:Value) (us:List Value) (Q:VK),Inv X pins σ H s→RelV x v→Vals xs us→r x xs H Q→wpAny (model X.prog X.w) X.A (call (.builtin id) (v::us)) (EP X pins σ Q) X.xe s
theorem Vals.one:∀ {x:V} {us:List Value},Vals [x] us→∃ u,us=[u]∧RelV x u
 | _,_,.cons r .nil=>⟨_,rfl,r⟩
theorem Vals.eraseIdx:∀ {xs:List V} {us:List Value} (i:Nat),Vals xs us→Vals (xs.eraseIdx i) (us.eraseIdx i)
 | _,_,_,.nil=>.nil
 | _,_,0,.cons _ t=>t
 | _,_,i+1,.cons r t=>.cons r (Vals.eraseIdx i t)
theorem Vals.rep {xs:List V} {us:List Value} (h:Vals xs us):∀ k:Nat,Vals (List.replicate k xs).flatten (List.replicate k us).flatten
 | 0=>.nil
 | k+1=>by
  rw [List.replicate_succ,List.replicate_succ,List.flatten_cons,List.flatten_cons];exact Vals.append h (Vals.rep h k)
theorem len_erase {α:Type}:∀ (l:List α) (i:Nat),(l.eraseIdx i).length≤l.length
 | [],_=>Nat.le_refl _
 | _::_,0=>Nat.le_succ _
 | _::r,i+1=>Nat.succ_le_succ (len_erase r i)
theorem foldl_rep (its:List Value):∀ (k:Nat) (acc:List Value),List.foldl (fun x1 x2=>x1++x2) acc.toArray (List.replicate k its.toArray)=(acc++(List.replicate k its).flatten).toArray
 | 0,acc=>by simp
 | k+1,acc=>by
  have e:acc.toArray++its.toArray=(acc++its).toArray:=by simp
  have e2:(acc++its)++(List.replicate k its).flatten=acc++(List.replicate (k+1) its).flatten:=by
   rw [List.replicate_succ,List.flatten_cons,List.append_assoc]
  rw [← e2,← foldl_rep its k (acc++its),← e,List.replicate_succ,List.foldl_cons]
section
variable {X:Cx} {pins:List (Addr×Obj)} {σ:St} {H:Hp} {s:Shared} {l b:Addr} {xs ys zs:List V}
theorem Inv.lset {its its':List Value} {n:Nat} {f:Array Value→Array Value} {t':Nat} (I:Inv X pins σ H s) (hH:H l=some (.lst xs))
  (e:s.heap.get? l=some { cls:=.type "list",data:=.seq its.toArray n }) (hf:f its.toArray=its'.toArray) (hv:Vals ys its') (hz:ys.length≤sizeLine) :
  Inv X pins σ (upd H l (.lst ys)) { s with heap:=s.heap.update l (Obj.mapSeq f),toks:=t' }:=by
 have q:=PySem.IsL.update e f;rw [hf] at q;refine I.write (x:=l) (e:=l) (by rw [hH]; exact trivial) (.inl rfl) (fun b' u hb hu=>(Heap.get?_update_other s.heap (Obj.mapSeq f) (Ne.symm hb)).trans hu) ⟨_,q⟩ ?_;exact ⟨hz,its',_,hv,q⟩
theorem Inv.lnew {its:List Value} {t':Nat} (I:Inv X pins σ H s) (hv:Vals ys its) (hz:ys.length≤sizeLine) :
  Inv X pins σ (upd H s.heap.objs.size (.lst ys)) { s with heap:=s.heap.push { cls:=.type "list",data:=.seq its.toArray },toks:=t' } :=
 I.laid (fun _ _ q=>Heap.get?_push_of_some _ q) (Nat.le_refl _) ⟨hz,its,0,hv,Heap.get?_push_size _ rfl⟩
theorem Inv.fresh (I:Inv X pins σ H s):H s.heap.objs.size=none:=I.hok.fresh (Nat.le_refl _)
theorem Inv.lstM (I:Inv X pins σ H s) (hH:H l=some (.lst xs)):xs.length≤sizeLine∧∃ (its:List Value) (n:Nat),Vals xs its∧xs.length=its.length∧s.heap.get? l=some { cls:=.type "list",data:=.seq its.toArray n }:=by
 obtain ⟨z,its,n,r,e⟩:=I.hok l _ hH;exact ⟨z,its,n,r,r.length,e⟩
theorem notLongL {n:Nat} (h:n≤sizeLine):Builtin.List.listTooLong n=false:=by
 unfold Builtin.List.listTooLong;exact decide_eq_false (by omega)
end
section
variable {X:Cx}
def rAppend:V→List V→Hp→VK→Prop:=fun x vs H Q=>∃ l xs y,x=.ref l∧vs=[y]∧H l=some (.lst xs)∧xs.length<sizeLine∧Q .non (upd H l (.lst (xs++[y])))
theorem mt_append:MtM X "list.append" rAppend:=by
 intro pins s σ H x vs v us Q I rx rv h;obtain ⟨l,xs,y,rfl,rfl,hH,hz,q⟩:=h
 cases rx
 obtain ⟨u,rfl,ru⟩:=rv.one;obtain ⟨z,its,n,r,hl,e⟩:=I.lstM hH;refine call_meets F.slot_list_append ⟨_,e,rfl⟩ F.entry_list_append (F.args_list_append_2 _ _) (PySem.list_append l its.toArray n u (by rw [List.size_toArray]; omega)) ⟨e,?_⟩;refine ⟨.non,_,I.lset (its':=its++[u]) hH e (by simp) (r.append (.cons ru .nil)) ?_,rfl,q⟩;rw [Ad,A6];omega
def rPopAt:V→List V→Hp→VK→Prop:=fun x vs H Q=>∃ l xs i k y,x=.ref l∧vs=[.int i]∧H l=some (.lst xs) ∧ -(2^63)≤i∧i<2^63∧seqIndex? i xs.length=some k∧xs[k]?=some y∧Q y (upd H l (.lst (xs.eraseIdx k)))
theorem mt_popAt:MtM X "list.pop" rPopAt:=by
 intro pins s σ H x vs v us Q I rx rv h;obtain ⟨l,xs,i,k,y,rfl,rfl,hH,h1,h2,hk,hy,q⟩:=h
 cases rx
 obtain ⟨u,rfl,ru⟩:=rv.one;obtain ⟨t,rfl⟩:=ru;obtain ⟨z,its,n,r,hl,e⟩:=I.lstM hH;obtain ⟨w,hw,rw'⟩:=r.get hy;refine call_meets F.slot_list_pop ⟨_,e,rfl⟩ F.entry_list_pop (F.args_list_pop_2 _ _)
  (MeetsSeq.list_pop_at l its.toArray n i t k w (fitsIndex_both h1 h2) (by rw [List.size_toArray,← hl]; exact hk) (by rw [← Array.getElem?_toList]; exact hw) (by rw [List.size_toArray]; omega)) ⟨e,?_⟩
 refine ⟨y,_,I.lset (its':=its.eraseIdx k) hH e ?_ (r.eraseIdx k) ?_,rw',q⟩
 ·show its.toArray.eraseIdxIfInBounds k=(its.eraseIdx k).toArray
  rw [List.eraseIdxIfInBounds_toArray]
 ·have:=len_erase xs k
  omega
def rCat:R2:=fun x y H Q=>∃ l b xs zs,x=.ref l∧y=.ref b∧H l=some (.lst xs)∧H b=some (.lst zs)∧xs.length+zs.length≤sizeLine∧∀ p,H p=none→Q (.ref p) (upd H p (.lst (xs++zs)))
theorem op_cat:OpR X (binaryOp .Add) rCat:=by
 intro pins s σ H x y v u Q I rx ry h;obtain ⟨l,b,xs,zs,rfl,rfl,hH,hB,hz,q⟩:=h
 cases rx
 cases ry
 obtain ⟨z,its,n,r,hl,e⟩:=I.lstM hH;obtain ⟨z2,its2,n2,r2,hl2,e2⟩:=I.lstM hB;refine PySem.P.add_list e e2 ?_ (by rw [List.size_toArray,List.size_toArray]; omega);have ea:its.toArray++its2.toArray=(its++its2).toArray:=by simp
 rw [ea];exact ⟨.ref _,_,I.lnew (t':=s.toks) (r.append r2) (by rw [Ad]; omega),rfl,q _ I.fresh⟩
def rRep:R2:=fun x y H Q=>∃ l k xs,x=.ref l∧y=.int k∧H l=some (.lst xs) ∧ -(2^63)≤k∧k<2^63∧xs.length*k.toNat≤sizeLine∧∀ p,H p=none→Q (.ref p) (upd H p (.lst (List.replicate k.toNat xs).flatten))
theorem len_rep {α:Type} (xs:List α) (k:Nat):(List.replicate k xs).flatten.length=k*xs.length:=by
 induction k with
 | zero=>simp
 | succ k ih=>rw [List.replicate_succ,List.flatten_cons,Ad,ih,Nat.succ_mul,Nat.add_comm]
theorem op_rep:OpR X (binaryOp .Mult) rRep:=by
 intro pins s σ H x y v u Q I rx ry h;obtain ⟨l,k,xs,rfl,rfl,hH,h1,h2,hz,q⟩:=h
 cases rx
 obtain ⟨t,rfl⟩:=ry;obtain ⟨z,its,n,r,hl,e⟩:=I.lstM hH;have hlen:its.toArray.size*k.toNat≤sizeLine:=by rw [List.size_toArray,← hl]; exact hz
 have hcap:¬ its.toArray.size*k.toNat>(2^63 - 1)/8:=by
  have:(sizeLine:Nat)≤(2^63 - 1)/8:=by decide
  omega
 have hfit:¬ (!Builtin.List.listFitsIndex k)=true:=by
  rw [fitsIndex_both h1 h2];exact Bool.false_ne_true
 have hlong:¬ Builtin.List.listTooLong (its.toArray.size*k.toNat)=true:=by
  rw [notLongL hlen];exact Bool.false_ne_true
 have hnew:List.foldl (fun x1 x2=>x1++x2) #[] (List.replicate (if its.toArray.isEmpty=true then 0 else k.toNat) its.toArray)=(List.replicate k.toNat its).flatten.toArray:=by
  have f0:∀ m:Nat,List.foldl (fun x1 x2=>x1++x2) #[] (List.replicate m its.toArray)=(List.replicate m its).flatten.toArray:=fun m=>by
   have:=foldl_rep its m [];rw [List.nil_append] at this;exact this
  rw [f0]
  cases its with
  | nil=>simp
  | cons a r'=>rw [if_neg (by simp)]
 refine wpAny_binaryOp_repeat_ref (T := "list") (U := "int") (by decide) ⟨_,e,rfl⟩ (fun s'=>typeIs_int s' k t) noFill_list_mul F.fills_int_mul F.slot_int_rmul repeat_list F.slot_int_index.lookup
  (call_meets F.slot_int_rmul (typeIs_int s k t) F.entry_int_rmul (F.args_int_rmul_2 _ _) (int___rmul___int_list k t l its.toArray n)
   ⟨e,rfl,⟨_,e,rfl⟩,call_meets F.slot_list_mul ⟨_,e,rfl⟩ F.entry_list_mul (F.args_list_mul_2 _ _) (AutoListH.list___mul___list_int_3 l its.toArray n k t hfit hcap hlong) ⟨e,?_⟩⟩)
 rw [hnew];exact ⟨.ref _,_,I.lnew (t':=s.toks) (r.rep k.toNat) (by rw [len_rep,Nat.mul_comm]; exact hz),rfl,q _ I.fresh⟩
end
section
variable {prog:Program} {w:World} {A:Around} {E:Value→Shared→Prop} {s:Shared}
end
section
variable {X:Cx}
end
end L2
namespace Att
open PySem PySem.W PySem.Calls PyProof.Rows
theorem ints_of_wellAll {P:Params} {h:Heap}:∀ (ns:List Int) (vs:List Value),WellAll P h vs (ns.map WData.int)→IntsAre vs ns:=by
 intro ns
 induction ns with
 | nil =>
  intro vs w;rw [List.map_nil] at w
  cases w
  exact .nil
 | cons n ns ih =>
  intro vs w;rw [List.map_cons] at w
  cases w with
  | cons a b =>
   cases a
   exact .cons _ _ (ih _ b)
theorem script_of {l:OpenLaw} {n:Nat} (hn:l.most=some n) {P:Params} {h:Heap} {args:List WData} {vals:List Value}
  (hpre:l.row.toRowW.claim.pre args=true) (hwl:WellAll P h vals args) :
  ∃ a vs ns,vals=[Value.ref a]∧args=[WData.list (ns.map WData.int)]∧h.get? a=some { cls:=.type "list",data:=.seq vs.toArray }∧IntsAre vs ns∧ns.length≤n:=by
 have hsh:WShape.hasAll [] args [.list .int]=true:=(pre_splitW hpre).1;have hc:l.pre.holds [] { args:=args }=true:=(pre_splitW hpre).2;obtain ⟨d,r,rfl,h1,h2⟩:=hasAllW_cons hsh;obtain rfl:=hasAllW_nil h2;obtain ⟨xs,rfl,h3⟩:=hasW_list h1;obtain ⟨ns,rfl⟩:=items_int h3;have hlen:ns.length≤n:=by
  unfold OpenLaw.pre at hc;have h4:(WTm.not (.lt (.lit (.int (n:Int))) (.len (.arg 0)))).holds [] { args:=[.list (ns.map .int)] }=true:=by
   have h4:=(holds_andW hc).1;rw [hn] at h4;exact h4
  have h5:=condW_of h4 (w_not (w_lt w_lit (w_len_list (w_arg rfl))));rw [Al] at h5;refine Nat.le_of_not_lt fun q=>?_
  have q':(n:Int)<((ns.length:Nat):Int):=by omega
  first
   | (rw [decide_eq_true q'] at h5; exact absurd h5 (by decide))
   | (simp at h5; omega)
 cases hwl with
 | cons w1 w2 =>
  cases w2
  cases w1 with
  | list ho hall=>exact ⟨_,_,ns,rfl,rfl,ho,ints_of_wellAll ns _ hall,hlen⟩
theorem post_true (l:OpenLaw) (args:List WData):l.row.toRowW.claim.post args (.bool true) args=true :=
 postW_of (r:=l.row.toRowW) (X:=(true==true))
  (show WShape.has [] (.bool true) .bool=true by first | rfl | decide | simp [WShape.has,WShape.arms,WShape.armsAll])
  (show (WTm.eq .res (.lit (.bool true))).value [] { args:=args,res:=some (.bool true),after:=args }=some (.bool (true==true)) from w_eq_bool (w_res rfl) w_lit) rfl
theorem attach_call {l:OpenLaw} {n:Nat} {q:Program} {loose:List Str} {XP:(Str→Option Value)→Heap→Prop} {YP:World→Heap→Prop} {d:DefRec}
  (hn:l.most=some n) (hdf:d.params.defaults=[])
  (call:∀ (w:World) (s₀ s₁:Shared) (mg mb:Str→Option Value) (fa:Addr) (o:Obj) (pm cd doc:Value) (a:Addr) (vs:List Value) (ns:List Int),Ground q loose [] XP w s₀ mg mb s₁.heap→YP w s₁.heap→s₁.heap.get? fa=some o→o.data=.func (docDef d.name d.params d.body d.scope pm cd doc)→s₁.heap.CodeRec cd d.name→mg d.name=some (.ref fa)→s₁.heap.get? a=some { cls:=.type "list",data:=.seq vs.toArray }→IntsAre vs ns→ns.length≤n→s₁.gens=#[]→codeAny (model l.prog w) callerA (.call (.ref fa) ⟨[.ref a],[]⟩) (fun r s'=>r=.ok (.ret (.bool true))∧OldK s₁.heap s'.heap∧s'.os=s₁.os∧AllBare s'.gens) s₁) :
  WalkO q loose XP YP l.row.toRowW d [] (fun f vs=>PySem.call f vs):=by
 intro w s₀ s₁ mg mb G Y fa o pm cd doc dV kV ho hd hcd hD hmg hg args vals as hpre hlay hrd hwl hlo;obtain rfl:dV=.none:=Dflts.none hD hdf;obtain rfl:kV=.none:=Dflts.noKw hD;obtain ⟨a,vs,ns,rfl,rfl,hobj,hints,hlen⟩:=script_of hn hpre hwl;refine enter_call (codeAny_mono (call w s₀ s₁ mg mb fa o pm cd doc a vs ns G Y ho (fd_plain hd) hcd hmg hobj hints hlen hg) fun r s' hq=>?_);obtain ⟨rfl,h2,h3,h4⟩:=hq;exact ⟨.inl ⟨.bool true,.bool true,[],rfl,fun _=>rfl,.bool true,post_true l _,fun _=>⟨List.Pairwise.nil,fun _ hm=>(nomatch hm)⟩⟩,h2,h3,h4⟩
section
variable {prog:Program} {w:World} {A:Around} {E:Value→Shared→Prop} {s:Shared} {K:Frag}
def ledger (h:Heap) (L d:Addr):List (Addr×Obj):=(List.range h.objs.size).filterMap fun a=>if a=L∨a=d then none else (h.get? a).map fun o=>(a,o)
end
end Att
namespace L2
open PySem PySem.Spec PyProof.Rows
theorem Z9:∀ {vs:List Value} {ns:List Int},IntsAre vs ns→Vals (ns.map V.int) vs
 | _,_,.nil=>.nil
 | _,_,.cons n t h=>.cons ⟨t,rfl⟩ (Z9 h)
def Only (H:Hp):Prop:=∀ b,H b=none∨∃ o xs,H b=some (.frz o (.lst xs))
theorem law_call {P:Program} {w:World} {K:As} {mg mb:Str→Option Value} {CX:CXT} {k:Nat} {fa a:Addr} {fd:FuncData} {x:Str} {sp:Sp} {s₁:Shared} {vs:List Value} {ns:List Int}
  (KX:K.In s₁.heap) (hns:s₁.heap.Ns mainGlobals mg) (hb:s₁.heap.Ns builtinsNs mb) (hbb:∀ x:Str,x ≠ "__name__" → mb x=bootBuiltins x) (hlim:s₁.heap.NoLimit) (hg:s₁.gens=#[])
  (ha:s₁.heap.get? a=some { cls:=.type "list",data:=.seq vs.toArray }) (hi:IntsAre vs ns) (hl:ns.length≤sizeLine) (hr:Room k callerA)
  (F:∀ base:Heap,K.In base→base.Ns mainGlobals mg→FnOk P w K mg base CX k fa fd [x] sp) (hbind:∀ (s:Shared) (u:Value),BindsTo s fd ⟨[u],[]⟩ [(x,u)])
  (hsp:∀ H:Hp,Only H→SqL K H a (ns.map V.int)→sp [.ref a] H (fun v _=>v=.bl true) fun _ _ _=>False)
  (hCX:∀ H e s',CX [] H s₁ (fun _ _ _=>False) e s'→False) :
  codeAny (model P w) callerA (.call (.ref fa) ⟨[.ref a],[]⟩) (fun r s'=>r=.ok (.ret (.bool true))∧OldK s₁.heap s'.heap∧s'.os=s₁.os∧AllBare s'.gens) s₁:=by
 have rv:=Z9 hi;have lenV:=hi.length;have core:∀ H:Hp,Only H→SqL K H a (ns.map V.int)→HOk P w H s₁.heap→(∀ b,H b≠none→b=a)→(H a≠none→K.lookup a=none)→codeAny (model P w) callerA (.call (.ref fa) ⟨[.ref a],[]⟩) (fun r s'=>r=.ok (.ret (.bool true))∧OldK s₁.heap s'.heap∧s'.os=s₁.os∧AllBare s'.gens) s₁:=by
  intro H hO hS hok hA hK;have base_of:∀ {b:Addr} {o:Obj},s₁.heap.get? b=some o→H b=none→(hidT s₁.heap H).get? b=some o:=fun e n=>hidT_get e n
  have noA:∀ {b:Addr} {o:Obj} {es:Array DictEntry} {ep:Nat},s₁.heap.get? b=some o→o.data=.dict es ep→H b=none:=fun {b o es ep} e d=>by
   cases q:H b with
   | none=>rfl
   | some u =>
    have e':b=a:=hA b (by rw [q]; simp);subst e';rw [ha] at e; cases e;have d':Data.seq vs.toArray _=Data.dict es ep:=d
    cases d'
  have nsK:∀ {b:Addr} {m:Str→Option Value},s₁.heap.Ns b m→(hidT s₁.heap H).Ns b m:=fun {b m} ⟨o,es,ep,e,d,r⟩=>⟨o,es,ep,base_of e (noA e d),d,r⟩
  have hKb:K.In (hidT s₁.heap H):=fun b o e=>base_of (KX b o e) (by
   cases q:H b with
   | none=>rfl
   | some u =>
    have e':b=a:=hA b (by rw [q]; simp);subst e';rw [hK (by rw [q]; simp)] at e; cases e)
  have hM:Mod K mg (hidT s₁.heap H):=⟨hKb,nsK hns,⟨mb,nsK hb,hbb⟩,let ⟨mc,h1,h2⟩:=hlim; ⟨mc,nsK h1,h2⟩⟩;have e0:Env0 P w K mg (hidT s₁.heap H) callerA [] s₁ H:=⟨rfl,hM,fun b o e=>of_hidT e,Nat.le_of_eq (hidT_size _ _),trivial,fun b hb=>absurd (show b∈([]:List Addr) from hb) (by simp),hok,.of_eq hg⟩;refine codeAny_mono ((F _ hKb (nsK hns)).run callerA [] s₁ H ⟨[.ref a],[]⟩ [.ref a] [.ref a] _ _ hr e0 (hbind s₁ (.ref a)) (.cons rfl .nil) (hsp H hO hS)) fun r s' h=>?_
  cases r with
  | error e=>exact (hCX H e s' h).elim
  | ok fl =>
   cases fl with
   | next=>exact False.elim h
   | brk=>exact False.elim h
   | cont=>exact False.elim h
   | ret u =>
    obtain ⟨v,H',os,bare,un,hok',r',q⟩:=h;have q':v=.bl true:=q;subst q';obtain rfl:u=Value.bool true:=r';refine ⟨rfl,OldK.of_keep fun b o e=>?_,os,bare⟩
    cases q:H b with
    | none=>exact un.keep b o e q (by intro z; exact absurd (show b∈([]:List Addr) from z) (by simp)) (by simp)
    | some u =>
     rcases hO b with z | ⟨ob,xs,z⟩
     ·rw [q] at z; cases z
     ·have z2:=un.frzs b ob _ z
      obtain ⟨e1,_⟩:=hok b _ z;obtain ⟨e2,_⟩:=hok' b _ z2;rw [e] at e1; cases e1;exact e2
 cases hk:K.lookup a with
 | some o =>
  have e:=KX a o hk;rw [ha] at e
  cases e
  refine core (fun _=>none) (fun _=>.inl rfl) (.inr ⟨_,vs.toArray,_,hk,rfl,rfl,rfl,by rw [List.size_toArray,lenV]; exact hl,by simpa using rv⟩) (fun b u z=>by have z':(none:Option HO)=some u:=z; cases z') (fun b z=>absurd rfl z) fun z=>absurd rfl z
 | none =>
  refine core (fun b=>if b=a then some (.frz { cls:=.type "list",data:=.seq vs.toArray } (.lst (ns.map V.int))) else none) (fun b=>?_) (.inl (.inr ⟨{ cls:=.type "list",data:=.seq vs.toArray },if_pos rfl⟩)) (fun b u z=>?_) (fun b z=>?_) fun _=>hk
  ·by_cases hb:b=a
   ·exact .inr ⟨_,_,if_pos hb⟩
   ·exact .inl (if_neg hb)
  ·by_cases hb:b=a
   ·have z':=(if_pos hb).symm.trans z
    cases z'
    subst hb;exact ⟨ha,by rw [Al]; exact hl,vs,_,rv,ha⟩
   ·have z':=(if_neg hb).symm.trans z
    cases z'
  ·by_cases hb:b=a
   ·exact hb
   ·exact absurd (if_neg hb) z
abbrev KOf {K:As} {h:Heap} (_:K.In h):As:=K
theorem walk_of {l:PySem.W.OpenLaw} {n k:Nat} {q:Program} {loose:List Str} {XP:(Str→Option Value)→Heap→Prop} {YP:World→Heap→Prop} {d:DefRec} {K:Params→As} {CX:World→CXT} {sp:World→Sp} {x:Str}
  (hn:l.most=some n) (hn2:n≤sizeLine) (hdf:d.params.defaults=[]) (hr:Room k callerA)
  (hY:∀ (w:World) (h:Heap),YP w h→(K w.params).In h)
  (F:∀ (w:World) (mg:Str→Option Value) (fa:Addr) (h:Heap),(K w.params).In h→h.Ns mainGlobals mg→mg d.name=some (.ref fa)→∃ fd:FuncData,(∀ (s:Shared) (u:Value),BindsTo s fd ⟨[u],[]⟩ [(x,u)])∧∀ base:Heap,(K w.params).In base→base.Ns mainGlobals mg→FnOk l.prog w (K w.params) mg base (CX w) k fa fd [x] (sp w))
  (hsp:∀ (w:World) (H:Hp) (a:Addr) (ns:List Int),ns.length≤n→Only H→SqL (K w.params) H a (ns.map V.int)→sp w [.ref a] H (fun v _=>v=.bl true) fun _ _ _=>False)
  (hCX:∀ (w:World) (H:Hp) (s:Shared) (e:Value) (s':Shared),CX w [] H s (fun _ _ _=>False) e s'→False) :
  PySem.W.WalkO q loose XP YP l.row.toRowW d [] (fun f vs=>PySem.call f vs):=by
 refine Att.attach_call hn hdf fun w s₀ s₁ mg mb fa o pm cd doc a vs ns G Y ho hd hcd hmg hobj hints hlen hg=>?_
 have KX:=hY w _ Y;obtain ⟨fd,hb,hF⟩:=F w mg fa _ KX G.T.g hmg;exact law_call KX G.T.g G.T.b G.T.builtins G.T.nolimit hg hobj hints (Ar hlen hn2) hr hF hb (fun H hO hS=>hsp w H a ns hlen hO hS) fun H e s'=>hCX w H s₁ e s'
abbrev CX0:CXT:=fun _ _ _ _ _ _=>False
abbrev E0:XK:=fun _ _ _=>False
theorem pass0 {X:Cx}:Passes CX0 X E0:=fun _ _ _ _ _ _ _ h=>h.elim
structure Fun (K:As) (x qual:Str) (st:Stmt) (f:Addr) (fd:FuncData):Prop where
 ex:∃ (oc:Value) (od:Option Addr) (kV doc pm:Value) (an:Option Addr) (cdv ct:Value) (osl:Array (Option Value)),fd=PySem.W.fnOf x qual (x5 st) (zY st) (qY st) .none kV doc pm an cdv ct∧K.lookup f=some ⟨oc,od,.func fd,osl⟩∧PySem.W.codeIn K cdv qual=true
 kp:PySem.W.keepIn K (.ref f)=true
section
variable {P:Program} {w:World} {K:As} {mg:Str→Option Value} {base:Heap}
theorem Fun.ok {x qual:Str} {st:Stmt} {f:Addr} {fd:FuncData} {N ps:List Str} {k:Nat} {sp:Sp} (F:Fun K x qual st f fd) (S:FnScope N ps (qY st)) (len:∀ vs H Q E,sp vs H Q E→vs.length=ps.length)
  (hbody:∀ (cdv:Value) (A:Around) (outer:List Env) (s:Shared) (H:Hp) (vs:List V) (Q:VK) (E:XK),Room k (A.deeper (envOfC qual (qY st) s.heap.objs.size f cdv))→sp vs H Q E→∃ t,PSs (cxOf CX0 P w K mg base N qual (qY st) f cdv A outer s H E).nox (zY st) t∧t { nx:=fun _ H'=>Q .non H',rt:=Q } (start N vs) H):FnOk P w K mg base CX0 (k+1) f fd ps sp:=by
 obtain ⟨oc,od,kV,doc,pm,an,cdv,ct,osl,rfl,lk,hcd⟩:=F.ex;refine fn_of lk hcd S len fun A outer s H vs Q E hr hsp=>?_
 obtain ⟨t,h,q⟩:=hbody cdv A outer s H vs Q E hr hsp;exact ⟨t,h.nox,q⟩
theorem Fun.binds {x qual:Str} {st:Stmt} {f:Addr} {fd:FuncData} {ps:List Str} (F:Fun K x qual st f fd)
  (h:∀ (kV doc pm:Value) (an:Option Addr) (cdv ct:Value) (us:List Value),us.length=ps.length→bindArgs (PySem.W.fnOf x qual (x5 st) (zY st) (qY st) .none kV doc pm an cdv ct) ⟨us,[]⟩=pure (ps.zip us)):Binds K fd ps []:=by
 obtain ⟨oc,od,kV,doc,pm,an,cdv,ct,osl,rfl,lk,hcd⟩:=F.ex;exact .all (h kV doc pm an cdv ct)
theorem fun_mk {x qual:Str} {st:Stmt} {f:Addr} {oc:Value} {od an:Option Addr} {osl:Array (Option Value)} {kV doc pm cdv ct:Value} (l:K.lookup f=some ⟨oc,od,.func (PySem.W.fnOf x qual (x5 st) (zY st) (qY st) .none kV doc pm an cdv ct),osl⟩)
  (c:PySem.W.codeIn K cdv qual=true) (k:PySem.W.keepIn K (.ref f)=true):Fun K x qual st f (PySem.W.fnOf x qual (x5 st) (zY st) (qY st) .none kV doc pm an cdv ct):=⟨⟨oc,od,kV,doc,pm,an,cdv,ct,osl,rfl,l,c⟩,k⟩
end
theorem hu_of {A:Around} {k:Nat} (hr:Room k A):A.units+1<cLine:=Nat.lt_of_le_of_lt (Nat.add_le_add_left (by decide:1≤64) _) hr.units
theorem zj {n:Nat} (h:n≤1000):n<sizeLine:=Nat.lt_of_le_of_lt h (by decide)
section
variable {X:Cx}
theorem pv (i:Nat) {x:Str} {pos:Pos} (hN:X.N[i]?=some x:=by rfl) (hv:Vis X.env.scope x:=by first | exact Or.inl rfl | exact Or.inr (Or.inl rfl) | exact Or.inr (Or.inr rfl)) (hd:(x==("__debug__" : Str))=false:=by decide)
  (hcd:(x==("__classdict__" : Str))=false:=by decide):PE X (.Name x pos) (tVar i):=pe_var hN hv hd hcd
end
theorem iteF {A B:Prop} (h:B):if false=true then A else B:=by
 rw [if_neg Bool.false_ne_true];exact h
theorem iteT {A B:Prop} (h:A):if true=true then A else B:=by
 rw [if_pos rfl];exact h
theorem iteNS {c A B:Prop} [Decidable c] (hc:c) (h:B):if (!decide c)=true then A else B:=by
 rw [decide_eq_true hc];exact iteF h
def Same (H H':Hp):Prop:=∀ b o,H b=some o→H' b=some o
theorem Same.refl (H:Hp):Same H H:=fun _ _ h=>h
theorem Same.trans {H H1 H2:Hp} (a:Same H H1) (b:Same H1 H2):Same H H2:=fun c o h=>b c o (a c o h)
theorem Same.seq {K:As} {H H':Hp} {a:Addr} {xs:List V} (e:Same H H') (h:SqL K H a xs):SqL K H' a xs:=by
 rcases h with (h | ⟨o,h⟩) | h
 ·exact .inl (.inl (e _ _ h))
 ·exact .inl (.inr ⟨o,e _ _ h⟩)
 ·exact .inr h
end L2
namespace BP
def Sm (n:Nat) (x:Int):Prop:=x.natAbs<2^n
theorem Sm.mono {m n:Nat} {x:Int} (h:Sm m x) (l:m≤n):Sm n x:=Ag h (Ac (by decide) l)
theorem Sm.mul {m n:Nat} {x y:Int} (hx:Sm m x) (hy:Sm n y):Sm (m+n) (x*y):=by
 unfold Sm at *;rw [Aq,Nat.pow_add];exact Nat.mul_lt_mul'' hx hy
theorem Sm.add {n:Nat} {x y:Int} (hx:Sm n x) (hy:Sm n y):Sm (n+1) (x+y):=by
 unfold Sm at *;rw [Nat.pow_succ];omega
theorem Sm.le {n:Nat} {x y:Int} (h:Sm n y) (l:x.natAbs≤y.natAbs):Sm n x:=Nat.lt_of_le_of_lt l h
theorem Sm.log2 {n:Nat} {x:Int} (h:Sm n x) (hn:0<n):x.natAbs.log2<n:=by
 by_cases h0:x.natAbs=0
 ·rw [h0]; simpa using hn
 ·exact (Nat.log2_lt h0).mpr h
structure IsR (x y:Int):Prop where
 pos:0<y
 low:Int.gcd x y=1
def sg (t b:Int):Int:=if b<0 then -(Int.gcd t b:Int) else (Int.gcd t b:Int)
theorem gcd_pos {t b:Int} (hb:b≠0):0<Int.gcd t b:=Nat.pos_of_ne_zero fun h=>hb (Int.gcd_eq_zero_iff.mp h).2
theorem sg_ne {t b:Int} (hb:b≠0):sg t b≠0:=by
 have:=gcd_pos (t:=t) hb;unfold sg; split <;> omega
theorem sg_dvd_left (t b:Int):sg t b∣t:=by
 unfold sg; split
 ·exact Int.neg_dvd.mpr (Int.gcd_dvd_left t b)
 ·exact Int.gcd_dvd_left t b
theorem sg_dvd_right (t b:Int):sg t b∣b:=by
 unfold sg; split
 ·exact Int.neg_dvd.mpr (Int.gcd_dvd_right t b)
 ·exact Int.gcd_dvd_right t b
def nt (t b:Int):Int:=t.fdiv (sg t b)
def nb (t b:Int):Int:=b.fdiv (sg t b)
theorem sg_nt (t b:Int):sg t b*nt t b=t:=Int.mul_fdiv_cancel' (sg_dvd_left t b)
theorem sg_nb (t b:Int):sg t b*nb t b=b:=Int.mul_fdiv_cancel' (sg_dvd_right t b)
theorem sg_abs (t b:Int):(sg t b).natAbs=Int.gcd t b:=by
 unfold sg; split <;> omega
theorem nb_pos {t b:Int} (hb:b≠0):0<nb t b:=by
 have e:=sg_nb t b;have g:=gcd_pos (t:=t) hb
 by_cases h:b<0
 ·have hs:sg t b<0:=by unfold sg; rw [if_pos h]; omega
  rcases Int.lt_trichotomy (nb t b) 0 with z | z | z
  ·have:=Int.mul_pos_of_neg_of_neg hs z; omega
  ·rw [z] at e; omega
  ·exact z
 ·have hs:0<sg t b:=by unfold sg; rw [if_neg h]; omega
  rcases Int.lt_trichotomy (nb t b) 0 with z | z | z
  ·have:=Int.mul_neg_of_pos_of_neg hs z; omega
  ·rw [z] at e; omega
  ·exact z
theorem n_low {t b:Int} (hb:b≠0):Int.gcd (nt t b) (nb t b)=1:=by
 have g:=gcd_pos (t:=t) hb;have h:=Int.gcd_mul_left (sg t b) (nt t b) (nb t b);rw [sg_nt,sg_nb,sg_abs] at h;exact (Nat.eq_of_mul_eq_mul_left g (by rw [Nat.mul_one]; exact h)).symm
theorem n_isR {t b:Int} (hb:b≠0):IsR (nt t b) (nb t b):=⟨nb_pos hb,n_low hb⟩
theorem n_cross (t b:Int):nt t b*b=t*nb t b:=by
 have h1:=sg_nt t b;have h2:=sg_nb t b
 calc nt t b*b=nt t b*(sg t b*nb t b):=by rw [h2]
  _=(sg t b*nt t b)*nb t b:=by ac_rfl
  _=t*nb t b:=by rw [h1]
theorem isR_unique {x y u v:Int} (a:IsR x y) (b:IsR u v) (h:x*v=u*y):x=u∧y=v:=by
 have hy:=a.pos;have hv:=b.pos;have ca:Nat.Coprime y.natAbs x.natAbs:=by
  have:=a.low;rw [Int.gcd_comm] at this;exact this
 have cb:Nat.Coprime v.natAbs u.natAbs:=by
  have:=b.low;rw [Int.gcd_comm] at this;exact this
 have hn:x.natAbs*v.natAbs=u.natAbs*y.natAbs:=by rw [← Aq,← Aq,h]
 have d1:y.natAbs∣v.natAbs:=ca.dvd_of_dvd_mul_left ⟨u.natAbs,by rw [hn,Nat.mul_comm]⟩;have d2:v.natAbs∣y.natAbs:=cb.dvd_of_dvd_mul_left ⟨x.natAbs,by rw [← hn,Nat.mul_comm]⟩;have e:y.natAbs=v.natAbs:=Nat.dvd_antisymm d1 d2;have ey:y=v:=by omega
 subst ey;exact ⟨Int.eq_of_mul_eq_mul_right (by omega) h,rfl⟩
theorem gcd_step {a b:Int}:Int.gcd b (a%b)=Int.gcd a b:=by
 have h:a%b=a+b*(-(a/b)):=by
  have:=Int.emod_add_mul_ediv a b;rw [Int.mul_neg];omega
 rw [h,Int.gcd_add_mul_left_right,Int.gcd_comm]
theorem gcd_end {a:Int} (h:0≤a):((Int.gcd a 0:Nat):Int)=a:=by
 rw [Int.gcd_zero_right]; omega
theorem abs_nn (t:Int):0≤(if t<0 then -t else t):=by split <;> omega
theorem plus_way {x y u v g t r:Int} (R1:IsR x y) (R2:IsR u v) (hg:g=(Int.gcd y v:Nat)) (ht:t=x*v.fdiv g+u*y.fdiv g) (hr:r=(Int.gcd t g:Nat)) :
  IsR (t.fdiv r) (y.fdiv g*v.fdiv r)∧t.fdiv r*(y*v)=(x*v+u*y)*(y.fdiv g*v.fdiv r):=by
 have hy:=R1.pos;have hv:=R2.pos;have gp:0<g:=by
  have:=Int.gcd_pos_of_ne_zero_left v (show y≠0 by omega);omega
 have rp:0<r:=by
  have:=Int.gcd_pos_of_ne_zero_right t (show g≠0 by omega);omega
 have gy:g∣y:=by rw [hg]; exact Int.gcd_dvd_left y v
 have gv:g∣v:=by rw [hg]; exact Int.gcd_dvd_right y v
 have rt:r∣t:=by rw [hr]; exact Int.gcd_dvd_left t g
 have rg:r∣g:=by rw [hr]; exact Int.gcd_dvd_right t g
 obtain ⟨y',ey⟩:=gy;obtain ⟨v',ev⟩:=gv;obtain ⟨t',et⟩:=rt;obtain ⟨g',eg⟩:=rg;have gne:g≠0:=by omega
 have rne:r≠0:=by omega
 have dy:y.fdiv g=y':=by rw [ey]; exact A3 y' gne
 have dv:v.fdiv g=v':=by rw [ev]; exact A3 v' gne
 have dt:t.fdiv r=t':=by rw [et]; exact A3 t' rne
 have evr:v=r*(g'*v'):=by rw [ev,eg,Int.mul_assoc]
 have dvr:v.fdiv r=g'*v':=by rw [evr]; exact A3 _ rne
 rw [dy,dv] at ht;rw [dy,dvr,dt];have py:0<y':=by
  rcases Int.lt_trichotomy y' 0 with z | z | z
  ·have:=Int.mul_neg_of_pos_of_neg gp z; omega
  ·rw [z] at ey; omega
  ·exact z
 have pv:0<v':=by
  rcases Int.lt_trichotomy v' 0 with z | z | z
  ·have:=Int.mul_neg_of_pos_of_neg gp z; omega
  ·rw [z] at ev; omega
  ·exact z
 have pg:0<g':=by
  rcases Int.lt_trichotomy g' 0 with z | z | z
  ·have:=Int.mul_neg_of_pos_of_neg rp z; omega
  ·rw [z] at eg; omega
  ·exact z
 have c1:Int.gcd y' v'=1:=by
  have h:=Int.gcd_mul_left g y' v';rw [← ey,← ev] at h;have h2:Int.gcd y v=g.natAbs:=by omega
  rw [h2] at h;have:0<g.natAbs:=by omega
  exact (Nat.eq_of_mul_eq_mul_left this (by rw [Nat.mul_one]; exact h)).symm
 have c2:Int.gcd t' g'=1:=by
  have h:=Int.gcd_mul_left r t' g';rw [← et,← eg] at h;have h2:Int.gcd t g=r.natAbs:=by omega
  rw [h2] at h;have:0<r.natAbs:=by omega
  exact (Nat.eq_of_mul_eq_mul_left this (by rw [Nat.mul_one]; exact h)).symm
 have cop:∀ {a b c:Int},Int.gcd a b=1→c∣b→Int.gcd a c=1:=fun {a b c} h d=>by
  have k:Int.gcd a c∣Int.gcd a b:=Int.gcd_dvd_gcd_of_dvd_right a d;rw [h] at k;exact Nat.eq_one_of_dvd_one k
 have copl:∀ {a b c:Int},Int.gcd b a=1→c∣b→Int.gcd c a=1:=fun {a b c} h d=>by
  rw [Int.gcd_comm] at h ⊢;exact cop h d
 have c3:Int.gcd x y'=1:=cop R1.low ⟨g,by rw [ey,Int.mul_comm]⟩;have c4:Int.gcd u v'=1:=cop R2.low ⟨g,by rw [ev,Int.mul_comm]⟩;have mulr:∀ {a b c:Int},Int.gcd a b=1→Int.gcd a c=1→Int.gcd a (b*c)=1:=fun {a b c} h1 h2=>by
  have k:Nat.Coprime a.natAbs (b.natAbs*c.natAbs):=Nat.Coprime.mul_right h1 h2;show Nat.gcd a.natAbs (b*c).natAbs=1;rw [Aq];exact k
 have mull:∀ {a b c:Int},Int.gcd b a=1→Int.gcd c a=1→Int.gcd (b*c) a=1:=fun {a b c} h1 h2=>by
  rw [Int.gcd_comm] at h1 h2 ⊢;exact mulr h1 h2
 have c1':Int.gcd v' y'=1:=by rw [Int.gcd_comm]; exact c1
 have c5:Int.gcd t y'=1:=by
  have h:Int.gcd (x*v') y'=1:=mull c3 c1';have e:t=x*v'+u*y':=ht;rw [e,Int.gcd_comm,Int.gcd_add_mul_right_right,Int.gcd_comm];exact h
 have c6:Int.gcd t v'=1:=by
  have h:Int.gcd (u*y') v'=1:=mull c4 c1;have e:t=u*y'+x*v':=by rw [ht,Int.add_comm]
  rw [e,Int.gcd_comm,Int.gcd_add_mul_right_right,Int.gcd_comm];exact h
 have d':t'∣t:=⟨r,by rw [et,Int.mul_comm]⟩;refine ⟨⟨Int.mul_pos py (Int.mul_pos pg pv),mulr (copl c5 d') (mulr c2 (copl c6 d'))⟩,?_⟩;have k1:x*v+u*y=g*t:=by
  rw [ht,Int.mul_add];have a1:x*v=g*(x*v'):=by rw [ev]; ac_rfl
  have a2:u*y=g*(u*y'):=by rw [ey]; ac_rfl
  rw [a1,a2]
 rw [k1]
 calc t'*(y*v)=t'*(g*y'*(r*(g'*v'))):=by rw [← evr,← ey]
  _=g*(r*t')*(y'*(g'*v')):=by ac_rfl
  _=g*t*(y'*(g'*v')):=by rw [← et]
theorem n_of {x y t b:Int} (hb:b≠0) (R:IsR x y) (h:x*b=t*y):x=nt t b∧y=nb t b:=by
 refine isR_unique R (n_isR hb) ?_;have c:=n_cross t b;refine Int.eq_of_mul_eq_mul_right hb ?_
 calc x*nb t b*b=x*b*nb t b:=by ac_rfl
  _=t*y*nb t b:=by rw [h]
  _=t*nb t b*y:=by ac_rfl
  _=nt t b*b*y:=by rw [c]
  _=nt t b*y*b:=by ac_rfl
theorem times_way {x y u v g k:Int} (R1:IsR x y) (R2:IsR u v) (hg:g=(Int.gcd x v:Nat)) (hk:k=(Int.gcd u y:Nat)) :
  IsR (x.fdiv g*u.fdiv k) (y.fdiv k*v.fdiv g)∧(x.fdiv g*u.fdiv k)*(y*v)=(x*u)*(y.fdiv k*v.fdiv g):=by
 have hy:=R1.pos;have hv:=R2.pos;have gp:0<g:=by
  have:=Int.gcd_pos_of_ne_zero_right x (show v≠0 by omega);omega
 have kp:0<k:=by
  have:=Int.gcd_pos_of_ne_zero_right u (show y≠0 by omega);omega
 have gx:g∣x:=by rw [hg]; exact Int.gcd_dvd_left x v
 have gv:g∣v:=by rw [hg]; exact Int.gcd_dvd_right x v
 have ku:k∣u:=by rw [hk]; exact Int.gcd_dvd_left u y
 have ky:k∣y:=by rw [hk]; exact Int.gcd_dvd_right u y
 obtain ⟨x',ex⟩:=gx;obtain ⟨v',ev⟩:=gv;obtain ⟨u',eu⟩:=ku;obtain ⟨y',ey⟩:=ky;have gne:g≠0:=by omega
 have kne:k≠0:=by omega
 have dx:x.fdiv g=x':=by rw [ex]; exact A3 x' gne
 have dv:v.fdiv g=v':=by rw [ev]; exact A3 v' gne
 have du:u.fdiv k=u':=by rw [eu]; exact A3 u' kne
 have dy:y.fdiv k=y':=by rw [ey]; exact A3 y' kne
 rw [dx,dv,du,dy];have py:0<y':=by
  rcases Int.lt_trichotomy y' 0 with z | z | z
  ·have:=Int.mul_neg_of_pos_of_neg kp z; omega
  ·rw [z] at ey; omega
  ·exact z
 have pv:0<v':=by
  rcases Int.lt_trichotomy v' 0 with z | z | z
  ·have:=Int.mul_neg_of_pos_of_neg gp z; omega
  ·rw [z] at ev; omega
  ·exact z
 have c1:Int.gcd x' v'=1:=by
  have h:=Int.gcd_mul_left g x' v';rw [← ex,← ev] at h;have h2:Int.gcd x v=g.natAbs:=by omega
  rw [h2] at h;have:0<g.natAbs:=by omega
  exact (Nat.eq_of_mul_eq_mul_left this (by rw [Nat.mul_one]; exact h)).symm
 have c2:Int.gcd u' y'=1:=by
  have h:=Int.gcd_mul_left k u' y';rw [← eu,← ey] at h;have h2:Int.gcd u y=k.natAbs:=by omega
  rw [h2] at h;have:0<k.natAbs:=by omega
  exact (Nat.eq_of_mul_eq_mul_left this (by rw [Nat.mul_one]; exact h)).symm
 have cop2:∀ {a b c d:Int},Int.gcd a b=1→c∣a→d∣b→Int.gcd c d=1:=fun {a b c d} h h1 h2=>by
  have k:Int.gcd c d∣Int.gcd a b:=Nat.dvd_trans (Int.gcd_dvd_gcd_of_dvd_right c h2) (Int.gcd_dvd_gcd_of_dvd_left b h1);rw [h] at k;exact Nat.eq_one_of_dvd_one k
 have c3:Int.gcd x' y'=1:=cop2 R1.low ⟨g,by rw [ex,Int.mul_comm]⟩ ⟨k,by rw [ey,Int.mul_comm]⟩;have c4:Int.gcd u' v'=1:=cop2 R2.low ⟨k,by rw [eu,Int.mul_comm]⟩ ⟨g,by rw [ev,Int.mul_comm]⟩;have mulr:∀ {a b c:Int},Int.gcd a b=1→Int.gcd a c=1→Int.gcd a (b*c)=1:=fun {a b c} h1 h2=>by
  have k:Nat.Coprime a.natAbs (b.natAbs*c.natAbs):=Nat.Coprime.mul_right h1 h2;show Nat.gcd a.natAbs (b*c).natAbs=1;rw [Aq];exact k
 have mull:∀ {a b c:Int},Int.gcd b a=1→Int.gcd c a=1→Int.gcd (b*c) a=1:=fun {a b c} h1 h2=>by
  rw [Int.gcd_comm] at h1 h2 ⊢;exact mulr h1 h2
 refine ⟨⟨Int.mul_pos py pv,mull (mulr c3 c1) (mulr c2 c4)⟩,?_⟩
 calc x'*u'*(y*v)=x'*u'*(k*y'*(g*v')):=by rw [← ev,← ey]
  _=(g*x')*(k*u')*(y'*v'):=by ac_rfl
  _=x*u*(y'*v'):=by rw [← ex,← eu]
theorem Sm.gcd_right {n:Nat} {t b:Int} (hb:b≠0) (h:Sm n b):Sm n ((Int.gcd t b:Nat):Int):=h.le (by
 have:Int.gcd t b≤b.natAbs:=Nat.le_of_dvd (by omega) (Int.natAbs_dvd_natAbs.mpr (Int.gcd_dvd_right t b));omega)
theorem Y4 (t b:Int):Int.gcd (if t<0 then -t else t) b=Int.gcd t b:=by split <;> simp [Int.neg_gcd]
theorem xx (q:Rat):IsR q.num (q.den:Int):=⟨by have:=q.den_pos; omega,by
 have:=q.reduced;unfold Nat.Coprime at this
 simpa [Int.gcd] using this⟩
theorem n_rat {t b:Int} (hb:b≠0):nt t b=(Rat.divInt t b).num∧nb t b=((Rat.divInt t b).den:Int):=by
 have c:=n_cross t b;have R:=n_isR (t:=t) hb;refine isR_unique R (xx _) ?_;have e:=Ai (Rat.divInt t b);have h1:=(Rat.divInt_eq_divInt_iff (n₁:=(Rat.divInt t b).num) (n₂:=t) (d₁:=((Rat.divInt t b).den:Int)) (d₂:=b) (by have:=(Rat.divInt t b).den_pos; omega) hb).mp e;refine Int.eq_of_mul_eq_mul_right hb ?_
 calc nt t b*((Rat.divInt t b).den:Int)*b=nt t b*b*((Rat.divInt t b).den:Int):=by ac_rfl
  _=t*nb t b*((Rat.divInt t b).den:Int):=by rw [c]
  _=t*((Rat.divInt t b).den:Int)*nb t b:=by ac_rfl
  _=(Rat.divInt t b).num*b*nb t b:=by rw [h1]
  _=(Rat.divInt t b).num*nb t b*b:=by ac_rfl
theorem den_ne (q:Rat):(q.den:Int)≠0:=by have:=q.den_pos; omega
theorem q_plus (a b:Rat):nt (a.num*b.den+b.num*a.den) ((a.den:Int)*b.den)=(a+b).num∧nb (a.num*b.den+b.num*a.den) ((a.den:Int)*b.den)=((a+b).den:Int):=by
 have h:=n_rat (t:=a.num*b.den+b.num*a.den) (b:=(a.den:Int)*b.den) (Int.mul_ne_zero (den_ne a) (den_ne b));rw [← Rat.divInt_add_divInt _ _ (den_ne a) (den_ne b),Ai,Ai] at h;exact h
theorem q_times (a b:Rat):nt (a.num*b.num) ((a.den:Int)*b.den)=(a*b).num∧nb (a.num*b.num) ((a.den:Int)*b.den)=((a*b).den:Int):=by
 have h:=n_rat (t:=a.num*b.num) (b:=(a.den:Int)*b.den) (Int.mul_ne_zero (den_ne a) (den_ne b));rw [← Rat.divInt_mul_divInt,Ai,Ai] at h;exact h
theorem q_less (a b:Rat):decide (a.num*b.den<b.num*a.den)=decide (a<b) :=
  decide_eq_decide.mpr (Rat.lt_iff a b).symm
def SmQ (n:Nat) (q:Rat):Prop:=Sm n q.num∧Sm n (q.den:Int)
theorem SmQ.mono {m n:Nat} {q:Rat} (h:SmQ m q) (l:m≤n:=by decide):SmQ n q:=⟨h.1.mono l,h.2.mono l⟩
end BP
namespace L2
open PySem PySem.Spec PyProof.Rows BP
section
variable {X:Cx}
theorem mulOk {m n:Nat} {x y:Int} (hx:Sm m x) (hy:Sm n y) (h:m+n≤134217728:=by decide):IntMulOk x y:=IntMulOk.of_le (intBits_le_iff.mpr hx) (intBits_le_iff.mpr hy) h
theorem yK:OpR X (binaryOp .Mult) (rI IntMulOk fun i j=>.int (i*j)):=opI fun _ _ _ _ _ _ _ hc q=>mul_int q hc
def CDivB (_ j:Int):Prop:=j≠0∧j.natAbs.log2<9000
theorem jq:OpR X (binaryOp .FloorDiv) (rI CDivB fun i j=>.int (i.fdiv j)):=opI fun _ _ _ _ _ _ _ hc q=>floordiv_int hc.1 q (.inl (PyProof.noPylong_of_log2 hc.2))
inductive IsI (K:As) (H:Hp):V→String→Bool→Prop where
 | intInt (i:Int):IsI K H (.int i) "int" true
 | intBool (i:Int):IsI K H (.int i) "bool" false
 | blInt (b:Bool):IsI K H (.bl b) "int" true
 | blBool (b:Bool):IsI K H (.bl b) "bool" true
 | nonInt:IsI K H .non "int" false
 | strInt (x:Str):IsI K H (.str x) "int" false
 | strStr (x:Str):IsI K H (.str x) "str" true
 | tupTup {a:Addr} {xs:List V} (h:SqT K H a xs):IsI K H (.ref a) "tuple" true
 | tupInt {a:Addr} {xs:List V} (h:SqT K H a xs):IsI K H (.ref a) "int" false
 | lstList {a:Addr} {xs:List V} (h:SqL K H a xs):IsI K H (.ref a) "list" true
 | lstInt {a:Addr} {xs:List V} (h:SqL K H a xs):IsI K H (.ref a) "int" false
 | dictInt {a:Addr} {kvs:List (Key×V)} (h:H a=some (.dK kvs)):IsI K H (.ref a) "int" false
theorem jX:CallR X (.builtin "isinstance") (fun xs H Q=>∃ x T b,xs=[x,.ty T]∧IsI X.K H x T b∧Q (.bl b) H):=by
 intro pins s σ H xs us Q I r h;obtain ⟨x,T,b,rfl,hi,q⟩:=h;obtain ⟨u,u',rfl,rx,rt⟩:=vals2 r
 cases rt
 cases hi with
 | intInt i=>obtain ⟨t,rfl⟩:=rx; exact IsiPair.int_int ⟨.bl true,H,I,rfl,q⟩
 | intBool i=>obtain ⟨t,rfl⟩:=rx; exact IsiPair.int_bool ⟨.bl false,H,I.tok _,rfl,q⟩
 | blInt i=>cases rx; exact IsiPair.bool_int ⟨.bl true,H,I,rfl,q⟩
 | blBool i=>cases rx; exact IsiPair.bool_bool ⟨.bl true,H,I,rfl,q⟩
 | nonInt=>cases rx; exact IsiPair.NoneType_int ⟨.bl false,H,I.tok _,rfl,q⟩
 | strInt i=>obtain ⟨t,rfl⟩:=rx; exact IsiPair.str_int ⟨.bl false,H,I.tok _,rfl,q⟩
 | strStr i=>obtain ⟨t,rfl⟩:=rx; exact IsiPair.str_str ⟨.bl true,H,I,rfl,q⟩
 | tupTup h =>
  cases rx
  obtain ⟨its,_,⟨o,ho,hc,_⟩,_⟩:=I.tuple h;exact IsiPair.tuple_tuple ho hc ⟨.bl true,H,I,rfl,q⟩
 | tupInt h =>
  cases rx
  obtain ⟨its,_,⟨o,ho,hc,_⟩,_⟩:=I.tuple h;exact IsiPair.tuple_int ho hc ⟨.bl false,H,I.tok _,rfl,q⟩
 | lstList h =>
  cases rx
  obtain ⟨its,_,p,_⟩:=I.list h;obtain ⟨o,ho,hc,_⟩:=p.isList;exact IsiPair.list_list ho hc ⟨.bl true,H,I,rfl,q⟩
 | lstInt h =>
  cases rx
  obtain ⟨its,_,p,_⟩:=I.list h;obtain ⟨o,ho,hc,_⟩:=p.isList;exact IsiPair.list_int ho hc ⟨.bl false,H,I.tok _,rfl,q⟩
 | @dictInt ad kvs h =>
  cases rx
  obtain ⟨_,_,vs,_,p⟩:=(show ObjOk X.prog X.w H s.heap ad (.dK kvs) from I.hok ad _ h);obtain ⟨o,es,ep,h1,h2,_⟩:=p;exact IsiPair.dict_int h1 h2.1 ⟨.bl false,H,I.tok _,rfl,q⟩
def eqVs:List V→List V→Bool
 | [],[]=>true
 | x::xs,y::ys=>eqV x y&&eqVs xs ys
 | _,_=>false
theorem eqVs_self:∀ {xs:List V},xs.all flatV=true→eqVs xs xs=true
 | [],_=>rfl
 | x::xs,h=>by
  rw [List.all_cons,Bool.and_eq_true] at h;have e:eqV x x=true:=by cases x <;> first | rfl | (unfold eqV; simp; done) | (exact absurd (show false=true from h.1) Bool.false_ne_true)
  unfold eqVs;rw [e,eqVs_self h.2];rfl
theorem wQ:∀ {xs:List V} {us:List Value} (r:Vals xs us) (j:Nat) (h:j<us.length),∃ x,xs[j]?=some x∧RelV x us[j]
 | _,_,.nil,j,h=>absurd h (Nat.not_lt_zero _)
 | _,_,.cons r _,0,_=>⟨_,rfl,r⟩
 | _,_,.cons _ t,j+1,h=>by
  obtain ⟨x,e,r⟩:=wQ t j (by simpa using h);exact ⟨x,by simpa using e,by simpa using r⟩
theorem x6:∀ (xs ys:List V) (e:Nat→Bool),(∀ j x y,xs[j]?=some x→ys[j]?=some y→e j=eqV x y)→((List.range (min xs.length ys.length)).all e&&xs.length==ys.length)=eqVs xs ys
 | [],[],e,_=>by simp [eqVs]
 | [],y::ys,e,_=>by simp [eqVs]
 | x::xs,[],e,_=>by simp [eqVs]
 | x::xs,y::ys,e,h=>by
  have ih:=x6 xs ys (fun j=>e (j+1)) (fun j a b ha hb=>h (j+1) a b (by simpa using ha) (by simpa using hb));have h0:e 0=eqV x y:=h 0 x y rfl rfl;have hm:min (x::xs).length (y::ys).length=min xs.length ys.length+1:=by simp only [List.length_cons]; omega
  rw [hm,List.range_succ_eq_map,List.all_cons,List.all_map,h0];unfold eqVs;rw [← ih];have hl:((x::xs).length==(y::ys).length)=(xs.length==ys.length):=by simp
  rw [hl,Bool.and_assoc];rfl
def rEqT (K:As):R2:=fun x y H Q=>∃ a b xs ys,x=.ref a∧y=.ref b∧SqT K H a xs∧SqT K H b ys∧xs.all flatV=true∧ys.all flatV=true∧Q (.bl (eqVs xs ys)) H
theorem flat_at {xs:List V} (h:xs.all flatV=true) {j:Nat} {x:V} (e:xs[j]?=some x):flatV x=true:=List.all_eq_true.mp h x (A8 e)
theorem op_eqT (hu:X.A.units+1<cLine):OpR X (compareOp .Eq) (rEqT X.K):=by
 intro pins s σ H x y v u Q I rx ry h;obtain ⟨a,b,xs,ys,rfl,rfl,ha,hb,fx,fy,q⟩:=h
 cases rx
 cases ry
 obtain ⟨its,r1,p1,_⟩:=I.tuple ha;obtain ⟨its2,r2,p2,_⟩:=I.tuple hb;have h1:=r1.length;have h2:=r2.length;refine SeqAt.eq_tupleAt (e:=fun j=>match xs[j]?,ys[j]? with | some x,some y=>eqV x y | _,_=>true) p1 p2 (by omega) (fun j g1 g2=>?_) ⟨.bl _,H,I,rfl,?_⟩
 ·obtain ⟨x,e1,q1⟩:=wQ r1 j (by simpa using g1)
  obtain ⟨y,e2,q2⟩:=wQ r2 j (by simpa using g2);rw [e1,e2];exact eqAt_V (by simpa using q1) (by simpa using q2) (flat_at fx e1) (flat_at fy e2)
 ·rw [List.size_toArray,List.size_toArray,← h1,← h2,x6 xs ys _ fun j x y e1 e2=>by rw [e1,e2]]
  exact q
def rEqL (K:As) (neg:Bool):R2:=fun x y H Q=>∃ a b xs ys,x=.ref a∧y=.ref b∧SqL K H a xs∧SqL K H b ys∧xs.all flatV=true∧ys.all flatV=true∧Q (.bl (if neg then !eqVs xs ys else eqVs xs ys)) H
theorem eqVs_len:∀ {xs ys:List V},xs.length≠ys.length→eqVs xs ys=false
 | [],[],h=>absurd rfl h
 | [],_::_,_=>rfl
 | _::_,[],_=>rfl
 | x::xs,y::ys,h=>by
  unfold eqVs;rw [eqVs_len (xs:=xs) (ys:=ys) (fun z=>h (by rw [List.length_cons,List.length_cons,z])),Bool.and_false]
theorem all_range_eqL (xs ys:List V) (e:Nat→Bool) (hl:xs.length=ys.length) (h:∀ j x y,xs[j]?=some x→ys[j]?=some y→e j=eqV x y):(List.range xs.length).all e=eqVs xs ys:=by
 have q:=x6 xs ys e h;rw [← hl,Nat.min_self,beq_self_eq_true,Bool.and_true] at q;exact q
theorem op_neL (hu:X.A.units+1<cLine):OpR X (compareOp .NotEq) (rEqL X.K true):=by
 intro pins s σ H x y v u Q I rx ry h;obtain ⟨a,b,xs,ys,rfl,rfl,ha,hb,fx,fy,q⟩:=h
 cases rx
 cases ry
 obtain ⟨its,r1,p1,_⟩:=I.list ha;obtain ⟨its2,r2,p2,_⟩:=I.list hb;have h1:=r1.length;have h2:=r2.length
 by_cases hl:xs.length=ys.length
 ·refine SeqAt.RcNeAt.lists (e:=fun j=>match xs[j]?,ys[j]? with | some x,some y=>eqV x y | _,_=>true) p1.isList p2.isList (by simp only [List.size_toArray]; omega) (by omega) (fun j g1 g2=>?_) _ _ _ _ ⟨.bl _,H,I,rfl,?_⟩
  ·obtain ⟨x,e1,q1⟩:=wQ r1 j (by simpa using g1)
   obtain ⟨y,e2,q2⟩:=wQ r2 j (by simpa using g2);rw [e1,e2];exact eqAt_V (by simpa using q1) (by simpa using q2) (flat_at fx e1) (flat_at fy e2)
  ·rw [List.size_toArray,← h1,all_range_eqL xs ys _ hl fun j x y e1 e2=>by rw [e1,e2]]
   exact q
 ·refine SeqAt.RcNeAt.lists_lengths p1.isList p2.isList (by simp only [List.size_toArray,bne_iff_ne]; omega) (by omega) _ _ _ _ ⟨.bl true,H,I,rfl,?_⟩
  rw [eqVs_len hl] at q;exact q
end
def plainE:Expr→Bool
 | .Starred _ _=>false
 | _=>true
theorem qq {e:Expr} (h:plainE e=true) (es:List Expr) (env:Env):starEach (e::es) env=(false,eval e env)::starEach es env:=by
 cases e <;> first | rfl | exact absurd (show false=true from h) Bool.false_ne_true
theorem qV {es:List Expr} {env:Env} {pos:Pos} (h:es.all plainE=true):(backTo pos (starEach es env)).any (·.1)=false:=by
 induction es with
 | nil=>rfl
 | cons e es ih =>
  rw [List.all_cons,Bool.and_eq_true] at h;rw [qq h.1];have q:=ih h.2;unfold backTo at q ⊢;rw [List.map_cons,List.any_cons,q];rfl
theorem pa_c {X:Cx} {e:Expr} {es:List Expr} {te:TE} {t:TA} (ha:PE X e te) (hr:PA X es t) (hp:plainE e=true:=by rfl):PA X (e::es) (tCons te t):=pa_cons ha hr (qq hp es X.env)
theorem boot_isinstance:bootBuiltins "isinstance" = some (.builtin "isinstance"):=PyProof.Rows.boot_isinstance
theorem boot_int:bootBuiltins "int" = some (.type "int"):=PyProof.Rows.boot_int
theorem boot_bool:bootBuiltins "bool" = some (.type "bool"):=PyProof.Rows.boot_bool
theorem boot_tuple:bootBuiltins "tuple" = some (.type "tuple"):=PyProof.Rows.boot_tuple
theorem boot_list:bootBuiltins "list" = some (.type "list"):=PyProof.Rows.boot_list
theorem boot_str:bootBuiltins "str" = some (.type "str"):=PyProof.Rows.boot_str
theorem boot_abs:bootBuiltins "abs" = some (.builtin "abs"):=PyProof.Rows.boot_abs
theorem qy {H:Hp} {p:Addr} (h:H p=none) (o:HO):Same H (upd H p o):=fun b u q=>by rw [qJ (qQ q h)]; exact q
theorem Same.tup {K:As} {H H':Hp} {a:Addr} {xs:List V} (e:Same H H') (h:SqT K H a xs):SqT K H' a xs:=by
 rcases h with (h | ⟨o,h⟩) | h
 ·exact .inl (.inl (e _ _ h))
 ·exact .inl (.inr ⟨o,e _ _ h⟩)
 ·exact .inr h
def RetT (H:Hp) (Q:VK) (xs:List V):Prop:=∀ p H',Same H H'→H' p=some (.tup xs)→Q (.ref p) H'
theorem RetT.new {H:Hp} {Q:VK} {xs:List V} (h:RetT H Q xs) {p:Addr} (hp:H p=none):Q (.ref p) (upd H p (.tup xs)):=h p _ (qy hp _) qz
abbrev T2 (x y:Int):List V:=[.int x,.int y]
theorem yj:2≤sizeLine:=by decide
theorem iteN {c A B:Prop} [Decidable c] (hc:¬ c) (h:B):if decide c=true then A else B:=by
 rw [decide_eq_false hc];exact iteF h
theorem iteP {c A B:Prop} [Decidable c] (hc:c) (h:A):if decide c=true then A else B:=by
 rw [decide_eq_true hc];exact iteT h
theorem iteD {c A B:Prop} [Decidable c] (h1:c→A) (h2:¬ c→B):if decide c=true then A else B:=by
 by_cases h:c
 ·exact iteP h (h1 h)
 ·exact iteN h (h2 h)
theorem iteNP {c A B:Prop} [Decidable c] (hc:¬ c) (h:A):if (!decide c)=true then A else B:=by
 rw [decide_eq_false hc];exact iteT h
section
variable {X:Cx} {pins:List (Addr×Obj)} {σ:St} {H:Hp} {s:Shared}
theorem Inv.track {ea:Addr} {o:HO} (I:Inv X pins σ H s) (hn:H ea=none) (h0:X.s₀.heap.get? ea=none) (hp:∀ p∈X.pn++pins,p.1≠ea) (hL:ea≠X.env.locals)
  (hc:∀ x c,X.env.cells.lookup x=some c→c≠ea) (ok:ObjOk X.prog X.w (upd H ea o) s.heap ea o):Inv X pins σ (upd H ea o) s:=by
 refine ⟨I.ok,I.os,I.bare,⟨I.base.keep,I.base.slot,fun b u q n hx=>?_,I.base.there,fun b xs e=>?_,fun b u xs e=>?_,fun b ps e=>?_⟩,I.loc,I.cell,?_,fun x c e=>?_,fun p hp'=>?_,fun b u e=>?_,I.len⟩
 ·rw [qJ (fun z=>by rw [z,h0] at q; cases q)]
  exact I.base.free b u q n hx
 ·have z:=I.base.tups b xs e
  rw [qJ (qQ z hn)];exact z
 ·have z:=I.base.frzs b u xs e
  rw [qJ (qQ z hn)];exact z
 ·obtain ⟨m,z⟩:=I.base.tbls b ps e
  exact ⟨m,by rw [qJ (qQ z hn)]; exact z⟩
 ·rw [qJ (Ne.symm hL)]
  exact I.free
 ·rw [qJ (hc x c e)]
  exact I.freeC x c e
 ·obtain ⟨e,n,r⟩:=I.pin p hp'
  exact ⟨e,by rw [qJ (hp p hp')]; exact n,r⟩
 ·by_cases hb:b=ea
  ·subst hb
   rw [qz] at e
   cases e
   exact ok
  ·rw [qJ hb] at e
   exact (I.hok b u e).stay (fun c v _ q=>q) (fun c q=>by rw [qJ (qQ q hn)]; exact q) fun c xs q=>by rw [qJ (qQ q hn)]; exact q
end
structure CP where
 C:Addr
 fp:List Addr
 s:Shared
 H:Hp
abbrev Cx.comp (X:Cx) (scope:Scope) (cl:List (Str×Addr)) (N:List Str) (c:CP):Cx :=
 { prog:=X.prog,w:=X.w,K:=X.K,mg:=X.mg,base:=X.base,A:=X.A,N:=N,s₀:=c.s,H₀:=c.H,env:=compEnvC scope cl c.C X.env,outer:=X.stack,stack:=X.stack,ex:=c.fp,fn:=fun _=>false,calm:=X.calm,pn:=[],xe:=fun _ _=>False }
def ixS:St→Nat→Option V
 | [],_=>none
 | x::_,0=>x
 | _::r,n+1=>ixS r n
theorem ixS_some:∀ {σ:St} {j:Nat} {v:V},ixS σ j=some v→σ[j]?=some (some v)
 | [],_,_,h=>by cases h
 | x::r,0,v,h=>by
  have h':x=some v:=h;rw [h']; rfl
 | x::r,n+1,v,h=>by
  have q:=ixS_some (σ:=r) (j:=n) (v:=v) h
  simpa using q
def compS:List (Option Nat)→St→St
 | [],_=>[]
 | none::r,σ=>none::compS r σ
 | some j::r,σ=>ixS σ j::compS r σ
theorem compS_len:∀ (ix:List (Option Nat)) (σ:St),(compS ix σ).length=ix.length
 | [],_=>rfl
 | none::r,σ=>congrArg Nat.succ (compS_len r σ)
 | some _::r,σ=>congrArg Nat.succ (compS_len r σ)
def LeS:St→St→Prop
 | [],[]=>True
 | a::r,b::r'=>(a=none∨a=b)∧LeS r r'
 | _,_=>False
theorem LeS.refl:∀ σ:St,LeS σ σ
 | []=>trivial
 | _::r=>⟨.inr rfl,LeS.refl r⟩
theorem LeS.len:∀ {a b:St},LeS a b→a.length=b.length
 | [],[],_=>rfl
 | _::_,_::_,h=>congrArg Nat.succ (LeS.len h.2)
 | [],_::_,h=>h.elim
 | _::_,[],h=>h.elim
theorem LeS.get:∀ {a b:St} {i:Nat} {v:V},LeS a b→a[i]?=some (some v)→b[i]?=some (some v)
 | [],[],_,_,_,e=>by simp at e
 | [],_::_,_,_,h,_=>h.elim
 | _::_,[],_,_,h,_=>h.elim
 | x::r,y::r',0,v,h,e=>by
  have e':x=some v:=by simpa using e
  rcases h.1 with z | z
  ·rw [z] at e'; cases e'
  ·rw [← z,e']; rfl
 | x::r,y::r',i+1,v,h,e=>by
  have e':r[i]?=some (some v):=by simpa using e
  have q:=LeS.get h.2 e'
  simpa using q
def GOk (g:TG) (σ:St):Prop:=∀ x H Q,g x σ H Q→g x σ H fun σ2 H2=>LeS σ σ2∧Q σ2 H2
theorem leS_set:∀ {σ:St} {i:Nat} {v:V},σ[i]?=some none→LeS σ (σ.set i (some v))
 | [],_,_,h=>by simp at h
 | x::r,0,v,h=>by
  have e:x=none:=by simpa using h
  exact ⟨.inl e,LeS.refl r⟩
 | x::r,i+1,v,h=>by
  have e:r[i]?=some none:=by simpa using h
  exact ⟨.inr rfl,leS_set e⟩
theorem compS_none {ix:List (Option Nat)}:∀ {i:Nat} {σ:St},ix[i]?=some none→(compS ix σ)[i]?=some none:=by
 induction ix with
 | nil=>intro i σ h; simp at h
 | cons a r ih =>
  intro i σ h
  cases i with
  | zero =>
   have e:a=none:=by simpa using h
   subst e; rfl
  | succ i =>
   have e:r[i]?=some none:=by simpa using h
   have q:=ih (σ:=σ) e
   cases a <;> (unfold compS; simpa using q)
theorem jJ {i:Nat} {ix:List (Option Nat)} (h:ix[i]?=some none) (σ:St):GOk (gName i) (compS ix σ):=fun _ _ _ q=>⟨leS_set (compS_none h),q⟩
theorem LeS.trans:∀ {a b c:St},LeS a b→LeS b c→LeS a c
 | [],[],[],_,_=>trivial
 | [],[],_::_,_,h=>h.elim
 | [],_::_,_,h,_=>h.elim
 | _::_,[],_,h,_=>h.elim
 | _::_,_::_,[],_,h=>h.elim
 | x::r,y::r',z::r'',h,k=>by
  refine ⟨?_,LeS.trans h.2 k.2⟩
  rcases h.1 with e | e
  ·exact .inl e
  ·rcases k.1 with e' | e'
   ·exact .inl (e.trans e')
   ·exact .inr (e.trans e')
theorem go_two {K:As} {i j:Nat} {ix:List (Option Nat)} (h:ix[i]?=some none) (h':ix[j]?=some none) (hij:i≠j) (σ:St):GOk (gTup K 2 (gCons (gName i) (gCons (gName j) gNil))) (compS ix σ):=by
 intro x H Q q;obtain ⟨a,xs,e1,e2,e3,v,r,e4,v',r',e5,e6,q⟩:=q;have z:(compS ix σ)[i]?=some none:=compS_none h;have z':((compS ix σ).set i (some v))[j]?=some none:=by
  rw [List.getElem?_set_ne hij];exact compS_none h'
 exact ⟨a,xs,e1,e2,e3,v,r,e4,v',r',e5,e6,(leS_set z).trans (leS_set z'),q⟩
def SubL (cells:List (Str×Addr)):List (Str×Addr)→Prop
 | []=>True
 | p::r=>cells.lookup p.1=some p.2∧SubL cells r
theorem SubL.get {cells:List (Str×Addr)}:∀ {cl:List (Str×Addr)} {x:Str} {c:Addr},SubL cells cl→cl.lookup x=some c→cells.lookup x=some c
 | [],_,_,_,e=>by cases e
 | p::r,x,c,h,e=>by
  rw [List.lookup_cons] at e
  cases hx:x==p.1 with
  | true =>
   rw [hx] at e;have e1:x=p.1:=by simpa using hx
   have e2:p.2=c:=Ap e;rw [e1,← e2];exact h.1
  | false =>
   rw [hx] at e;exact SubL.get h.2 e
def IxOk (X:Cx) (rn:List (Str×NameKind)) (cl:List (Str×Addr)):List Str→List (Option Nat)→Prop
 | [],[]=>True
 | _::N,none::ix=>IxOk X rn cl N ix
 | x::N,some j::ix=>(X.N[j]?=some x∧Vis X.env.scope x∧(X.env.kindOf x≠some .local)∧(cl.lookup x).isSome=true∧(rn.lookup x=some .cell∨rn.lookup x=some .free))∧IxOk X rn cl N ix
 | _,_=>False
theorem IxOk.len {X:Cx} {rn:List (Str×NameKind)} {cl:List (Str×Addr)}:∀ {N:List Str} {ix:List (Option Nat)},IxOk X rn cl N ix→ix.length=N.length
 | [],[],_=>rfl
 | _::_,none::_,h=>congrArg Nat.succ (IxOk.len (show IxOk X rn cl _ _ from h))
 | _::_,some _::_,h=>congrArg Nat.succ (IxOk.len h.2)
 | [],none::_,h=>h.elim
 | [],some _::_,h=>h.elim
 | _::_,[],h=>h.elim
theorem IxOk.get {X:Cx} {rn:List (Str×NameKind)} {cl:List (Str×Addr)}:∀ {N:List Str} {ix:List (Option Nat)} {σ:St} {i:Nat} {x:Str} {v:V},IxOk X rn cl N ix→N[i]?=some x→(compS ix σ)[i]?=some (some v)→∃ j:Nat,X.N[j]?=some x∧σ[j]?=some (some v)∧Vis X.env.scope x∧X.env.kindOf x≠some .local∧(cl.lookup x).isSome=true∧(rn.lookup x=some .cell∨rn.lookup x=some .free)
 | [],[],_,_,_,_,_,e,_=>by simp at e
 | y::N,none::ix,σ,0,x,v,_,_,e=>by
  have z:(none:Option V)=some v:=by simpa [compS] using e
  cases z
 | y::N,none::ix,σ,i+1,x,v,h,e,e'=>IxOk.get (N:=N) (ix:=ix) (σ:=σ) (i:=i) (show IxOk X rn cl N ix from h) (by simpa using e) (by simpa [compS] using e')
 | y::N,some j::ix,σ,0,x,v,h,e,e'=>by
  have z:ixS σ j=some v:=by simpa [compS] using e'
  have y1:y=x:=by simpa using e
  subst y1;exact ⟨j,h.1.1,ixS_some z,h.1.2⟩
 | y::N,some j::ix,σ,i+1,x,v,h,e,e'=>IxOk.get (N:=N) (ix:=ix) (σ:=σ) (i:=i) h.2 (by simpa using e) (by simpa [compS] using e')
 | [],none::_,_,_,_,_,h,_,_=>h.elim
 | [],some _::_,_,_,_,_,h,_,_=>h.elim
 | _::_,[],_,_,_,_,h,_,_=>h.elim
structure CompOk (X:Cx) (scope:Scope) (cl:List (Str×Addr)) (N:List Str) (ix:List (Option Nat)):Prop where
 clos:closureFor scope X.env=pure cl:=by rfl
 kind:scope.kind=.function:=by rfl
 nms:(scope.names.all fun x=>x.2 != .local||scope.names.lookup x.1==some .local)=true:=by rfl
 nocell:(scope.names.all fun x=>x.2 != .cell)=true:=by rfl
 sub:SubL X.env.cells cl
 has:((relabel scope X.env).names.all fun x=>x.2==.local||(cl.lookup x.1).isSome||!(x.2==.cell||x.2==.free))=true:=by rfl
 ixs:IxOk X (relabel scope X.env).names cl N ix
section
variable {X:Cx} {scope:Scope} {cl:List (Str×Addr)} {N:List Str} {ix:List (Option Nat)} {pins:List (Addr×Obj)} {σ:St} {H:Hp} {s:Shared}
theorem lookup_mem:∀ {l:List (Str×NameKind)} {x:Str} {k:NameKind},l.lookup x=some k→(x,k)∈l
 | [],_,_,h=>by cases h
 | (y,k')::r,x,k,h=>by
  rw [List.lookup_cons] at h
  cases hx:x==y with
  | true =>
   rw [hx] at h;have e1:x=y:=by simpa using hx
   have e2:k'=k:=Ap h;rw [e1,e2];exact Af
  | false =>
   rw [hx] at h;exact A9 _ (lookup_mem h)
theorem CompOk.cells (k:CompOk X scope cl N ix) {x:Str} (h:(relabel scope X.env).names.lookup x=some .cell∨(relabel scope X.env).names.lookup x=some .free):∃ c,cl.lookup x=some c:=by
 have all:=List.all_eq_true.mp k.has
 rcases h with h | h
 ·have q:=all _ (lookup_mem h)
  exact Option.isSome_iff_exists.mp (by simpa using q)
 ·have q:=all _ (lookup_mem h)
  exact Option.isSome_iff_exists.mp (by simpa using q)
theorem CompOk.ok (k:CompOk X scope cl N ix) (I:Inv X pins σ H s) {fp:List Addr} {C:Addr} (hf:∀ b∈fp,FpOk X pins H b∧b<s.heap.objs.size) (hC:s.heap.objs.size≤C):(X.comp scope cl N ⟨C,fp,s,H⟩).Ok where
 mod:=I.ok.mod
 kind:=k.kind
 glob:=I.ok.glob
 blt:=I.ok.blt
 above:=hC
 inj:=fun x y c e1 e2=>I.ok.inj x y c (k.sub.get e1) (k.sub.get e2)
 has:=fun x h=>k.cells h
 cab:=fun x c h _=>by cases h
 hd:=I.ok.hd
 frames:=I.ok.frames
 stk:=.inl rfl
 exf:=fun b hb=>⟨Nat.ne_of_lt (Ag (hf b hb).2 hC),fun x c e=>(hf b hb).1.2.2.2.2.1 x c (k.sub.get e)⟩
 bs:=fun b o e=>I.bs b o e
 bsz:=Ar I.ok.bsz I.sz
 noex:=fun b o e hb=>by
  obtain ⟨⟨_,_,_,z,_⟩,_⟩:=hf b hb
  rcases z with z | z
  ·exact I.ok.noex b o e z
  ·exact absurd (Ag (Heap.lt_size e) (Ar I.ok.bsz z)) (Nat.lt_irrefl _)
 exfs:=fun b hb z=>by
  obtain ⟨⟨_,nl,nf,_⟩,_⟩:=hf b hb
  rcases List.mem_cons.mp (I.stkSub b z) with e | e
  ·exact nl e
  ·exact nf e
 funs:=I.stack
 frf:=I.stkFree
theorem CompOk.enter (k:CompOk X scope cl N ix) (I:Inv X pins σ H s) {fp:List Addr} {C:Addr} {h':Heap} {t':Nat} {m:Str→Option Value} (hf:∀ b∈fp,FpOk X pins H b∧b<s.heap.objs.size) (hC:s.heap.objs.size≤C)
  (keep:∀ b o,s.heap.get? b=some o→h'.get? b=some o) (hn:h'.Ns C m):Inv (X.comp scope cl N ⟨C,fp,s,H⟩) [] (compS ix σ) H { s with heap:=h',toks:=t' } where
 ok:=k.ok I hf hC
 os:=rfl
 bare:=I.bare
 base:=Un.kept keep
 loc:=⟨m,hn,fun i x v e1 e2 _=>by
  obtain ⟨j,h1,h2,h3,h4,h5,h6⟩:=k.ixs.get e1 e2;obtain ⟨m0,_,hl⟩:=I.loc;obtain ⟨u,r,l⟩:=hl j x v h1 h2 h3
  rcases l with ⟨l,_⟩ | ⟨_,c,ec,z⟩
  ·exact absurd l h4
  ·obtain ⟨c',ec'⟩:=Option.isSome_iff_exists.mp h5
   have e3:=k.sub.get ec';rw [ec] at e3;have e4:c=c':=Ap e3;subst e4;obtain ⟨o,ho,hd⟩:=z;exact ⟨u,r,.inr ⟨h6,c,ec',o,keep _ _ ho,hd⟩⟩⟩
 cell:=fun x c e=>by
  obtain ⟨v,o,ho,hd⟩:=I.cell x c (k.sub.get e);exact ⟨v,o,keep _ _ ho,hd⟩
 free:=I.hok.fresh hC
 freeC:=fun x c e=>I.freeC x c (k.sub.get e)
 pin:=fun p hp=>by cases hp
 hok:=I.hok.kept keep
 len:=(compS_len ix σ).trans k.ixs.len
end
section
variable {prog:Program} {w:World} {A:Around} {R:Result→Shared→Prop} {s:Shared}
theorem comp_loop {elt tg iter:Expr} {ifs:List Expr} {scope:Scope} {pos:Pos} {it acc:Value} {env:Env} (J:Nat→Shared→Prop)
  (turn:∀ n s1,J n s1→∀ E:Value→Shared→Prop,wpAny (model prog w) A (pyNext it) (fun r s2=>(r=none∧R (.ok .next) s2)∨∃ v,r=some v∧wpAny (model prog w) A (letOwnedTupleGo tg it v) (fun _ s3=>wpAny (model prog w) A (assign tg env v) (fun _ s4 =>
    wpAny (model prog w) A (forIn ifs true fun c b=>if b=true then do let ok ← isTrue c env (eval c env); pure (ForInStep.yield ok) else pure (ForInStep.yield b)) (fun ok s5 =>
     (ok=true∧wpAny (model prog w) A (eval elt env) (fun x s6=>wpAny (model prog w) A (call (.builtin "list.append") [acc,x]) (fun _ s7=>∃ m,m<n∧J m s7) E s6) E s5)∨(ok=false∧∃ m,m<n∧J m s5)) E s4) E s3) E s2) E s1)
  (n:Nat) (h:J n s):codeAny (model prog w) A (.compLoop (.ListComp elt [⟨tg,iter,ifs,0⟩] scope pos) 0 it acc env) R s:=by
 refine codeAny_loop rfl J (fun n s1 hJ=>?_) n h;show wpAny _ _ ((compTurn (.ListComp elt [⟨tg,iter,ifs,0⟩] scope pos) 0 it acc env).onRaise fun x=>do
  noteFrame x env
  theTreesLotGoes x) _ _ s1
 refine wpAny_noted ?_;rw [compTurn_list];refine wpAny_bind (wpAny_standAt (wpAny_bind (thn (turn n s1 hJ _) fun r s2 h2=>?_)))
 rcases h2 with ⟨e,q⟩ | ⟨v,e,q⟩
 ·subst e
  exact wpAny_pure q
 ·subst e
  refine wpAny_bind (thn q fun _ s3 q3=>wpAny_bind (thn q3 fun _ s4 q4=>wpAny_bind (thn q4 fun ok s5 q5=>?_)))
  rcases q5 with ⟨e,q5⟩ | ⟨e,q5⟩
  ·subst e
   exact wpAny_bind (wpAny_bind (thn q5 fun x s6 q6=>wpAny_bind (thn q6 fun _ s7 q7=>wpAny_pure (wpAny_pure ⟨rfl,q7⟩))))
  ·subst e
   exact wpAny_pure ⟨rfl,q5⟩
end
def PIfs (X:Cx) (ifs:List Expr) (t:TT):Prop :=
 ∀ (pins:List (Addr×Obj)) (s:Shared) (σ:St) (H:Hp) (Q:Bool→Hp→Prop),Inv X pins σ H s→t σ H Q→wpAny (model X.prog X.w) X.A (forIn ifs true fun c b=>if b=true then do let ok ← isTrue c X.env (eval c X.env); pure (ForInStep.yield ok) else pure (ForInStep.yield b)) (TP X pins σ Q) X.xe s
def tNoIf:TT:=fun _ H Q=>Q true H
theorem yZ {X:Cx}:PIfs X [] tNoIf:=fun _ _ _ H _ I h=>wpAny_tests_nil ⟨H,I,h⟩
theorem pif_one {X:Cx} {c:Expr} {t:TT} (h:PT X c t):PIfs X [c] t:=fun pins s σ H Q I q=>wpAny_tests_one (h pins s σ H Q I q)
def tCompZ (ix:List (Option Nat)) (wi:TI) (g:CP→TG) (tt:CP→TT) (te:CP→TE) (σ:St) (H:Hp) (Z:List V→Hp→Prop):Prop :=
 wi σ H fun J H1=>∃ W:Nat→Nat→List V→Hp→Prop,(∃ m,W 0 m [] H1)∧∀ i m ys H,W i m ys H→ys.length<sizeLine∧((J.stop i H∧Z ys H)∨(J.go i H∧∀ c x H',J.yld i H x H'→g c x (compS ix σ) H' fun σ2 H2=>tt c σ2 H2 fun b H3 =>
   (b=true∧te c σ2 H3 fun y H4=>∃ m',m'<m∧W (i+1) m' (ys++[y]) H4)∨(b=false∧∃ m',m'<m∧W (i+1) m' ys H3)))
def tComp (ix:List (Option Nat)) (wi:TI) (g:CP→TG) (tt:CP→TT) (te:CP→TE):TE:=fun σ H Q =>
 tCompZ ix wi g tt te σ H fun ys H1=>∀ D,H1 D=none→Q (.ref D) (upd H1 D (.lst ys))
def sComp (ix:List (Option Nat)) (i:Nat) (wi:TI) (g:CP→TG) (tt:CP→TT) (te:CP→TE):TS:=fun D σ H =>
 tCompZ ix wi g tt te σ H fun ys H1=>∀ p,H1 p=none→D.nx (σ.set i (some (.ref p))) (upd H1 p (.lst ys))
theorem comp_run {X:Cx} {scope:Scope} {cl:List (Str×Addr)} {N:List Str} {ix:List (Option Nat)} {elt tg iter:Expr} {ifs:List Expr} {pos pos':Pos} {wi:TI} {g:CP→TG} {tt:CP→TT} {te:CP→TE}
  {pins:List (Addr×Obj)} {σ:St} {H:Hp} {s:Shared} {Z:List V→Hp→Prop} {use:Option (Value→Sem Unit)} {Q0:Value→Shared→Prop}
  (k:CompOk X scope cl N ix) (hc:X.calm=true) (hi:PI X tg iter wi) (hg:∀ c,PG (X.comp scope cl N c) tg (g c)) (ho:∀ c σ,GOk (g c) (compS ix σ)) (ht:∀ c,PIfs (X.comp scope cl N c) ifs (tt c)) (he:∀ c,PE (X.comp scope cl N c) elt (te c))
  (hs:∀ x,foldedSetIterable iter X.env x=pure x) (I:Inv X pins σ H s) (h:tCompZ ix wi g tt te σ H Z)
  (fin:∀ (D C:Addr) (s':Shared) (H':Hp) (ys:List V) (m:Str→Option Value),Inv X pins σ (upd H' D (.lst ys)) s'→FpOk X pins (upd H' D (.lst ys)) C→s'.heap.Ns C m→H' D=none→Z ys H'→compPost (model X.prog X.w) X.A X.xe use Q0 (.ref D) C (.ok .next) s') :
  wpAny (model X.prog X.w) X.A (comprehension (.ListComp elt [⟨tg,iter,ifs,0⟩] scope pos) scope X.env pos' (newList []) false (eval iter X.env) use) Q0 X.xe s:=by
 have hnm:∀ x∈scope.names,x.2=.local→scope.names.lookup x.1=some .local:=fun x hx hl=>by
  have q:=List.all_eq_true.mp k.nms x hx;rw [hl] at q
  simpa using q
 have hnc:∀ x∈scope.names,x.2≠.cell:=fun x hx=>by
  have q:=List.all_eq_true.mp k.nocell x hx
  simpa using q
 refine wpAny_comprehension_free rfl hs k.clos k.kind hnm (thn (hi pins s σ H _ I h) fun v s1 h1=>thn h1 fun itv s2 h2=>?_);obtain ⟨it,fp,tn,J,H2,e,I2,T,st2,f2,W,⟨m0,w0⟩,step⟩:=h2;subst e;refine wpAny_newObj_type (wpAny_newFunctionEnv hnc (by intro y hy; simp at hy) (fun h3 hns hsb=>?_) k.kind);dsimp only at hns hsb ⊢;generalize hD:s2.heap.objs.size=D at hns hsb ⊢;generalize hP:s2.heap.push { cls:=.type "list",dict:=none,data:=.seq ([]:List Value).toArray }=P2 at hns hsb ⊢;generalize hCe:P2.objs.size=C at hns hsb ⊢;have szC:C=D+1:=by rw [← hCe,← hP,Heap.size_push,hD]
 have hDC:D≠C:=by rw [szC]; exact Nat.ne_of_lt (Nat.lt_succ_self _)
 have ltD:∀ {b:Addr} {o:Obj},s2.heap.get? b=some o→b<D:=fun e=>hD ▸ Heap.lt_size e
 have pD:P2.get? D=some { cls:=.type "list",dict:=none,data:=.seq ([]:List Value).toArray }:=by rw [← hP,← hD]; exact Heap.get?_push_size _ rfl
 have old:∀ b o,s2.heap.get? b=some o→h3.get? b=some o:=fun b o e=>by
  have lb:=ltD e;have nb:b≠C:=by rw [szC]; exact Nat.ne_of_lt (Nat.lt_succ_of_lt lb)
  refine (hsb.2 b nb).trans ?_;refine Heap.get?_push_of_some _ ?_;rw [← hP];exact Heap.get?_push_of_some _ e
 have lst0:h3.PlainList D #[]:=⟨_,(hsb.2 D hDC).trans (Heap.get?_push_of_some _ pD)⟩;have lt2:∀ b∈fp,b<s2.heap.objs.size:=fun b hb=>let ⟨_,e,_⟩:=T.obj _ _ st2 b hb; Heap.lt_size e
 have f2':∀ b∈fp,FpOk X pins H2 b∧b<s2.heap.objs.size:=fun b hb=>⟨f2 b hb,lt2 b hb⟩
 have leC:s2.heap.objs.size≤C:=by rw [szC,hD]; exact Nat.le_succ _
 have leD:s2.heap.objs.size≤D:=by rw [hD]; exact Nat.le_refl _
 have nD:D∉fp:=fun z=>Nat.lt_irrefl _ (hD ▸ lt2 D z)
 have nC:C∉fp:=fun z=>Nat.lt_irrefl _ (Ag (lt2 C z) leC)
 have st3:tn 0 h3:=T.keep _ _ _ st2 fun b _ o e=>old b o e
 generalize hY:X.comp scope cl N ⟨C,fp,s2,H2⟩=Y;have I3:Inv Y [] (compS ix σ) H2 { s2 with heap:=h3,toks:=s2.toks+([]:List (Str×Value)).length }:=hY ▸ k.enter I2 f2' leC old hns;have fpY:∀ {H':Hp},(∀ b∈fp,H' b=none)→∀ b∈fp,FpOk Y [] H' b:=fun {H'} hn b hb=>by
  subst hY;obtain ⟨_,a1,a2,a3,a4,a5⟩:=f2 b hb;refine ⟨hn b hb,Nat.ne_of_lt (Ag (lt2 b hb) leC),fun z=>?_,.inl hb,fun x c e=>a4 x c (k.sub.get e),fun p hp=>by cases hp⟩
  rcases List.mem_cons.mp (I2.stkSub b z) with e | e
  ·exact a1 e
  ·exact a2 e
 have nDs:D∉frs X.stack:=fun z=>by
  rcases List.mem_cons.mp (I2.stkSub D z) with e | e
  ·exact absurd I2.lt (by rw [← e]; exact Nat.not_lt.mpr leD)
  ·exact I2.nofs leD e
 have cD:∀ x c,cl.lookup x=some c→c≠D:=fun x c e z=>by
  obtain ⟨v,o,ho,_⟩:=I2.cell x c (k.sub.get e);exact absurd (Heap.lt_size ho) (by rw [z]; exact Nat.not_lt.mpr leD)
 have prgY:Y.prog=X.prog:=by rw [← hY]
 have wY:Y.w=X.w:=by rw [← hY]
 have KY:Y.K=X.K:=by rw [← hY]
 have AY:Y.A=X.A:=by rw [← hY]
 have cY:Y.calm=true:=by rw [← hY]; exact hc
 have xeY:Y.xe=fun _ _=>False:=by rw [← hY]
 have envY:Y.env=compEnvC scope cl C X.env:=by rw [← hY]
 have pinD:∀ {σ':St} {H':Hp} {s':Shared} {us:Array Value} {n0:Nat},Inv Y [] σ' H' s'→H' D=none→s'.heap.PlainList D us→s'.heap.get? D=some { cls:=.type "list",data:=.seq us n0 }→Inv Y [(D,{ cls:=.type "list",data:=.seq us n0 })] σ' H' s':=fun I' hn _ e=>I'.pins_of fun p hp=>by
  have e1:p=(D,_):=Ae.mp hp;subst e1;exact ⟨e,hn,by rw [← hY]; exact hDC,by rw [← hY]; exact nDs,fun v z=>by cases z⟩
 have fpD:∀ {H':Hp},(∀ b∈fp,H' b=none)→∀ (o:Obj),∀ b∈fp,FpOk Y [(D,o)] H' b:=fun {H'} hn o b hb=>by
  obtain ⟨a0,a1,a2,a3,a4,a5⟩:=fpY hn b hb;refine ⟨a0,a1,a2,a3,a4,fun p hp=>?_⟩
  rcases Am.mp hp with z | z
  ·exact a5 p (Ab _ z)
  ·have e1:p=(D,o):=Ae.mp z
   subst e1;exact fun z=>by
    have z':D=b:=z;rw [z'] at nD;exact nD hb
 have leave:∀ {s':Shared} {H':Hp} {ys:List V} {us:Array Value},Inv Y [] (compS ix σ) H' s'→H' D=none→s'.heap.PlainList D us→Vals ys us.toList→ys.length≤sizeLine→Z ys H'→compPost (model X.prog X.w) X.A X.xe use Q0 (.ref D) C (.ok .next) s':=fun {s' H' ys us} I' hn hpl rv hl z=>by
  subst hY;have I4:Inv X pins σ H' s':=I2.call' (ch:=fp) I'.os I'.base I'.hok I'.bare fun b hb=>let ⟨_,a1,_,a3,a4,a5⟩:=f2 b hb; ⟨a3,a1,a4,a5⟩
  have fD:=I2.fpOk (H':=H') leD hn;have ok:ObjOk X.prog X.w (upd H' D (.lst ys)) s'.heap D (.lst ys):=by
   obtain ⟨n,e⟩:=hpl;exact ⟨hl,us.toList,n,rv,by simpa using e⟩
  have I5:Inv X pins σ (upd H' D (.lst ys)) s':=by
   refine I4.track hn ?_ fD.2.2.2.2.2 fD.2.1 fD.2.2.2.2.1 ok;refine Heap.get?_none_of_le (Ar I2.sz leD)
  obtain ⟨m,hm,_⟩:=I'.loc;have hC':upd H' D (.lst ys) C=none:=by
   rw [qJ (Ne.symm hDC)];exact I'.free
  exact fin D C s' H' ys m I5 (I2.fpOk leC hC') hm hn z
 have loop:codeAny (model X.prog X.w) X.A (.compLoop (.ListComp elt [⟨tg,iter,ifs,0⟩] scope pos) 0 (.ref it) (.ref D) (compEnvC scope cl C X.env))
   (compPost (model X.prog X.w) X.A X.xe use Q0 (.ref D) C) { s2 with heap:=h3,toks:=s2.toks+([]:List (Str×Value)).length }:=by
  refine comp_loop (fun n s'=>∃ i H' ys us,Inv Y [] (compS ix σ) H' s'∧tn i s'.heap∧(∀ b∈fp,H' b=none)∧H' D=none∧s'.heap.PlainList D us∧Vals ys us.toList∧W i n ys H') ?_ m0
   ⟨0,H2,[],#[],I3,st3,fun b hb=>(f2 b hb).1,I2.hok.fresh leD,lst0,.nil,w0⟩
  rintro n s4 ⟨i,H4,ys,us,I4,st4,fr4,d4,l4,v4,w4⟩ E;obtain ⟨hl,step4⟩:=step i n ys H4 w4
  rcases step4 with ⟨stop,z⟩ | ⟨go,turn⟩
  ·obtain ⟨n0,e0⟩:=l4
   have I4':=pinD I4 d4 ⟨n0,e0⟩ e0;have q:=T.done Y prgY wY KY cY i _ s4 (compS ix σ) H4 E I4' (fpD fr4 _) st4 stop;rw [AY] at q;refine thn q fun r s5 q5=>.inl ⟨q5.1,?_⟩
   have e5:=(q5.2.pin _ (A7 _ Af)).1;exact leave (q5.2.pins_of fun p hp=>by cases hp) d4 ⟨n0,e5⟩ v4 (Nat.le_of_lt hl) z
  ·obtain ⟨n0,e0⟩:=l4
   have I4':=pinD I4 d4 ⟨n0,e0⟩ e0;have q:=T.item Y prgY wY KY cY i _ s4 (compS ix σ) H4 E I4' (fpD fr4 _) st4 go;rw [AY] at q;refine thn q fun r s5 q5=>.inr ?_
   obtain ⟨v,er,q5⟩:=q5;refine ⟨v,er,thn q5 fun _ s6 q6=>?_⟩;obtain ⟨x,H6,I6,r6,y6,st6,fr6⟩:=q6;have I6':=I6.pinned (fpD fr6 _) (T.obj _ _ st6);have g6:=ho ⟨C,fp,s2,H2⟩ σ x H6 _ (turn ⟨C,fp,s2,H2⟩ x H6 y6);have inD:∀ {l:List (Addr×Obj)},(D,({ cls:=.type "list",data:=.seq us n0 }:Obj))∈Y.pn++([(D,{ cls:=.type "list",data:=.seq us n0 })]++l):=A7 _ (Ab _ Af);have inF:∀ {b:Addr} {o:Obj},b∈fp→s6.heap.get? b=some o→(b,o)∈Y.pn++([(D,({ cls:=.type "list",data:=.seq us n0 }:Obj))]++pinsAt fp s6.heap):=fun hb e=>A7 _ (A7 _ (mem_pinsAt hb e))
   have back:∀ {σ7:St} {H7:Hp} {s7:Shared},Inv Y ([(D,{ cls:=.type "list",data:=.seq us n0 })]++pinsAt fp s6.heap) σ7 H7 s7→LeS (compS ix σ) σ7→Inv Y [] (compS ix σ) H7 s7∧tn (i+1) s7.heap∧(∀ b∈fp,H7 b=none)∧H7 D=none∧s7.heap.PlainList D us:=fun {σ7 H7 s7} I7 le=>by
    refine ⟨(I7.weak le.len fun i v e=>le.get e).pins_of (fun p hp=>(by cases hp)),T.keep _ _ _ st6 fun b hb o e=>(I7.pin _ (inF hb e)).1,fun b hb=>?_,(I7.pin _ inD).2.1,n0,(I7.pin _ inD).1⟩;obtain ⟨o,e,_⟩:=T.obj _ _ st6 b hb;exact (I7.pin _ (inF hb e)).2.1
   have hgY:=hg ⟨C,fp,s2,H2⟩;have htY:=ht ⟨C,fp,s2,H2⟩;have heY:=he ⟨C,fp,s2,H2⟩;rw [hY] at hgY htY heY;have q7:=hgY _ s6 _ H6 x v _ I6' r6 g6;rw [prgY,wY,AY,xeY,envY] at q7;refine wpAny_mono q7 (fun _ s7 q7=>?_) fun _ _ z=>z.elim
   obtain ⟨σ7,H7,I7,le7,t7⟩:=q7;have q8:=htY _ s7 σ7 H7 _ I7 t7;rw [prgY,wY,AY,xeY,envY] at q8;refine wpAny_mono q8 (fun ok s8 q8=>?_) fun _ _ z=>z.elim
   obtain ⟨H8,I8,q8⟩:=q8
   rcases q8 with ⟨eo,q8⟩ | ⟨eo,m',hm,w8⟩
   ·refine .inl ⟨eo,?_⟩
    have q9:=heY _ s8 σ7 H8 _ I8 q8;rw [prgY,wY,AY,xeY,envY] at q9;refine wpAny_mono q9 (fun u s9 q9=>?_) fun _ _ z=>z.elim
    obtain ⟨y,H9,I9,r9,m',hm,w9⟩:=q9;obtain ⟨J9,t9,f9,d9,l9⟩:=back I9 le7;have hsz:us.size≤sizeLine:=by
     have e1:ys.length=us.toList.length:=v4.length;have e2:us.toList.length=us.size:=by simp
     exact Nat.le_of_lt (e2 ▸ e1 ▸ hl)
    refine wpAny_list_append_plain l9 (fun h10 l10 sb=>?_) hsz;have J10:Inv Y [] (compS ix σ) H9 { s9 with heap:=h10 }:=J9.turned (t':=s9.toks) (fun b o hb e=>(sb.2 b hb).trans e) d9 (by rw [← hY]; exact hDC) (.inr (by rw [← hY]; exact leD)) (fun x c e=>by rw [← hY] at e; exact cD x c e) fun p hp=>by rw [← hY] at hp; cases hp
    refine ⟨m',hm,i+1,H9,ys++[y],us.push u,J10,T.keep _ _ _ t9 fun b hb o e=>(sb.2 b fun z=>nD (z ▸ hb)).trans e,f9,d9,l10,?_,w9⟩;rw [Array.toList_push];exact v4.append (.cons r9 .nil)
   ·refine .inr ⟨eo,m',hm,i+1,H8,ys,us,?_⟩
    obtain ⟨J8,t8,f8,d8,l8⟩:=back I8 le7;exact ⟨J8,t8,f8,d8,l8,v4,w8⟩
 exact codeAny_compStart_list loop (T.self _ 0 _ _ _ st3 loop)
def closL (scope:Scope) (env:Env):List (Str×Addr):=scope.names.foldl (fun cs p=>if p.2==.free then (p.1,(env.cells.lookup p.1).getD 0)::cs else cs) []
theorem kz {k:Option NameKind} (h:k=some .cell):k≠some .local:=fun z=>by rw [h] at z; cases z
theorem jQ {X:Cx} {scope:Scope} {N:List Str} {ix:List (Option Nat)} {elt tg iter:Expr} {ifs:List Expr} {pos:Pos} {wi:TI} {g:CP→TG} {tt:CP→TT} {te:CP→TE}
  (k:CompOk X scope (closL scope X.env) N ix) (hc:X.calm=true) (hi:PI X tg iter wi) (hg:∀ c,PG (X.comp scope (closL scope X.env) N c) tg (g c)) (ho:∀ c σ,GOk (g c) (compS ix σ)) (ht:∀ c,PIfs (X.comp scope (closL scope X.env) N c) ifs (tt c)) (he:∀ c,PE (X.comp scope (closL scope X.env) N c) elt (te c))
  (hs:∀ x,foldedSetIterable iter X.env x=pure x:=by intro _; rfl):PE X (.ListComp elt [⟨tg,iter,ifs,0⟩] scope pos) (tComp ix wi g tt te):=by
 intro pins s σ H Q I h;rw [eval_ListComp];refine comp_run (use:=none) k hc hi hg ho ht he hs I h fun D C s' H' ys m I' fC hm hn z=>?_
 refine ⟨m,hm,fun h' sb=>⟨.ref D,_,I'.turned (t':=s'.toks) (fun b o hb e=>(sb.2 b hb).trans e) fC.1 fC.2.1 fC.2.2.2.1 fC.2.2.2.2.1 fC.2.2.2.2.2,rfl,z D hn⟩⟩
theorem kq {X:Cx} {scope:Scope} {N:List Str} {ix:List (Option Nat)} {elt tg iter:Expr} {ifs:List Expr} {pos ps pn:Pos} {wi:TI} {g:CP→TG} {tt:CP→TT} {te:CP→TE} {i:Nat} {x:Str}
  (hN:X.N.Nodup) (hx:X.N[i]?=some x) (hl:Loc X.env.scope x) (k:CompOk X scope (closL scope X.env) N ix) (hc:X.calm=true) (hi:PI X tg iter wi) (hg:∀ c,PG (X.comp scope (closL scope X.env) N c) tg (g c)) (ho:∀ c σ,GOk (g c) (compS ix σ)) (ht:∀ c,PIfs (X.comp scope (closL scope X.env) N c) ifs (tt c))
  (he:∀ c,PE (X.comp scope (closL scope X.env) N c) elt (te c)) (hsw:swapsWith (.ListComp elt [⟨tg,iter,ifs,0⟩] scope pos) (some (.Name x pn)) ps.line X.env=pure true:=by rfl)
  (hs:∀ x,foldedSetIterable iter X.env x=pure x:=by intro _; rfl) (hf:X.fn x=true∨X.env.scope.names.lookup x=some .local:=by first | exact .inl rfl | exact .inr rfl | assumption) :
  PS X (.Assign [.Name x pn] (.ListComp elt [⟨tg,iter,ifs,0⟩] scope pos) ps) (sComp ix i wi g tt te):=by
 intro pins s σ H D I h;rw [exec_Assign_Name_used _ _ _ _ hsw];refine wpAny_bind (wpAny_standAt (wpAny_bind ?_));show wpAny _ _ (comprehension (.ListComp elt [⟨tg,iter,ifs,0⟩] scope pos) scope X.env _ (newList []) false (eval iter X.env) (some (assign (.Name x pn) X.env)) >>= fun _=>_) _ _ s;refine wpAny_bind (thn (comp_run (use:=some (assign (.Name x pn) X.env)) (Q0:=fun _ s'=>SP X pins D .next s') k hc hi hg ho ht he hs I h fun p C s' H' ys m I' fC hm hn z=>?_) fun _ s' q=>wpAny_pure (wpAny_pure q));show wpAny _ _ (assign (.Name x pn) X.env (.ref p)) _ _ s';refine wpAny_assign_Name (store_ok2 (v:=.ref p) I' hN hx hl rfl (fun s3 I3 same=>?_) hf);obtain ⟨b,sb,hb⟩:=same;have nb:C≠b:=by
  rcases hb with e | e
  ·rw [e]; exact fC.2.1
  ·exact Ne.symm (fC.2.2.2.2.1 x b e)
 refine ⟨m,hm.sameBut sb nb,fun h' sb'=>⟨_,_,I3.turned (t':=s3.toks) (fun c o hc e=>(sb'.2 c hc).trans e) fC.1 fC.2.1 fC.2.2.2.1 fC.2.2.2.2.1 fC.2.2.2.2.2,z p hn⟩⟩
def CW (n:Nat) (Pv:Nat→List V→Hp→Prop) (i m:Nat) (ys:List V) (H:Hp):Prop:=m+i=n∧ys.length≤i∧Pv i ys H
theorem yy {J:It} {n:Nat} {ix:List (Option Nat)} {g:CP→TG} {tt:CP→TT} {te:CP→TE} {σ:St} {H1:Hp} {Z:List V→Hp→Prop} (Pv:Nat→List V→Hp→Prop) (h0:Pv 0 [] H1) (hn:n<sizeLine)
  (stop:∀ ys H,Pv n ys H→J.stop n H∧Z ys H) (go:∀ i ys H,i<n→Pv i ys H→J.go i H)
  (step:∀ i m ys H c x H',i<n→Pv i ys H→J.yld i H x H'→(∀ y H4,Pv (i+1) (ys++[y]) H4→∃ m',m'<m∧CW n Pv (i+1) m' (ys++[y]) H4)→(∀ H4,Pv (i+1) ys H4→∃ m',m'<m∧CW n Pv (i+1) m' ys H4)→g c x (compS ix σ) H' fun σ2 H2=>tt c σ2 H2 fun b H3=>(b=true∧te c σ2 H3 fun y H4=>∃ m',m'<m∧CW n Pv (i+1) m' (ys++[y]) H4)∨(b=false∧∃ m',m'<m∧CW n Pv (i+1) m' ys H3)) :
  ∃ W:Nat→Nat→List V→Hp→Prop,(∃ m,W 0 m [] H1)∧∀ i m ys H,W i m ys H→ys.length<sizeLine∧((J.stop i H∧Z ys H)∨(J.go i H∧∀ c x H',J.yld i H x H'→g c x (compS ix σ) H' fun σ2 H2=>tt c σ2 H2 fun b H3 =>
    (b=true∧te c σ2 H3 fun y H4=>∃ m',m'<m∧W (i+1) m' (ys++[y]) H4)∨(b=false∧∃ m',m'<m∧W (i+1) m' ys H3))):=by
 refine ⟨CW n Pv,⟨n,by omega,Nat.le_refl _,h0⟩,?_⟩;rintro i m ys H ⟨hm,hl,p⟩;refine ⟨by omega,?_⟩
 by_cases hi:i<n
 ·refine .inr ⟨go i ys H hi p,fun c x H' hy=>step i m ys H c x H' hi p hy (fun y H4 q=>⟨m - 1,by omega,by omega,?_,q⟩) fun H4 q=>⟨m - 1,by omega,by omega,by omega,q⟩⟩
  rw [Ad,A6];omega
 ·have e:i=n:=by omega
  subst e;exact .inl (stop ys H p)
theorem jz {J:It} {n:Nat} {g:TG} {tb:TS} {D:Ends} {σ:St} {H:Hp} (Pv:Nat→St→Hp→Prop) (h0:Pv 0 σ H) (stop:∀ σ H,Pv n σ H→J.stop n H∧D.nx σ H) (go:∀ i σ H,i<n→Pv i σ H→J.go i H)
  (step:∀ i σ H x H',i<n→Pv i σ H→J.yld i H x H'→g x σ H' fun σ2 H2=>tb { D with nx:=Pv (i+1),ct:=Pv (i+1),bk:=D.nx } σ2 H2) :
  ∃ W:Nat→Nat→St→Hp→Prop,(∃ m,W 0 m σ H)∧∀ i m σ H,W i m σ H→(J.stop i H∧D.nx σ H)∨(J.go i H∧∃ N:St→Hp→Prop,(∀ σ' H',N σ' H'→∃ m',m'<m∧W (i+1) m' σ' H')∧∀ x H',J.yld i H x H'→g x σ H' fun σ2 H2=>tb { D with nx:=N,ct:=N,bk:=D.nx } σ2 H2):=by
 refine ⟨fun i m σ H=>m+i=n∧Pv i σ H,⟨n,by omega,h0⟩,?_⟩;rintro i m σ H ⟨hm,p⟩
 by_cases hi:i<n
 ·exact .inr ⟨go i σ H hi p,Pv (i+1),fun σ' H' q=>⟨m - 1,by omega,by omega,q⟩,fun x H' y=>step i σ H x H' hi p y⟩
 ·have e:i=n:=by omega
  subst e;exact .inl (stop σ H p)
theorem boot_all:bootBuiltins "all" = some (.builtin "all"):=PyProof.Rows.boot_all
theorem boot_any:bootBuiltins "any" = some (.builtin "any"):=by decide +kernel
theorem boot_zip:bootBuiltins "zip" = some (.type "zip"):=PyProof.Rows.boot_zip
theorem boot_enumerate:bootBuiltins "enumerate" = some (.type "enumerate"):=PyProof.Rows.boot_enumerate
theorem range_all (bs:List Bool) (tr:Nat→Bool) (h:∀ i b,bs[i]?=some b→tr i=b):(List.range bs.length).all tr=bs.all id:=by
 induction bs generalizing tr with
 | nil=>rfl
 | cons b r ih =>
  have q:=ih (fun i=>tr (i+1)) fun i c e=>h (i+1) c (by simpa using e)
  rw [List.length_cons,List.range_succ_eq_map,List.all_cons,List.all_map,List.all_cons,h 0 b rfl];exact congrArg (b&&·) q
theorem range_any (bs:List Bool) (tr:Nat→Bool) (h:∀ i b,bs[i]?=some b→tr i=b):(List.range bs.length).any tr=bs.any id:=by
 induction bs generalizing tr with
 | nil=>rfl
 | cons b r ih =>
  have q:=ih (fun i=>tr (i+1)) fun i c e=>h (i+1) c (by simpa using e)
  rw [List.length_cons,List.range_succ_eq_map,List.any_cons,List.any_map,List.any_cons,h 0 b rfl];exact congrArg (b||·) q
theorem vals_bl:∀ {bs:List Bool} {us:List Value},Vals (bs.map V.bl) us→us=bs.map Value.bool
 | [],_,.nil=>rfl
 | b::r,_,.cons h t=>by
  have e:_=Value.bool b:=h;rw [e,vals_bl t]; rfl
section
variable {X:Cx}
theorem bools_walk {pins:List (Addr×Obj)} {σ:St} {H:Hp} {s:Shared} {p:Addr} {bs:List Bool} (hc:X.calm=true) (I:Inv X pins σ H s) (hq:SqL X.K H p (bs.map V.bl)) {R:(Nat→Bool)→Shared→Prop}
  (fin:∀ (tr:Nat→Bool) (h':Heap) (tk:Nat),(∀ i b,bs[i]?=some b→tr i=b)→Inv X pins σ H { s with heap:=h',toks:=tk }→R tr { s with heap:=h',toks:=tk }) {E:Value→Shared→Prop} :
  wpAny (model X.prog X.w) X.A.in1 (pyIter (.ref p)) (fun it s2=>∃ I fp wr n P St tr,it=.ref I∧Walks X.prog X.w X.A.in1 I fp wr n P St∧St 0 s2.heap∧TruthOf X.prog X.w X.A.in1 P tr∧n=bs.length∧∀ h' tk,(∀ b o,b∉wr→s2.heap.get? b=some o→h'.get? b=some o)→R tr { s2 with heap:=h',toks:=tk }) E s:=by
 obtain ⟨its,rv,pl,hz⟩:=I.list hq;have el:=vals_bl rv;refine wpAny_pyIter_list pl.isList ?_;have ne:p≠s.heap.objs.size:=Nat.ne_of_lt pl.lt;refine ⟨s.heap.objs.size,_,_,_,_,_,fun i=>bs.getD i true,rfl,Walks.list (A:=X.A.in1) (I.ok.hd hc) _ p ne its.toArray,⟨⟨_,Heap.get?_push_size _ rfl,rfl,rfl⟩,?_⟩,fun i v s1 Q E' hv q=>?_,?_,fun h' tk k=>?_⟩
 ·obtain ⟨o,e,r⟩:=pl.isList
  exact ⟨o,Heap.get?_push_of_some _ e,r⟩
 ·have hv':its[i]?=some v:=by simpa using hv
  rw [el,List.getElem?_map] at hv'
  cases hb:bs[i]? with
  | none=>rw [hb] at hv'; cases hv'
  | some b =>
   rw [hb] at hv';have e:Value.bool b=v:=Ap hv';subst e;have e2:bs.getD i true=b:=by simp [List.getD,hb]
   have q:Q (bs.getD i true) s1:=q;rw [e2] at q;exact wpAny_truthy_bool q
 ·rw [el]; simp
 ·refine fin _ h' tk (fun i b e=>by simp [List.getD,e]) (I.kept fun b u e=>k b u (fun z=>?_) (Heap.get?_push_of_some _ e))
  have e1:b=s.heap.objs.size:=by simpa using z
  exact absurd (Heap.lt_size e) (by rw [e1]; exact Nat.lt_irrefl _)
theorem call_all (hc:X.calm=true):CallR X (.builtin "all") (fun xs H Q=>∃ (p:Addr) (bs:List Bool),xs=[.ref p]∧SqL X.K H p (bs.map V.bl)∧Q (.bl (bs.all id)) H):=by
 intro pins s σ H xs us Q I r h;obtain ⟨p,bs,rfl,hq,q⟩:=h;obtain ⟨u,rfl,rx⟩:=vals1 r
 cases rx
 refine call_all_walk (thn (bools_walk hc I hq (R:=fun tr s'=>EP X pins σ Q (.bool ((List.range bs.length).all tr)) s') fun tr h' tk e I'=>⟨.bl (bs.all id),H,I',by rw [range_all bs tr e]; rfl,q⟩) ?_);rintro it s2 ⟨I',fp,wr,n,P,St,tr,e1,e2,e3,e4,rfl,e6⟩;exact ⟨I',fp,wr,_,P,St,tr,e1,e2,e3,e4,e6⟩
theorem call_any (hc:X.calm=true):CallR X (.builtin "any") (fun xs H Q=>∃ (p:Addr) (bs:List Bool),xs=[.ref p]∧SqL X.K H p (bs.map V.bl)∧Q (.bl (bs.any id)) H):=by
 intro pins s σ H xs us Q I r h;obtain ⟨p,bs,rfl,hq,q⟩:=h;obtain ⟨u,rfl,rx⟩:=vals1 r
 cases rx
 refine call_any_walk (thn (bools_walk hc I hq (R:=fun tr s'=>EP X pins σ Q (.bool ((List.range bs.length).any tr)) s') fun tr h' tk e I'=>⟨.bl (bs.any id),H,I',by rw [range_any bs tr e]; rfl,q⟩) ?_);rintro it s2 ⟨I',fp,wr,n,P,St,tr,e1,e2,e3,e4,rfl,e6⟩;exact ⟨I',fp,wr,_,P,St,tr,e1,e2,e3,e4,e6⟩
end
def Itz (K:As) (a b:Addr):It :=
 ⟨fun i H=>∃ xs ys x y,SqL K H a xs∧SqL K H b ys∧xs[i]?=some x∧ys[i]?=some y,fun i H v H'=>∃ p x y,H p=none∧v=.ref p∧H'=upd H p (.tup [x,y])∧(∀ xs,SqL K H a xs→xs[i]?=some x)∧∀ ys,SqL K H b ys→ys[i]?=some y,fun i H=>∃ xs ys,SqL K H a xs∧SqL K H b ys∧(xs.length≤i∨ys.length≤i)⟩
theorem ty_ne {x y:String} (h:x≠y):Value.type x≠Value.type y:=fun q=>h (Value.type.inj q)
structure ZipSt (z TI TO i1 i2 a b:Addr) (i:Nat) (h:Heap):Prop where
 nd:[z,TI,TO,i1,i2].Nodup
 zip:IsZip h z TI TO .none
 its:IsPair h TI (.ref i1) (.ref i2)
 out:∃ x y,IsPair h TO x y
 one:h.IsListIter i1 a i
 two:h.IsListIter i2 b i
theorem ZipSt.apart {z TI TO i1 i2 a b:Addr} {i:Nat} {h:Heap} {xs ys:Array Value} (t:ZipSt z TI TO i1 i2 a b i h) (ha:h.IsList a xs) (hb:h.IsList b ys):ZipApart z TI TO i1 i2 a b:=by
 have nd:=t.nd
 simp only [List.nodup_cons,List.mem_cons,List.not_mem_nil,or_false,not_or,List.nodup_nil,and_true,not_false_eq_true] at nd
 obtain ⟨⟨n1,n2,n3,n4⟩,⟨n5,n6,n7⟩,⟨n8,n9⟩,n10⟩:=nd;have lst:∀ {c d:Addr} {zs:Array Value} {o:Obj},h.IsList c zs→h.get? d=some o→o.cls≠.type "list" → c≠d:=fun {c d zs o} hc e hn q=>by
  obtain ⟨o',e',c',_⟩:=hc;rw [q,e] at e'
  cases e'
  exact hn c'
 obtain ⟨x,y,ho⟩:=t.out;obtain ⟨o1,e1,c1,_⟩:=t.one;obtain ⟨o2,e2,c2,_⟩:=t.two;have k1:o1.cls≠.type "list" := by rw [c1]; exact ty_ne (by decide)
 have k2:o2.cls≠.type "list" := by rw [c2]; exact ty_ne (by decide)
 exact { TIz:=Ne.symm n1,TOz:=Ne.symm n2,i1z:=Ne.symm n3,i2z:=Ne.symm n4,TITO:=n5,TIi1:=n6,TIi2:=n7,TOi1:=n8,TOi2:=n9,i12:=n10,l1z:=lst ha t.zip (ty_ne (by decide)),l1TO:=lst ha ho (ty_ne (by decide)),l1i1:=lst ha e1 k1,l1i2:=lst ha e2 k2,l2z:=lst hb t.zip (ty_ne (by decide)),l2TO:=lst hb ho (ty_ne (by decide)),l2i1:=lst hb e1 k1,l2i2:=lst hb e2 k2 }
theorem Inv.turnedAll {X:Cx} {pins:List (Addr×Obj)} {σ:St} {H:Hp} {s:Shared} {h':Heap} {t':Nat} {fp:List Addr} (I:Inv X pins σ H s) (hf:∀ b∈fp,FpOk X pins H b)
  (k:∀ b o,b∉fp→s.heap.get? b=some o→h'.get? b=some o):Inv X pins σ H { s with heap:=h',toks:=t' }:=by
 have nf:∀ b u,H b=some u→b∉fp:=fun b u e z=>by rw [(hf b z).1] at e; cases e
 refine I.step (g':=s.gens) (d':=s.drawn) (ch:=fp) (fun b hb=>?_) (fun b o _ _ hc e _=>k b o hc e) (fun b o _ _ hc e _=>⟨o.slots,k b o hc e⟩) (fun _ _ _ _ n=>n)
  (fun b o hc e=>⟨o,k b o hc e⟩) (fun _ _ e=>e) (fun _ _ _ e=>e) (fun b ps e=>⟨#[],by rw [e]; simp⟩) (fun m hm=>?_) (fun b u e=>?_) I.bare
 ·obtain ⟨_,a1,_,a3,a4,a5⟩:=hf b hb
  exact ⟨a3,a1,a4,a5⟩
 ·obtain ⟨o,es,ep,ho,r⟩:=hm
  exact ⟨o,es,ep,k _ o (fun z=>(hf _ z).2.1 rfl) ho,r⟩
 ·refine (I.hok b u e).stay (fun c v hc q=>k c v ?_ q) (fun _ q=>q) fun _ _ q=>q
  rcases hc with z | z
  ·rw [z]; exact nf b u e
  ·exact nf c _ z
theorem pair_ok {P:Program} {w:World} {H:Hp} {h:Heap} {p:Addr} {x y:V} {u v:Value} (e:IsPair h p u v) (rx:RelV x u) (ry:RelV y v):ObjOk P w H h p (.tup [x,y]) :=
 ⟨(show 2≤sizeLine by decide),[u,v],.cons rx (.cons ry .nil),_,e,rfl,_,rfl⟩
theorem turn_zip {P:Program} {w:World} {K:As} {es:List Expr} {k1:Nat} {pt:Pos} (z TI TO i1 i2 a b:Addr):Turn P w K (.Tuple es k1 pt) (Itz K a b) [z,TI,TO,i1,i2] z (ZipSt z TI TO i1 i2 a b) where
 mem:=by simp
 obj:=fun i h t c hc=>by
  obtain ⟨x,y,ho⟩:=t.out;obtain ⟨o1,e1,c1,d1⟩:=t.one;obtain ⟨o2,e2,c2,d2⟩:=t.two
  simp only [List.mem_cons,List.not_mem_nil,or_false] at hc
  rcases hc with rfl | rfl | rfl | rfl | rfl
  ·exact ⟨_,t.zip,fun v q=>by cases q⟩
  ·exact ⟨_,t.its,fun v q=>by cases q⟩
  ·exact ⟨_,ho,fun v q=>by cases q⟩
  ·exact ⟨_,e1,fun v q=>by rw [d1] at q; cases q⟩
  ·exact ⟨_,e2,fun v q=>by rw [d2] at q; cases q⟩
 keep:=fun i h h' t k=>by
  obtain ⟨x,y,ho⟩:=t.out;exact ⟨t.nd,k z (by simp) _ t.zip,k TI (by simp) _ t.its,⟨x,y,k TO (by simp) _ ho⟩,t.one.at fun o e=>k i1 (by simp) o e,t.two.at fun o e=>k i2 (by simp) o e⟩
 item:=by
  intro X hP hw hK hc i pins s σ H E I hf t hg;subst hP hw hK;obtain ⟨xs,ys,x,y,qa,qb,hx,hy⟩:=hg;obtain ⟨as,ra,pa,_⟩:=I.list qa;obtain ⟨bs,rb,pb,_⟩:=I.list qb;obtain ⟨u,hu,ru⟩:=ra.get hx;obtain ⟨v,hv,rv⟩:=rb.get hy;obtain ⟨x0,y0,ho⟩:=t.out;have D:=t.apart pa.isList pb.isList;refine wpAny_pyNext_zip_item D t.zip t.its ho t.one t.two pa.isList pb.isList (x:=u) (y:=v) (by simpa using hu) (by simpa using hv) fun h1 a1 a2 a3 a4 a5 a6 hk=>⟨_,rfl,?_⟩
  refine wpAny_letOwnedTupleGo_zip (s:={ s with heap:=h1 }) a1 fun h2 b1 sb=>?_
  have zl:z<s.heap.objs.size:=Heap.lt_size t.zip;have nz:s.heap.objs.size≠z:=Nat.ne_of_gt zl;have kp:∀ c o,c∉[z,TI,TO,i1,i2]→s.heap.get? c=some o→h2.get? c=some o:=fun c o hc e=>by
   simp only [List.mem_cons,List.not_mem_nil,or_false,not_or] at hc
   exact (sb.2 c hc.1).trans (hk c o hc.1 hc.2.2.1 hc.2.2.2.1 hc.2.2.2.2 e)
  have I1:Inv X pins σ H { s with heap:=h2,toks:=s.toks }:=I.turnedAll hf kp;have np:H s.heap.objs.size=none:=I.hok.fresh (Nat.le_refl _);have pr:IsPair h2 s.heap.objs.size u v:=(sb.2 _ nz).trans a5;have I2:Inv X pins σ (upd H s.heap.objs.size (.tup [x,y])) { s with heap:=h2,toks:=s.toks }:=by
   have fo:=I.fpOk (H':=H) (Nat.le_refl _) np;refine I1.track np ?_ fo.2.2.2.2.2 fo.2.1 fo.2.2.2.2.1 (pair_ok pr ru rv);exact Heap.get?_none_of_le I.sz
  refine ⟨.ref s.heap.objs.size,_,I2,rfl,⟨_,x,y,np,rfl,rfl,fun zs hz=>by rw [I.list_inj hz qa]; exact hx,fun zs hz=>by rw [I.list_inj hz qb]; exact hy⟩,?_,fun c hc=>?_⟩
  ·have up:∀ c o,c≠z→h1.get? c=some o→h2.get? c=some o:=fun c o hc e=>(sb.2 c hc).trans e
   refine ⟨t.nd,b1,up _ _ D.TIz (hk _ _ D.TIz D.TITO D.TIi1 D.TIi2 t.its),⟨u,v,up _ _ D.TOz a2⟩,a3.at fun o e=>up _ _ D.i1z e,a4.at fun o e=>up _ _ D.i2z e⟩
  ·obtain ⟨c0,c1,_⟩:=hf c hc
   have ne:c≠s.heap.objs.size:=fun q=>by
    have ob:∃ o,s.heap.get? c=some o:=by
     obtain ⟨o1,e1,_⟩:=t.one;obtain ⟨o2,e2,_⟩:=t.two
     simp only [List.mem_cons,List.not_mem_nil,or_false] at hc
     rcases hc with rfl | rfl | rfl | rfl | rfl
     ·exact ⟨_,t.zip⟩
     ·exact ⟨_,t.its⟩
     ·exact ⟨_,ho⟩
     ·exact ⟨_,e1⟩
     ·exact ⟨_,e2⟩
    obtain ⟨o,e⟩:=ob;exact absurd (Heap.lt_size e) (by rw [q]; exact Nat.lt_irrefl _)
   rw [qJ ne];exact c0
 done:=by
  intro X hP hw hK hc i pins s σ H E I hf t hg;subst hP hw hK;obtain ⟨xs,ys,qa,qb,hl⟩:=hg;obtain ⟨as,ra,pa,_⟩:=I.list qa;obtain ⟨bs,rb,pb,_⟩:=I.list qb;obtain ⟨x0,y0,ho⟩:=t.out;have D:=t.apart pa.isList pb.isList;have l1:=ra.length;have l2:=rb.length;refine wpAny_pyNext_zip_end (I.ok.hd hc) D t.zip t.its ho t.one t.two pa.isList pb.isList ?_ fun h1 hk=>⟨rfl,?_⟩
  ·rcases hl with h | h
   ·exact .inl (by simp; omega)
   ·exact .inr (by simp; omega)
  ·refine I.turnedAll (t':=s.toks) hf fun c o hc e=>?_
   simp only [List.mem_cons,List.not_mem_nil,or_false,not_or] at hc
   exact hk c o hc.1 hc.2.2.1 hc.2.2.2.1 hc.2.2.2.2 e
 self:=fun _ _ _ _ _ t h=>wpAny_pyIter_zip t.zip h
def iZip (K:As) (ta:TA):TI:=fun σ H R=>ta σ H fun vs H1=>∃ a b,vs=[.ref a,.ref b]∧(∃ xs,SqL K H1 a xs)∧(∃ ys,SqL K H1 b ys)∧R (Itz K a b) H1
theorem pi_zip {X:Cx} {es:List Expr} {k1:Nat} {pt p pos:Pos} {e1 e2:Expr} {ta:TA} (hg:Gl X "zip") (hm:X.mg "zip" = none) (ha:PA X [e1,e2] ta) (q1:plainE e1=true:=by rfl) (q2:plainE e2=true:=by rfl) :
  PI X (.Tuple es k1 pt) (.Call (.Name "zip" p) [e1,e2] [] pos) (iZip X.K ta):=by
 intro pins s σ H R I h;have hpl:(backTo pos (starEach [e2] X.env)).any (·.1)=false:=qV (by simp [q2]);refine Call_ (Qw I hg hm boot_zip (PyProof.Rows.callWith_type1 (thn (ha pos pins s σ H _ I h) fun us s1 ⟨vs,H1,I1,r1,q⟩=>?_) (qq q1 _ _) hpl));obtain ⟨a,b,rfl,⟨xs,qa⟩,⟨ys,qb⟩,q⟩:=q;obtain ⟨u,v,rfl,ra,rb⟩:=vals2 r1
 cases ra
 cases rb
 obtain ⟨as,_,pa,_⟩:=I1.list qa;obtain ⟨bs,_,pb,_⟩:=I1.list qb;refine call_zip_2 pa.isList pb.isList fun h2 z1 z2 z3 z4 z5 z6 kp=>?_
 refine wpAny_pyIter_zip z1 ?_;have I2:Inv X pins σ H1 { s1 with heap:=h2,toks:=s1.toks }:=I1.kept kp;refine ⟨_,_,_,_,H1,rfl,I2,turn_zip _ _ _ _ _ a b,⟨?_,z1,z2,⟨_,_,z3⟩,z4,z5⟩,fun c hc=>?_,q⟩
 ·simp
 ·have hc':s1.heap.objs.size≤c:=by
   simp only [List.mem_cons,List.not_mem_nil,or_false] at hc
   rcases hc with h | h | h | h | h <;> rw [h] <;> first | exact Nat.le_refl _ | exact Nat.le_add_right _ _
  exact I1.fpOk hc' (I1.hok.fresh hc')
def Ite (K:As) (a:Addr):It :=
 ⟨fun i H=>∃ xs x,SqL K H a xs∧xs[i]?=some x,fun i H v H'=>∃ p x,H p=none∧v=.ref p∧H'=upd H p (.tup [.int i,x])∧∀ xs,SqL K H a xs→xs[i]?=some x,fun i H=>∃ xs,SqL K H a xs∧xs.length≤i⟩
structure EnumSt (e it a:Addr) (i:Nat) (h:Heap):Prop where
 ne:e≠it
 enm:∃ old,IsEnum h e it i old
 one:h.IsListIter it a i
theorem turn_enum {P:Program} {w:World} {K:As} {es:List Expr} {k1:Nat} {pt:Pos} (e it a:Addr):Turn P w K (.Tuple es k1 pt) (Ite K a) [e,it] e (EnumSt e it a) where
 mem:=by simp
 obj:=fun i h t c hc=>by
  obtain ⟨old,e0⟩:=t.enm;obtain ⟨o1,e1,c1,d1⟩:=t.one
  simp only [List.mem_cons,List.not_mem_nil,or_false] at hc
  rcases hc with rfl | rfl
  ·exact ⟨_,e0,fun v q=>by cases q⟩
  ·exact ⟨_,e1,fun v q=>by rw [d1] at q; cases q⟩
 keep:=fun i h h' t k=>by
  obtain ⟨old,e0⟩:=t.enm;exact ⟨t.ne,⟨old,k e (by simp) _ e0⟩,t.one.at fun o q=>k it (by simp) o q⟩
 item:=by
  intro X hP hw hK hc i pins s σ H E I hf t hg;subst hP hw hK;obtain ⟨xs,x,qa,hx⟩:=hg;obtain ⟨as,ra,pa,_⟩:=I.list qa;obtain ⟨u,hu,ru⟩:=ra.get hx;obtain ⟨old,e0⟩:=t.enm;refine wpAny_pyNext_enum_item e0 t.one pa.isList (x:=u) (by simpa using hu) t.ne fun h1 a1 a2 a3 a4 hk=>⟨_,rfl,?_⟩
  refine wpAny_letOwnedTupleGo_enum (s:={ s with heap:=h1,toks:=s.toks+1 }) a1 fun h2 b1 sb=>?_
  have el:e<s.heap.objs.size:=Heap.lt_size e0;have il:it<s.heap.objs.size:=by obtain ⟨_,q,_⟩:=t.one; exact Heap.lt_size q
  have kp:∀ c o,c∉[e,it]→s.heap.get? c=some o→h2.get? c=some o:=fun c o hc q=>by
   simp only [List.mem_cons,List.not_mem_nil,or_false,not_or] at hc
   exact (sb.2 c hc.1).trans (hk c o hc.1 hc.2 q)
  have I1:Inv X pins σ H { s with heap:=h2,toks:=s.toks+1 }:=I.turnedAll hf kp;have np:H s.heap.objs.size=none:=I.hok.fresh (Nat.le_refl _);have pr:IsPair h2 s.heap.objs.size (.int i s.toks) u:=(sb.2 _ (Nat.ne_of_gt el)).trans a3;have I2:Inv X pins σ (upd H s.heap.objs.size (.tup [.int i,x])) { s with heap:=h2,toks:=s.toks+1 }:=by
   have fo:=I.fpOk (H':=H) (Nat.le_refl _) np;refine I1.track np ?_ fo.2.2.2.2.2 fo.2.1 fo.2.2.2.2.1 (pair_ok pr ⟨_,rfl⟩ ru);exact Heap.get?_none_of_le I.sz
  refine ⟨.ref s.heap.objs.size,_,I2,rfl,⟨_,x,np,rfl,rfl,fun zs hz=>by rw [I.list_inj hz qa]; exact hx⟩,⟨t.ne,⟨u,b1⟩,a2.at fun o q=>(sb.2 it (Ne.symm t.ne)).trans q⟩,fun c hc=>?_⟩;obtain ⟨c0,c1,_⟩:=hf c hc;have ne:c≠s.heap.objs.size:=fun q=>by
   simp only [List.mem_cons,List.not_mem_nil,or_false] at hc
   rcases hc with h | h
   ·rw [← h,q] at el
    exact Nat.lt_irrefl _ el
   ·rw [← h,q] at il
    exact Nat.lt_irrefl _ il
  rw [qJ ne];exact c0
 done:=by
  intro X hP hw hK hc i pins s σ H E I hf t hg;subst hP hw hK;obtain ⟨xs,qa,hl⟩:=hg;obtain ⟨as,ra,pa,_⟩:=I.list qa;obtain ⟨old,e0⟩:=t.enm;have l1:=ra.length;refine wpAny_pyNext_enum_end (I.ok.hd hc) e0 t.one pa.isList (by simp; omega) fun h1 hk=>⟨rfl,?_⟩
  refine I.turnedAll (t':=s.toks) hf fun c o hc q=>?_
  simp only [List.mem_cons,List.not_mem_nil,or_false,not_or] at hc
  exact hk c o hc.2 q
 self:=fun A i s Q E t h=>by
  obtain ⟨old,e0⟩:=t.enm;exact wpAny_pyIter_enum e0 h
def iEnum (K:As) (ta:TA):TI:=fun σ H R=>ta σ H fun vs H1=>∃ a,vs=[.ref a]∧(∃ xs,SqL K H1 a xs)∧R (Ite K a) H1
theorem pi_enum {X:Cx} {es:List Expr} {k1:Nat} {pt p pos:Pos} {e1:Expr} {ta:TA} (hg:Gl X "enumerate") (hm:X.mg "enumerate" = none) (ha:PA X [e1] ta) (q1:plainE e1=true:=by rfl) :
  PI X (.Tuple es k1 pt) (.Call (.Name "enumerate" p) [e1] [] pos) (iEnum X.K ta):=by
 intro pins s σ H R I h;refine Call_ (Qw I hg hm boot_enumerate (PyProof.Rows.callWith_type1 (thn (ha pos pins s σ H _ I h) fun us s1 ⟨vs,H1,I1,r1,q⟩=>?_) (qq q1 _ _) rfl));obtain ⟨a,rfl,⟨xs,qa⟩,q⟩:=q;obtain ⟨u,rfl,ra⟩:=vals1 r1
 cases ra
 obtain ⟨as,_,pa,_⟩:=I1.list qa;refine call_enumerate_list pa.isList fun h2 z1 z2 z3 kp=>?_
 refine wpAny_pyIter_enum z1 ?_;have I2:Inv X pins σ H1 { s1 with heap:=h2,toks:=s1.toks }:=I1.kept kp;refine ⟨_,_,_,_,H1,rfl,I2,turn_enum _ _ a,⟨Nat.succ_ne_self _,⟨_,z1⟩,z2⟩,fun c hc=>?_,q⟩;have hc':s1.heap.objs.size≤c:=by
  simp only [List.mem_cons,List.not_mem_nil,or_false] at hc
  rcases hc with h | h <;> rw [h] <;> first | exact Nat.le_refl _ | exact Nat.le_add_right _ _
 exact I1.fpOk hc' (I1.hok.fresh hc')
inductive DEq (K:As) (H:Hp):Nat→V→V→Prop where
 | flat {n:Nat} {x:V} (h:flatV x=true):DEq K H n x x
 | same {n:Nat} (a:Addr):DEq K H n (.ref a) (.ref a)
 | tup {n:Nat} {a b:Addr} {xs ys:List V} (ha:SqT K H a xs) (hb:SqT K H b ys) (hl:xs.length=ys.length) (h:∀ (j:Nat) (x y:V),xs[j]?=some x→ys[j]?=some y→DEq K H n x y):DEq K H (n+1) (.ref a) (.ref b)
 | lst {n:Nat} {a b:Addr} {xs ys:List V} (ha:SqL K H a xs) (hb:SqL K H b ys) (hl:xs.length=ys.length) (h:∀ (j:Nat) (x y:V),xs[j]?=some x→ys[j]?=some y→DEq K H n x y):DEq K H (n+1) (.ref a) (.ref b)
section
variable {X:Cx} {pins:List (Addr×Obj)} {σ:St} {H:Hp} {s:Shared}
end
theorem boot_sum:bootBuiltins "sum" = some (.builtin "sum"):=PyProof.Rows.boot_sum
theorem vals_int:∀ {ns:List Int} {us:List Value} {i:Nat} {v:Value},Vals (ns.map V.int) us→us[i]?=some v→∃ t,v=.int (ns.getD i 0) t
 | [],_,_,_,.nil,e=>by simp at e
 | n::ns,u::us,0,v,.cons r _,e=>by
  obtain ⟨t,h⟩:=r;have e':u=v:=by simpa using e
  exact ⟨t,by rw [← e',h]; rfl⟩
 | n::ns,u::us,i+1,v,.cons _ t,e=>by
  have q:=vals_int (i:=i) (v:=v) t (by simpa using e)
  simpa using q
theorem preSum_shift (val:Nat→Int):∀ n,preSum val (n+1)=val 0+preSum (fun i=>val (i+1)) n
 | 0=>by simp [preSum]
 | n+1=>by
  have h:=preSum_shift val n;show preSum val (n+1)+val (n+1)=val 0+(preSum (fun i=>val (i+1)) n+val (n+1));rw [h]; omega
theorem preSum_list:∀ (ns:List Int),preSum (fun i=>ns.getD i 0) ns.length=ns.sum
 | []=>rfl
 | n::ns=>by
  rw [List.length_cons,preSum_shift,List.sum_cons,← preSum_list ns];rfl
section
variable {X:Cx}
theorem call_sum (hc:X.calm=true):CallR X (.builtin "sum") (fun xs H Q=>∃ (p:Addr) (ns:List Int),xs=[.ref p]∧SqL X.K H p (ns.map V.int)∧Q (.int ns.sum) H):=by
 intro pins s σ H xs us Q I r h;obtain ⟨p,ns,rfl,hq,q⟩:=h;obtain ⟨u,rfl,rx⟩:=vals1 r
 cases rx
 obtain ⟨its,rv,pl,hz⟩:=I.list hq;have hlen:its.length=ns.length:=by rw [← rv.length,Al]
 have ne:p≠s.heap.objs.size:=Nat.ne_of_lt pl.lt;refine call_sum_walkAnyS (wpAny_pyIter_list pl.isList ?_);refine ⟨s.heap.objs.size,_,_,_,_,_,_,fun i=>ns.getD i 0,rfl,(Walks.list (A:=X.A.in1) (I.ok.hd hc) _ p ne its.toArray).toS,⟨⟨_,Heap.get?_push_size _ rfl,rfl,rfl⟩,?_⟩,fun b hb=>?_,fun i v hv=>vals_int rv (by simpa using hv),fun s' t' mv=>?_⟩
 ·obtain ⟨o,e,r⟩:=pl.isList
  exact ⟨o,Heap.get?_push_of_some _ e,r⟩
 ·rw [Heap.size_push]
  have hb':b=s.heap.objs.size∨b=p:=by simpa using hb
  rcases hb' with e | e
  ·rw [e]; exact Nat.lt_succ_self _
  ·rw [e]; exact Nat.lt_succ_of_lt pl.lt
 ·have hs:its.toArray.size=ns.length:=by rw [List.size_toArray,hlen]
  refine ⟨.int ns.sum,H,?_,⟨t',by rw [hs,preSum_list]⟩,q⟩;have I':Inv X pins σ H { s with heap:=s'.heap,toks:=s'.toks }:=I.kept fun b o e=>mv.heap b o (fun z=>by
   have e1:b=s.heap.objs.size:=by simpa using z
   exact absurd (Heap.lt_size e) (by rw [e1]; exact Nat.lt_irrefl _)) (Heap.get?_push_of_some _ e)
  have e1:=mv.gens;have e2:=mv.drawn;have e3:=mv.os;obtain ⟨h',g',d',tk',o'⟩:=s';dsimp only at e1 e2 e3;subst e2 e3
  first
   | (subst e1; exact I')
   | (have e1':g'=s.gens:=e1; subst e1'; exact I')
   | (have e1':s.gens=g':=e1; subst e1'; exact I')
end
section
variable {X:Cx}
end
section
variable {X:Cx} {pins:List (Addr×Obj)} {σ:St} {H:Hp} {s:Shared}
end
end L2
namespace BP
def InB:List (Rat×Rat)→List Rat→Prop
 | [],[]=>True
 | s::ss,q::qs=>s.1≤q∧q≤s.2∧InB ss qs
 | _,_=>False
def absQ (q:Rat):Rat:=if q.num<0 then -q else q
theorem jx (q:Rat):0≤absQ q:=by
 unfold absQ
 split
 ·exact Rat.num_nonneg.mp (by show 0 ≤ -q.num; omega)
 ·exact Rat.num_nonneg.mp (by omega)
theorem absQ_num (q:Rat):(absQ q).num=(if q.num<0 then -q.num else q.num)∧(absQ q).den=q.den:=by
 unfold absQ
 split <;> exact ⟨rfl,rfl⟩
end BP
namespace L2
open PySem PySem.Spec PyProof.Rows BP
def RngAt (p:Addr) (n:Nat) (h:Heap):Prop:=∃ t u v,IsRange h p 0 n 1 t u v
theorem boot_range:bootBuiltins "range" = some (.type "range"):=PyProof.Rows.boot_range
theorem boot_divmod:bootBuiltins "divmod" = some (.builtin "divmod"):=PyProof.Rows.boot_divmod
theorem boot_min:bootBuiltins "min" = some (.builtin "min"):=PyProof.Rows.boot_min
theorem boot_max:bootBuiltins "max" = some (.builtin "max"):=PyProof.Rows.boot_max
theorem boot_set:bootBuiltins "set" = some (.type "set"):=PyProof.Rows.boot_set
section
variable {X:Cx}
theorem call_range1:CallR X (.type "range") (fun xs H Q=>∃ n:Nat,xs=[.int n]∧∀ p,H p=none→Q (.ref p) (upd H p (.ext (RngAt p n)))):=by
 intro pins s σ H xs us Q I r h;obtain ⟨n,rfl,q⟩:=h;obtain ⟨u,rfl,t,rfl⟩:=vals1 r;refine call_range_1 ⟨.ref s.heap.objs.size,_,I.laid (a:=s.heap.objs.size) (o:=.ext (RngAt s.heap.objs.size n)) (t':=s.toks+1+1) (fun b o e=>Heap.get?_push_of_some _ e) (Nat.le_refl _) ?_,rfl,q _ (I.hok.fresh (Nat.le_refl _))⟩;exact ⟨⟨_,_,_,IsRange.new _ _ _ _ _ _ _⟩,⟨_,Heap.get?_push_size _ rfl⟩,fun h1 h2 ⟨t,u,v,e⟩ k=>⟨t,u,v,k _ e⟩⟩
theorem vals_of_get:∀ {xs:List V} {us:List Value},xs.length=us.length→(∀ (j:Nat) (x:V) (u:Value),xs[j]?=some x→us[j]?=some u→RelV x u)→Vals xs us
 | [],[],_,_=>.nil
 | x::xs,u::us,hl,h=>.cons (h 0 x u rfl rfl) (vals_of_get (by simpa using hl) fun j y v e1 e2=>h (j+1) y v (by simpa using e1) (by simpa using e2))
 | [],_::_,hl,_=>by simp at hl
 | _::_,[],hl,_=>by simp at hl
theorem call_list_rng (hc:X.calm=true):CallR X (.type "list") (fun xs H Q=>∃ (p:Addr) (n:Nat),xs=[.ref p]∧H p=some (.ext (RngAt p n))∧n≤1000∧∀ l,H l=none→Q (.ref l) (upd H l (.lst ((List.range n).map fun k:Nat=>V.int (k:Int))))):=by
 intro pins s σ H xs us Q I r h;obtain ⟨p,n,rfl,hp,small,q⟩:=h;obtain ⟨u,rfl,rx⟩:=vals1 r
 cases rx
 obtain ⟨⟨t,u,v,e⟩,_,_⟩:=(show ObjOk X.prog X.w H s.heap p (.ext (RngAt p n)) from I.hok p _ hp);refine call_list_range (n:=n) (I.ok.hd hc) e (small_one (by omega) (by omega) (by omega) (by omega)) (by rw [rangeSize_one]; split <;> omega) (by omega) fun h' tk acc' c' kp e' its=>?_
 obtain ⟨i1,i2⟩:=its;have rv:Vals ((List.range n).map fun k:Nat=>V.int (k:Int)) acc'.toList:=by
  refine vals_of_get (by simp [i1]) fun j x u e1 e2=>?_
  obtain ⟨t,rfl⟩:=i2 j u (by simpa using e2);have hj:j<n:=by
   have:=(A1.mp e1).1
   simpa using this
  have ex:V.int (j:Int)=x:=by simpa [hj] using e1
  subst ex;exact ⟨t,by simp⟩
 refine ⟨.ref s.heap.objs.size,_,I.laid (t':=tk) kp (Nat.le_refl _) (show ObjOk X.prog X.w _ h' _ (.lst _) from ⟨?_,acc'.toList,c',rv,by simpa using e'⟩),rfl,q _ (I.hok.fresh (Nat.le_refl _))⟩;have hs:sizeLine=16777216:=sizeLine_eq
 simp; omega
theorem ints_are:∀ {ns:List Int} {us:List Value},Vals (ns.map V.int) us→PyProof.Rows.IntsAre us ns
 | [],_,.nil=>by constructor
 | n::ns,_,.cons h t=>by
  obtain ⟨k,rfl⟩:=h
  constructor
  exact ints_are t
theorem dedup_nodup:∀ (xs acc:List Int),(acc++xs).Nodup→xs.foldl step_dedup acc=acc++xs
 | [],acc,_=>by simp
 | x::xs,acc,h=>by
  have hx:x∉acc:=fun z=>by
   rw [List.nodup_append] at h;exact h.2.2 x z x Af rfl
  have e:step_dedup acc x=acc++[x]:=by
   unfold step_dedup
   simp [hx]
  rw [List.foldl_cons,e,dedup_nodup xs (acc++[x]) (by simpa using h)]
  simp
theorem firstMet_nodup {ns:List Int} (h:ns.Nodup):firstMet (fun i=>ns.getD i 0) ns.length=ns:=by
 unfold firstMet;have e:(List.range ns.length).map (fun i=>ns.getD i 0)=ns:=by
  apply List.ext_getElem?
  intro j
  by_cases hj:j<ns.length
  ·simp [hj,List.getD]
  ·simp [hj]
 rw [e,dedup_nodup ns [] (by simpa using h)]
 simp
theorem call_set_ints (hc:X.calm=true):CallR X (.type "set") (fun xs H Q=>∃ (p:Addr) (ns:List Int),xs=[.ref p]∧SqL X.K H p (ns.map V.int)∧ns.length≤100∧ns.Nodup∧∀ l S,H l=none→Q (.ref l) (upd H l (.set S ns.length))):=by
 intro pins s σ H xs us Q I r h;obtain ⟨p,ns,rfl,hq,small,nd,q⟩:=h;obtain ⟨u,rfl,rx⟩:=vals1 r
 cases rx
 obtain ⟨its,rv,pl,hz⟩:=I.list hq;have hlen:its.length=ns.length:=by rw [← rv.length,Al]
 refine call_set_list (I.ok.hd hc) pl.isList (ns:=ns) (by simpa using ints_are rv) (by rw [List.size_toArray,hlen]; exact Nat.lt_of_le_of_lt (show ns.length+1≤101 by omega) (by decide)) fun h' tk hs kp=>?_
 have ez:its.toArray.size=ns.length:=by rw [List.size_toArray,hlen]
 rw [ez,firstMet_nodup nd] at hs;exact ⟨.ref s.heap.objs.size,_,I.laid (t':=tk) (fun b o e=>kp b o (Heap.lt_size e) e) (Nat.le_refl _) (show ObjOk X.prog X.w _ h' _ (.set _ _) from hs),rfl,q _ _ (I.hok.fresh (Nat.le_refl _))⟩
theorem call_len_setV:CallR X (.builtin "len") (fun xs H Q=>∃ (p:Addr) (S:Int→Bool) (n:Nat),xs=[.ref p]∧H p=some (.set S n)∧n≤100∧Q (.int n) H):=by
 intro pins s σ H xs us Q I r h;obtain ⟨p,S,n,rfl,hp,small,q⟩:=h;obtain ⟨u,rfl,rx⟩:=vals1 r
 cases rx
 obtain ⟨o,es,ep,t,h1,h2,h3,_,_,_,h7,h8⟩:=(show ObjOk X.prog X.w H s.heap p (.set S n) from I.hok p _ hp);exact call_len_set h1 h2 h3 h7 (by omega) ⟨.int n,H,I.tok _,⟨_,by rw [h8]⟩,q⟩
end
end L2
namespace BP
def D0:Nat:=84000000000
def Bq (d b:Nat) (q:Rat):Prop:=q.den∣D0^d∧q.num.natAbs≤2^b*q.den
theorem Bq.mono {d b d' b':Nat} {q:Rat} (h:Bq d b q) (hd:d≤d') (hb:b≤b'):Bq d' b' q :=
 ⟨Nat.dvd_trans h.1 (Nat.pow_dvd_pow _ hd),Ar h.2 (Nat.mul_le_mul_right _ (Ac (by decide) hb))⟩
theorem den_le {d:Nat} {q:Rat} (h:q.den∣D0^d):q.den<2^(37*d+1):=by
 have p:0<D0^d:=Nat.pow_pos (by decide);have k:=Nat.le_of_dvd p h;have l:D0^d≤(2^37)^d:=Nat.pow_le_pow_left (by decide) d;rw [← Nat.pow_mul] at l;have m:2^(37*d)<2^(37*d+1):=Nat.pow_lt_pow_right (by decide) (Nat.lt_succ_self _);omega
theorem Bq.sm {d b:Nat} {q:Rat} (h:Bq d b q):SmQ (b+(37*d+1)) q:=by
 have k:=den_le h.1
 constructor
 ·show q.num.natAbs<2^(b+(37*d+1))
  rw [Nat.pow_add];exact Nat.lt_of_le_of_lt h.2 (Nat.mul_lt_mul_of_pos_left k (Nat.pow_pos (by decide)))
 ·show (q.den:Int).natAbs<2^(b+(37*d+1))
  rw [Ah];exact Ag k (Ac (by decide) (by omega))
theorem Bq.of {d b:Nat} {t:Int} {m:Nat} (hm:0<m) (h1:m∣D0^d) (h2:t.natAbs≤2^b*m):Bq d b (Rat.divInt t m):=by
 have hne:(m:Int)≠0:=by omega
 have e:=n_rat (t:=t) (b:=(m:Int)) hne;have s1:=sg_nt t (m:Int);have s2:=sg_nb t (m:Int);rw [e.1] at s1;rw [e.2] at s2;have a1:=congrArg Int.natAbs s1;have a2:=congrArg Int.natAbs s2;rw [Aq,sg_abs] at a1 a2;have g:=gcd_pos (t:=t) hne;rw [Ah,Ah] at a2;refine ⟨Nat.dvd_trans ⟨Int.gcd t m,by rw [Nat.mul_comm]; exact a2.symm⟩ h1,?_⟩;have h2:Int.gcd t m*(Rat.divInt t m).num.natAbs≤2^b*(Int.gcd t m*(Rat.divInt t m).den):=by rw [a1,a2]; exact h2
 refine Nat.le_of_mul_le_mul_left (c:=Int.gcd t m) ?_ g
 calc Int.gcd t m*(Rat.divInt t m).num.natAbs≤2^b*(Int.gcd t m*(Rat.divInt t m).den):=h2
  _=Int.gcd t m*(2^b*(Rat.divInt t m).den):=by rw [← Nat.mul_assoc,← Nat.mul_assoc,Nat.mul_comm (2^b)]
theorem Bq.add {d b:Nat} {x y:Rat} (h:Bq d b x) (k:Bq d b y):Bq d (b+1) (x+y):=by
 obtain ⟨p,hp⟩:=h.1;obtain ⟨q,hq⟩:=k.1;have D:0<D0^d:=Nat.pow_pos (by decide);have ne:((D0^d:Nat):Int)≠0:=by omega
 have pp:p≠0:=fun z=>by rw [z,Nat.mul_zero] at hp; omega
 have qp:q≠0:=fun z=>by rw [z,Nat.mul_zero] at hq; omega
 have ex:x=Rat.divInt (x.num*(p:Int)) ((D0^d:Nat):Int):=by
  have e:((D0^d:Nat):Int)=(x.den:Int)*(p:Int):=by rw [← Int.natCast_mul,← hp]
  rw [e,Rat.divInt_mul_right (by omega),Ai]
 have ey:y=Rat.divInt (y.num*(q:Int)) ((D0^d:Nat):Int):=by
  have e:((D0^d:Nat):Int)=(y.den:Int)*(q:Int):=by rw [← Int.natCast_mul,← hq]
  rw [e,Rat.divInt_mul_right (by omega),Ai]
 have s:x+y=Rat.divInt (x.num*(p:Int)+y.num*(q:Int)) ((D0^d:Nat):Int):=by
  have z:=Rat.divInt_add_divInt (x.num*(p:Int)) (y.num*(q:Int)) ne ne;rw [← ex,← ey] at z;rw [z];have e:x.num*(p:Int)*((D0^d:Nat):Int)+y.num*(q:Int)*((D0^d:Nat):Int)=(x.num*(p:Int)+y.num*(q:Int))*((D0^d:Nat):Int):=by rw [Int.add_mul]
  rw [e,Rat.divInt_mul_right ne]
 rw [s];refine Bq.of D (Nat.dvd_refl _) ?_;have a1:(x.num*(p:Int)).natAbs≤2^b*D0^d:=by
  rw [Aq,Ah,hp]
  calc x.num.natAbs*p≤2^b*x.den*p:=Nat.mul_le_mul_right _ h.2
   _=2^b*(x.den*p):=Nat.mul_assoc _ _ _
 have a2:(y.num*(q:Int)).natAbs≤2^b*D0^d:=by
  rw [Aq,Ah,hq]
  calc y.num.natAbs*q≤2^b*y.den*q:=Nat.mul_le_mul_right _ k.2
   _=2^b*(y.den*q):=Nat.mul_assoc _ _ _
 have a3:=Int.natAbs_add_le (x.num*(p:Int)) (y.num*(q:Int));have e:2^(b+1)*D0^d=2^b*D0^d+2^b*D0^d:=by rw [Nat.pow_succ,Nat.mul_comm (2^b) 2,Nat.mul_assoc,Nat.two_mul]
 omega
theorem Bq.neg {d b:Nat} {q:Rat} (h:Bq d b q):Bq d b (-q):=⟨h.1,by show (-q.num).natAbs≤_; rw [Int.natAbs_neg]; exact h.2⟩
def Shr (q:Rat):Prop:=Bq 1 63 q
theorem shr_part {t:Int} {m:Nat} (h:m=1∨m=2∨m=3∨m=4∨m=7∨m=1000000000) (ht:t.natAbs≤2^63):Shr (Rat.divInt t m):=by
 refine Bq.of (by omega) ?_ (Ar ht (Nat.le_mul_of_pos_right _ (by omega)))
 rcases h with h | h | h | h | h | h <;> subst h <;> decide
def bentQ (q:Rat):Rat:=if 0<q then q else 0
def Bd (D b:Nat) (q:Rat):Prop:=q.den∣D∧q.num.natAbs≤2^b*q.den
theorem Bd.mono {D b D' b':Nat} {q:Rat} (h:Bd D b q) (hd:D∣D') (hb:b≤b'):Bd D' b' q :=
 ⟨Nat.dvd_trans h.1 hd,Ar h.2 (Nat.mul_le_mul_right _ (Ac (by decide) hb))⟩
theorem Bd.of {D b:Nat} {t:Int} {m:Nat} (hm:0<m) (h1:m∣D) (h2:t.natAbs≤2^b*m):Bd D b (Rat.divInt t m):=by
 have hne:(m:Int)≠0:=by omega
 have e:=n_rat (t:=t) (b:=(m:Int)) hne;have s1:=sg_nt t (m:Int);have s2:=sg_nb t (m:Int);rw [e.1] at s1;rw [e.2] at s2;have a1:=congrArg Int.natAbs s1;have a2:=congrArg Int.natAbs s2;rw [Aq,sg_abs] at a1 a2;have g:=gcd_pos (t:=t) hne;rw [Ah,Ah] at a2;refine ⟨Nat.dvd_trans ⟨Int.gcd t m,by rw [Nat.mul_comm]; exact a2.symm⟩ h1,?_⟩;have h2:Int.gcd t m*(Rat.divInt t m).num.natAbs≤2^b*(Int.gcd t m*(Rat.divInt t m).den):=by rw [a1,a2]; exact h2
 refine Nat.le_of_mul_le_mul_left (c:=Int.gcd t m) ?_ g
 calc Int.gcd t m*(Rat.divInt t m).num.natAbs≤2^b*(Int.gcd t m*(Rat.divInt t m).den):=h2
  _=Int.gcd t m*(2^b*(Rat.divInt t m).den):=by rw [← Nat.mul_assoc,← Nat.mul_assoc,Nat.mul_comm (2^b)]
theorem Bd.add {D b:Nat} {x y:Rat} (D0:0<D) (h:Bd D b x) (k:Bd D b y):Bd D (b+1) (x+y):=by
 obtain ⟨p,hp⟩:=h.1;obtain ⟨q,hq⟩:=k.1;have ne:((D:Nat):Int)≠0:=by omega
 have pp:p≠0:=fun z=>by rw [z,Nat.mul_zero] at hp; omega
 have qp:q≠0:=fun z=>by rw [z,Nat.mul_zero] at hq; omega
 have ex:x=Rat.divInt (x.num*(p:Int)) ((D:Nat):Int):=by
  have e:((D:Nat):Int)=(x.den:Int)*(p:Int):=by rw [← Int.natCast_mul,← hp]
  rw [e,Rat.divInt_mul_right (by omega),Ai]
 have ey:y=Rat.divInt (y.num*(q:Int)) ((D:Nat):Int):=by
  have e:((D:Nat):Int)=(y.den:Int)*(q:Int):=by rw [← Int.natCast_mul,← hq]
  rw [e,Rat.divInt_mul_right (by omega),Ai]
 have s:x+y=Rat.divInt (x.num*(p:Int)+y.num*(q:Int)) ((D:Nat):Int):=by
  have z:=Rat.divInt_add_divInt (x.num*(p:Int)) (y.num*(q:Int)) ne ne;rw [← ex,← ey] at z;rw [z];have e:x.num*(p:Int)*((D:Nat):Int)+y.num*(q:Int)*((D:Nat):Int)=(x.num*(p:Int)+y.num*(q:Int))*((D:Nat):Int):=by rw [Int.add_mul]
  rw [e,Rat.divInt_mul_right ne]
 rw [s];refine Bd.of D0 (Nat.dvd_refl _) ?_;have a1:(x.num*(p:Int)).natAbs≤2^b*D:=by
  rw [Aq,Ah,hp]
  calc x.num.natAbs*p≤2^b*x.den*p:=Nat.mul_le_mul_right _ h.2
   _=2^b*(x.den*p):=Nat.mul_assoc _ _ _
 have a2:(y.num*(q:Int)).natAbs≤2^b*D:=by
  rw [Aq,Ah,hq]
  calc y.num.natAbs*q≤2^b*y.den*q:=Nat.mul_le_mul_right _ k.2
   _=2^b*(y.den*q):=Nat.mul_assoc _ _ _
 have a3:=Int.natAbs_add_le (x.num*(p:Int)) (y.num*(q:Int));have e:2^(b+1)*D=2^b*D+2^b*D:=by rw [Nat.pow_succ,Nat.mul_comm (2^b) 2,Nat.mul_assoc,Nat.two_mul]
 omega
end BP
namespace L2
open PySem PySem.Spec PyProof.Rows BP
section
variable {X:Cx}
end
section
variable {X:Cx}
end
section
variable {X:Cx}
inductive IsL (K:As) (H:Hp):V→String→Bool→Prop where
 | old {v:V} {s:String} {b:Bool} (h:IsI K H v s b):IsL K H v s b
 | lstTup {a:Addr} {xs:List V} (h:SqL K H a xs):IsL K H (.ref a) "tuple" false
 | tupList {a:Addr} {xs:List V} (h:SqT K H a xs):IsL K H (.ref a) "list" false
 | intList (i:Int):IsL K H (.int i) "list" false
 | intTup (i:Int):IsL K H (.int i) "tuple" false
end
section
variable {prog:Program} {w:World} {A:Around} {E:Value→Shared→Prop} {h:Heap} {gs:Array GenState} {dr:Drawn} {tk:Nat} {os:OsState}
def Gives (prog:Program) (w:World) (A:Around) (c b:Addr) (oc ob on:Obj) (x:Value):Prop :=
 ∀ (E:Value→Shared→Prop) (h:Heap) (gs:Array GenState) (dr:Drawn) (tk:Nat) (os:OsState) (Q:Value→Shared→Prop),h.get? c=some oc→h.get? b=some ob→(∀ h',h'.get? c=some on→Heap.SameBut c h h'→Q x ⟨h',gs,dr,tk,os⟩)→wpAny (model prog w) A (Builtin.SmallTypes.nextOf (.ref c)) Q E ⟨h,gs,dr,tk,os⟩
def Stops (prog:Program) (w:World) (A:Around) (c b:Addr) (oc ob:Obj):Prop :=
 ∀ (E:Value→Shared→Prop) (h:Heap) (gs:Array GenState) (dr:Drawn) (tk:Nat) (os:OsState) (Q:Value→Shared→Prop),h.get? c=some oc→h.get? b=some ob→(∀ h' e oe,Heap.ExtBut c h h'→h'.get? e=some oe→oe.cls=.type "StopIteration" → E (.ref e) ⟨h',gs,dr,tk,os⟩)→wpAny (model prog w) A (Builtin.SmallTypes.nextOf (.ref c)) Q E ⟨h,gs,dr,tk,os⟩
abbrev zobj (I O:Addr) (f0:Value):Obj:={ cls:=.type "zip",dict:=none,data:=.fields #[f0,.bool false,.bool false,.ref I,.ref O],slots:=#[] }
abbrev pobj (x y:Value):Obj:={ cls:=.type "tuple",data:=.seq #[x,y] }
abbrev tobj (b:Addr) (n:Nat):Obj:={ cls:=.type "tuple_iterator",data:=.fields #[.ref b,.int n 0] }
theorem tup_gives {c b:Addr} {n m:Nat} {ob:Obj} {vs:Array Value} {x:Value} (hd:ob.data=.seq vs m) (hx:vs[n]?=some x):Gives prog w A c b (tobj b n) ob (tobj b (n+1)) x:=by
 intro E h gs dr tk os Q e1 e2 k;obtain ⟨oc,od,odt,osl⟩:=ob
 cases hd
 have ty:Shared.TypeIs ⟨h,gs,dr,tk,os⟩ (.ref c) "tuple_iterator" := ⟨_,e1,rfl⟩
 delta Builtin.SmallTypes.nextOf
 refine wpAny_bind (wpAny_callSpecial?_slot ty F.slot_tuple_iterator_next (wpAny_call_entry F.slot_tuple_iterator_next ty F.entry_tuple_iterator_next ?_ (F.args_tuple_iterator_next_1 _)))
 wp_walk
 rw [Int.toNat_natCast,hx]
 wp_walk
 exact ⟨_,rfl,wpAny_pure (k _ (Heap.get?_update_self _ e1 rfl) (Heap.SameBut.update ..))⟩
theorem tup_stops {c b:Addr} {n m:Nat} {ob:Obj} {vs:Array Value} (hh:A.handled=none) (hd:ob.data=.seq vs m) (hx:vs[n]?=none):Stops prog w A c b (tobj b n) ob:=by
 intro E h gs dr tk os Q e1 e2 k;obtain ⟨oc,od,odt,osl⟩:=ob
 cases hd
 have ty:Shared.TypeIs ⟨h,gs,dr,tk,os⟩ (.ref c) "tuple_iterator" := ⟨_,e1,rfl⟩;have quiet:A.in1.handled=none:=hh
 delta Builtin.SmallTypes.nextOf
 refine wpAny_bind (wpAny_callSpecial?_slot ty F.slot_tuple_iterator_next (wpAny_call_entry F.slot_tuple_iterator_next ty F.entry_tuple_iterator_next ?_ (F.args_tuple_iterator_next_1 _)))
 wp_walk
 rw [Int.toNat_natCast,hx]
 wp_walk using wpAny_raiseNew_none quiet
 refine k _ _ _ (((Heap.SameBut.update ..).extBut.push _).push _) (Heap.get?_push_size _ rfl) rfl
end
structure ZipStT (z I O i j a b:Addr) (n:Nat) (h:Heap):Prop where
 nd:[z,I,O,i,j].Nodup
 zip:h.get? z=some (zobj I O .none)
 its:h.get? I=some (pobj (.ref i) (.ref j))
 out:∃ x y,h.get? O=some (pobj x y)
 one:h.get? i=some (tobj a n)
 two:h.get? j=some (tobj b n)
 far:a≠O∧b≠O
section
variable {X:Cx}
theorem noPylong_left {x y:Int} (h:x.natAbs.log2<13500):Builtin.divisionGoesByPylong x y=false:=by
 have a:(if x==0 then 0 else x.natAbs.log2/30+1)≤450:=by
  split
  ·exact Nat.zero_le _
  ·omega
 show (decide ((if y==0 then 0 else y.natAbs.log2/30+1)>300)&&decide ((if x==0 then 0 else x.natAbs.log2/30+1)>(if y==0 then 0 else y.natAbs.log2/30+1)+150))=false;generalize (if y==0 then 0 else y.natAbs.log2/30+1)=dy at *;generalize (if x==0 then 0 else x.natAbs.log2/30+1)=dx at *
 by_cases c:dy>300
 ·rw [decide_eq_false (show ¬ dx>dy+150 by omega),Bool.and_false]
 ·rw [decide_eq_false c,Bool.false_and]
def CDivL (i j:Int):Prop:=j≠0∧i.natAbs.log2<13500
theorem op_fdivL:OpR X (binaryOp .FloorDiv) (rI CDivL fun i j=>.int (i.fdiv j)):=opI fun _ _ _ _ _ _ _ hc q=>floordiv_int hc.1 q (.inl (noPylong_left hc.2))
end
section
variable {X:Cx}
end
section
variable {X:Cx}
theorem seq_cut {t u:TS} {D:Ends} {σ:St} {H:Hp} (h:∀ N:St→Hp→Prop,N=u D→t { D with nx:=N } σ H):tSeq t u D σ H:=h _ rfl
def bS (s:Stmt) (i:Nat):Stmt:=(zY s).getD i (.Pass ⟨0,0,0,0⟩)
theorem ltX {s:Stmt} {D:L2.Ends} {σ:St} {H:Hp} (k:let Z:=X; let D':=D; ∃ t,PSs Z (zY s) t∧t D' σ H):∃ t,PSs X (zY s) t∧t D σ H:=k
theorem lt3 {t0 t1 t2:TS} {D:L2.Ends} {σ:St} {H:Hp} (k:let u0:=t0; let u1:=t1; let u2:=t2; (tSeq u0 (tSeq u1 u2)) D σ H):(tSeq t0 (tSeq t1 t2)) D σ H:=k
theorem body3 {s:Stmt} {t0 t1 t2:TS} (hb:zY s=[bS s 0,bS s 1,bS s 2]) (h0:PS X (bS s 0) t0) (h1:PS X (bS s 1) t1) (h2:PS X (bS s 2) t2):PSs X (zY s) (tSeq t0 (tSeq t1 t2)):=by
 rw [hb];exact (qX h0 (qX h1 (qZ h2)))
theorem lt4 {t0 t1 t2 t3:TS} {D:L2.Ends} {σ:St} {H:Hp} (k:let u0:=t0; let u1:=t1; let u2:=t2; let u3:=t3; (tSeq u0 (tSeq u1 (tSeq u2 u3))) D σ H):(tSeq t0 (tSeq t1 (tSeq t2 t3))) D σ H:=k
theorem body4 {s:Stmt} {t0 t1 t2 t3:TS} (hb:zY s=[bS s 0,bS s 1,bS s 2,bS s 3]) (h0:PS X (bS s 0) t0) (h1:PS X (bS s 1) t1) (h2:PS X (bS s 2) t2) (h3:PS X (bS s 3) t3):PSs X (zY s) (tSeq t0 (tSeq t1 (tSeq t2 t3))):=by
 rw [hb];exact (qX h0 (qX h1 (qX h2 (qZ h3))))
theorem lt5 {t0 t1 t2 t3 t4:TS} {D:L2.Ends} {σ:St} {H:Hp} (k:let u0:=t0; let u1:=t1; let u2:=t2; let u3:=t3; let u4:=t4; (tSeq u0 (tSeq u1 (tSeq u2 (tSeq u3 u4)))) D σ H):(tSeq t0 (tSeq t1 (tSeq t2 (tSeq t3 t4)))) D σ H:=k
theorem body5 {s:Stmt} {t0 t1 t2 t3 t4:TS} (hb:zY s=[bS s 0,bS s 1,bS s 2,bS s 3,bS s 4]) (h0:PS X (bS s 0) t0) (h1:PS X (bS s 1) t1) (h2:PS X (bS s 2) t2) (h3:PS X (bS s 3) t3) (h4:PS X (bS s 4) t4):PSs X (zY s) (tSeq t0 (tSeq t1 (tSeq t2 (tSeq t3 t4)))):=by
 rw [hb];exact (qX h0 (qX h1 (qX h2 (qX h3 (qZ h4)))))
theorem lt6 {t0 t1 t2 t3 t4 t5:TS} {D:L2.Ends} {σ:St} {H:Hp} (k:let u0:=t0; let u1:=t1; let u2:=t2; let u3:=t3; let u4:=t4; let u5:=t5; (tSeq u0 (tSeq u1 (tSeq u2 (tSeq u3 (tSeq u4 u5))))) D σ H):(tSeq t0 (tSeq t1 (tSeq t2 (tSeq t3 (tSeq t4 t5))))) D σ H:=k
theorem body6 {s:Stmt} {t0 t1 t2 t3 t4 t5:TS} (hb:zY s=[bS s 0,bS s 1,bS s 2,bS s 3,bS s 4,bS s 5]) (h0:PS X (bS s 0) t0) (h1:PS X (bS s 1) t1) (h2:PS X (bS s 2) t2) (h3:PS X (bS s 3) t3) (h4:PS X (bS s 4) t4) (h5:PS X (bS s 5) t5):PSs X (zY s) (tSeq t0 (tSeq t1 (tSeq t2 (tSeq t3 (tSeq t4 t5))))):=by
 rw [hb];exact (qX h0 (qX h1 (qX h2 (qX h3 (qX h4 (qZ h5))))))
theorem lt7 {t0 t1 t2 t3 t4 t5 t6:TS} {D:L2.Ends} {σ:St} {H:Hp} (k:let u0:=t0; let u1:=t1; let u2:=t2; let u3:=t3; let u4:=t4; let u5:=t5; let u6:=t6; (tSeq u0 (tSeq u1 (tSeq u2 (tSeq u3 (tSeq u4 (tSeq u5 u6)))))) D σ H):(tSeq t0 (tSeq t1 (tSeq t2 (tSeq t3 (tSeq t4 (tSeq t5 t6)))))) D σ H:=k
theorem body7 {s:Stmt} {t0 t1 t2 t3 t4 t5 t6:TS} (hb:zY s=[bS s 0,bS s 1,bS s 2,bS s 3,bS s 4,bS s 5,bS s 6]) (h0:PS X (bS s 0) t0) (h1:PS X (bS s 1) t1) (h2:PS X (bS s 2) t2) (h3:PS X (bS s 3) t3) (h4:PS X (bS s 4) t4) (h5:PS X (bS s 5) t5) (h6:PS X (bS s 6) t6):PSs X (zY s) (tSeq t0 (tSeq t1 (tSeq t2 (tSeq t3 (tSeq t4 (tSeq t5 t6)))))):=by
 rw [hb];exact (qX h0 (qX h1 (qX h2 (qX h3 (qX h4 (qX h5 (qZ h6)))))))
theorem lt9 {t0 t1 t2 t3 t4 t5 t6 t7 t8:TS} {D:L2.Ends} {σ:St} {H:Hp} (k:let u0:=t0; let u1:=t1; let u2:=t2; let u3:=t3; let u4:=t4; let u5:=t5; let u6:=t6; let u7:=t7; let u8:=t8; (tSeq u0 (tSeq u1 (tSeq u2 (tSeq u3 (tSeq u4 (tSeq u5 (tSeq u6 (tSeq u7 u8)))))))) D σ H):(tSeq t0 (tSeq t1 (tSeq t2 (tSeq t3 (tSeq t4 (tSeq t5 (tSeq t6 (tSeq t7 t8)))))))) D σ H:=k
theorem body9 {s:Stmt} {t0 t1 t2 t3 t4 t5 t6 t7 t8:TS} (hb:zY s=[bS s 0,bS s 1,bS s 2,bS s 3,bS s 4,bS s 5,bS s 6,bS s 7,bS s 8]) (h0:PS X (bS s 0) t0) (h1:PS X (bS s 1) t1) (h2:PS X (bS s 2) t2) (h3:PS X (bS s 3) t3) (h4:PS X (bS s 4) t4) (h5:PS X (bS s 5) t5) (h6:PS X (bS s 6) t6) (h7:PS X (bS s 7) t7) (h8:PS X (bS s 8) t8):PSs X (zY s) (tSeq t0 (tSeq t1 (tSeq t2 (tSeq t3 (tSeq t4 (tSeq t5 (tSeq t6 (tSeq t7 t8)))))))):=by
 rw [hb];exact (qX h0 (qX h1 (qX h2 (qX h3 (qX h4 (qX h5 (qX h6 (qX h7 (qZ h8)))))))))
theorem lt13 {t0 t1 t2 t3 t4 t5 t6 t7 t8 t9 t10 t11 t12:TS} {D:L2.Ends} {σ:St} {H:Hp} (k:let u0:=t0; let u1:=t1; let u2:=t2; let u3:=t3; let u4:=t4; let u5:=t5; let u6:=t6; let u7:=t7; let u8:=t8; let u9:=t9; let u10:=t10; let u11:=t11; let u12:=t12; (tSeq u0 (tSeq u1 (tSeq u2 (tSeq u3 (tSeq u4 (tSeq u5 (tSeq u6 (tSeq u7 (tSeq u8 (tSeq u9 (tSeq u10 (tSeq u11 u12)))))))))))) D σ H):(tSeq t0 (tSeq t1 (tSeq t2 (tSeq t3 (tSeq t4 (tSeq t5 (tSeq t6 (tSeq t7 (tSeq t8 (tSeq t9 (tSeq t10 (tSeq t11 t12)))))))))))) D σ H:=k
theorem body13 {s:Stmt} {t0 t1 t2 t3 t4 t5 t6 t7 t8 t9 t10 t11 t12:TS} (hb:zY s=[bS s 0,bS s 1,bS s 2,bS s 3,bS s 4,bS s 5,bS s 6,bS s 7,bS s 8,bS s 9,bS s 10,bS s 11,bS s 12]) (h0:PS X (bS s 0) t0) (h1:PS X (bS s 1) t1) (h2:PS X (bS s 2) t2) (h3:PS X (bS s 3) t3) (h4:PS X (bS s 4) t4) (h5:PS X (bS s 5) t5) (h6:PS X (bS s 6) t6) (h7:PS X (bS s 7) t7) (h8:PS X (bS s 8) t8) (h9:PS X (bS s 9) t9) (h10:PS X (bS s 10) t10) (h11:PS X (bS s 11) t11) (h12:PS X (bS s 12) t12):PSs X (zY s) (tSeq t0 (tSeq t1 (tSeq t2 (tSeq t3 (tSeq t4 (tSeq t5 (tSeq t6 (tSeq t7 (tSeq t8 (tSeq t9 (tSeq t10 (tSeq t11 t12)))))))))))):=by
 rw [hb];exact (qX h0 (qX h1 (qX h2 (qX h3 (qX h4 (qX h5 (qX h6 (qX h7 (qX h8 (qX h9 (qX h10 (qX h11 (qZ h12)))))))))))))
theorem ps_s (i:Nat) {x:Str} {e:Expr} {te:TE} {pos pos':Pos} (hN:X.N.Nodup) (he:PE X e te) (hi:X.N[i]?=some x:=by rfl) (hx:Loc X.env.scope x:=by exact Or.inl rfl) (hs:swapsWith e (some (.Name x pos')) pos.line X.env=pure false:=by rfl) (hf:X.fn x=true∨X.env.scope.names.lookup x=some .local:=by first | exact .inl rfl | exact .inr rfl | assumption):PS X (.Assign [.Name x pos'] e pos) (tAsg te (gName i)):=ps_set hN hi hx he hs hf
theorem pg_n (i:Nat) {x:Str} {pos:Pos} (hN:X.N.Nodup) (hi:X.N[i]?=some x:=by rfl) (hx:Loc X.env.scope x:=by exact Or.inl rfl) (hf:X.fn x=true∨X.env.scope.names.lookup x=some .local:=by first | exact .inl rfl | exact .inr rfl | assumption):PG X (.Name x pos) (gName i):=pg_name hN hi hx hf
theorem w5 {o e:Expr} {to te:TE} {apos cpos:Pos} (ho:PE X o to) (he:PE X e te) (hp:plainE e=true:=by rfl) (hb:attributeBase o "append" X.env (eval o X.env)=eval o X.env:=by rfl) (hl:(apos.endLine==cpos.line)=true:=by rfl):PE X (.Call (.Attribute o "append" apos) [e] [] cpos) (tBM X.K "list" rAppend to (tCons te tNil)) :=
 pe_bm PySem.F.plainAttrs_list PySem.F.slot_list_append PySem.F.type_list_append mt_append ho (pa_c he qj hp) hb (by rw [qq hp]; rfl) hl (qq hp _ _) (qV rfl)
theorem pe_c {k n:Nat} {f:Addr} {fd:FuncData} {ps:List Str} {sp:Sp} {x:Str} {e:Expr} {es:List Expr} {t:TA} {p pos:Pos} (F:FnOk X.prog X.w X.K X.mg X.base CX0 k f fd ps sp) (hr:Room n X.A) (hm:X.mg x=some (.ref f)) (hk:PySem.W.keepIn X.K (.ref f)=true) (hb:Binds X.K fd ps []) (ha:PA X (e::es) t)
  (hj:k≤n:=by decide) (hg:Gl X x:=by rfl) (hdb:(x==("__debug__" : Str))=false:=by decide) (he:starEach (e::es) X.env=(false,eval e X.env)::starEach es X.env:=by exact qq rfl _ _) (hpl:(backTo pos (starEach es X.env)).any (·.1)=false:=by exact qV rfl) :
  PE X (.Call (.Name x p) (e::es) [] pos) (tCall sp [] E0 t):=pe_call F (hr.mono hj) hg hm hk hb .nil pass0 ha hdb he hpl
end
theorem list_ext_all {α:Type} [DecidableEq α] {l m:List α} (h:l.length=m.length):(List.range l.length).all (fun j=>decide (l[j]?=m[j]?))=decide (l=m):=by
 by_cases e:l=m
 ·subst e
  rw [decide_eq_true rfl];exact List.all_eq_true.mpr fun j _=>decide_eq_true rfl
 ·rw [decide_eq_false e]
  refine Bool.eq_false_iff.mpr fun k=>e (List.ext_getElem? fun j=>?_)
  by_cases hj:j<l.length
  ·exact of_decide_eq_true (List.all_eq_true.mp k j (List.mem_range.mpr hj))
  ·rw [List.getElem?_eq_none (by omega),List.getElem?_eq_none (by omega)]
section
variable {X:Cx} {pins:List (Addr×Obj)} {σ:St} {H:Hp} {s:Shared}
theorem ref_val {a:Addr} {u:Value} (h:RelV (.ref a) u):u=.ref a:=by
 cases h
 rfl
end
section
variable (P:Program) (w:World)
end
section
variable {P:Program} {w:World} {H H':Hp} {h h':Heap} {a:Addr} {o:HO}
end
section
variable {P:Program} {w:World} {H:Hp} {h h':Heap} {x e:Addr} {o':HO}
end
section
variable {fs fs' ex ex':List Addr} {H H1 H2:Hp} {h h1 h2 h':Heap} {a x e:Addr} {o:HO}
end
section
variable {X:Cx} {pins:List (Addr×Obj)} {σ:List (Option V)} {H H':Hp} {s:Shared} {h':Heap}
end
section
variable {X:Cx}
variable {a b:Expr} {ta tb:TE} {pos:Pos}
variable {tA tB':TT} {rest:List Expr}
end
section
variable {X:Cx} {pins:List (Addr×Obj)} {σ:St} {H:Hp} {s:Shared} {a:Addr} {xs ys:List V}
end
section
variable {X:Cx} {pins:List (Addr×Obj)} {σ:St} {H:Hp} {s:Shared} {E:Value→Shared→Prop}
end
section
variable {X:Cx} {st:Stmt} {rest:List Stmt} {t u:TS} {e:Expr} {te:TE} {pos:Pos}
end
section
variable {X:Cx} {pos:Pos}
end
section
variable {X:Cx} {pos:Pos}
end
section
variable {X:Cx} {tg:Expr}
end
section
variable {X:Cx} {a b c:Expr} {ta tb tc:TE} {pos:Pos}
end
section
variable {X:Cx} {a b c:Expr} {ta tb tc:TE} {pos:Pos}
end
section
variable {prog:Program} {w:World} {A:Around} {E:Value→Shared→Prop} {s:Shared} {K:As} {x dx C f:Addr} {mA:Str→Option Value} {name:Str} {v:Value}
end
section
variable {P:Program} {w:World} {H H':Hp} {h h':Heap} {a C dx:Addr} {fs fs':List (Str×V)}
end
section
variable {X:Cx} {pins:List (Addr×Obj)} {σ:St} {H:Hp} {s:Shared} {a C dx:Addr} {fs:List (Str×V)} {f:Str} {v:V} {A:Around} {E:Value→Shared→Prop}
end
section
variable {X:Cx} {o e value:Expr} {f:Str} {pos pos' tpos:Pos} {ta tv:TE}
end
section
variable {X:Cx} {pins:List (Addr×Obj)} {σ:St} {H:Hp} {s:Shared} {A:Around} {E:Value→Shared→Prop} {Q:Value→Shared→Prop} {c:Value} {b:Bool}
end
section
variable {X:Cx} {e:Expr} {es:List Expr} {te:TE} {t:TA} {pos:Pos}
end
section
variable {X:Cx} {pins:List (Addr×Obj)} {σ:St} {H:Hp} {s s':Shared}
end
section
variable {X:Cx} {CX:CXT} {k:Nat} {f C:Addr} {fd:FuncData} {ps:List Str} {sp:Sp} {dvs:List V} {ds:List Value} {E:XK} {x m:Str} {p pos apos:Pos} {e o:Expr} {es:List Expr} {ta:TE} {t:TA}
end
section
variable {X:Cx} {CX:CXT} {k:Nat} {f C:Addr} {fd:FuncData} {ps ks:List Str} {sp:Sp} {E:XK} {x m:Str} {p pos apos kpos:Pos} {e o:Expr} {es:List Expr} {kws:List Keyword} {te ta:TE} {t tk:TA} {nm:Option Str}
variable {g:List Value→List Value→List Value} {gV:List V→List V→List V}
end
section
variable {X:Cx} {x:Str} {p pos:Pos} {e:Expr} {es:List Expr} {t:TA} {id T:String} {r:List V→Hp→VK→Prop}
end
section
variable {κ:Type} [DecidableEq κ]
def valV (kvs:List (κ×V)) (k:κ):Option V:=(kvs.find? fun kv=>decide (kv.1=k)).map (·.2)
def putK (kvs:List (κ×V)) (k:κ) (v:V):List (κ×V) :=
 if (kvs.any fun kv=>decide (kv.1=k))=true then kvs.map (fun kv=>if kv.1=k then (kv.1,v) else kv) else kvs++[(k,v)]
theorem v9 {p:κ×V} {r:List (κ×V)} {k:κ} (e:p.1=k):valV (p::r) k=some p.2:=by simp [valV,List.find?_cons,e]
theorem vz {p:κ×V} {r:List (κ×V)} {k:κ} (e:¬ p.1=k):valV (p::r) k=valV r k:=by simp [valV,List.find?_cons,e]
theorem valV_any (k:κ):∀ kvs:List (κ×V),(kvs.any fun kv=>decide (kv.1=k))=(valV kvs k).isSome
 | []=>rfl
 | p::r=>by
  rw [List.any_cons]
  by_cases e:p.1=k
  ·simp only [v9 e,decide_eq_true e,Bool.true_or,Option.isSome_some]
  ·rw [vz e,decide_eq_false e,Bool.false_or]; exact valV_any k r
theorem valV_map (k j:κ) (y:V):∀ kvs:List (κ×V),valV (kvs.map fun kv=>if kv.1=k then (kv.1,y) else kv) j=(valV kvs j).map fun x=>if j=k then y else x
 | []=>rfl
 | p::r=>by
  have ih:=valV_map k j y r;rw [List.map_cons]
  by_cases h:p.1=k
  ·rw [if_pos h]
   by_cases e:p.1=j
   ·rw [v9 (p:=(p.1,y)) e,v9 e,Option.map_some,if_pos (e.symm.trans h)]
   ·rw [vz (p:=(p.1,y)) e,vz e,ih]
  ·rw [if_neg h]
   by_cases e:p.1=j
   ·rw [v9 (p:=p) e,v9 e,Option.map_some,if_neg (fun z=>h (e.trans z))]
   ·rw [vz (p:=p) e,vz e,ih]
theorem valV_snoc (k j:κ) (y:V):∀ kvs:List (κ×V),valV kvs k=none→valV (kvs++[(k,y)]) j=if j=k then some y else valV kvs j
 | [],_=>by
  by_cases e:k=j
  ·rw [if_pos e.symm]; exact v9 (p:=(k,y)) e
  ·rw [if_neg (fun z=>e z.symm)]; exact vz (p:=(k,y)) e
 | p::r,hn=>by
  rw [List.cons_append];have hk:¬ p.1=k:=fun z=>by rw [v9 z] at hn; cases hn
  rw [vz hk] at hn;have ih:=valV_snoc k j y r hn
  by_cases e:p.1=j
  ·rw [v9 e,v9 e,if_neg (fun z=>hk (e.trans z))]
  ·rw [vz e,vz e,ih]
theorem valV_put (kvs:List (κ×V)) (k j:κ) (y:V):valV (putK kvs k y) j=if j=k then some y else valV kvs j:=by
 unfold putK
 by_cases a:(kvs.any fun kv=>decide (kv.1=k))=true
 ·rw [if_pos a,valV_map]
  rw [valV_any] at a
  by_cases e:j=k
  ·obtain ⟨x,hx⟩:=Option.isSome_iff_exists.mp a
   rw [if_pos e,e,hx,Option.map_some,if_pos rfl]
  ·rw [if_neg e]
   cases valV kvs j with
   | none=>rfl
   | some x=>rw [Option.map_some,if_neg e]
 ·rw [if_neg a]
  refine valV_snoc k j y kvs ?_;rw [valV_any] at a
  cases q:valV kvs k with
  | none=>rfl
  | some x=>rw [q] at a; exact (a rfl).elim
theorem length_putK (kvs:List (κ×V)) (k:κ) (v:V):(putK kvs k v).length≤kvs.length+1:=by
 unfold putK
 split
 ·rw [Al]; omega
 ·rw [Ad,List.length_cons,List.length_nil]; omega
theorem putK_new {kvs:List (κ×V)} {k:κ} (v:V) (h:valV kvs k=none):putK kvs k v=kvs++[(k,v)]:=by
 unfold putK;rw [valV_any,h];exact if_neg (by decide)
theorem RelO.isSome_eq {o:Option V} {u:Option Value} (r:RelO o u):o.isSome=u.isSome:=by
 cases o with
 | none=>cases u with
  | none=>rfl
  | some _=>exact (show False from r).elim
 | some _=>cases u with
  | none=>exact (show False from r).elim
  | some _=>rfl
theorem KV.val {kvs:List (κ×V)} {vs:List (κ×Value)} (r:KV kvs vs) (k:κ):RelO (valV kvs k) (valueAt vs k):=by
 unfold KV at r
 induction r with
 | nil=>exact True.intro
 | @cons p q ps qs h t ih =>
  obtain ⟨h1,h2⟩:=h
  by_cases e:p.1=k
  ·have e':q.1=k:=h1.symm.trans e
   have b:valueAt (q::qs) k=some q.2:=by simp [valueAt,List.find?_cons,e']
   rw [v9 e,b]; exact h2
  ·have e':¬ q.1=k:=fun z=>e (h1.trans z)
   have b:valueAt (q::qs) k=valueAt qs k:=by simp [valueAt,List.find?_cons,e']
   rw [vz e,b]; exact ih
theorem KV.any {kvs:List (κ×V)} {vs:List (κ×Value)} (r:KV kvs vs) (k:κ):(kvs.any fun kv=>decide (kv.1=k))=vs.any fun kv=>decide (kv.1=k):=by
 unfold KV at r
 induction r with
 | nil=>rfl
 | cons h t ih=>rw [List.any_cons,List.any_cons,ih,h.1]
theorem KV.repl {kvs:List (κ×V)} {vs:List (κ×Value)} (r:KV kvs vs) (k:κ) {y:V} {u:Value} (ry:RelV y u) :
  KV (kvs.map fun kv=>if kv.1=k then (kv.1,y) else kv) (vs.map fun kv=>if kv.1=k then (kv.1,u) else kv):=by
 unfold KV at r ⊢
 induction r with
 | nil=>exact .nil
 | @cons p q ps qs h t ih =>
  rw [List.map_cons,List.map_cons];refine .cons ?_ ih;obtain ⟨h1,h2⟩:=h
  by_cases e:p.1=k
  ·rw [if_pos e,if_pos (h1.symm.trans e)]; exact ⟨h1,ry⟩
  ·rw [if_neg e,if_neg (fun z=>e (h1.trans z))]; exact ⟨h1,h2⟩
theorem KV.put {kvs:List (κ×V)} {vs:List (κ×Value)} (r:KV kvs vs) (k:κ) {y:V} {u:Value} (ry:RelV y u):KV (putK kvs k y) (stored vs k u):=by
 unfold putK stored;rw [r.any k]
 by_cases e:(vs.any fun kv=>decide (kv.1=k))=true
 ·rw [if_pos e,if_pos e]; exact r.repl k ry
 ·rw [if_neg e,if_neg e]; exact Paired.snoc r ⟨rfl,ry⟩
theorem KV.keys {kvs:List (κ×V)} {vs:List (κ×Value)} (r:KV kvs vs):kvs.map (·.1)=vs.map (·.1):=by
 unfold KV at r
 induction r with
 | nil=>rfl
 | cons h t ih=>rw [List.map_cons,List.map_cons,ih,h.1]
theorem KV.length {kvs:List (κ×V)} {vs:List (κ×Value)} (r:KV kvs vs):kvs.length=vs.length:=Paired.length r
end
theorem kV_is {P:Program} {w:World} {k:Key} {u:Value} (r:RelV (kV k) u):(v8 P w).is k u=true:=by
 cases k with
 | inl i=>obtain ⟨t,e⟩:=(show ∃ t,u=Value.int i t from r); subst e; exact mixKind_int P w i t
 | inr x=>obtain ⟨t,e⟩:=(show ∃ t,u=Value.str x t from r); subst e; exact mixKind_str P w x t
theorem items_are {P:Program} {w:World}:∀ {ks:List Key} {us:List Value},Vals (ks.map kV) us→ItemsAre (v8 P w) ks us
 | [],_,r=>by rw [List.map_nil] at r; cases r; exact .nil
 | k::ks,_,r=>by
  rw [List.map_cons] at r
  cases r with
  | cons h t=>exact .cons (kV_is h) (items_are t)
abbrev KT (H:Hp):List (List Key×V)→List (List Key×Addr×Value)→Prop:=Paired fun p q=>p.1=q.1∧H q.2.1=some (.tup (p.1.map kV))∧RelV p.2 q.2.2
theorem KT.val {H:Hp} {kvs:List (List Key×V)} {xs:List (List Key×Addr×Value)} (r:KT H kvs xs) (k:List Key):RelO (valV kvs k) ((atKey xs k).map (·.2)):=by
 induction r with
 | nil=>exact True.intro
 | @cons p q ps qs h t ih =>
  obtain ⟨h1,_,h2⟩:=h
  by_cases e:p.1=k
  ·have e':q.1=k:=h1.symm.trans e
   have b:atKey (q::qs) k=some q.2:=by simp [atKey,List.find?_cons,e']
   rw [v9 e,b]; exact h2
  ·have e':¬ q.1=k:=fun z=>e (h1.trans z)
   have b:atKey (q::qs) k=atKey qs k:=by simp [atKey,List.find?_cons,e']
   rw [vz e,b]; exact ih
theorem KT.repl {H:Hp} {kvs:List (List Key×V)} {xs:List (List Key×Addr×Value)} (r:KT H kvs xs) (k:List Key) {y:V} {u:Value} (ry:RelV y u) :
  KT H (kvs.map fun kv=>if kv.1=k then (kv.1,y) else kv) (xs.map (putAt k u)):=by
 induction r with
 | nil=>exact .nil
 | @cons p q ps qs h t ih =>
  rw [List.map_cons,List.map_cons];refine .cons ?_ ih;obtain ⟨h1,h2,h3⟩:=h;unfold putAt
  by_cases e:p.1=k
  ·rw [if_pos e,if_pos (h1.symm.trans e)]; exact ⟨h1,h2,ry⟩
  ·rw [if_neg e,if_neg (fun z=>e (h1.trans z))]; exact ⟨h1,h2,h3⟩
theorem KT.put {H:Hp} {kvs:List (List Key×V)} {xs:List (List Key×Addr×Value)} (r:KT H kvs xs) (k:List Key) {b:Addr} {y:V} {u:Value} (hb:H b=some (.tup (k.map kV))) (ry:RelV y u) :
  KT H (putK kvs k y) (storedH xs k b u):=by
 have e:(kvs.any fun kv=>decide (kv.1=k))=(atKey xs k).isSome:=by
  rw [valV_any,(r.val k).isSome_eq,Option.isSome_map]
 unfold putK storedH;rw [e]
 by_cases q:(atKey xs k).isSome=true
 ·rw [if_pos q,if_pos q]; exact r.repl k ry
 ·rw [if_neg q,if_neg q]; exact Paired.snoc r ⟨rfl,hb,ry⟩
theorem KT.keeps {H H':Hp} {kvs:List (List Key×V)} {xs:List (List Key×Addr×Value)} (r:KT H kvs xs) (ht:∀ b ys,H b=some (.tup ys)→H' b=some (.tup ys)):KT H' kvs xs :=
 Paired.mapP r fun _ _ z=>⟨z.1,ht _ _ z.2.1,z.2.2⟩
section
variable {P:Program} {w:World} {H:Hp} {h:Heap} {a:Addr}
theorem rd_of {u:HO} (ok:HOk P w H h) (e:Rd H a u):ObjOk P w H h a u:=e.ok ok
theorem dk_rd {kvs:List (Key×V)} (ok:HOk P w H h) (e:Rd H a (.dK kvs)):kvs.length≤sizeLine∧(a==sysModules)=false∧∃ vs,KV kvs vs∧h.DictOf (v8 P w) a vs :=
 show ObjOk P w H h a (.dK kvs) from rd_of ok e
theorem dk_of {kvs:List (Key×V)} (ok:HOk P w H h) (e:H a=some (.dK kvs)):kvs.length≤sizeLine∧(a==sysModules)=false∧∃ vs,KV kvs vs∧h.DictOf (v8 P w) a vs:=dk_rd ok (.inl e)
theorem key_of {ks:List Key} (ok:HOk P w H h) (e:H a=some (.tup (ks.map kV))):(tupleKind (v8 P w)).is h ks a:=by
 obtain ⟨_,its,r,o,h1,h2,n,h3⟩:=(show ObjOk P w H h a (.tup (ks.map kV)) from ok a _ e);exact ⟨o,its.toArray,n,h1,h2,h3,by simpa using items_are r⟩
theorem dt_rd {kvs:List (List Key×V)} (ok:HOk P w H h) (e:Rd H a (.dT kvs)):kvs.length≤sizeLine∧(a==sysModules)=false∧∃ xs,KT H kvs xs∧h.DictOfH (tupleKind (v8 P w)) a xs:=by
 obtain ⟨z,y,xs,r,o,es,ep,h1,h2,h3,h4,h5⟩:=(show ObjOk P w H h a (.dT kvs) from rd_of ok e);refine ⟨z,y,xs,r,o,es,ep,h1,h2,h3,h4,fun x hx=>?_,h5⟩;have all:∀ {l:List (List Key×V)} {m:List (List Key×Addr×Value)},KT H l m→∀ x∈m,(tupleKind (v8 P w)).is h x.1 x.2.1:=by
  intro l m q
  induction q with
  | nil=>intro x hx; exact nomatch hx
  | @cons p q ps qs hq t ih =>
   intro x hx
   rcases List.mem_cons.mp hx with e | hx
   ·subst e
    exact key_of ok (by rw [← hq.1]; exact hq.2.1)
   ·exact ih x hx
 exact all r x hx
theorem dt_of {kvs:List (List Key×V)} (ok:HOk P w H h) (e:H a=some (.dT kvs)):kvs.length≤sizeLine∧(a==sysModules)=false∧∃ xs,KT H kvs xs∧h.DictOfH (tupleKind (v8 P w)) a xs:=dt_rd ok (.inl e)
end
def DGet (H:Hp) (a:Addr) (y:V) (r:Option V):Prop :=
 (∃ kvs k,Rd H a (.dK kvs)∧y=kV k∧r=valV kvs k)∨∃ kvs k b,Rd H a (.dT kvs)∧y=.ref b∧H b=some (.tup (k.map kV))∧r=valV kvs k
def DPut (H:Hp) (a:Addr) (y v:V) (H':Hp):Prop :=
 (∃ kvs k,H a=some (.dK kvs)∧y=kV k∧kvs.length<sizeLine∧H'=upd H a (.dK (putK kvs k v))) ∨
 ∃ kvs k b,H a=some (.dT kvs)∧y=.ref b∧H b=some (.tup (k.map kV))∧kvs.length<sizeLine∧H'=upd H a (.dT (putK kvs k v))
theorem DGet.k {H:Hp} {a:Addr} {kvs:List (Key×V)} {k:Key} (e:H a=some (.dK kvs)):DGet H a (kV k) (valV kvs k):=.inl ⟨kvs,k,.inl e,rfl,rfl⟩
theorem DPut.k {H:Hp} {a:Addr} {kvs:List (Key×V)} {k:Key} {v:V} (e:H a=some (.dK kvs)) (hl:kvs.length<sizeLine):DPut H a (kV k) v (upd H a (.dK (putK kvs k v))):=.inl ⟨kvs,k,e,rfl,hl,rfl⟩
section
variable {X:Cx} {pins:List (Addr×Obj)} {σ:St} {H:Hp} {s:Shared} {a:Addr} {y v:V} {u r:Value} {o:Option V} {A:Around} {E:Value→Shared→Prop}
theorem Inv.big (I:Inv X pins σ H s):sysModules<s.heap.objs.size:=by
 have h:mainGlobals<s.heap.objs.size:=(I.mod.glob.keeps I.bk).lt;exact Nat.lt_trans (by decide) h
theorem d_getItem {Q:Value→Shared→Prop} (hu:A.units+1<cLine) (I:Inv X pins σ H s) (g:DGet H a y (some v)) (ry:RelV y u) (h:∀ w' s',Inv X pins σ H s'→RelV v w'→Q w' s') :
  wpAny (model X.prog X.w) A (getItem (.ref a) u) Q E s:=by
 rcases g with ⟨kvs,k,e,ey,l⟩ | ⟨kvs,k,b,e,ey,eb,l⟩
 ·subst ey
  obtain ⟨z,hd,vs,rel,dd⟩:=dk_rd I.hok e;obtain ⟨w',hw,rw'⟩:=RelO.some_of (v:=v) (o:=valueAt vs k) (by rw [l]; exact rel.val k);exact wpAny_getItem_of (kV_is ry) dd.mapOf hw (h w' _ (I.tok _) rw')
 ·subst ey
  cases (show u=Value.ref b from ry)
  obtain ⟨z,hd,xs,rel,dd⟩:=dt_rd I.hok e;obtain ⟨w',hw,rw'⟩:=RelO.some_of (v:=v) (o:=(atKey xs k).map (·.2)) (by rw [l]; exact rel.val k);obtain ⟨p,hp,hp2⟩:=Option.map_eq_some_iff.mp hw;refine wpAny_getItem_heap (tupleKind_room_in1 hu) (key_of I.hok eb) dd hp ?_;rw [hp2];exact h w' _ (I.tok _) rw'
theorem d_notIn {Q:Value→Shared→Prop} (hu:A.units+1<cLine) (I:Inv X pins σ H s) (g:DGet H a y o) (ry:RelV y u) (h:∀ s',Inv X pins σ H s'→Q (.bool (!o.isSome)) s') :
  wpAny (model X.prog X.w) A (compareOp .NotIn u (.ref a)) Q E s:=by
 rcases g with ⟨kvs,k,e,ey,l⟩ | ⟨kvs,k,b,e,ey,eb,l⟩
 ·subst ey
  obtain ⟨z,hd,vs,rel,dd⟩:=dk_rd I.hok e;refine wpAny_notIn_of (kV_is ry) hd dd.mapOf ?_;rw [← (rel.val k).isSome_eq,← l];exact h _ (I.tok _)
 ·subst ey
  cases (show u=Value.ref b from ry)
  obtain ⟨z,hd,xs,rel,dd⟩:=dt_rd I.hok e;refine wpAny_notIn_heap (tupleKind_room_in1 hu) (key_of I.hok eb) hd dd ?_;have q:=(rel.val k).isSome_eq;rw [Option.isSome_map] at q;rw [← q,← l];exact h _ (I.tok _)
theorem d_write {h':Heap} {t':Nat} {ob:HO} (I:Inv X pins σ H s) (mu:Mut (H a)) (hs:Heap.SameBut a s.heap h') (he:∃ q,h'.get? a=some q) (new:ObjOk X.prog X.w (upd H a ob) h' a ob) :
  Inv X pins σ (upd H a ob) { s with heap:=h',toks:=t' } :=
 I.write (x:=a) (e:=a) mu (.inl rfl) (fun b q hb z=>(hs.2 b hb).trans z) he new
theorem dk_new {P:Program} {w:World} {H':Hp} {h':Heap} {kvs:List (Key×V)} {vs:List (Key×Value)} (z:kvs.length≤sizeLine) (hd:(a==sysModules)=false) (rel:KV kvs vs) (dd:h'.DictOf (v8 P w) a vs) :
  ObjOk P w H' h' a (.dK kvs):=⟨z,hd,vs,rel,dd⟩
theorem d_setItem {H':Hp} {Q:Unit→Shared→Prop} (hu:A.units+1<cLine) (I:Inv X pins σ H s) (g:DPut H a y v H') (ry:RelV y u) (rv:RelV v r) (h:∀ s',Inv X pins σ H' s'→Q () s') :
  wpAny (model X.prog X.w) A (setItem (.ref a) u r) Q E s:=by
 rcases g with ⟨kvs,k,e,ey,l,eH⟩ | ⟨kvs,k,b,e,ey,eb,l,eH⟩
 ·subst ey eH
  obtain ⟨z,hd,vs,rel,dd⟩:=dk_of I.hok e;have hz:vs.length≤sizeLine:=by rw [← rel.length]; exact z
  have hl:(putK kvs k v).length≤sizeLine:=by have:=length_putK kvs k v; omega
  refine wpAny_setItem_pairs (hsz:=hz) (kV_is ry) dd fun h' dd' hs=>h _ ?_
  have he:∃ q,h'.get? a=some q:=let ⟨q,_,_,hq,_⟩:=dd'; ⟨q,hq⟩
  exact d_write I (by rw [e]; exact True.intro) hs he (dk_new hl hd (rel.put k rv) dd')
 ·subst ey eH
  cases (show u=Value.ref b from ry)
  obtain ⟨z,hd,xs,rel,dd⟩:=dt_of I.hok e;have hz:xs.length≤sizeLine:=by rw [← Paired.length rel]; exact z
  have hl:(putK kvs k v).length≤sizeLine:=by have:=length_putK kvs k v; omega
  refine wpAny_setItem_heap (hsz:=hz) (tupleKind_room_in1 hu) (key_of I.hok eb) dd fun h' dd' hs=>h _ ?_
  obtain ⟨q,es,ep,hq,h2,h3,h4,_,h5⟩:=dd';refine d_write I (by rw [e]; exact True.intro) hs ⟨q,hq⟩ ⟨hl,hd,_,(rel.put k eb rv).keeps fun c ys ec=>?_,q,es,ep,hq,h2,h3,h4,h5⟩;rw [qJ (ne_of ec e (fun z=>nomatch z))];exact ec
end
section
variable {X:Cx} {pins:List (Addr×Obj)} {σ:St} {H:Hp} {s:Shared} {a:Addr} {kvs:List (Key×V)} {k:Key} {u:Value} {A:Around} {E:Value→Shared→Prop}
end
def NoSl (i:Expr):Prop:=∀ ov iv,subscripted i false ov iv=operate [ov,iv] (getItem ov iv)
theorem subD_of {prog:Program} {w:World} {A:Around} {E:Value→Shared→Prop} {s:Shared} {env:Env} {value slice:Expr} {pos:Pos} {T id:String} {Q:Value→Shared→Prop}
  (hl:typeLookup (.type T) "__getitem__" = pure (some (.builtin id))) (hs:NoSl slice)
  (h:wpAny (model prog w) A (eval value env) (fun o s₁=>wpAny (model prog w) A (eval slice env) (fun i s₂=>s₂.TypeIs o T∧wpAny (model prog w) A (getItem o i) Q E s₂) E s₁) E s) :
  wpAny (model prog w) A (eval (.Subscript value slice pos) env) Q E s:=by
 refine Subscript_ (wpAny_mono h (fun o s₁ h₁=>wpAny_mono h₁ (fun i s₂ h₂=>?_) fun _ _ x=>x) fun _ _ x=>x);obtain ⟨hT,h₂⟩:=h₂;unfold subscriptTail;refine wpAny_bind ?_;rw [getitemInPython_of_ne hT.not_modules];refine wpAny_bind (wpAny_specialOf hT hl ?_);have fin:wpAny (model prog w) A (subscripted slice false o i) (fun r s₃=>wpAny (model prog w) A (letTemporaryGo value o r >>= fun _=>pure r) Q E s₃) E s₂:=by
  rw [hs o i];exact wpAny_operating (wpAny_mono h₂ (fun r s₃ h₃=>wpAny_bind (wpAny_letTemporaryGo (wpAny_pure h₃))) fun _ _ x=>x)
 first
  | exact wpAny_pure (wpAny_bind fin)
  | exact wpAny_bind (wpAny_pure (wpAny_bind fin))
  | exact wpAny_bind fin
theorem dict_typeIs {X:Cx} {pins:List (Addr×Obj)} {σ:St} {H:Hp} {s:Shared} {a:Addr} {y:V} {o:Option V} (I:Inv X pins σ H s) (g:DGet H a y o):s.TypeIs (.ref a) "dict" := by
 rcases g with ⟨kvs,k,e,_,_⟩ | ⟨kvs,k,b,e,_,_,_⟩
 ·obtain ⟨_,_,vs,_,dd⟩:=dk_rd I.hok e
  exact dd.typeIs
 ·obtain ⟨_,_,xs,_,dd⟩:=dt_rd I.hok e
  exact dd.typeIs
def tDGet (td ty:TE):TE:=fun σ H Q=>td σ H fun x H1=>ty σ H1 fun y H2=>∃ a v,x=.ref a∧DGet H2 a y (some v)∧Q v H2
def tDNotIn (ty td:TE):TE:=fun σ H Q=>ty σ H fun y H1=>td σ H1 fun x H2=>∃ a o,x=.ref a∧DGet H2 a y o∧Q (.bl (!o.isSome)) H2
def sDPut (td ty tv:TE):TS:=fun D σ H=>tv σ H fun v H1=>td σ H1 fun x H2=>ty σ H2 fun y H3=>∃ a H4,x=.ref a∧DPut H3 a y v H4∧D.nx σ H4
section
variable {X:Cx} {o i e value:Expr} {pos pos' tpos:Pos} {td ty tv:TE}
theorem pe_dget (hu:X.A.units+1<cLine) (ho:PE X o td) (hi:PE X i ty) (hs:NoSl i:=by exact fun _ _=>rfl):PE X (.Subscript o i pos) (tDGet td ty):=by
 intro pins s σ H Q I h;refine subD_of PySem.F.slot_dict_getitem.lookup hs (thn (ho pins s σ H _ I h) fun u s1 ⟨x,H1,I1,rx,q1⟩=>thn (hi pins s1 σ H1 _ I1 q1) fun iv s2 ⟨y,H2,I2,ry,a,v,ex,g,q2⟩=>?_);subst ex;obtain rfl:u=Value.ref a:=rx;exact ⟨dict_typeIs I2 g,d_getItem hu I2 g ry fun w' s3 I3 rw'=>⟨v,H2,I3,rw',q2⟩⟩
theorem pc_dnotin (hu:X.A.units+1<cLine) (hi:PE X i ty) (ho:PE X o td):PC X .NotIn i o (tDNotIn ty td):=by
 intro pins s σ H Q I h;refine thn (hi pins s σ H _ I h) fun iv s1 ⟨y,H1,I1,ry,q1⟩=>thn (ho pins s1 σ H1 _ I1 q1) fun u s2 ⟨x,H2,I2,rx,a,ov,ex,g,q2⟩=>?_
 subst ex;obtain rfl:u=Value.ref a:=rx;exact d_notIn hu I2 g ry fun s3 I3=>⟨.bl (!ov.isSome),H2,I3,rfl,q2⟩
theorem ps_dput (hu:X.A.units+1<cLine) (ho:PE X o td) (hi:PE X i ty) (hv:PE X value tv) (hs:swapsWith value (some (.Subscript o i pos')) pos.line X.env=pure false) :
  PS X (.Assign [.Subscript o i pos'] value pos) (sDPut td ty tv):=by
 intro pins s σ H D I h;refine wpAny_Assign_Subscript (thn (hv pins s σ H _ I h) fun r s1 ⟨v,H1,I1,rv,q1⟩=>thn (ho pins s1 σ H1 _ I1 q1) fun u s2 ⟨x,H2,I2,rx,q2⟩=>thn (hi pins s2 σ H2 _ I2 q2) fun iv s3 ⟨y,H3,I3,ry,a,H4,ex,g,q3⟩=>?_) hs;subst ex;obtain rfl:u=Value.ref a:=rx;exact d_setItem hu I3 g ry rv fun s4 I4=>⟨σ,H4,I4,q3⟩
end
theorem dk_empty {P:Program} {w:World} {H:Hp} (h:Heap) (hb:sysModules<h.objs.size):ObjOk P w H (h.push { cls:=.type "dict",data:=.dict #[] }) h.objs.size (.dK []) :=
 ⟨Nat.zero_le _,beq_eq_false_iff_ne.mpr (Ne.symm (Nat.ne_of_lt hb)),[],.nil,Heap.DictOf.new h⟩
def tDNewK:TE:=fun _ H Q=>∀ p,H p=none→Q (.ref p) (upd H p (.dK []))
section
variable {X:Cx} {pos:Pos}
theorem pe_dnewK:PE X (.Dict [] [] pos) tDNewK:=fun pins s σ H Q I h =>
 wpAny_Dict_empty ⟨.ref s.heap.objs.size,_,I.laid (a:=s.heap.objs.size) (o:=.dK []) (t':=s.toks) (fun _ _ q=>Heap.get?_push_of_some _ q) (Nat.le_refl _) (dk_empty s.heap I.big),rfl,h _ (I.hok.fresh (Nat.le_refl _))⟩
end
structure M1 (X:Cx) (o:Expr) (m:Str) (apos:Pos) (e:Expr) (cpos:Pos):Prop where
 base:attributeBase o m X.env (eval o X.env)=eval o X.env
 few:((backTo cpos (starEach [e] X.env)).all (fun x=>!x.1)&&(backToKw cpos (keywordEach [] X.env)).all (fun x=>x.1.isSome)
  && decide (([e]:List Expr).length+([]:List Keyword).length+(if ([]:List Keyword).isEmpty then 0 else 1)<30))=true
 line:(apos.endLine==cpos.line)=true
 trees:backTo cpos (starEach [e] X.env)=[(false,eval e X.env)]
structure M2 (X:Cx) (o:Expr) (m:Str) (apos:Pos) (e f:Expr) (cpos:Pos):Prop where
 base:attributeBase o m X.env (eval o X.env)=eval o X.env
 few:((backTo cpos (starEach [e,f] X.env)).all (fun x=>!x.1)&&(backToKw cpos (keywordEach [] X.env)).all (fun x=>x.1.isSome)
  && decide (([e,f]:List Expr).length+([]:List Keyword).length+(if ([]:List Keyword).isEmpty then 0 else 1)<30))=true
 line:(apos.endLine==cpos.line)=true
 trees:backTo cpos (starEach [e,f] X.env)=[(false,eval e X.env),(false,eval f X.env)]
section
variable {X:Cx} {pins:List (Addr×Obj)} {σ:St} {H:Hp} {s:Shared} {a:Addr} {y d:V} {u r:Value} {o:Option V} {A:Around} {E:Value→Shared→Prop}
end
section
variable {X:Cx} {o e f:Expr} {apos cpos:Pos} {td ty tx:TE}
end
section
variable {X:Cx} {pins:List (Addr×Obj)} {σ:St} {H:Hp} {s:Shared} {a:Addr} {kvs:List (Key×V)} {A:Around} {E:Value→Shared→Prop}
end
section
variable {X:Cx} {pins:List (Addr×Obj)} {σ:St} {H:Hp} {s:Shared} {a:Addr} {y:V} {u:Value} {A:Around} {E:Value→Shared→Prop}
end
end L2
namespace Att
open PySem PySem.W PySem.Calls PyProof.Rows
section
variable {prog:Program} {w:World} {A:Around} {E:Value→Shared→Prop} {s:Shared} {K:Frag}
end
end Att
namespace L2
open PySem PySem.Spec PyProof.Rows
section
variable {P:Program} {w:World} {K:As} {mg:Str→Option Value} {base:Heap}
end
section
variable {X:Cx}
end
section
variable {κ:Type} [DecidableEq κ]
end
open BP
inductive Shp where
 | num
 | seq (s:Shp)
 | pair (a b:Shp)
def Dat:Shp→Type
 | .num=>Int
 | .seq s=>List (Dat s)
 | .pair a b=>Dat a×Dat b
def decDat:(s:Shp)→DecidableEq (Dat s)
 | .num=>inferInstanceAs (DecidableEq Int)
 | .seq s=>haveI:=decDat s; inferInstanceAs (DecidableEq (List (Dat s)))
 | .pair a b=>haveI:=decDat a; haveI:=decDat b; inferInstanceAs (DecidableEq (Dat a×Dat b))
instance datDec (s:Shp):DecidableEq (Dat s):=decDat s
def TupAt (h:Heap) (a:Addr) (vs:List Value):Prop:=∃ o items m,h.get? a=some o∧o.cls=.type "tuple" ∧ o.data=.seq items m∧items.toList=vs
def IsT:(s:Shp)→Heap→Dat s→Value→Prop
 | .num,_,i,v=>∃ k,v=.int i k
 | .seq s,h,l,v=>∃ a vs,v=.ref a∧TupAt h a vs∧Paired (IsT s h) l vs
 | .pair p q,h,x,v=>∃ a u w,v=.ref a∧TupAt h a [u,w]∧IsT p h x.1 u∧IsT q h x.2 w
def deep:Shp→Nat
 | .num=>0
 | .seq s=>deep s+1
 | .pair a b=>max (deep a) (deep b)+1
def hashT:(s:Shp)→Dat s→Int
 | .num,i=>hashInt i
 | .seq s,l=>reduceHash (Builtin.Tuple.tupleHashOf (l.map (hashT s)))
 | .pair a b,x=>reduceHash (Builtin.Tuple.tupleHashOf [hashT a x.1,hashT b x.2])
def drawT:(s:Shp)→Dat s→Nat
 | .num,_=>1
 | .seq s,l=>(l.map (drawT s)).sum+1
 | .pair a b,x=>drawT a x.1+drawT b x.2+1
theorem TupAt.one {h:Heap} {a:Addr} {vs ws:List Value} (p:TupAt h a vs) (q:TupAt h a ws):vs=ws:=by
 obtain ⟨o,i,m,e1,_,e2,e3⟩:=p;obtain ⟨o',i',m',f1,_,f2,f3⟩:=q;have eo:o=o':=Ap (e1.symm.trans f1);rw [eo,f2] at e2;have ei:i'=i:=by injection e2
 rw [← e3,← f3,ei]
theorem QV {α β:Type} {F:α→β→Prop} {l:List α} {vs:List β} (p:Paired F l vs):∀ {j:Nat} {v:β},vs[j]?=some v→∃ x,l[j]?=some x∧F x v:=by
 induction p with
 | nil=>intro j v e; simp at e
 | cons z _ ih =>
  intro j v e
  cases j with
  | zero=>exact ⟨_,rfl,(Ap e) ▸ z⟩
  | succ j=>exact ih (by simpa using e)
theorem paired_one {α β:Type} {F:α→β→Prop} (h:∀ x y v,F x v→F y v→x=y):∀ (l l':List α) (vs:List β),Paired F l vs→Paired F l' vs→l=l':=by
 intro l
 induction l with
 | nil=>intro l' vs p q; cases p; cases q; rfl
 | cons x l ih =>
  intro l' vs p q
  cases p with
  | cons z p=>cases q with
   | cons z' q=>rw [h _ _ _ z z',ih _ _ p q]
theorem IsT.one:∀ (s:Shp) {h:Heap} {x y:Dat s} {v:Value},IsT s h x v→IsT s h y v→x=y:=by
 intro s
 induction s with
 | num =>
  rintro h x y v ⟨k,rfl⟩ ⟨k',e⟩
  injection e
 | seq s ih =>
  rintro h (x:List (Dat s)) (y:List (Dat s)) v ⟨a,vs,rfl,t,p⟩ ⟨a',vs',e,t',p'⟩;have ea:a=a':=by injection e
  subst ea;rw [← t.one t'] at p';exact paired_one (F:=IsT s h) (fun _ _ _ z z'=>ih z z') x y vs p p'
 | pair p q ip iq =>
  rintro h x y v ⟨a,u,w,rfl,t,i1,i2⟩ ⟨a',u',w',e,t',j1,j2⟩;have ea:a=a':=by injection e
  subst ea;have el:=t.one t';have e1:u=u':=by injection el
  have e2:w=w':=by injection el with _ z; injection z
  subst e1 e2;exact Prod.ext (ip i1 j1) (iq i2 j2)
theorem TupAt.keep {h h':Heap} {a:Addr} {vs:List Value} (kp:∀ a o,h.get? a=some o→(∃ x m,o.data=.seq x m)→h'.get? a=some o) (t:TupAt h a vs):TupAt h' a vs:=by
 obtain ⟨o,i,m,e1,e2,e3,e4⟩:=t;exact ⟨o,i,m,kp a o e1 ⟨_,_,e3⟩,e2,e3,e4⟩
theorem IsT.keep {h h':Heap} (kp:∀ a o,h.get? a=some o→(∃ x m,o.data=.seq x m)→h'.get? a=some o):∀ (s:Shp) {x:Dat s} {v:Value},IsT s h x v→IsT s h' x v:=by
 intro s
 induction s with
 | num=>exact fun q=>q
 | seq s ih =>
  rintro x v ⟨a,vs,rfl,t,p⟩;exact ⟨a,vs,rfl,t.keep kp,Paired.mapP p fun _ _ z=>ih z⟩
 | pair p q ip iq =>
  rintro x v ⟨a,u,w,rfl,t,i1,i2⟩;exact ⟨a,u,w,rfl,t.keep kp,ip i1,iq i2⟩
section
variable {w:World} {prog:Program}
def HashAs (prog:Program) (w:World) (A:Around) (E:Value→Shared→Prop) (h:Heap) (kn:Int×Nat) (v:Value):Prop:=∀ (s:Shared) (Q:Int→Shared→Prop),s.heap=h→Q kn.1 { s with toks:=s.toks+kn.2 }→wpAny (model prog w) A (pyHash v) Q E s
theorem hash_all {A:Around} {E:Value→Shared→Prop} {h:Heap} {f:Value→Array Int→Sem (ForInStep (Array Int))} (hf:∀ x r,f x r=(pyHash x >>= fun k=>pure (.yield (r.push k)))) :
  ∀ (xs:List (Int×Nat)) (vs:List Value) (b:Array Int) (s:Shared) (Q:Array Int→Shared→Prop),s.heap=h→Paired (HashAs prog w A E h) xs vs→Q (b++(xs.map (·.1)).toArray) { s with toks:=s.toks+(xs.map (·.2)).sum }→wpAny (model prog w) A (forIn vs b f) Q E s:=by
 intro xs
 induction xs with
 | nil =>
  intro vs b s Q _ p q
  cases p
  rw [List.forIn_nil];exact wpAny_pure (by simpa using q)
 | cons x xs re =>
  intro vs b s Q eh p q
  cases p with
  | cons z p =>
   rw [List.forIn_cons,hf];refine wpAny_bind <| wpAny_bind <| z s _ eh <| wpAny_pure <| re _ _ _ _ eh p ?_
   simpa [Nat.add_assoc] using q
theorem hash_tup {A:Around} {E:Value→Shared→Prop} {s:Shared} {a:Addr} {vs:List Value} {xs:List (Int×Nat)} {Q:Int→Shared→Prop} (hu:A.units<cLine) (t:TupAt s.heap a vs) (p:∀ E,Paired (HashAs prog w A.in1 E s.heap) xs vs) (q:Q (reduceHash (Builtin.Tuple.tupleHashOf (xs.map (·.1)))) { s with toks:=s.toks+((xs.map (·.2)).sum+1) }):wpAny (model prog w) A (pyHash (.ref a)) Q E s:=by
 obtain ⟨o,items,m,e3,e4,e5,e6⟩:=t;have hT:s.TypeIs (.ref a) "tuple" := ⟨o,e3,e4⟩;change wpAny _ _ (pyHashByItsType (.ref a)) Q E s;refine PySem.W.pyHash_slot hT F.slot_tuple_hash F.entry_tuple_hash (F.args_tuple_hash_1 _) (beq_builtin_none _) (.inr hu) <| wpAny_bind <| wpAny_of_eq (a:=(.ref a,[])) rfl <| wpAny_bind <| wpAny_tupleItemsOf e3 e5 <| wpAny_bind ?_;rw [← Array.forIn_toList,e6];refine hash_all (fun _ _=>rfl) xs _ _ s _ rfl (p _) ?_;dsimp only;rw [Array.empty_append,List.toList_toArray];exact wpAny_bind <| wpAny_mkInt <| wpAny_pure ⟨_,_,rfl,q⟩
theorem hash_is:∀ (sh:Shp) {A:Around} {E:Value→Shared→Prop} {h:Heap} {x:Dat sh} {v:Value},A.units+deep sh<cLine→IsT sh h x v→HashAs prog w A E h (hashT sh x,drawT sh x) v:=by
 intro sh
 induction sh with
 | num =>
  rintro A E h x v _ ⟨k,rfl⟩ s Q _ q;exact wpAny_pyHash_int q
 | seq sh ih =>
  rintro A E h (x:List (Dat sh)) v hu ⟨a,vs,rfl,t,p⟩ s Q rfl q;have hd:deep (.seq sh)=deep sh+1:=rfl;refine hash_tup (xs:=x.map fun y=>(hashT sh y,drawT sh y)) (by omega) t (fun E=>?_) ?_
  ·clear q t
   induction p with
   | nil=>exact .nil
   | cons z _ ip=>exact .cons (ih (by show A.units+1+deep sh<cLine; omega) z) ip
  ·rw [List.map_map,List.map_map]
   exact q
 | pair b c ib ic =>
  rintro A E h x v hu ⟨a,u,w',rfl,t,i1,i2⟩ s Q rfl q;have hd:deep (.pair b c)=max (deep b) (deep c)+1:=rfl;refine hash_tup (xs:=[(hashT b x.1,drawT b x.1),(hashT c x.2,drawT c x.2)]) (by omega) t (fun E=>.cons (ib (by show A.units+1+deep b<cLine; omega) i1) (.cons (ic (by show A.units+1+deep c<cLine; omega) i2) .nil)) ?_;have q':Q (reduceHash (Builtin.Tuple.tupleHashOf [hashT b x.1,hashT c x.2])) { s with toks:=s.toks+(drawT b x.1+drawT c x.2+1) }:=q
  simpa using q'
end
section
theorem TupAt.tup {h:Heap} {a:Addr} {vs:List Value} (t:TupAt h a vs):h.IsTuple a vs.toArray:=by
 obtain ⟨o,items,m,e1,e2,e3,e4⟩:=t;subst e4;exact ⟨o,e1,e2,m,by rw [e3]⟩
theorem list_same {α:Type} [DecidableEq α] (l m:List α):((List.range (min l.length m.length)).all (fun j=>decide (l[j]?=m[j]?))&&l.length==m.length)=decide (l=m):=by
 by_cases h:l.length=m.length
 ·rw [← h,Nat.min_self,beq_self_eq_true,Bool.and_true]
  exact list_ext_all h
 ·rw [show (l.length==m.length)=false from beq_false_of_ne h,Bool.and_false,decide_eq_false fun z=>h (congrArg _ z)]
theorem eq_is:∀ (sh:Shp) {A:Around} {s:Shared} {x y:Dat sh} {u v:Value},A.units+deep sh<cLine→IsT sh s.heap x u→IsT sh s.heap y v→SeqAt.EqAt A s u v (decide (x=y)):=by
 intro sh
 induction sh with
 | num =>
  rintro A s (x:Int) (y:Int) u v _ ⟨k,rfl⟩ ⟨k',rfl⟩;have e:(x==y)=decide (x=y):=rfl;exact e ▸ SeqAt.EqAt.int_int x k y k'
 | seq sh ih =>
  rintro A s x y u v hu p q;have hd:deep (.seq sh)=deep sh+1:=rfl;have p':=p;obtain ⟨a,vs,rfl,t,f⟩:=p;have q':=q;obtain ⟨b,ws,rfl,t',g⟩:=q
  by_cases ab:a=b
  ·subst ab
   rw [decide_eq_true (IsT.one (.seq sh) p' q')];exact SeqAt.EqAt.same _
  ·have lf:=Paired.length f
   have lg:=Paired.length g;obtain ⟨l,el⟩:∃ l:List (Dat sh),l=x:=⟨x,rfl⟩;obtain ⟨m,em⟩:∃ m:List (Dat sh),m=y:=⟨y,rfl⟩;rw [← el] at f lf;rw [← em] at g lg;have r:=SeqAt.RcAt.tuples (A:=A) (e:=fun j=>decide (l[j]?=m[j]?)) t.tup t'.tup (by omega) fun j h1 h2=>by
    have h1:j<vs.length:=by simpa using h1
    have h2:j<ws.length:=by simpa using h2
    obtain ⟨d,e1,i1⟩:=QV f (A4 h1);obtain ⟨d',e2,i2⟩:=QV g (A4 h2);rw [e1,e2];have e:decide (some d=some d')=decide (d=d'):=decide_eq_decide.mpr ⟨Ap,congrArg some⟩;rw [e,List.getElem_toArray,List.getElem_toArray];exact ih (by show A.units+1+deep sh<cLine; omega) i1 i2
   rw [List.size_toArray,List.size_toArray,← lf,← lg,list_same] at r;have e:decide (l=m)=decide (x=y):=decide_eq_decide.mpr (by subst el em; exact Iff.rfl);rw [e] at r;exact SeqAt.EqAt.of_refs ab r
 | pair c d ic id =>
  rintro A s x y u v hu p q;have hd:deep (.pair c d)=max (deep c) (deep d)+1:=rfl;have p':=p;obtain ⟨a,u1,u2,rfl,t,i1,i2⟩:=p;have q':=q;obtain ⟨b,w1,w2,rfl,t',j1,j2⟩:=q
  by_cases ab:a=b
  ·subst ab
   rw [decide_eq_true (IsT.one (.pair c d) p' q')];exact SeqAt.EqAt.same _
  ·have r:=SeqAt.RcAt.tuples (A:=A) (e:=fun j=>match j with | 0=>decide (x.1=y.1) | _=>decide (x.2=y.2)) t.tup t'.tup (by omega) fun j h1 h2=>by
    match j,h1,h2 with
    | 0,_,_=>exact ic (by show A.units+1+deep c<cLine; omega) i1 j1
    | 1,_,_=>exact id (by show A.units+1+deep d<cLine; omega) i2 j2
    | j+2,h1,_=>exact absurd h1 (by simp)
   have e:((List.range (min [u1,u2].toArray.size [w1,w2].toArray.size)).all (fun j=>match j with | 0=>decide (x.1=y.1) | _=>decide (x.2=y.2))&&[u1,u2].toArray.size==[w1,w2].toArray.size)=decide (x=y):=by
    have k:x=y↔x.1=y.1∧x.2=y.2:=Prod.ext_iff;rw [decide_eq_decide.mpr k];show ((decide (x.1=y.1)&&(decide (x.2=y.2)&&true))&&true)=_;rw [Bool.and_true,Bool.and_true];exact (Bool.decide_and _ _).symm
   rw [e] at r;exact SeqAt.EqAt.of_refs ab r
theorem loop_still {α β:Type} {M:Model} {A:Around} {E:Value→Shared→Prop} {s:Shared} {r:β} {f:α→β→Sem (ForInStep β)} {Q:β→Shared→Prop}:∀ (vs:List α),(∀ y∈vs,∀ Q':ForInStep β→Shared→Prop,Q' (.yield r) s→wpAny M A (f y r) Q' E s)→Q r s→wpAny M A (forIn vs r f) Q E s:=by
 intro vs
 induction vs with
 | nil =>
  intro _ q;rw [List.forIn_nil];exact wpAny_pure q
 | cons v vs ih =>
  intro hf q;rw [List.forIn_cons];exact wpAny_bind <| hf v Af _ <| ih (fun y hy=>hf y (A9 _ hy)) q
theorem quiet_tup {M:Model} {A:Around} {E:Value→Shared→Prop} {s:Shared} {a:Addr} {vs:List Value} {n:Nat} {Q:Bool→Shared→Prop} (t:TupAt s.heap a vs) (p:∀ y∈vs,∀ Q':Bool→Shared→Prop,Q' true s→wpAny M A (eqIsQuiet n y) Q' E s) (q:Q true s):wpAny M A (eqIsQuiet (n+1) (.ref a)) Q E s:=by
 obtain ⟨o,items,m,e3,e4,e5,e6⟩:=t;have hT:s.TypeIs (.ref a) "tuple" := ⟨o,e3,e4⟩;unfold eqIsQuiet;refine wpAny_bind <| wpAny_specialOf hT F.slot_tuple_eq.lookup <| (show wpAny _ _ (isInstance (.ref a) (.type "tuple") >>= _) _ _ s from wpAny_bind <| wpAny_isInstance hT isSubtype_tuple_tuple ?_);rw [show (!true)=false from rfl,if_neg Bool.false_ne_true];refine wpAny_bind <| wpAny_seqItems e3 e5 <| wpAny_bind ?_;change wpAny _ _ (forIn items _ _) _ _ s;rw [← Array.forIn_toList,e6];refine loop_still vs (fun y hy Q' q'=>wpAny_bind <| p y hy _ ?_) ?_
 ·rw [show (!true)=false from rfl,if_neg Bool.false_ne_true]
  exact wpAny_pure q'
 ·exact wpAny_pure q
theorem quiet_is {M:Model} {A:Around} {E:Value→Shared→Prop} {s:Shared}:∀ (sh:Shp) {n:Nat} {x:Dat sh} {v:Value} {Q:Bool→Shared→Prop},deep sh≤n→IsT sh s.heap x v→Q true s→wpAny M A (eqIsQuiet n v) Q E s:=by
 intro sh
 induction sh with
 | num =>
  rintro n x v Q _ ⟨k,rfl⟩ q;rw [eqIsQuiet_byValue n (v:=.int x k) rfl];exact wpAny_pure q
 | seq sh ih =>
  rintro n x v Q hn ⟨a,vs,rfl,t,p⟩ q;have hd:deep (.seq sh)=deep sh+1:=rfl;obtain ⟨m,rfl⟩:=Nat.exists_eq_add_one.mpr (show 0<n by omega);refine quiet_tup t (fun y hy Q' q'=>?_) q;obtain ⟨j,hj⟩:=Aa hy;obtain ⟨z,_,i⟩:=QV p hj;exact ih (by omega) i q'
 | pair b c ib ic =>
  rintro n x v Q hn ⟨a,u,w,rfl,t,i1,i2⟩ q;have hd:deep (.pair b c)=max (deep b) (deep c)+1:=rfl;obtain ⟨m,rfl⟩:=Nat.exists_eq_add_one.mpr (show 0<n by omega);refine quiet_tup t (fun y hy Q' q'=>?_) q
  rcases List.mem_cons.mp hy with rfl | my
  ·exact ib (by omega) i1 q'
  ·rw [Ae.mp my]
   exact ic (by omega) i2 q'
def Zz (prog:Program) (w:World) (sh:Shp) (h8:deep sh≤8):HeapKind prog w (Dat sh) where
 is:=fun h k a=>IsT sh h k (.ref a)
 hash:=hashT sh
 draws:=drawT sh
 room:=fun A=>A.units+deep sh<cLine
 inj:=fun p q=>IsT.one sh p q
 keeps:=fun p e1 e2 k=>IsT.keep (fun a o e ⟨_,_,z⟩=>(k.2 a fun ed=>by
  subst ed;rw [Ap (e.symm.trans e1),e2] at z
  cases z).trans e) sh p
 pyHash:=fun r p q=>hash_is sh r p _ _ rfl q
 eqBool:=fun r p q h=>eq_is sh r p q _ _ _ _ h
 quiet:=fun p q=>quiet_is sh h8 p q
end
def TrV (K:As) (H:Hp):(sh:Shp)→Dat sh→V→Prop
 | .num,i,v=>v=.int i
 | .seq sh,l,v=>∃ p vs,v=.ref p∧SqT K H p vs∧Paired (TrV K H sh) l vs
 | .pair a b,x,v=>∃ p u w,v=.ref p∧SqT K H p [u,w]∧TrV K H a x.1 u∧TrV K H b x.2 w
theorem TrV.mono {K:As} {H H':Hp} (g:Same H H'):∀ (sh:Shp) {x:Dat sh} {v:V},TrV K H sh x v→TrV K H' sh x v:=by
 intro sh
 induction sh with
 | num=>exact fun h=>h
 | seq sh ih =>
  rintro x v ⟨p,vs,rfl,t,f⟩;exact ⟨p,vs,rfl,g.tup t,Paired.mapP f fun _ _ z=>ih z⟩
 | pair a b ia ib =>
  rintro x v ⟨p,u,w,rfl,t,f1,f2⟩;exact ⟨p,u,w,rfl,g.tup t,ia f1,ib f2⟩
section
variable {X:Cx} {pins:List (Addr×Obj)} {σ:St} {H:Hp} {s:Shared}
theorem tup_at (I:Inv X pins σ H s) {p:Addr} {vs:List V} (t:SqT X.K H p vs):∃ its,Vals vs its∧TupAt s.heap p its:=by
 obtain ⟨its,r,⟨o,e1,e2,n,e3⟩,_⟩:=I.tuple t;exact ⟨its,r,o,_,n,e1,e2,e3,by simp⟩
theorem paired_comp {α β γ:Type} {F:α→β→Prop} {G:β→γ→Prop} {J:α→γ→Prop} (h:∀ x y z,F x y→G y z→J x z) {l:List α} {m:List β} {k:List γ} (p:Paired F l m):Paired G m k→Paired J l k:=by
 induction p generalizing k with
 | nil=>intro q; cases q; exact .nil
 | cons z _ ih =>
  intro q
  cases q with
  | cons z' q=>exact .cons (h _ _ _ z z') (ih q)
theorem trv_is (I:Inv X pins σ H s):∀ (sh:Shp) {x:Dat sh} {v:V} {u:Value},TrV X.K H sh x v→RelV v u→IsT sh s.heap x u:=by
 intro sh
 induction sh with
 | num =>
  rintro x v u rfl r;obtain ⟨t,rfl⟩:=r;exact ⟨t,rfl⟩
 | seq sh ih =>
  rintro x v u ⟨p,vs,rfl,t,f⟩ r;obtain ⟨its,rv,ta⟩:=tup_at I t;exact ⟨p,its,ref_val r,ta,paired_comp (F:=TrV X.K H sh) (G:=RelV) (J:=IsT sh s.heap) (fun _ _ _ z y=>ih z y) f rv⟩
 | pair a b ia ib =>
  rintro x v u ⟨p,y,z,rfl,t,f1,f2⟩ r;obtain ⟨its,rv,ta⟩:=tup_at I t
  cases rv with
  | cons r1 rv=>cases rv with
   | cons r2 rv =>
    cases rv
    exact ⟨p,_,_,ref_val r,ta,ia f1 r1,ib f2 r2⟩
def DicAt (P:Program) (w:World) (sh:Shp) (h8:deep sh≤8) (d:Addr) (ks:List (Dat sh×Addr×Int)) (h:Heap):Prop:=(d==sysModules)=false∧∃ xs:List (Dat sh×Addr×Value),Paired (fun k x=>x.1=k.1∧x.2.1=k.2.1∧∃ t,x.2.2=.int k.2.2 t) ks xs∧∃ o es ep,h.get? d=some o∧o.ExactDict∧o.data=.dict es ep∧es.toList=xs.map (entryOfKey (Zz P w sh h8))
def KeysV (K:As) (H:Hp) (sh:Shp) (ks:List (Dat sh×Addr×Int)):Prop:=(∀ k∈ks,TrV K H sh k.1 (.ref k.2.1))∧(ks.map (·.1)).Nodup
theorem keys_same {sh:Shp} {ks:List (Dat sh×Addr×Int)} {xs:List (Dat sh×Addr×Value)} (p:Paired (fun k x=>x.1=k.1∧x.2.1=k.2.1∧∃ t,x.2.2=Value.int k.2.2 t) ks xs):xs.map (·.1)=ks.map (·.1):=by
 induction p with
 | nil=>rfl
 | cons z _ ih=>exact congr (congrArg List.cons z.1) ih
theorem DicAt.still {P:Program} {w:World} {sh:Shp} {h8:deep sh≤8} {d:Addr} {ks:List (Dat sh×Addr×Int)} (h1 h2:Heap) (q:DicAt P w sh h8 d ks h1) (k:∀ o,h1.get? d=some o→h2.get? d=some o):DicAt P w sh h8 d ks h2:=by
 obtain ⟨n,xs,p,o,es,ep,e1,r⟩:=q;exact ⟨n,xs,p,o,es,ep,k o e1,r⟩
theorem dic_of (I:Inv X pins σ H s) {sh:Shp} {h8:deep sh≤8} {d:Addr} {ks:List (Dat sh×Addr×Int)} (kv:KeysV X.K H sh ks) (hd:H d=some (.ext (DicAt X.prog X.w sh h8 d ks))):(d==sysModules)=false∧∃ xs,Paired (fun k x=>x.1=k.1∧x.2.1=k.2.1∧∃ t,x.2.2=.int k.2.2 t) ks xs∧s.heap.DictOfH (Zz X.prog X.w sh h8) d xs:=by
 obtain ⟨⟨n,xs,p,o,es,ep,e1,e2,e3,e4⟩,_⟩:=(show ObjOk X.prog X.w H s.heap d (.ext (DicAt X.prog X.w sh h8 d ks)) from I.hok d _ hd);refine ⟨n,xs,p,o,es,ep,e1,e2,e3,e4,fun x hx=>?_,?_⟩
 ·obtain ⟨j,hj⟩:=Aa hx
  obtain ⟨k,ek,q1,q2,_⟩:=QV p hj;rw [q1,q2];exact trv_is I sh (kv.1 k (A8 ek)) rfl
 ·rw [keys_same p]
  exact kv.2
def atT {sh:Shp} (ks:List (Dat sh×Addr×Int)) (k:Dat sh):Option Int:=(ks.find? fun x=>decide (x.1=k)).map (·.2.2)
theorem at_same {sh:Shp} {ks:List (Dat sh×Addr×Int)} {xs:List (Dat sh×Addr×Value)} {k:Dat sh} (p:Paired (fun k x=>x.1=k.1∧x.2.1=k.2.1∧∃ t,x.2.2=Value.int k.2.2 t) ks xs):match atT ks k with | none=>atKey xs k=none | some i=>∃ a t,atKey xs k=some (a,.int i t):=by
 unfold atT atKey
 induction p with
 | nil=>rfl
 | @cons y x _ _ z _ ih =>
  obtain ⟨z1,z2,t,z3⟩:=z;rw [List.find?_cons,List.find?_cons,z1]
  by_cases c:y.1=k
  ·rw [decide_eq_true c]
   exact ⟨x.2.1,t,by show some x.2=_; rw [← z3]⟩
  ·rw [decide_eq_false c]
   exact ih
def rNotInD (X:Cx) (sh:Shp) (h8:deep sh≤8):R2:=fun x y H Q=>∃ (a d:Addr) (k:Dat sh) (ks:List (Dat sh×Addr×Int)),x=.ref a∧y=.ref d∧TrV X.K H sh k (.ref a)∧H d=some (.ext (DicAt X.prog X.w sh h8 d ks))∧KeysV X.K H sh ks∧Q (.bl (!(atT ks k).isSome)) H
theorem op_notInD {sh:Shp} {h8:deep sh≤8} (hu:X.A.units+64<cLine):OpR X (compareOp .NotIn) (rNotInD X sh h8):=by
 intro pins s σ H x y v u Q I rx ry h;obtain ⟨a,d,k,ks,rfl,rfl,tk,hd,kv,q⟩:=h
 cases rx
 cases ry
 obtain ⟨n,xs,p,hm⟩:=dic_of I kv hd;refine wpAny_notIn_heap (knd:=Zz X.prog X.w sh h8) (k:=k) (by show X.A.units+1+deep sh<cLine; omega) (trv_is I sh tk rfl) n hm ⟨.bl (!(atT ks k).isSome),H,I.tok _,?_,q⟩;have e:(atKey xs k).isSome=(atT ks k).isSome:=by
  have z:=at_same (k:=k) p
  cases c:atT ks k with
  | none=>rw [c] at z; rw [z]; rfl
  | some i=>rw [c] at z; obtain ⟨b,t,z⟩:=z; rw [z]; rfl
 rw [e];rfl
def rIxD (X:Cx) (sh:Shp) (h8:deep sh≤8):R2:=fun x y H Q=>∃ (d a:Addr) (k:Dat sh) (ks:List (Dat sh×Addr×Int)) (i:Int),x=.ref d∧y=.ref a∧TrV X.K H sh k (.ref a)∧H d=some (.ext (DicAt X.prog X.w sh h8 d ks))∧KeysV X.K H sh ks∧atT ks k=some i∧Q (.int i) H
theorem ix_dicT {sh:Shp} {h8:deep sh≤8} (hu:X.A.units+64<cLine):IxR X (rIxD X sh h8):=by
 intro value slice pins s σ H x y v u Q I rx ry h hs;obtain ⟨d,a,k,ks,i,rfl,rfl,tk,hd,kv,hi,q⟩:=h
 cases rx
 cases ry
 obtain ⟨n,xs,p,hm⟩:=dic_of I kv hd;have z:=at_same (k:=k) p;rw [hi] at z;obtain ⟨b,t,z⟩:=z;exact subscriptTail_builtinR (x:=.int i t) hm.typeIs slot_dict_getitem.lookup (wpAny_getItem_heap (knd:=Zz X.prog X.w sh h8) (k:=k) (Q:=fun r s'=>r=.int i t∧EP X pins σ Q r s') (by show X.A.units+1+deep sh<cLine; omega) (trv_is I sh tk rfl) hm z ⟨rfl,.int i,H,I.tok _,⟨t,rfl⟩,q⟩) hs
def rSetD (X:Cx) (sh:Shp) (h8:deep sh≤8):TSet:=fun x y v H Q=>∃ (d a:Addr) (k:Dat sh) (ks:List (Dat sh×Addr×Int)) (i:Int),x=.ref d∧y=.ref a∧v=.int i∧TrV X.K H sh k (.ref a)∧H d=some (.ext (DicAt X.prog X.w sh h8 d ks))∧KeysV X.K H sh ks∧atT ks k=none∧ks.length≤1000∧Q (upd H d (.ext (DicAt X.prog X.w sh h8 d (ks++[(k,a,i)]))))
theorem set_dicT {sh:Shp} {h8:deep sh≤8} (hu:X.A.units+64<cLine):PSet X (rSetD X sh h8):=by
 intro pins s σ H x y v xv yv u Q I rx ry rv h;obtain ⟨d,a,k,ks,i,rfl,rfl,rfl,tk,hd,kv,hi,hl,q⟩:=h
 cases rx
 cases ry
 obtain ⟨t,rfl⟩:=rv;obtain ⟨n,xs,p,hm⟩:=dic_of I kv hd;have z:=at_same (k:=k) p;rw [hi] at z;have lp:=Paired.length p;have hsl:sizeLine=16777216:=sizeLine_eq;refine wpAny_setItem_heap (knd:=Zz X.prog X.w sh h8) (k:=k) (by show X.A.units+1+deep sh<cLine; omega) (trv_is I sh tk rfl) hm (fun h' hm' sb=>⟨_,I.write (x:=d) (e:=d) (t':=s.toks+(Zz X.prog X.w sh h8).draws k) (by rw [hd]; trivial) (.inl rfl) (fun b o nb e=>(sb.2 b nb).trans e) ?_ ?_,q⟩) (by omega)
 ·obtain ⟨o,_,_,e,_⟩:=hm'
  exact ⟨o,e⟩
 ·have es:storedH xs k a (.int i t)=xs++[(k,a,.int i t)]:=by
   unfold storedH;rw [z];rfl
  rw [es] at hm';obtain ⟨o,es,ep,e1,e2,e3,e4,_⟩:=hm';exact ⟨⟨n,_,Paired.snoc p ⟨rfl,rfl,t,rfl⟩,o,es,ep,e1,e2,e3,e4⟩,⟨o,e1⟩,DicAt.still⟩
def tDicT0 (X:Cx) (sh:Shp) (h8:deep sh≤8):TE:=fun _ H Q=>∀ d,H d=none→Q (.ref d) (upd H d (.ext (DicAt X.prog X.w sh h8 d [])))
theorem pe_dicT0 {sh:Shp} {h8:deep sh≤8} {pos:Pos}:PE X (.Dict [] [] pos) (tDicT0 X sh h8):=fun pins s σ H Q I h=>by
 have far:sysModules<s.heap.objs.size:=Nat.lt_trans (by decide) (I.mod.glob.keeps I.bk).lt;refine wpAny_Dict_empty ⟨.ref s.heap.objs.size,_,I.laid (t':=s.toks) (fun _ _ e=>Heap.get?_push_of_some _ e) (Nat.le_refl _) (o:=.ext (DicAt X.prog X.w sh h8 s.heap.objs.size [])) ?_,rfl,h _ (I.hok.fresh (Nat.le_refl _))⟩;exact ⟨⟨beq_eq_false_iff_ne.mpr (Nat.ne_of_gt far),[],.nil,_,_,_,Heap.get?_push_size _ rfl,⟨rfl,rfl,rfl⟩,rfl,rfl⟩,⟨_,Heap.get?_push_size _ rfl⟩,DicAt.still⟩
end
section
variable {X:Cx}
theorem call_sortedI:CallR X (.builtin "sorted") (fun xs H Q=>∃ (p:Addr) (ns:List Int),xs=[.ref p]∧SqL X.K H p (ns.map V.int)∧ns.length<64∧∀ (l:Addr) (ns':List Int),ns'.Perm ns→ns'.Pairwise (·≤·)→H l=none→Q (.ref l) (upd H l (.lst (ns'.map V.int)))):=by
 intro pins s σ H xs us Q I r h;obtain ⟨p,ns,rfl,hp,small,q⟩:=h;obtain ⟨u,rfl,rx⟩:=vals1 r
 cases rx
 obtain ⟨its,rv,pl,_⟩:=I.list hp;have ln:=rv.length;rw [Al] at ln;refine sorted_ints pl.isList (ints_are rv) (by omega) fun out ns' a1 a2 a3=>?_
 obtain ⟨e,he⟩:=sortedAll_at s.heap its out;have rr:=Z9 a1;refine ⟨.ref (s.heap.objs.size+1),_,I.laid (t':=s.toks) (fun _ _=>sortedAll_old) (Nat.le_succ _) (show ObjOk X.prog X.w _ (sortedAll s.heap its out) _ (.lst (ns'.map V.int)) from ⟨?_,out.toList,e,rr,by simpa [seqObj] using he⟩),rfl,q _ ns' a2 a3 (I.hok.fresh (Nat.le_succ _))⟩;have hs:sizeLine=16777216:=sizeLine_eq;have:=a2.length_eq;rw [Al];omega
end
section
variable {prog:Program} {w:World} {A:Around} {E:Value→Shared→Prop} {s:Shared} {d:Addr}
theorem coll_dic {K:Type} [DecidableEq K] {knd:KeyKind prog w K} {kvs:List (K×Value)} {ep:Nat} {R:Result→Shared→Prop} (hh:A.handled=none) (lo:(d==sysModules)=false) (hm:s.heap.DictAt knd d kvs ep) (hn:kvs.length≤sizeLine)
  (hR:∀ h' tk (acc:Array Value) c,(∀ b o,s.heap.get? b=some o→h'.get? b=some o)→h'.get? s.heap.objs.size=some { cls:=.type "list",dict:=none,data:=.seq acc c,slots:=#[] }→ItemsOf (fun i v=>∃ k,∃ x,kvs[i]?=some (k,x)∧knd.is k v=true) acc kvs.length→R (.ok (.ret (.ref s.heap.objs.size))) { s with heap:=h',toks:=tk }):codeAny (model prog w) A (.builtin "proto.collect" ⟨[.ref d],[]⟩) R s:=by
 have nd:s.heap.objs.size≠d:=Nat.ne_of_gt hm.lt_size;refine codeAny_builtin F.entry_proto_collect ?_;rw [Around.under_plainId F.plain_proto_collect];change wpAny _ A.in1 (newList [] >>= fun l=>again (.builtin "list.__iadd__" ⟨[l,.ref d],[]⟩)) _ _ s;refine wpAny_bind <| wpAny_newObj_type <| wpAny_pure ⟨plainId_quiet F.plain_list_iadd _,codeAny_builtin F.entry_list_iadd ?_⟩;rw [Around.under_plainId F.plain_list_iadd];have hS:(s.heap.push { cls:=.type "list",data:=.seq ([]:List Value).toArray }).get? s.heap.objs.size=some { cls:=.type "list",data:=.seq #[] }:=Heap.get?_push_size _ rfl;exact PySem.W.kdl_extend (R:=R) (s:={ s with heap:=s.heap.push { cls:=.type "list",data:=.seq ([]:List Value).toArray } }) (PySem.W.kdl_dict (knd:=knd) (kvs:=kvs) (ep:=ep) lo) hh (hm.push _) _ nd nd (.ref s.heap.objs.size) _ hS (fun h' tk acc c kp e ha=>hR h' tk acc c (fun b o eb=>kp b o (Nat.ne_of_lt (Heap.lt_size eb)) (Heap.get?_push_of_some _ eb)) e ha) hn
theorem collect_dic {K:Type} [DecidableEq K] {knd:KeyKind prog w K} {kvs:List (K×Value)} {ep:Nat} {Q:List Value→Shared→Prop} (hh:A.handled=none) (lo:(d==sysModules)=false) (hm:s.heap.DictAt knd d kvs ep) (hn:kvs.length≤sizeLine)
  (hQ:∀ h' tk vs,(∀ b o,s.heap.get? b=some o→h'.get? b=some o)→s.heap.objs.size≤h'.objs.size→vs.length=kvs.length→(∀ (j:Nat) (v:Value),vs[j]?=some v→∃ k,∃ x,kvs[j]?=some (k,x)∧knd.is k v=true)→Q vs { s with heap:=h',toks:=tk }):wpAny (model prog w) A (collect (.ref d)) Q E s:=by
 unfold collect;refine wpAny_bind <| wpAny_runValue <| coll_dic hh lo hm hn fun h' tk acc c kp e ha=>?_
 change wpAny _ A (load s.heap.objs.size >>= _) _ _ _;refine wpAny_bind <| wpAny_load e <| wpAny_pure <| hQ h' tk acc.toList kp (Nat.le_of_lt (Heap.lt_size e)) ?_ fun j v ev=>ha.2 j v (by simpa using ev)
 rw [Array.length_toList];exact ha.1
theorem ints_at:∀ {vs:List Value} {ns:List Int},vs.length=ns.length→(∀ (j:Nat) (v:Value),vs[j]?=some v→∃ n t,ns[j]?=some n∧v=.int n t)→IntsAre vs ns
 | [],[],_,_=>.nil
 | x::vs,n::ns,el,h=>by
  obtain ⟨m,t,e,rfl⟩:=h 0 x rfl;have em:n=m:=Ap e;subst em;exact .cons _ _ (ints_at (by simpa using el) fun j u eu=>by simpa using h (j+1) u (by simpa using eu))
 | [],_::_,el,_=>nomatch el
 | _::_,[],el,_=>nomatch el
theorem sorted_dic {kvs:List (Key×Value)} {ep:Nat} {ns:List Int} {Q:Value→Shared→Prop} (hh:A.handled=none) (lo:(d==sysModules)=false) (hm:s.heap.DictAt (v8 prog w) d kvs ep) (hk:kvs.map (·.1)=ns.map Sum.inl) (hn:kvs.length<64)
  (hQ:∀ (h':Heap) (tk:Nat) (l:Addr) (out:Array Value) (e:Nat) (ns':List Int),(∀ b o,s.heap.get? b=some o→h'.get? b=some o)→s.heap.objs.size≤l→h'.get? l=some (seqObj "list" out e)→IntsAre out.toList ns'→ns'.Perm ns→ns'.Pairwise (·≥·)→Q (.ref l) { s with heap:=h',toks:=tk }) :
  wpAny (model prog w) A (call (.builtin "sorted") [.ref d] [(Str.ofString "reverse",.bool true)]) Q E s:=by
 have hsl:sizeLine=16777216:=sizeLine_eq;refine call_function_entry_kw kind_sorted plain_sorted entry_sorted (args_sorted_rev _ _) ?_; unfold Builtin.«sorted»; refine wpAny_bind (m:=checkCount "sorted" 1 1 _) <| wpAny_pure <| wpAny_bind <| collect_dic (A:=A.in1) hh lo hm (by omega) fun h1 tk vs kp sz lv hv=>wpAny_bind <| wpAny_newList ?_
 have hI:IntsAre vs ns:=ints_at (by rw [lv,← Al (f:=(·.1)) (as:=kvs),hk,Al]) fun j v ev=>by
  obtain ⟨k,x,e1,e2⟩:=hv j v ev;have e3:(ns.map (Sum.inl (β:=Str)))[j]?=some k:=by rw [← hk,List.getElem?_map,e1]; rfl
  rw [List.getElem?_map] at e3
  cases c:ns[j]? with
  | none=>rw [c] at e3; cases e3
  | some n =>
   rw [c] at e3;have ek:Sum.inl n=k:=Ap e3;subst ek;obtain ⟨t,ev⟩:=Value.isInt_shape e2;exact ⟨n,t,rfl,ev⟩
 have hoL:(h1.push (seqObj "list" vs.toArray 0)).get? h1.objs.size=some (seqObj "list" vs.toArray 0):=Heap.get?_push_size _ rfl;refine wpAny_bind <| wpAny_holding <| wpAny_call_entry_kw slot_list_sort (s:={ s with heap:=h1.push (seqObj "list" vs.toArray 0),toks:=tk }) ⟨_,hoL,rfl⟩ entry_list_sort (list_sort_tree_rev (s:={ s with heap:=h1.push (seqObj "list" vs.toArray 0),toks:=tk }) hoL hI (by omega) fun out ns' a1 a2 a3=>⟨_,rfl,?_⟩) (args_list_sort_rev _ _);obtain ⟨e,he⟩:=sortedHeap_at (out:=out) hoL;refine wpAny_pure ⟨_,rfl,hQ _ tk h1.objs.size out e ns' (fun b o eb=>?_) ?_ he a1 a2 a3⟩
 ·have lb:=Heap.lt_size (kp b o eb)
  show (sortedHeap (h1.push (seqObj "list" vs.toArray 0)) h1.objs.size vs out).get? b=some o;rw [sortedHeap_old (Nat.ne_of_lt lb) (by rw [size_push']; exact Nat.lt_succ_of_lt lb)];exact Heap.get?_push_of_some _ (kp b o eb)
 ·exact sz
end
section
variable {X:Cx}
def tSortD (ta tk:TE):TE:=fun σ H Q=>ta σ H fun x H1=>tk σ H1 fun y H2=>∃ (d:Addr) (kvs:List (Key×V)) (ns:List Int),x=.ref d∧y=.bl true∧H2 d=some (.dK kvs)∧kvs.map (·.1)=ns.map Sum.inl∧kvs.length<64∧∀ (l:Addr) (ns':List Int),ns'.Perm ns→ns'.Pairwise (·≥·)→H2 l=none→Q (.ref l) (upd H2 l (.lst (ns'.map V.int)))
theorem pe_sortD {p pos kpos:Pos} {e f:Expr} {ta tk:TE} (hc:X.calm=true) (hg:Gl X "sorted") (hm:X.mg "sorted" = none) (ha:PE X e ta) (hf:PE X f tk) (he:starEach [e] X.env=[(false,eval e X.env)]:=by rfl) :
  PE X (.Call (.Name "sorted" p) [e] [⟨some (Str.ofString "reverse"),f,kpos⟩] pos) (tSortD ta tk):=by
 intro pins s σ H Q I h;refine wpAny_Call_Name_kw (Qw I hg hm boot_sorted ?_ (by decide) (by decide));have he1:backTo pos (starEach [e] X.env)=(false,eval e X.env)::backTo pos (starEach [] X.env):=by rw [he]; rfl
 refine callWith_kw ?_ he1 (by rw [he1]; rfl) rfl rfl;rw [he1];refine Calls.spliced_cons (thn (ha pins s σ H _ I h) fun u1 s1 ⟨y1,H1,I1,r1,q1⟩=>Calls.spliced_nil ?_);refine kws_cons (thn (hf pins s1 σ H1 _ I1 q1) fun u s2 ⟨y2,H2,I2,r2,q2⟩=>kws_nil ?_);obtain ⟨d,kvs,ns,rfl,rfl,hd,hk,hn,q⟩:=q2
 cases r1
 have eu:u=.bool true:=r2;subst eu;obtain ⟨hz,lo,vs,kv,hD⟩:=(show ObjOk X.prog X.w H2 s2.heap d (.dK kvs) from I2.hok d _ hd);obtain ⟨ep,hat⟩:=hD.dictAt;have lk:kvs.length=vs.length:=Paired.length kv;have ek:vs.map (·.1)=ns.map Sum.inl:=by
  rw [← hk];clear hk hD hat hd lk hn hz
  induction kv with
  | nil=>rfl
  | cons z _ ih=>exact congr (congrArg List.cons z.1.symm) ih
 refine sorted_dic (I2.ok.hd hc) lo hat ek (by omega) fun h' tk l out e ns' kp sl he a1 a2 a3=>?_
 have rr:=Z9 a1;refine ⟨.ref l,_,I2.laid (t':=tk) kp sl (show ObjOk X.prog X.w _ h' _ (.lst (ns'.map V.int)) from ⟨?_,out.toList,e,rr,by simpa [seqObj] using he⟩),rfl,q l ns' a2 a3 (I2.hok.fresh sl)⟩;have hs:sizeLine=16777216:=sizeLine_eq;have l1:=a2.length_eq;have l2:=congrArg List.length hk;rw [Al,Al] at l2;rw [Al];omega
end
theorem lk_list_keys:typeLookup (.type "list") "keys" = pure none:=by rw [typeLookup_type,builtinLookup_eq_fast]; kernel_rfl
section
variable {prog:Program} {w:World} {A:Around} {E:Value→Shared→Prop} {h:Heap} {g:Array GenState} {d:Drawn} {t:Nat} {os:OsState} {a:Addr} {its:Array Value} {c:Nat}
theorem keys_call {tk:Tok} {R:Result→Shared→Prop} (hh:A.handled=none) (hx:h.get? a=some { cls:=.type "list",data:=.seq its c }) (hq:∀ h' t' e,Heap.NewAttrErr h h' e (.ref a) "keys" → R (.error (.ref e)) ⟨h',g,d,t',os⟩) :
  codeAny (model prog w) A (.call (.builtin "list.__getattribute__") ⟨[.ref a,.str "keys" tk],[]⟩) R ⟨h,g,d,t,os⟩:=by
 refine codeAny_call_builtin F.slot_list_getattribute.plain am_entry_list_getattribute (F.slot_list_getattribute.check _ _ _ _ _ _ _ _ ⟨_,hx,rfl⟩ (F.args_list_getattribute_2 _ _) ?_);exact meets_getattribute_miss_list a its c #[] "keys" tk lk_list_keys (by decide +kernel) (by decide +kernel) prog w A R _ ⟨hx,hh,fun h' t' e z=>hq h' t' e z⟩
theorem nokeys {Q:Option Value→Shared→Prop} (hh:A.handled=none) (hx:h.get? a=some { cls:=.type "list",data:=.seq its c }) (hq:∀ h' t',(∀ b o,h.get? b=some o→h'.get? b=some o)→Q none ⟨h',g,d,t',os⟩) :
  wpAny (model prog w) A (getAttr? (.ref a) "keys") Q E ⟨h,g,d,t,os⟩:=by
 have hT:∀ k,(⟨h,g,d,k,os⟩:Shared).TypeIs (.ref a) "list" := fun _=>⟨_,hx,rfl⟩
 have q1:=sub_AttributeError;have q2:=F.slot_list_getattribute.lookup;have q3:=F.slot_list_getattribute.bind (.ref a);have q4:=am_list_getattr_none;unfold getAttr? getAttrBy? getAttrBy; (repeat (any_goals (first | assumption | exact hT _ | wp_step)));refine keys_call hh hx fun h' t' e z=>?_
 obtain ⟨x1,x2,he⟩:=z.there;unfold getattributeRaised; (repeat (any_goals (first | assumption | wp_step)));exact hq _ _ z.keeps
end
section
variable {prog:Program} {w:World} {A:Around} {E:Value→Shared→Prop} {I l S:Addr} {its:Array Value}
theorem entry_dul:entryFor table "dict.update.loop" = some Builtin.«dict.update.loop»:=entryFor_of_tree (by kernel_rfl)
theorem plain_dul:plainId "dict.update.loop" = true:=by decide +kernel
theorem pairs_laid {K:Type} [DecidableEq K] {knd:KeyKind prog w K} {R:Result→Shared→Prop} {kvs:List (K×Value)} (hh:A.handled=none) (nI:S≠I) (nl:l≠I) (nS:S≠l) (sz:kvs.length≤sizeLine) (el:its.size=kvs.length)
  (nd:(kvs.map (·.1)).Nodup) :
  ∀ (n i:Nat) (s:Shared),n+i=its.size→s.heap.IsListIter I l i→s.heap.IsList l its→s.heap.DictOf knd S (kvs.take i)→(∀ (j:Nat) (v:Value),its[j]?=some v→∃ k x ob u,kvs[j]?=some (k,x)∧v=.ref ob∧ob≠S∧ob≠I∧TupAt s.heap ob [u,x]∧knd.is k u=true)→(∀ (s':Shared),(∀ b o,b≠S→b≠I→s.heap.get? b=some o→s'.heap.get? b=some o)→s'.heap.DictOf knd S kvs→s'={ s with heap:=s'.heap,toks:=s'.toks }→R (.ok (.ret .none)) s')→codeAny (model prog w) A (.builtin "dict.update.loop" ⟨[.ref S,.ref I,.int i 0,.none],[]⟩) R s:=by
 intro n
 induction n with
 | zero =>
  intro i s hi hit hl hd hp hR;refine codeAny_builtin entry_dul ?_;rw [Around.under_plainId plain_dul];unfold Builtin.«dict.update.loop»;refine wpAny_bind <| wpAny_pyNext_list_end (A:=A.in1) hh hit hl (by simp; omega) fun h' ex=>?_
  rw [A5 (by omega)] at hd;refine wpAny_bind <| wpAny_pure <| wpAny_pure <| hR _ (fun b o nb ni e=>ex b o ni e) ?_ rfl;obtain ⟨o,es,ep,e,r⟩:=hd;exact ⟨o,es,ep,ex _ _ nI e,r⟩
 | succ n ih =>
  intro i s hi hit hl hd hp hR;have hlt:i<its.size:=by omega
  obtain ⟨k,x,ob,u,e1,e2,nb,nbi,ht,hk⟩:=hp i its[i] (by simp [hlt]);refine codeAny_builtin entry_dul ?_;rw [Around.under_plainId plain_dul];unfold Builtin.«dict.update.loop»;refine wpAny_bind <| wpAny_pyNext_list_item hit hl (x:=.ref ob) (by rw [← e2]; simp [hlt]) fun h1 hit1 sb=>?_
  have at1:∀ {b:Addr} {vs:List Value},b≠I→TupAt s.heap b vs→TupAt h1 b vs:=fun nb ⟨o,its',m,e,r⟩=>⟨o,its',m,(sb.2 _ nb).trans e,r⟩
  have ht1:=at1 nbi ht;have hdk:h1.DictOf knd S (kvs.take i):=by
   obtain ⟨o,es,ep,e,r⟩:=hd;exact ⟨o,es,ep,(sb.2 _ nI).trans e,r⟩
  have new:(kvs.take i).any (fun kv=>decide (kv.1=k))=false:=by
   refine Bool.eq_false_iff.mpr fun z=>?_
   obtain ⟨kv,hkv,ek⟩:=List.any_eq_true.mp z;obtain ⟨j,hj⟩:=Aa hkv;have hji:j<i:=by
    have:=(A1.mp hj).1;rw [Ak] at this;omega
   rw [A2 hji] at hj;have z1:(kvs.map (·.1))[j]?=some k:=by rw [List.getElem?_map,hj]; exact congrArg some (of_decide_eq_true ek)
   have z2:(kvs.map (·.1))[i]?=some k:=by rw [List.getElem?_map,e1]; rfl
   have:=(List.getElem?_inj (by have:=(A1.mp z1).1; omega) nd).mp (z1.trans z2.symm);omega
  obtain ⟨o,items,m,h1o,hc,hd',hi'⟩:=ht1;refine wpAny_bind <| wpAny_holding <| wpAny_bind <| wpAny_tryCatch ?_;unfold Builtin.Dict.pairItems;refine wpAny_bind <| wpAny_typeOf (s:={ s with heap:=h1 }) ⟨_,h1o,hc⟩ ?_;rw [if_pos (by decide)];refine wpAny_bind <| wpAny_seqItems h1o hd' <| wpAny_pure ?_;show wpAny _ _ (match items.toList with | [k,v]=>holding [k,v] (dictSet S k v) | l=>_) _ _ _;rw [hi'];refine wpAny_holding ?_;have hst:stored (kvs.take i) k x=kvs.take (i+1):=by
   unfold stored;rw [new,if_neg (by decide),List.take_succ,e1];rfl
  refine wpAny_dictSet_pairs (s:={ s with heap:=h1 }) hk hdk (fun h2 hd2 sb2=>?_) (by rw [Ak]; omega);rw [hst] at hd2;refine wpAny_pure ⟨plainId_quiet plain_dul _,?_⟩;have kp:∀ b o,b≠S→b≠I→s.heap.get? b=some o→h2.get? b=some o:=fun b o ns ni e=>(sb2.2 _ ns).trans ((sb.2 _ ni).trans e)
  have:=ih (i+1) { s with heap:=h2,toks:=s.toks+1 } (by omega) (hit1.at fun o e=>(sb2.2 _ (Ne.symm nI)).trans e) (hl.at fun o e=>kp _ _ (Ne.symm nS) nl e) hd2 (fun j v e=>by
   obtain ⟨k',x',ob',u',y1,y2,y3,y4,⟨o',it',m',y5,y6⟩,y7⟩:=hp j v e;exact ⟨k',x',ob',u',y1,y2,y3,y4,⟨o',it',m',kp _ _ y3 y4 y5,y6⟩,y7⟩) fun s' kp' hd' es=>hR s' (fun b o ns ni e=>kp' b o ns ni (kp b o ns ni e)) hd' es
  exact this
theorem dict_pairs {K:Type} [DecidableEq K] {knd:KeyKind prog w K} {s:Shared} {kvs:List (K×Value)} {c:Nat} {Q:Value→Shared→Prop} (hh:A.handled=none) (hl:s.heap.get? l=some { cls:=.type "list",data:=.seq its c }) (sz:kvs.length≤sizeLine) (el:its.size=kvs.length) (nd:(kvs.map (·.1)).Nodup)
  (hp:∀ (j:Nat) (v:Value),its[j]?=some v→∃ k x ob u,kvs[j]?=some (k,x)∧v=.ref ob∧TupAt s.heap ob [u,x]∧knd.is k u=true)
  (hQ:∀ (h':Heap) (tk:Nat),(∀ b o,s.heap.get? b=some o→h'.get? b=some o)→h'.DictOf knd s.heap.objs.size kvs→Q (.ref s.heap.objs.size) { s with heap:=h',toks:=tk }) :
  wpAny (model prog w) A (call (.type "dict") [.ref l]) Q E s:=by
 refine callType_codes (Q₁:=fun ob s1=>ob=.ref s.heap.objs.size∧s1={ s with heap:=s.heap.push { cls:=.type "dict",data:=.dict #[] } }) F.kt_called_dict (F.kt_typeCall_dict_1 _) F.entry_dict_init (kt_code_dict_new _ ⟨rfl,rfl⟩) ?_;rintro _ _ ⟨rfl,rfl⟩;have D0:(s.heap.push { cls:=.type "dict",data:=.dict #[] }).DictOf knd s.heap.objs.size []:=Heap.DictOf.new s.heap;have kp:∀ b o,s.heap.get? b=some o→(s.heap.push { cls:=.type "dict",data:=.dict #[] }).get? b=some o:=fun b o e=>Heap.get?_push_of_some _ e
 generalize s.heap.push { cls:=.type "dict",data:=.dict #[] }=h0 at *;refine ⟨D0.typeIs,F.args_dict_init_2 _ _,?_⟩;unfold Builtin.«dict.__init__» Builtin.Dict.selfAndRest;refine wpAny_bind <| wpAny_bind <| wpAny_notOrdered_dict D0.typeIs <| wpAny_pure ?_;change wpAny _ _ (Builtin.Dict.updateFrom "dict.__init__" s.heap.objs.size (.ref l) [] .none) _ _ _;unfold Builtin.Dict.updateFrom; refine wpAny_bind <| wpAny_typeOf (s:={ s with heap:=h0 }) ⟨_,kp _ _ hl,rfl⟩ ?_;rw [if_pos (by decide)];refine wpAny_bind <| nokeys (A:=A.in1.in1) hh (kp _ _ hl) fun h1 t1 kp1=>?_
 rw [if_pos (show (none:Option Value).isNone=true from rfl)];have hl1:h1.IsList l its:=⟨_,kp1 _ _ (kp _ _ hl),rfl,_,rfl⟩;refine wpAny_bind <| wpAny_rule <| wpAny_bind <| wpAny_pyIter_list (s:=⟨h1,s.gens,s.drawn,t1,s.os⟩) hl1 <| wpAny_pure ⟨plainId_quiet plain_dul _,?_⟩;have k0:s.heap.objs.size<h1.objs.size:=by
  obtain ⟨o,_,_,e,_⟩:=D0;exact Heap.lt_size (kp1 _ _ e)
 have ol:∀ {b:Addr} {o:Obj},s.heap.get? b=some o→b≠s.heap.objs.size∧b≠h1.objs.size:=fun e=>⟨Nat.ne_of_lt (Heap.lt_size e),Nat.ne_of_lt (Nat.lt_trans (Heap.lt_size e) k0)⟩
 have k2:∀ b o,h1.get? b=some o→(h1.push { cls:=.type "list_iterator",data:=.fields #[.ref l,.int 0 0] }).get? b=some o:=fun b o e=>Heap.get?_push_of_some _ e
 have hit:(h1.push { cls:=.type "list_iterator",data:=.fields #[.ref l,.int 0 0] }).IsListIter h1.objs.size l 0:=⟨_,Heap.get?_push_size _ rfl,rfl,rfl⟩;dsimp only at *;generalize h1.push { cls:=.type "list_iterator",data:=.fields #[.ref l,.int 0 0] }=h2 at *;refine pairs_laid (A:=A.in1) (knd:=knd) (l:=l) (its:=its) (kvs:=kvs) hh (Nat.ne_of_lt k0) (ol hl).2 (Ne.symm (ol hl).1) sz el nd its.size 0 ⟨h2,s.gens,s.drawn,t1,s.os⟩ rfl hit (hl1.at fun o e=>k2 _ _ e) ?_ ?_ ?_
 ·obtain ⟨o,es,ep,e,r⟩:=D0
  exact ⟨o,es,ep,k2 _ _ (kp1 _ _ e),r⟩
 ·intro j v e
  obtain ⟨k,x,ob,u,y1,y2,⟨o,i',m,y3,y4⟩,y5⟩:=hp j v e;exact ⟨k,x,ob,u,y1,y2,(ol y3).1,(ol y3).2,⟨o,i',m,k2 _ _ (kp1 _ _ (kp _ _ y3)),y4⟩,y5⟩
 ·intro s' kp' hd' es
  rw [es];exact ⟨rfl,hQ _ _ (fun b o e=>kp' b o (ol e).1 (ol e).2 (k2 _ _ (kp1 _ _ (kp _ _ e)))) hd'⟩
end
section
variable {X:Cx}
theorem boot_dict:bootBuiltins "dict" = some (.type "dict"):=PyProof.Rows.boot_dict
theorem call_dictL (hc:X.calm=true):CallR X (.type "dict") (fun xs H Q=>∃ (p:Addr) (vs:List V) (kvs:List (Key×V)),xs=[.ref p]∧H p=some (.lst vs)∧Paired (fun v kv=>∃ t,v=V.ref t∧SqT X.K H t [kV kv.1,kv.2]) vs kvs∧(kvs.map (·.1)).Nodup∧kvs.length≤1000∧∀ d,H d=none→Q (.ref d) (upd H d (.dK kvs))):=by
 intro pins s σ H xs us Q I r h;obtain ⟨p,vs,kvs,rfl,hp,pr,nd,small,q⟩:=h;obtain ⟨u,rfl,rx⟩:=vals1 r
 cases rx
 obtain ⟨hz,its,k,rv,hz2,eo⟩:=I.lstM hp;have hsl:sizeLine=16777216:=sizeLine_eq;have lp:=Paired.length pr;have lv:=rv.length;have:∃ kws:List (Key×Value),KV kvs kws∧∀ (j:Nat) (v:Value),its[j]?=some v→∃ k x ob u,kws[j]?=some (k,x)∧v=.ref ob∧TupAt s.heap ob [u,x]∧(v8 X.prog X.w).is k u=true:=by
  clear nd small q lp lv eo hp hsl r hz hz2
  induction pr generalizing its with
  | nil=>cases rv; exact ⟨[],.nil,fun j v e=>by simp at e⟩
  | @cons v kv vs kvs z _ ih =>
   cases rv with
   | @cons _ u0 _ its0 r0 rv =>
    obtain ⟨kws,a1,a2⟩:=ih its0 rv;obtain ⟨t,rfl,ht⟩:=z;obtain ⟨ix,r1,ta⟩:=tup_at I ht
    cases r1 with
    | cons y1 r1=>cases r1 with
     | @cons _ x2 _ _ y2 r1 =>
      cases r1
      refine ⟨(kv.1,x2)::kws,.cons ⟨rfl,y2⟩ a1,fun j v e=>?_⟩
      cases j with
      | zero =>
       have e:u0=v:=by simpa using e
       subst e;exact ⟨kv.1,x2,t,_,rfl,ref_val r0,ta,kV_is y1⟩
      | succ j=>exact a2 j v (by simpa using e)
 obtain ⟨kws,kv,hj⟩:=this;have lk:=Paired.length kv;refine dict_pairs (l:=p) (its:=its.toArray) (knd:=v8 X.prog X.w) (kvs:=kws) (I.ok.hd hc) (by simpa [seqObj] using eo) (by omega) (by simp; omega) ?_ (fun j v e=>hj j v (by simpa using e)) fun h' tk kp hd=>?_
 ·rw [← kv.keys]; exact nd
 ·have far:sysModules<s.heap.objs.size:=Nat.lt_trans (by decide) (I.mod.glob.keeps I.bk).lt
  refine ⟨.ref s.heap.objs.size,_,I.laid (t':=tk) kp (Nat.le_refl _) (show ObjOk X.prog X.w _ h' _ (.dK kvs) from ⟨by omega,beq_eq_false_iff_ne.mpr (Nat.ne_of_gt far),kws,kv,hd⟩),rfl,q _ (I.hok.fresh (Nat.le_refl _))⟩
end
section
variable {prog:Program} {w:World} {s:Shared} {A:Around} {E:Value→Shared→Prop}
theorem enum_over (l:Addr) (ol oi:Obj) (op:∀ (A:Around) (E:Value→Shared→Prop) (s:Shared) (Q:Value→Shared→Prop),s.heap.get? l=some ol→Q (.ref s.heap.objs.size) { s with heap:=s.heap.push oi }→wpAny (model prog w) A (pyIter (.ref l)) Q E s) {R:Result→Shared→Prop} (hl:s.heap.get? l=some ol)
  (k:R (.ok (.ret (.ref (s.heap.objs.size+1)))) { s with heap:=(s.heap.push oi).push { cls:=.type "enumerate",data:=.fields #[.none,.bool false,.ref s.heap.objs.size,rawInt 0,.none,.none] } }) :
  wpAny (model prog w) A (Builtin.«enumerate.__new__» ⟨[.type "enumerate",.ref l],[]⟩) (fun fin s'=>∃ v,fin=.done (.ret v)∧R (.ok (.ret v)) s') (fun e s'=>R (.error e) s') s:=by
 obtain ⟨hp,gg,dd,kk,oo⟩:=s;have q1:=sub_enumerate;have e1:(hp.push oi).objs.size=hp.objs.size+1:=Heap.size_push ..;dsimp only at hl k;rw [← e1] at k
 wp_walk using AutoSeq1.wpAny_loadPart' hl
 refine wpAny_stack_any fun st=>wpAny_pure ?_; split
 case' h_1 c _ _ _ _ _=>cases (c==Value.type "enumerate")
 all_goals wp_walk using AutoSeq1.wpAny_loadPart' hl,(op _ _ _ _ hl)
 all_goals exact ⟨_,rfl,k⟩
theorem draws_tup {it b:Addr} {vs:Array Value} {m:Nat} {ob:Obj} (hh:A.handled=none) (ne:b≠it) (hd:ob.data=.seq vs m):Draws prog w A it [it,b] vs.size (fun i x=>vs[i]?=some x) (fun i h=>h.get? it=some (tobj b i)∧h.get? b=some ob) where
 live:=fun i h t=>⟨_,t.1⟩
 frame:=fun i h h' t k=>⟨k it (by simp) _ t.1,k b (by simp) _ t.2⟩
 item:=fun i s Q E hi t k=>by
  obtain ⟨hp,gg,dd,kk,oo⟩:=s;exact tup_gives (x:=vs[i]) hd (by simp [hi]) E hp gg dd kk oo Q t.1 t.2 fun h' e sb=>k _ h' kk (by simp [hi]) ⟨e,(sb.2 b ne).trans t.2⟩ sb
 done:=fun s Q E t k=>by
  obtain ⟨hp,gg,dd,kk,oo⟩:=s;exact tup_stops hh hd (by simp) E hp gg dd kk oo Q t.1 t.2 fun h' e oe ex he hc=>k h' e ex ⟨oe,he,hc⟩
theorem call_enumT {l:Addr} {vs:Array Value} {m:Nat} {ol:Obj} {Q:Value→Shared→Prop} (hl:s.heap.get? l=some ol) (hc:ol.cls=.type "tuple") (hd:ol.data=.seq vs m)
  (k:∀ h',IsEnum h' (s.heap.objs.size+1) s.heap.objs.size 0 .none→h'.get? s.heap.objs.size=some (tobj l 0)→(∀ b o,s.heap.get? b=some o→h'.get? b=some o)→Q (.ref (s.heap.objs.size+1)) { s with heap:=h' }):wpAny (model prog w) A (call (.type "enumerate") [.ref l]) Q E s:=by
 have op:∀ (A:Around) (E:Value→Shared→Prop) (s:Shared) (Q:Value→Shared→Prop),s.heap.get? l=some ol→Q (.ref s.heap.objs.size) { s with heap:=s.heap.push (tobj l 0) }→wpAny (model prog w) A (pyIter (.ref l)) Q E s:=fun A E s Q e q=>wpAny_pyIter_tuple ⟨_,e,hc,_,hd⟩ q
 have e1:(s.heap.push (tobj l 0)).objs.size=s.heap.objs.size+1:=Heap.size_push ..;refine callType_newIn F.called_enumerate (by decide) (F.typeCall_enumerate_1 _) (F.newCall_enumerate_1 _) (fun obj=>F.args_object_init_2 obj _) F.entry_enumerate_new (S:=fun A R s=>s.heap.get? l=some ol∧R (.ok (.ret (.ref (s.heap.objs.size+1)))) { s with heap:=(s.heap.push (tobj l 0)).push { cls:=.type "enumerate",data:=.fields #[.none,.bool false,.ref s.heap.objs.size,rawInt 0,.none,.none] } })
  (.of_wp fun A R s h=>enum_over l ol (tobj l 0) op h.1 h.2) ⟨hl,?_⟩
 have he:IsEnum ((s.heap.push (tobj l 0)).push { cls:=.type "enumerate",data:=.fields #[.none,.bool false,.ref s.heap.objs.size,rawInt 0,.none,.none] }) (s.heap.objs.size+1) s.heap.objs.size 0 .none:=e1 ▸ Heap.get?_push_size (s.heap.push (tobj l 0)) (o:={ cls:=.type "enumerate",data:=.fields #[.none,.bool false,.ref s.heap.objs.size,rawInt 0,.none,.none] }) rfl;exact ⟨⟨_,he,rfl⟩,k _ he (Heap.get?_push_of_some _ (Heap.get?_push_size _ rfl)) fun b o x=>Heap.get?_push_of_some _ (Heap.get?_push_of_some _ x)⟩
end
def IteT (K:As) (a:Addr):It :=
 ⟨fun i H=>∃ xs x,SqT K H a xs∧xs[i]?=some x,fun i H v H'=>∃ p x,H p=none∧v=.ref p∧H'=upd H p (.tup [.int i,x])∧∀ xs,SqT K H a xs→xs[i]?=some x,fun i H=>∃ xs,SqT K H a xs∧xs.length≤i⟩
structure EnumTt (e it a:Addr) (i:Nat) (h:Heap):Prop where
 ne:e≠it
 na:a≠it
 nea:e≠a
 enm:∃ old,IsEnum h e it i old
 one:h.get? it=some (tobj a i)
theorem turn_enumT {P:Program} {w:World} {K:As} {es:List Expr} {k1:Nat} {pt:Pos} (e it a:Addr):Turn P w K (.Tuple es k1 pt) (IteT K a) [e,it] e (EnumTt e it a) where
 mem:=by simp
 obj:=fun i h t c hc=>by
  obtain ⟨old,e0⟩:=t.enm
  simp only [List.mem_cons,List.not_mem_nil,or_false] at hc
  rcases hc with rfl | rfl
  ·exact ⟨_,e0,fun v q=>by cases q⟩
  ·exact ⟨_,t.one,fun v q=>by cases q⟩
 keep:=fun i h h' t k=>by
  obtain ⟨old,e0⟩:=t.enm;exact ⟨t.ne,t.na,t.nea,⟨old,k e (by simp) _ e0⟩,k it (by simp) _ t.one⟩
 item:=by
  intro X hP hw hK hc i pins s σ H E I hf t hg;subst hP hw hK;obtain ⟨xs,x,qa,hx⟩:=hg;obtain ⟨as,ra,⟨ob,ea,ca,m,da⟩,_⟩:=I.tuple qa;obtain ⟨u,hu,ru⟩:=ra.get hx;obtain ⟨old,e0⟩:=t.enm;have D:=draws_tup (prog:=X.prog) (w:=X.w) (A:=X.A.in1) (it:=it) (I.ok.hd hc) t.na da;have na:e∉[it,a]:=by simp [t.ne,t.nea]
  refine wpAny_pyNext_enum_itemD D e0 ⟨t.one,ea⟩ (by have:=(A1.mp hu).1; simpa using this) t.ne na fun y h1 tk py a1 a2 a3 a4 hk=>⟨_,rfl,?_⟩
  have ey:y=u:=Ap (py.symm.trans (by simpa using hu));subst ey;refine wpAny_letOwnedTupleGo_enum (s:={ s with heap:=h1,toks:=tk+1 }) a1 fun h2 b1 sb=>?_
  have el:e<s.heap.objs.size:=Heap.lt_size e0;have il:it<s.heap.objs.size:=Heap.lt_size t.one;have kp:∀ c o,c∉[e,it]→s.heap.get? c=some o→h2.get? c=some o:=fun c o hc q=>by
   simp only [List.mem_cons,List.not_mem_nil,or_false,not_or] at hc
   exact (sb.2 c hc.1).trans (hk c o hc.1 hc.2 q)
  have J:Inv X pins σ H { s with heap:=h2,toks:=tk+1 }:=I.turnedAll hf kp;have np:H s.heap.objs.size=none:=I.hok.fresh (Nat.le_refl _);have J2:Inv X pins σ (upd H s.heap.objs.size (.tup [.int i,x])) { s with heap:=h2,toks:=tk+1 }:=by
   have fo:=I.fpOk (H':=H) (Nat.le_refl _) np;exact J.track np (Heap.get?_none_of_le I.sz) fo.2.2.2.2.2 fo.2.1 fo.2.2.2.2.1 (pair_ok ((sb.2 _ (Nat.ne_of_gt el)).trans a3) ⟨_,rfl⟩ ru)
  refine ⟨.ref s.heap.objs.size,_,J2,rfl,⟨_,x,np,rfl,rfl,fun zs hz=>by rw [I.tuple_inj hz qa]; exact hx⟩,⟨t.ne,t.na,t.nea,⟨y,b1⟩,(sb.2 it (Ne.symm t.ne)).trans a2.1⟩,fun c hc=>?_⟩;have ne:c≠s.heap.objs.size:=fun q=>by
   simp only [List.mem_cons,List.not_mem_nil,or_false] at hc
   rcases hc with h | h
   ·exact absurd el (by rw [← h,q]; exact Nat.lt_irrefl _)
   ·exact absurd il (by rw [← h,q]; exact Nat.lt_irrefl _)
  rw [qJ ne];exact (hf c hc).1
 done:=by
  intro X hP hw hK hc i pins s σ H E I hf t hg;subst hP hw hK;obtain ⟨xs,qa,hl⟩:=hg;obtain ⟨as,ra,⟨ob,ea,ca,m,da⟩,_⟩:=I.tuple qa;obtain ⟨old,e0⟩:=t.enm;have l1:=ra.length;obtain ⟨hp,gg,dd,kk,oo⟩:=s;have ty:Shared.TypeIs ⟨hp,gg,dd,kk,oo⟩ (.ref e) "enumerate" := ⟨_,e0,rfl⟩
  delta pyNext
  refine wpAny_bind (wpAny_attempt (wpAny_callSpecial?_slot ty F.slot_enumerate_next (wpAny_call_entry F.slot_enumerate_next ty F.entry_enumerate_next ?_ (F.args_enumerate_next_1 _))));change wpAny _ _ (field (.ref e) 2 >>= _) _ _ _;refine wpAny_bind <| wpAny_field e0 rfl (x:=.ref it) rfl <| wpAny_bind <| tup_stops (A:=X.A.in1) (I.ok.hd hc) da (n:=i) (by simp; omega) _ hp gg dd kk oo _ t.one ea fun h1 x ox ex hx hcx=>?_
  refine wpAny_bind <| wpAny_isInstance (T := "StopIteration") (b:=true) ⟨ox,hx,hcx⟩ isSubtype_stop <| wpAny_pure ⟨rfl,?_⟩;refine I.turnedAll (t':=kk) hf fun c o hc q=>?_
  simp only [List.mem_cons,List.not_mem_nil,or_false,not_or] at hc
  exact ex c o hc.2 q
 self:=fun A i s Q E t h=>by
  obtain ⟨old,e0⟩:=t.enm;exact wpAny_pyIter_enum e0 h
def iEnumS (K:As) (ta:TA):TI:=fun σ H R=>ta σ H fun vs H1=>∃ a,vs=[.ref a]∧(((∃ xs,SqL K H1 a xs)∧R (Ite K a) H1)∨((∃ xs,SqT K H1 a xs)∧R (IteT K a) H1))
theorem pi_enumS {X:Cx} {es:List Expr} {k1:Nat} {pt p pos:Pos} {e1:Expr} {ta:TA} (hg:Gl X "enumerate") (hm:X.mg "enumerate" = none) (ha:PA X [e1] ta) (q1:plainE e1=true:=by rfl) :
  PI X (.Tuple es k1 pt) (.Call (.Name "enumerate" p) [e1] [] pos) (iEnumS X.K ta):=by
 intro pins s σ H R I h;refine Call_ (Qw I hg hm boot_enumerate (PyProof.Rows.callWith_type1 (thn (ha pos pins s σ H _ I h) fun us s1 ⟨vs,H1,I1,r1,q⟩=>?_) (qq q1 _ _) rfl));obtain ⟨a,rfl,q⟩:=q;obtain ⟨u,rfl,ra⟩:=vals1 r1
 cases ra
 have fin:∀ c∈[s1.heap.objs.size+1,s1.heap.objs.size],s1.heap.objs.size≤c:=fun c hc=>by
  simp only [List.mem_cons,List.not_mem_nil,or_false] at hc
  rcases hc with h | h <;> rw [h] <;> first | exact Nat.le_refl _ | exact Nat.le_add_right _ _
 rcases q with ⟨⟨xs,qa⟩,q⟩ | ⟨⟨xs,qa⟩,q⟩
 ·obtain ⟨as,_,pa,_⟩:=I1.list qa
  refine call_enumerate_list pa.isList fun h2 z1 z2 z3 kp=>wpAny_pyIter_enum z1 ⟨_,_,_,_,H1,rfl,I1.kept (t':=s1.toks) kp,turn_enum _ _ a,⟨Nat.succ_ne_self _,⟨_,z1⟩,z2⟩,fun c hc=>?_,q⟩
  exact I1.fpOk (fin c hc) (I1.hok.fresh (fin c hc))
 ·obtain ⟨as,_,⟨ob,ea,ca,m,da⟩,_⟩:=I1.tuple qa
  have la:a<s1.heap.objs.size:=Heap.lt_size ea;refine call_enumT ea ca da fun h2 z1 z2 kp=>wpAny_pyIter_enum z1 ⟨_,_,_,_,H1,rfl,I1.kept (t':=s1.toks) kp,turn_enumT _ _ a,⟨Nat.succ_ne_self _,Nat.ne_of_lt la,Nat.ne_of_gt (Nat.lt_succ_of_lt la),⟨_,z1⟩,z2⟩,fun c hc=>?_,q⟩
  exact I1.fpOk (fin c hc) (I1.hok.fresh (fin c hc))
section
variable {X:Cx}
def rNeT (K:As):R2:=fun x y H Q=>∃ a b xs ys,x=.ref a∧y=.ref b∧SqT K H a xs∧SqT K H b ys∧xs.all flatV=true∧ys.all flatV=true∧Q (.bl (!eqVs xs ys)) H
theorem op_neT (hu:X.A.units+1<cLine):OpR X (compareOp .NotEq) (rNeT X.K):=by
 intro pins s σ H x y v u Q I rx ry h;obtain ⟨a,b,xs,ys,rfl,rfl,ha,hb,fx,fy,q⟩:=h
 cases rx
 cases ry
 obtain ⟨its,r1,p1,_⟩:=I.tuple ha;obtain ⟨its2,r2,p2,_⟩:=I.tuple hb;have h1:=r1.length;have h2:=r2.length;refine SeqAt.RcNeAt.tuples (e:=fun j=>match xs[j]?,ys[j]? with | some x,some y=>eqV x y | _,_=>true) p1 p2 (by omega) (fun j g1 g2=>?_) _ _ _ _ ⟨.bl _,H,I,rfl,?_⟩
 ·obtain ⟨x,e1,q1⟩:=wQ r1 j (by simpa using g1)
  obtain ⟨y,e2,q2⟩:=wQ r2 j (by simpa using g2);rw [e1,e2];exact eqAt_V (by simpa using q1) (by simpa using q2) (flat_at fx e1) (flat_at fy e2)
 ·rw [List.size_toArray,List.size_toArray,← h1,← h2,x6 xs ys _ fun j x y e1 e2=>by rw [e1,e2]]
  exact q
end
theorem relV_one {x y:V} {u:Value} (h:RelV x u) (k:RelV y u):x=y:=Ap (h.abs.symm.trans k.abs)
theorem vals_one:∀ {xs ys:List V} {us:List Value},Vals xs us→Vals ys us→xs=ys
 | _,_,_,.nil,.nil=>rfl
 | _,_,_,.cons h t,.cons k r=>by rw [relV_one h k,vals_one t r]
inductive EqB (K:As) (H:Hp):Nat→V→V→Bool→Prop where
 | flat {n:Nat} {x y:V} (h:flatV x=true) (h':flatV y=true):EqB K H n x y (eqV x y)
 | tup {n:Nat} {a b:Addr} {xs ys:List V} {e:Nat→Bool} (ha:SqT K H a xs) (hb:SqT K H b ys) (h:∀ (j:Nat) (x y:V),xs[j]?=some x→ys[j]?=some y→EqB K H n x y (e j)):EqB K H (n+1) (.ref a) (.ref b) ((List.range (min xs.length ys.length)).all e&&xs.length==ys.length)
 | lst {n:Nat} {a b:Addr} {xs ys:List V} {e:Nat→Bool} (ha:SqL K H a xs) (hb:SqL K H b ys) (hl:xs.length=ys.length) (h:∀ (j:Nat) (x y:V),xs[j]?=some x→ys[j]?=some y→EqB K H n x y (e j)):EqB K H (n+1) (.ref a) (.ref b) ((List.range xs.length).all e)
 | lens {n:Nat} {a b:Addr} {xs ys:List V} (ha:SqL K H a xs) (hb:SqL K H b ys) (hl:xs.length≠ys.length):EqB K H n (.ref a) (.ref b) false
 | intT {n:Nat} {i:Int} {b:Addr} {ys:List V} (hb:SqT K H b ys):EqB K H n (.int i) (.ref b) false
 | tInt {n:Nat} {i:Int} {b:Addr} {ys:List V} (hb:SqT K H b ys):EqB K H n (.ref b) (.int i) false
section
variable {X:Cx} {pins:List (Addr×Obj)} {σ:St} {H:Hp} {s:Shared}
theorem sqT_one (I:Inv X pins σ H s) {a:Addr} {xs ys:List V} (h:SqT X.K H a xs) (k:SqT X.K H a ys):xs=ys:=by
 obtain ⟨its,r1,t1⟩:=tup_at I h;obtain ⟨its2,r2,t2⟩:=tup_at I k;rw [TupAt.one t1 t2] at r1;exact vals_one r1 r2
theorem sqL_one (I:Inv X pins σ H s) {a:Addr} {xs ys:List V} (h:SqL X.K H a xs) (k:SqL X.K H a ys):xs=ys:=by
 obtain ⟨its,r1,p1,_⟩:=I.list h;obtain ⟨its2,r2,p2,_⟩:=I.list k;obtain ⟨o,e1,_,n,e2⟩:=p1.isList;obtain ⟨o2,f1,_,n2,f2⟩:=p2.isList;rw [e1] at f1
 cases f1
 rw [e2] at f2;have e:its=its2:=by
  injection f2 with e
  simpa using congrArg Array.toList e
 subst e;exact vals_one r1 r2
theorem EqB.self (I:Inv X pins σ H s) {n:Nat} {x y:V} {b:Bool} (d:EqB X.K H n x y b):x=y→b=true:=by
 induction d with
 | @flat n x y h h' =>
  intro e;subst e
  cases x <;> simp_all [flatV,eqV]
 | @tup n a b xs ys e ha hb h ih =>
  intro z
  cases z
  have q:=sqT_one I ha hb;subst q;rw [Nat.min_self,beq_self_eq_true,Bool.and_true,List.all_eq_true];intro j hj;have hj:=List.mem_range.mp hj;exact ih j _ _ (A4 hj) (A4 hj) rfl
 | @lst n a b xs ys e ha hb hl h ih =>
  intro z
  cases z
  have q:=sqL_one I ha hb;subst q;rw [List.all_eq_true];intro j hj;have hj:=List.mem_range.mp hj;exact ih j _ _ (A4 hj) (A4 hj) rfl
 | lens ha hb hl =>
  intro z
  cases z
  exact absurd (congrArg List.length (sqL_one I ha hb)) hl
 | intT hb=>intro z; cases z
 | tInt hb=>intro z; cases z
theorem EqB.at (I:Inv X pins σ H s) {n:Nat} {x y:V} {b:Bool} (d:EqB X.K H n x y b):∀ (A:Around) (u v:Value),RelV x u→RelV y v→A.units+n<cLine→SeqAt.EqAt A s u v b:=by
 induction d with
 | flat h h'=>intro A u v rx ry _; exact eqAt_V rx ry h h'
 | @tup n a b xs ys e ha hb h ih =>
  intro A u v rx ry hu
  by_cases ab:a=b
  ·have t:=EqB.self I (.tup ha hb h) (congrArg V.ref ab)
   rw [t]
   cases rx
   cases ry
   subst ab;exact SeqAt.EqAt.same _
  ·cases rx
   cases ry
   obtain ⟨its,r1,p1,_⟩:=I.tuple ha;obtain ⟨its2,r2,p2,_⟩:=I.tuple hb;have h1:=r1.length;have h2:=r2.length;have q:=SeqAt.RcAt.tuples (A:=A) (e:=e) p1 p2 (by omega) fun j g1 g2=>by
    obtain ⟨x,e1,q1⟩:=wQ r1 j (by simpa using g1);obtain ⟨y,e2,q2⟩:=wQ r2 j (by simpa using g2);exact ih j x y e1 e2 A.in1 _ _ (by simpa using q1) (by simpa using q2) (by show A.units+1+n<cLine; omega)
   rw [List.size_toArray,List.size_toArray,← h1,← h2] at q;exact SeqAt.EqAt.of_refs ab q
 | @lst n a b xs ys e ha hb hl h ih =>
  intro A u v rx ry hu
  by_cases ab:a=b
  ·have t:=EqB.self I (.lst ha hb hl h) (congrArg V.ref ab)
   rw [t]
   cases rx
   cases ry
   subst ab;exact SeqAt.EqAt.same _
  ·cases rx
   cases ry
   obtain ⟨its,r1,p1,_⟩:=I.list ha;obtain ⟨its2,r2,p2,_⟩:=I.list hb;have h1:=r1.length;have h2:=r2.length;have q:=SeqAt.RcAt.lists (A:=A) (e:=e) p1.isList p2.isList (by simp only [List.size_toArray]; omega) (by omega) fun j g1 g2=>by
    obtain ⟨x,e1,q1⟩:=wQ r1 j (by simpa using g1);obtain ⟨y,e2,q2⟩:=wQ r2 j (by simpa using g2);exact ih j x y e1 e2 A.in1 _ _ (by simpa using q1) (by simpa using q2) (by show A.units+1+n<cLine; omega)
   rw [List.size_toArray,← h1] at q;exact SeqAt.EqAt.of_refs ab q
 | @lens n a b xs ys ha hb hl =>
  intro A u v rx ry hu
  cases rx
  cases ry
  obtain ⟨its,r1,p1,_⟩:=I.list ha;obtain ⟨its2,r2,p2,_⟩:=I.list hb;have h1:=r1.length;have h2:=r2.length;refine SeqAt.EqAt.of_refs (fun z=>by subst z; exact hl (congrArg List.length (sqL_one I ha hb))) (SeqAt.RcAt.lists_lengths p1.isList p2.isList ?_ (by omega))
  simp only [List.size_toArray,bne_iff_ne,ne_eq]
  omega
 | intT hb =>
  intro A u v rx ry hu;obtain ⟨t,rfl⟩:=rx
  cases ry
  obtain ⟨its,r1,p1,_⟩:=I.tuple hb;exact SeqAt.EqAt.int_tuple _ _ p1 (by omega)
 | tInt hb =>
  intro A u v rx ry hu;obtain ⟨t,rfl⟩:=ry
  cases rx
  obtain ⟨its,r1,p1,_⟩:=I.tuple hb;exact SeqAt.EqAt.tuple_int _ _ p1 (by omega)
def rInB (K:As):R2:=fun x y H Q=>∃ p vs,y=.ref p∧SqL K H p vs∧(∀ v∈vs,EqB K H 8 v x false)∧Q (.bl false) H
theorem op_inB (hu:X.A.units+64<cLine):OpR X (compareOp .In) (rInB X.K):=by
 intro pins s σ H x y v u Q I rx ry h;obtain ⟨p,vs,rfl,hp,all,q⟩:=h
 cases ry
 obtain ⟨its,r,pl,hz⟩:=I.list hp;refine SeqAt.in_listAt (fun _=>false) pl.isList (fun w hw=>?_) ⟨.bl false,H,I,?_,q⟩
 ·obtain ⟨j,hj,e⟩:=List.mem_iff_getElem.mp (show w∈its by simpa using hw)
  obtain ⟨x',e1,rx'⟩:=wQ r j hj;rw [e] at rx';exact (all x' (A8 e1)).at I X.A.in1 w _ rx' rx (by show X.A.units+1+8<cLine; omega)
 ·rw [show its.toArray.any (fun _=>false)=false by simp]
  rfl
end
theorem sub_ri_reversed:isSubtype (.type "range_iterator") (.type "reversed")=pure false:=by rw [isSubtype_type]; kernel_rfl
section
variable {prog:Program} {w:World} {A:Around} {E:Value→Shared→Prop} {s:Shared}
def Q6 (n:Nat):Obj:={ cls:=.type "range_iterator",data:=.fields #[rawInt ((n:Int) - 1),rawInt (n:Int),rawInt (-1)] }
theorem range_back {r:Addr} {n:Nat} {t u v:Tok} {Q:Value→Shared→Prop} (hr:IsRange s.heap r 0 n 1 t u v) (hn:n≤1000) (h:Q (.ref s.heap.objs.size) { s with heap:=s.heap.push (Q6 n) }) :
  wpAny (model prog w) A (call (.builtin "range.__reversed__") [.ref r]) Q E s:=by
 have hT:s.TypeIs (.ref r) "range" := ⟨_,hr,rfl⟩;refine wpAny_call_entry F.slot_range_reversed hT F.entry_range_reversed ?_ (F.args_range_reversed_1 _);unfold Builtin.«range.__reversed__»;refine wpAny_bind (wpAny_of_eq (a:=Value.ref r) rfl ?_);refine wpAny_bind ?_;unfold Builtin.Range.rangeFields;refine wpAny_bind (wpAny_field hr rfl (x:=.int 0 t) rfl ?_);refine wpAny_bind (wpAny_of_eq (a:=some (0:Int)) rfl ?_);refine wpAny_bind (wpAny_field hr rfl (x:=.int n u) rfl ?_);refine wpAny_bind (wpAny_of_eq (a:=some (n:Int)) rfl ?_);refine wpAny_bind (wpAny_field hr rfl (x:=.int 1 v) rfl ?_);have e3:asInt? (.int 1 v)=pure (some (1:Int)):=rfl;rw [e3,pure_bind];dsimp only;refine wpAny_pure ?_;have sz:Builtin.Range.rangeSize 0 (n:Int) 1=(n:Int):=by
  unfold Builtin.Range.rangeSize;rw [if_pos (by decide)]
  split
  ·rw [Int.ediv_one]; omega
  ·omega
 have ft:∀ z:Int,-5≤z→z<1000000→Builtin.Range.rangeFitsLong z=true:=fun z h1 h2=>by
  unfold Builtin.Range.rangeFitsLong
  simp
  omega
 dsimp only;rw [sz]
 simp only [ft 0 (by decide) (by decide),ft (n:Int) (by omega) (by omega),ft 1 (by decide) (by decide),ft (-1) (by decide) (by decide),ft (0 - 1) (by decide) (by decide),Bool.and_self,Bool.not_true,Bool.false_eq_true,if_false,if_true,↓reduceIte]
 have e1:(0:Int)+((n:Int) - 1)*1=(n:Int) - 1:=by omega
 rw [e1]
 first
 | exact wpAny_bind (wpAny_newObj_type (wpAny_pure ⟨_,rfl,h⟩))
 | exact wpAny_bind (wpAny_pure (wpAny_bind (wpAny_newObj_type (wpAny_pure ⟨_,rfl,h⟩))))
theorem new_back {r:Addr} {n:Nat} {t u v:Tok} {Q₁:Value→Shared→Prop} (hr:IsRange s.heap r 0 n 1 t u v) (hn:n≤1000) (h:Q₁ (.ref s.heap.objs.size) { s with heap:=s.heap.push (Q6 n) }) :
  codeAny (model prog w) A (.call (.builtin "reversed.__new__") ⟨[.type "reversed",.ref r],[]⟩) (wants Q₁ E) s:=by
 have hT:s.TypeIs (.ref r) "range" := ⟨_,hr,rfl⟩;have f1:=F.slot_range_reversed.lookup;have f2:=F.slot_range_reversed.bind (.ref r);have body:wpAny (model prog w) A.in1 (Builtin.«reversed.__new__» ⟨[.type "reversed",.ref r],[]⟩) (fun fin s'=>match fin with | .done f=>wants Q₁ E (.ok f) s' | .again c'=>c'.quiet=true∧codeAny (model prog w) A c' (wants Q₁ E) s') (fun e s'=>wants Q₁ E (.error e) s') s:=by
  unfold Builtin.«reversed.__new__»;rw [newClass_reversed,pure_bind];refine wpAny_bind <| wpAny_of_eq (a:=()) (by first | rfl | kernel_rfl) <| wpAny_bind <| wpAny_of_eq (a:=()) (by first | rfl | kernel_rfl) <| wpAny_bind <| wpAny_specialOf hT f1 <| wpAny_bind <| wpAny_of_eq f2 ?_;refine wpAny_ite_split (fun z=>absurd z Bool.false_ne_true) fun _=>wpAny_bind <| wpAny_rule <| wpAny_bind (m:=call (.builtin "range.__reversed__") [.ref r]) <| range_back hr hn ?_
  first | exact wpAny_pure h | exact wpAny_bind (wpAny_pure (wpAny_pure h))
 have chk:=F.newCall_reversed_1 (.ref r);refine codeAny_of_tree ?_;change wpAny _ A.in1 (checkBuiltinCall "reversed.__new__" _ >>= fun _=>again (.builtin "reversed.__new__" _)) _ _ s;refine wpAny_bind <| wpAny_of_eq chk <| wpAny_pure ⟨plainId_quiet F.plain_reversed_new _,?_⟩;exact codeAny_builtin F.entry_reversed_new <| (Around.under_plainId F.plain_reversed_new _).symm ▸ body
theorem call_back {r:Addr} {n:Nat} {t u v:Tok} {Q:Value→Shared→Prop} (hr:IsRange s.heap r 0 n 1 t u v) (hn:n≤1000) (h:Q (.ref s.heap.objs.size) { s with heap:=s.heap.push (Q6 n) }) :
  wpAny (model prog w) A (call (.type "reversed") [.ref r]) Q E s:=by
 refine callType_other (U := "range_iterator") (Q₁:=fun obj s₁=>obj=.ref s.heap.objs.size∧s₁={ s with heap:=s.heap.push (Q6 n) }) (by decide +kernel) F.create_reversed ⟨_,_,F.mro_reversed⟩ F.made_reversed sub_ri_reversed (F.typeCall_reversed_1 _) (new_back hr hn ⟨rfl,rfl⟩) ?_;rintro obj s₁ ⟨rfl,rfl⟩;exact ⟨⟨_,Heap.get?_push_size _ rfl,rfl⟩,h⟩
end
section
variable {X:Cx}
def ItrD (hi:Int) (n:Nat):It:=⟨fun i _=>i<n,fun i H x H'=>H'=H∧x=.int (hi - i),fun i _=>n≤i⟩
theorem turn_rangeD {P:Program} {w:World} {K:As} {tg:Expr} (it:Addr) (hi:Int) (n:Nat):Turn P w K tg (ItrD hi n) [it] it (fun i h=>IsRangeIter h it (hi+(i:Nat)*(-1)) ((n:Int) - (i:Nat)) (-1)) where
 mem:=by simp
 obj:=fun i h st b hb=>by
  rw [Ae.mp hb];exact ⟨_,st,fun v z=>by have z':Data.fields _=Data.cell v:=z; cases z'⟩
 keep:=fun i h h' st k=>k it (by simp) _ st
 item:=by
  intro X hP hw hK hc i pins s σ H E I hf st hg;subst hP hw hK;obtain ⟨f0,f1,_,f3,f4,f5⟩:=hf it (by simp);refine (Walks.range (prog:=X.prog) (w:=X.w) (I.ok.hd hc) it hi (-1) n).item i s _ _ hg st fun v h' tk hv st' kk=>?_
  obtain ⟨t,rfl⟩:=hv;refine ⟨_,rfl,go_of (s:={ s with heap:=h',toks:=tk }) (n := "range_iterator") st' rfl rfl (by decide) ⟨.int (hi - i),H,I.turned (fun b o hb e=>kk b o (by simpa using hb) e) f0 f1 f3 f4 f5,⟨t,?_⟩,⟨rfl,rfl⟩,st',fun b hb=>(hf b hb).1⟩⟩;rw [show hi+(i:Int)*(-1)=hi - i by omega]
 done:=by
  intro X hP hw hK hc i pins s σ H E I hf st hg;subst hP hw hK;obtain ⟨f0,f1,_,f3,f4,f5⟩:=hf it (by simp);exact wpAny_pyNext_range_end (I.ok.hd hc) st (by have:n≤i:=hg; omega) fun h' eb=>⟨rfl,I.turned (t':=s.toks) (fun b o hb e=>eb b o hb e) f0 f1 f3 f4 f5⟩
 self:=fun _ _ _ _ _ st h=>wpAny_pyIter_rangeiter st h
def iRevR (ta:TA):TI:=fun σ H R=>ta σ H fun vs H1=>∃ (p:Addr) (n:Nat),vs=[.ref p]∧H1 p=some (.ext (RngAt p n))∧n≤1000∧R (ItrD ((n:Int) - 1) n) H1
theorem pi_revR {tg a:Expr} {ta:TA} {p pos:Pos} (hg:Gl X "reversed") (hm:X.mg "reversed" = none) (ha:PA X [a] ta) (hs:starEach [a] X.env=[(false,eval a X.env)]:=by rfl) :
  PI X tg (.Call (.Name "reversed" p) [a] [] pos) (iRevR ta):=by
 intro pins s σ H R I h;refine wpAny_Call_Name_kw (Qw I hg hm Boot.«reversed» (PyProof.Rows.callWith_type1 (thn (ha pos pins s σ H _ I h) fun us s1 ⟨vs,H1,I1,r1,q1⟩=>?_) hs rfl) (by decide) (by decide));obtain ⟨r,n,rfl,hp,hn,q⟩:=q1;obtain ⟨u,rfl,rx⟩:=vals1 r1
 cases rx
 obtain ⟨⟨t,u,v,e⟩,_,_⟩:=(show ObjOk X.prog X.w H1 s1.heap r (.ext (RngAt r n)) from I1.hok r _ hp);refine call_back e hn ?_;have st:IsRangeIter (s1.heap.push (Q6 n)) s1.heap.objs.size ((n:Int) - 1) (n:Int) (-1):=Heap.get?_push_size _ rfl;refine wpAny_pyIter_rangeiter (s:={ s1 with heap:=s1.heap.push (Q6 n) }) st ?_;refine ⟨_,[_],_,_,H1,rfl,I1.kept (t':=s1.toks) fun b o e=>Heap.get?_push_of_some _ e,turn_rangeD _ ((n:Int) - 1) n,?_,fun b hb=>?_,q⟩
 ·show IsRangeIter _ _ ((n:Int) - 1+((0:Nat):Int)*(-1)) ((n:Int) - ((0:Nat):Int)) (-1)
  rw [show (n:Int) - 1+((0:Nat):Int)*(-1)=(n:Int) - 1 by omega,show (n:Int) - ((0:Nat):Int)=n by omega];exact st
 ·rw [Ae.mp hb]
  exact I1.fpOk (Nat.le_refl _) (I1.hok.fresh (Nat.le_refl _))
end
def Up (l:List Nat):Prop:=l.Pairwise (·<·)
theorem bel_go {xs:Array Nat} {j:Nat} (up:Up xs.toList):∀ (fuel lo hi:Nat),hi - lo≤fuel→lo≤hi→hi≤xs.size→(∀ (i v:Nat),i<lo→xs[i]?=some v→v<j)→(∀ (i v:Nat),hi≤i→xs[i]?=some v→j≤v)→SetTable.below.go xs j fuel lo hi≤xs.size∧(∀ (i v:Nat),i<SetTable.below.go xs j fuel lo hi→xs[i]?=some v→v<j)∧∀ (i v:Nat),SetTable.below.go xs j fuel lo hi≤i→xs[i]?=some v→j≤v
 | 0,lo,hi,h1,h2,h3,h4,h5=>by
  have e:lo=hi:=by omega
  subst e;exact ⟨h3,h4,h5⟩
 | fuel+1,lo,hi,h1,h2,h3,h4,h5=>by
  unfold SetTable.below.go
  by_cases c:lo<hi
  ·rw [if_pos c]
   have hm:(lo+hi)/2<xs.size:=by omega
   have em:xs[(lo+hi)/2]?=some xs[(lo+hi)/2]:=Array.getElem?_eq_getElem hm;have eg:xs.getD ((lo+hi)/2) j=xs[(lo+hi)/2]:=by simp [Array.getD,hm]
   have ord:∀ (i k v w:Nat),i<k→xs[i]?=some v→xs[k]?=some w→v<w:=fun i k v w ik e1 e2=>by
    have e1:xs.toList[i]?=some v:=by simpa using e1
    have e2:xs.toList[k]?=some w:=by simpa using e2
    obtain ⟨l1,g1⟩:=A1.mp e1;obtain ⟨l2,g2⟩:=A1.mp e2;rw [← g1,← g2];exact List.pairwise_iff_getElem.mp up i k l1 l2 ik
   show (if xs.getD ((lo+hi)/2) j<j then SetTable.below.go xs j fuel ((lo+hi)/2+1) hi else SetTable.below.go xs j fuel lo ((lo+hi)/2))≤xs.size∧(∀ (i v:Nat),i<(if xs.getD ((lo+hi)/2) j<j then SetTable.below.go xs j fuel ((lo+hi)/2+1) hi else SetTable.below.go xs j fuel lo ((lo+hi)/2))→xs[i]?=some v→v<j)∧∀ (i v:Nat),(if xs.getD ((lo+hi)/2) j<j then SetTable.below.go xs j fuel ((lo+hi)/2+1) hi else SetTable.below.go xs j fuel lo ((lo+hi)/2))≤i→xs[i]?=some v→j≤v
   by_cases d:xs.getD ((lo+hi)/2) j<j
   ·rw [if_pos d]
    rw [eg] at d;refine bel_go up fuel _ _ (by omega) (by omega) h3 (fun i v hi' e=>?_) h5
    by_cases z:i=(lo+hi)/2
    ·subst z; rw [em] at e; cases e; exact d
    ·have:=ord i _ _ _ (by omega) e em; omega
   ·rw [if_neg d]
    rw [eg] at d;refine bel_go up fuel _ _ (by omega) (by omega) (by omega) h4 fun i v hi' e=>?_
    by_cases z:i=(lo+hi)/2
    ·subst z; rw [em] at e; cases e; omega
    ·have:=ord _ i _ _ (by omega) em e; omega
  ·rw [if_neg c]
   have e:lo=hi:=by omega
   subst e;exact ⟨h3,h4,h5⟩
theorem bel_ok {xs:Array Nat} (j:Nat) (up:Up xs.toList):SetTable.below xs j≤xs.size∧(∀ (i v:Nat),i<SetTable.below xs j→xs[i]?=some v→v<j)∧∀ (i v:Nat),SetTable.below xs j≤i→xs[i]?=some v→j≤v :=
 bel_go up xs.size 0 xs.size (by omega) (Nat.zero_le _) (Nat.le_refl _) (fun i v h=>absurd h (Nat.not_lt_zero _)) fun i v h e=>by
  have:=(Array.getElem?_eq_some_iff.mp e).1;omega
theorem bel_next {xs:Array Nat} {i v:Nat} (up:Up xs.toList) (e:xs[i]?=some v):SetTable.below xs (v+1)=i+1:=by
 obtain ⟨h1,h2,h3⟩:=bel_ok (v+1) up;have hi:=(Array.getElem?_eq_some_iff.mp e).1
 rcases Nat.lt_trichotomy (SetTable.below xs (v+1)) (i+1) with l | l | l
 ·have:=h3 i v (by omega) e; omega
 ·exact l
 ·have e2:xs[i+1]?=some xs[i+1]:=Array.getElem?_eq_getElem (by omega)
  have a:=h2 (i+1) _ l e2;have b:=List.pairwise_iff_getElem.mp up i (i+1) (by simpa using hi) (by simp; omega) (Nat.lt_succ_self i);have c:=(Array.getElem?_eq_some_iff.mp e).2
  simp only [Array.getElem_toList] at b
  omega
theorem bel_zero {xs:Array Nat} (up:Up xs.toList):SetTable.below xs 0=0:=by
 obtain ⟨h1,h2,h3⟩:=bel_ok 0 up
 cases e:SetTable.below xs 0 with
 | zero=>rfl
 | succ n =>
  rw [e] at h1 h2;have:=h2 n _ (Nat.lt_succ_self n) (Array.getElem?_eq_getElem (by omega));omega
def TabR (t:SetTable):Prop:=Up t.place.toList∧t.dummies=#[]
theorem has_no (j:Nat):SetTable.has #[] j=false:=by
 unfold SetTable.has
 simp
theorem slot_free {t:SetTable} (h:TabR t) {j:Nat} (e:t.slot j=.empty):j∉t.place.toList:=by
 intro m;obtain ⟨i,ei⟩:=List.mem_iff_getElem?.mp m;have ei:t.place[i]?=some j:=by simpa using ei
 obtain ⟨h1,h2,h3⟩:=bel_ok j h.1;have a:¬ i<SetTable.below t.place j:=fun z=>by have:=h2 i j z ei; omega
 have hi:=(Array.getElem?_eq_some_iff.mp ei).1;have er:t.place[SetTable.below t.place j]?=some t.place[SetTable.below t.place j]:=Array.getElem?_eq_getElem (by omega);have b:=h3 _ _ (Nat.le_refl _) er;have k:i=SetTable.below t.place j:=by
  by_cases c:i=SetTable.below t.place j
  ·exact c
  ·have lt:=List.pairwise_iff_getElem.mp h.1 (SetTable.below t.place j) i (by simp; omega) (by simpa using hi) (by omega)
   have ev:=(Array.getElem?_eq_some_iff.mp ei).2
   simp only [Array.getElem_toList] at lt
   omega
 unfold SetTable.slot at e;rw [k] at ei;dsimp only at e;rw [ei] at e
 simp at e
theorem probe_free {t:SetTable} (h:TabR t) {hash:Nat→Int} {x:Int}:∀ (fuel:Nat) (p:SetTable.Probe),p.dummy=none→∀ (j:Nat) (d:Option Nat),SetTable.probe.go t hash x fuel p=some (.empty j d)→d=none∧t.slot j=.empty
 | 0,p,_,j,d,e=>by cases e
 | fuel+1,p,hp,j,d,e=>by
  unfold SetTable.probe.go at e;have adv:∀ q:SetTable.Probe,q.dummy=none→(t.advance q).dummy=none:=fun q hq=>by
   unfold SetTable.advance
   split
   ·exact hq
   ·exact hq
  cases c:t.slot p.j with
  | empty =>
   rw [c] at e;dsimp only at e
   cases e
   exact ⟨hp,c⟩
  | dummy =>
   unfold SetTable.slot at c;dsimp only at c;rw [h.2,has_no] at c
   split at c
   ·cases c
   ·simp at c
  | live i =>
   rw [c] at e;dsimp only at e
   split at e
   ·cases e
   ·exact probe_free h fuel _ (adv p hp) j d e
theorem up_in {l:List Nat} {r j:Nat} (up:Up l) (nj:j∉l) (h2:∀ (i v:Nat),i<r→l[i]?=some v→v<j) (h3:∀ (i v:Nat),r≤i→l[i]?=some v→j≤v):Up (l.take r++j::l.drop r):=by
 refine List.pairwise_append.mpr ⟨up.sublist (List.take_sublist r l),List.pairwise_cons.mpr ⟨fun y hy=>?_,up.sublist (List.drop_sublist r l)⟩,fun x hx y hy=>?_⟩
 ·obtain ⟨i,e⟩:=List.mem_iff_getElem?.mp hy
  rw [List.getElem?_drop] at e;have a:=h3 _ _ (Nat.le_add_right _ _) e;have b:y≠j:=fun z=>nj (z ▸ A8 e)
  omega
 ·obtain ⟨i,e⟩:=List.mem_iff_getElem?.mp hx
  have hi:i<r:=by
   have:=(A1.mp e).1;rw [Ak] at this;omega
  rw [A2 hi] at e;have a:=h2 i x hi e
  rcases List.mem_cons.mp hy with z | z
  ·omega
  ·obtain ⟨k,e'⟩:=List.mem_iff_getElem?.mp z
   rw [List.getElem?_drop] at e';have b:=h3 _ _ (Nat.le_add_right _ _) e';omega
theorem up_range (n:Nat):Up (Array.range n).toList:=by
 rw [Array.toList_range];exact List.pairwise_lt_range
theorem stand_R (t:SetTable) (n:Nat):TabR (t.standIn n)∧(t.standIn n).led=t.led:=⟨⟨up_range n,rfl⟩,rfl⟩
theorem lay_R {t:SetTable} {es:Array (Int×Value)} {h:Int} {x:Value} (k:TabR t):TabR (layNew t es h x).2.1∧(layNew t es h x).2.1.led=t.led:=by
 unfold layNew
 cases c:t.freeSlot h with
 | none=>exact stand_R t _
 | some q =>
  obtain ⟨slot,wd⟩:=q;dsimp only;have free:slot∉t.place.toList:=by
   unfold SetTable.freeSlot at c
   split at c
   ·rename_i j d e
    obtain ⟨e1,e2⟩:=probe_free k _ _ rfl j d e;subst e1
    cases c
    exact slot_free k e2
   ·cases c
  have pr:TabR (t.put slot).1∧(t.put slot).1.led=t.led:=by
   unfold SetTable.put;dsimp only;refine ⟨⟨?_,?_⟩,rfl⟩
   ·rw [SetTable.toList_insertAt]
    obtain ⟨h1,h2,h3⟩:=bel_ok slot k.1;exact up_in k.1 free (fun i v a b=>h2 i v a (by simpa using b)) fun i v a b=>h3 i v a (by simpa using b)
   ·rw [k.2,has_no]
    rfl
  unfold SetTable.orStandIn
  split
  ·exact pr
  ·exact ⟨(stand_R _ _).1,(stand_R _ _).2.trans pr.2⟩
theorem up_live {g:Nat→Option Nat}:∀ {l:List Nat},Up l→Up ((l.filterMap fun j=>(g j).map fun v=>(j,v)).map (·.1))∧∀ y∈(l.filterMap fun j=>(g j).map fun v=>(j,v)).map (·.1),y∈l
 | [],_=>⟨List.Pairwise.nil,fun y hy=>by cases hy⟩
 | j::l,up=>by
  obtain ⟨a,b⟩:=List.pairwise_cons.mp up;obtain ⟨c,d⟩:=up_live (g:=g) b
  cases e:g j with
  | none =>
   rw [List.filterMap_cons_none (by rw [e]; rfl)];exact ⟨c,fun y hy=>A9 _ (d y hy)⟩
  | some v =>
   rw [List.filterMap_cons_some (b:=(j,v)) (by rw [e]; rfl),List.map_cons];refine ⟨List.pairwise_cons.mpr ⟨fun y hy=>a y (d y hy),c⟩,fun y hy=>?_⟩
   rcases List.mem_cons.mp hy with z | z
   ·rw [z]; exact Af
   ·exact A9 _ (d y z)
theorem relay_R {t:SetTable} {es:Array (Int×Value)} {n:Nat}:TabR (relayAll t es n).2.1∧(relayAll t es n).2.1.led=t.led:=by
 unfold relayAll
 split
 ·rename_i t' order e
  dsimp only
  split
  ·unfold SetTable.relaid SetTable.laid at e
   obtain ⟨owner,_,e⟩:=Option.bind_eq_some_iff.mp e
   cases e
   refine ⟨⟨?_,rfl⟩,rfl⟩;exact (up_live (g:=fun j=>owner.getD j none) List.pairwise_lt_range).1
  ·exact stand_R _ _
 ·exact stand_R _ _
def valE (e:Int×Value):Int:=match e.2 with | .int i _=>i | _=>0
def SetL (prog:Program) (w:World) (h:Heap) (a:Addr) (ks:List Int) (led:Bool):Prop:=∃ o es ep t,h.get? a=some o∧o.ExactSet∧o.data=.set es ep t∧ElemsOf (intKind prog w) es.toList∧(es.toList.map valE).Perm ks∧es.size<scanBound∧t.fits es.size=true∧TabR t∧t.led=led
section
variable {prog:Program} {w:World} {A:Around} {E:Value→Shared→Prop} {s:Shared}
theorem SetL.at {h h':Heap} {a:Addr} {ks:List Int} {led:Bool} (k:SetL prog w h a ks led) (e:∀ o,h.get? a=some o→h'.get? a=some o):SetL prog w h' a ks led:=by
 obtain ⟨o,es,ep,t,ho,r⟩:=k;exact ⟨o,es,ep,t,e o ho,r⟩
theorem put_at {h:Heap} {a:Addr} {o:Obj} {es:Array (Int×Value)} {ep:Nat} {t:SetTable} (ho:h.get? a=some o) (hd:o.data=.set es ep t) (es':Array (Int×Value)) (t':SetTable) :
  (h.update a (Obj.putSet es' t')).get? a=some { o with data:=.set es' (ep+1) t' }:=by
 have k:=Heap.get?_update_self (Obj.putSet es' t') ho (by rw [putSet_of es' t' hd]; rfl)
 rwa [putSet_of es' t' hd] at k
theorem tail_L {g:Bool→Sem Unit} (hg:∀ (b:Bool) (s1:Shared) (Q':Unit→Shared→Prop),Q' () s1→wpAny (model prog w) A (g b) Q' E s1) {a:Addr} {o:Obj} {es:Array (Int×Value)} {ep:Nat} {t:SetTable} (ho:s.heap.get? a=some o) (hex:o.ExactSet) (hd:o.data=.set es ep t)
  {es1:Array (Int×Value)} {t2:SetTable} {ks:List Int} {led:Bool} (el:ElemsOf (intKind prog w) es1.toList) (pm:(es1.toList.map valE).Perm ks) (hb:es1.size<scanBound) (hf:t2.fits es1.size=true) (hr:TabR t2) (hl:t2.led=led) {wd:Bool} {R:Option Bool→Shared→Prop}
  (h:∀ h',Heap.SameBut a s.heap h'→SetL prog w h' a ks led→R (some true) { s with heap:=h' }) :
  wpAny (model prog w) A (storeSet a es1 t2 >>= fun _=>if (!wd&&t2.tooFull)=true then g (relayAll t2 es1 (SetTable.grown es1.size)).2.2 >>= fun _=>storeSet a (relayAll t2 es1 (SetTable.grown es1.size)).1 (relayAll t2 es1 (SetTable.grown es1.size)).2.1 >>= fun _=>pure (some true) else pure (some true)) R E s:=by
 have p1:=put_at ho hd es1 t2;have b1:=Heap.SameBut.update s.heap a (Obj.putSet es1 t2);refine wpAny_bind <| wpAny_storeSet_of ho hd ?_ (fits_of_scanBound hb)
 by_cases c:(!wd&&t2.tooFull)=true
 ·rw [if_pos c]
  have q1:=relayAll_perm t2 es1 (SetTable.grown es1.size);have q2:=relayAll_fits t2 es1 (SetTable.grown es1.size);obtain ⟨q3,q4⟩:=relay_R (t:=t2) (es:=es1) (n:=SetTable.grown es1.size);generalize relayAll t2 es1 (SetTable.grown es1.size)=z at *;obtain ⟨es2,t3,gv⟩:=z;dsimp only at q1 q2 q3 q4 ⊢;have sz:es2.size=es1.size:=by rw [← Array.length_toList,q1.length_eq,Array.length_toList]
  refine wpAny_bind <| hg _ _ _ <| wpAny_bind <| wpAny_storeSet_of p1 rfl ?_ (fits_of_scanBound (by omega));exact wpAny_pure (h _ (b1.trans (Heap.SameBut.update _ a _)) ⟨_,es2,_,t3,put_at p1 rfl es2 t3,hex,rfl,el.perm q1,(q1.map valE).trans pm,by omega,q2,q3,q4.trans hl⟩)
 ·rw [if_neg c]
  exact wpAny_pure (h _ b1 ⟨_,es1,_,t2,p1,hex,rfl,el,pm,hb,hf,hr,hl⟩)
theorem add_L {a:Addr} {ks:List Int} {led:Bool} {k:Int} {tk:Tok} {Q:Bool→Shared→Prop} (new:k∉ks) (hS:SetL prog w s.heap a ks led) (room:ks.length+1<scanBound) (h:∀ h',Heap.SameBut a s.heap h'→SetL prog w h' a (ks++[k]) led→Q true { s with heap:=h' }) :
  wpAny (model prog w) A (setAddHashed a (.int k tk) (hashInt k)) Q E s:=by
 obtain ⟨o,es,ep,t,ho,hex,hd,el,pm,hb,hf,hr,hl⟩:=hS;have isk:(intKind prog w).is k (.int k tk)=true:=intKind_is _ _ _ _;have sz:es.size=ks.length:=by
  have:=pm.length_eq;rw [Al,Array.length_toList] at this;exact this
 unfold setAddHashed setAddHashedIn;refine wpAny_holding <| wpAny_bind <| wpAny_setState_of ho hd hf ?_;dsimp only;rw [byScan_of (knd:=intKind prog w) (x:=.int k tk) rfl hb el]
 simp only [↓reduceIte]
 unfold setAddByScan;refine wpAny_bind <| wpAny_bind <| wpAny_rule <| wpAny_bind <| wpAny_setScan_of (knd:=intKind prog w) isk ho hd hf el ?_;have no:List.findIdx? (fun e=>(intKind prog w).is k e.2) es.toList=none:=List.findIdx?_eq_none_iff.mpr fun e he=>by
  cases c:(intKind prog w).is k e.2 with
  | false=>rfl
  | true =>
   obtain ⟨u,eu⟩:=Value.isInt_shape (show Value.isInt k e.2=true from c);have ve:valE e=k:=by unfold valE; rw [eu]
   exact absurd (pm.mem_iff.mp (List.mem_map.mpr ⟨e,he,ve⟩)) new
 rw [no];dsimp only;have gw:∀ (b:Bool) (s1:Shared) (Q':Unit→Shared→Prop),Q' () s1→wpAny (model prog w) A (match b with | true=>rule "set.scan.the-table-gave-way" | false=>pure ()) Q' E s1:=fun b s1 Q' q=>by
  cases b with
  | true=>exact wpAny_rule q
  | false=>exact wpAny_pure q
 have l1:=layNew_perm t es (hashInt k) (.int k tk);have l2:=layNew_fits t es (hashInt k) (.int k tk);obtain ⟨l3,l4⟩:=lay_R (es:=es) (h:=hashInt k) (x:=.int k tk) hr;show wpAny _ _ (match layNew t es (hashInt k) (.int k tk) with | (es,t,wasDummy,gave)=>_) _ _ _;generalize layNew t es (hashInt k) (.int k tk)=z at *;obtain ⟨es1,t1,wd,gv⟩:=z;dsimp only at l1 l2 l3 l4 ⊢;rw [Array.toList_push] at l1;have el1:ElemsOf (intKind prog w) es1.toList:=(el.push isk rfl).perm l1;have pm1:(es1.toList.map valE).Perm (ks++[k]):=by
  refine (l1.map valE).trans ?_;rw [An];exact pm.append (List.Perm.refl _)
 have z1:es1.size=ks.length+1:=by
  have:=l1.length_eq;rw [Ad,Array.length_toList,Array.length_toList] at this;rw [this,sz];rfl
 refine wpAny_bind <| gw _ _ _ ?_
 by_cases c:t1.plain=true
 ·rw [if_pos c]
  refine wpAny_bind <| wpAny_of_eq (a:=true) (by rw [hashByValue_scannable 8 (x:=.int k tk) rfl]; rfl) ?_
  simp only [↓reduceIte]
  exact tail_L (fun b s1 Q' q=>gw b s1 Q' q) ho hex hd el1 pm1 (by omega) l2 l3 (l4.trans hl) fun h' sb k'=>wpAny_pure (h h' sb k')
 ·rw [if_neg c]
  refine wpAny_bind <| wpAny_pure ?_
  simp only [↓reduceIte]
  exact tail_L (fun b s1 Q' q=>gw b s1 Q' q) ho hex hd el1 pm1 (by omega) l2 l3 (l4.trans hl) fun h' sb k'=>wpAny_pure (h h' sb k')
end
section
variable {prog:Program} {w:World} {A:Around} {R:Result→Shared→Prop} {I l S:Addr} {items:Array Value} {ns:List Int}
theorem fill_L (hh:A.handled=none) (ne:l≠I) (nS:S≠I) (nl:S≠l) (ia:IntsAre items.toList ns) (nd:ns.Nodup) (hb:ns.length+1<scanBound) {led:Bool}:∀ (k i:Nat) (s:Shared),items.size - i=k→i≤items.size→s.heap.IsListIter I l i→s.heap.IsList l items→SetL prog w s.heap S (ns.take i) led→(∀ h' tk,(∀ b o,b≠S→b≠I→s.heap.get? b=some o→h'.get? b=some o)→SetL prog w h' S ns led→R (.ok (.ret .none)) { s with heap:=h',toks:=tk })→codeAny (model prog w) A (.builtin "set.update.loop" ⟨[.ref S,.ref I],[]⟩) R s
 | 0,i,s,hk,hi,st,il,hS,hR=>by
  have ei:i=items.size:=by omega
  subst ei;refine codeAny_builtin PyProof.Rows.F.entry_set_update_loop ?_;rw [Around.under_plainId PyProof.Rows.F.plain_set_update_loop _];change wpAny _ A.in1 (pyNext (.ref I) >>= _) _ _ s;refine wpAny_bind <| (Walks.list (prog:=prog) (w:=w) (A:=A.in1) hh I l ne items).done s _ _ ⟨st,il⟩ fun h' tk kk=>?_
  change wpAny _ A.in1 (ret Value.none) _ _ _;have ln:ns.length≤items.size:=by rw [← Array.length_toList,ia.length]; exact Nat.le_refl _
  rw [A5 ln] at hS;exact wpAny_pure (hR h' tk (fun b o _ nb e=>kk b o (by simpa using nb) e) (hS.at fun o e=>kk S o (by simpa using nS) e))
 | k+1,i,s,hk,hi,st,il,hS,hR=>by
  have lt:i<items.size:=by omega
  refine codeAny_builtin PyProof.Rows.F.entry_set_update_loop ?_;rw [Around.under_plainId PyProof.Rows.F.plain_set_update_loop _];change wpAny _ A.in1 (pyNext (.ref I) >>= _) _ _ s;refine wpAny_bind <| (Walks.list (prog:=prog) (w:=w) (A:=A.in1) hh I l ne items).item i s _ _ lt ⟨st,il⟩ fun v h' tk hv st' kk=>?_
  obtain ⟨t,ev⟩:=ia.int_at i v (by rw [Array.getElem?_toList]; exact hv);subst ev;have ln:ns.length=items.size:=by rw [← Array.length_toList,ia.length]
  have en:ns[i]?=some (ns.getD i 0):=by
   have:=A4 (show i<ns.length by omega);rw [this]
   simp [List.getD,this]
  have hS1:SetL prog w h' S (ns.take i) led:=hS.at fun o e=>kk S o (by simpa using nS) e
  change wpAny _ A.in1 (holding [Value.int (ns.getD i 0) t] (setAdd S (.int (ns.getD i 0) t)) >>= _) _ _ _;unfold setAdd;refine wpAny_bind <| wpAny_holding <| wpAny_holding <| wpAny_bind <| (intKind prog w).pyHash (k:=ns.getD i 0) (intKind_is _ _ _ _) ?_;have fresh:ns.getD i 0∉ns.take i:=fun z=>by
   obtain ⟨j,ej⟩:=List.mem_iff_getElem?.mp z;have hj:j<i:=by
    have:=(A1.mp ej).1;rw [Ak] at this;omega
   rw [A2 hj] at ej;have:=(List.getElem?_inj (show j<ns.length by omega) nd).mp (ej.trans en.symm);omega
  refine add_L (s:={ s with heap:=h',toks:=tk+1 }) fresh hS1 (by rw [Ak]; omega) fun h2 sb hS2=>?_
  have e2:ns.take i++[ns.getD i 0]=ns.take (i+1):=by rw [List.take_succ,en]; rfl
  rw [e2] at hS2;have k2:∀ b o,b≠S→h'.get? b=some o→h2.get? b=some o:=fun b o nb e=>by rw [sb.2 b nb]; exact e
  refine wpAny_pure ⟨plainId_quiet PyProof.Rows.F.plain_set_update_loop _,fill_L hh ne nS nl ia nd hb k (i+1) _ (by omega) (by omega) (st'.1.at fun o e=>k2 I o (Ne.symm nS) e) (st'.2.at fun o e=>k2 l o (Ne.symm nl) e) hS2 fun h3 tk3 kk3 hS3=>?_⟩;exact hR h3 tk3 (fun b o n1 n2 e=>kk3 b o n1 n2 (k2 b o n1 (kk b o (by simpa using n2) e))) hS3
end
section
variable {prog:Program} {w:World} {A:Around} {E:Value→Shared→Prop} {s:Shared}
abbrev byT (w:World):Bool:=w.params.followText "set-order"
theorem wp_text {Q:Bool→Shared→Prop} (h:Q (byT w) s):wpAny (model prog w) A setsByText Q E s:=by
 unfold setsByText;exact wpAny_bind (wpAny_askSetting (wpAny_pure h))
def ledW (w:World):Bool:=!w.params.followText "set-order"
def setO (led:Bool):Obj:={ cls:=.type "set",dict:=none,data:=.set #[] 0 (.fresh 0 0 led) }
theorem new_L (a:Value) {Q:Value→Shared→Prop} (h:Q (.ref s.heap.objs.size) { s with heap:=s.heap.push (setO (ledW w)) }) :
  codeAny (model prog w) A (.call (.builtin "set.__new__") ⟨[.type "set",a],[]⟩) (wants Q E) s:=by
 have cls:Builtin.Frozenset.newClass "set" ⟨[.type "set",a],[]⟩=pure (.type "set",[a]):=by
  unfold Builtin.Frozenset.newClass
  simp only [isType,sub_set_self,pure_bind,Bool.not_true,Bool.false_eq_true,if_false]
 have body:wpAny (model prog w) A.in1 (Builtin.«set.__new__» ⟨[.type "set",a],[]⟩) (fun fin s'=>match fin with | .done f=>wants Q E (.ok f) s' | .again c'=>c'.quiet=true∧codeAny (model prog w) A c' (wants Q E) s') (fun e s'=>wants Q E (.error e) s') s:=by
  unfold Builtin.«set.__new__» newSet;rw [cls,pure_bind];exact wpAny_bind <| wpAny_bind <| wp_text <| wpAny_newObj_type <| wpAny_pure h
 refine codeAny_of_tree <| wpAny_bind (m:=checkBuiltinCall _ _) <| wpAny_of_eq (F.newCall_set_1 a) <| wpAny_pure ⟨plainId_quiet F.plain_set_new _,?_⟩;exact codeAny_builtin F.entry_set_new <| (Around.under_plainId F.plain_set_new _).symm ▸ body
theorem init_L {l:Addr} {items:Array Value} {ns:List Int} {R:Result→Shared→Prop} (hh:A.handled=none) (hl:s.heap.IsList l items) (ia:IntsAre items.toList ns) (nd:ns.Nodup) (hb:ns.length+1<scanBound) (S:Addr) (eS:s.heap.get? S=some (setO (ledW w))) (nl:S≠l)
  (hR:∀ h' tk,SetL prog w h' S ns (ledW w)→(∀ b o,b≠S→s.heap.get? b=some o→h'.get? b=some o)→R (.ok (.ret .none)) { s with heap:=h',toks:=tk }) :
  codeAny (model prog w) A (.call (.builtin "set.__init__") ⟨[.ref S,.ref l],[]⟩) R s:=by
 have hT:s.TypeIs (.ref S) "set" := ⟨_,eS,rfl⟩;refine codeAny_call_builtin F.called_set.init.plain F.entry_set_init (check_set_init_1 hT ?_);obtain ⟨⟨_,odict,_,oslots⟩,el,rfl,m,rfl⟩:=id hl;have f1:=F.sub_list_set;have f2:=F.sub_list_frozenset;have f3:(Value.type "list" == Value.type "dict")=false:=rfl;have lS:=Heap.lt_size eS;have ll:=Heap.lt_size el;unfold setO at eS;unfold Builtin.«set.__init__» noKeywords Builtin.Frozenset.updateFrom;generalize hit:pyIter=it
 wp_walk
 subst hit;refine wpAny_pyIter_list hl <| wpAny_bind <| wpAny_runValue <| fill_L (led:=ledW w) (by simp [hh]) (Nat.ne_of_lt ll) (Nat.ne_of_lt lS) nl ia nd hb items.size 0 _ (Nat.sub_zero _) (Nat.zero_le _) ⟨_,Heap.get?_push_size _ rfl,rfl,rfl⟩ (hl.push _) ?_ fun h' tk kk hS=>?_
 ·exact ⟨_,#[],0,_,Heap.get?_push_of_some _ eS,⟨rfl,rfl,rfl⟩,rfl,fun e he=>by simp at he,List.Perm.refl _,by decide,by rfl,⟨List.Pairwise.nil,rfl⟩,rfl⟩
 ·exact wpAny_pure (wpAny_pure (hR h' tk hS fun b o n e=>kk b o n (Nat.ne_of_lt (Heap.lt_size e)) (Heap.get?_push_of_some _ e)))
theorem call_L {l:Addr} {items:Array Value} {ns:List Int} {Q:Value→Shared→Prop} (hh:A.handled=none) (hl:s.heap.IsList l items) (ia:IntsAre items.toList ns) (nd:ns.Nodup) (hb:ns.length+1<scanBound)
  (h:∀ h' tk,SetL prog w h' s.heap.objs.size ns (ledW w)→(∀ b o,s.heap.get? b=some o→h'.get? b=some o)→Q (.ref s.heap.objs.size) { s with heap:=h',toks:=tk }) :
  wpAny (model prog w) A (call (.type "set") [.ref l]) Q E s:=by
 have ll:l<s.heap.objs.size:=by obtain ⟨o,e,_⟩:=hl; exact Heap.lt_size e
 have eS:(s.heap.push (setO (ledW w))).get? s.heap.objs.size=some (setO (ledW w)):=Heap.get?_push_size _ rfl;have tS:Shared.TypeIs { s with heap:=s.heap.push (setO (ledW w)) } (.ref s.heap.objs.size) "set" := ⟨_,eS,rfl⟩;have ini:codeAny (model prog w) A.in1 (.call (.builtin "set.__init__") ⟨[.ref s.heap.objs.size,.ref l],[]⟩) (wants (fun r s2=>r=.none∧Q (.ref s.heap.objs.size) s2) E) { s with heap:=s.heap.push (setO (ledW w)) } :=
  init_L (by simp [hh]) (hl.push _) ia nd hb _ eS (Nat.ne_of_gt ll) fun h' tk hS kk=>⟨rfl,h h' tk hS fun b o e=>kk b o (Nat.ne_of_lt (Heap.lt_size e)) (Heap.get?_push_of_some _ e)⟩
 obtain ⟨q1,q2,⟨c,tl,q3⟩,q4,q5,q6,q7⟩:=F.called_set;have q8:=F.typeCall_set_1 (.ref l);have q9:=q7.lookup;have q10:=q7.bind (.ref s.heap.objs.size);refine wpAny_call <| codeAny_of_tree <| wpAny_pure ⟨Code.quiet_builtin _ (by decide +kernel),codeAny_builtin F.entry_type_call ?_⟩;rw [Around.under_plain (weight_type_call_type _ _ _) rfl]
 wp_walk
 refine codeAny_mono (new_L (.ref l) (E:=E) (Q:=fun x s1=>x=.ref s.heap.objs.size∧s1={ s with heap:=s.heap.push (setO (ledW w)) }) ⟨rfl,rfl⟩) fun r s1 k=>?_
 match r,k with
 | .error _,k=>exact k
 | .ok (.ret _),⟨e1,e2⟩ =>
  subst e1 e2
  wp_walk
  refine codeAny_mono ini fun r2 s2 k2=>?_
  match r2,k2 with
  | .error _,k2=>exact k2
  | .ok (.ret _),⟨e3,k3⟩ =>
   subst e3
   wp_walk
   exact k3
end
theorem kx {α:Type} {l:List α} {i:Nat} (h:i<l.length):(l[i]::l.eraseIdx i).Perm l:=by
 rw [List.eraseIdx_eq_take_drop_succ];refine List.Perm.trans (List.perm_middle (a:=l[i]) (l₁:=l.take i) (l₂:=l.drop (i+1))).symm ?_;rw [← List.drop_eq_getElem_cons h,List.take_append_drop]
theorem pick_go {α:Type} (nx:Nat→Nat):∀ (fuel k:Nat) (left:List α) (out:Array α),left.length=fuel→(pickOrder.go nx fuel k left out).toList.Perm (out.toList++left)
 | 0,k,left,out,h=>by
  have e:left=[]:=List.length_eq_zero_iff.mp h;subst e;rw [List.append_nil];exact List.Perm.refl _
 | fuel+1,k,left,out,h=>by
  unfold pickOrder.go;have lt:nx k%left.length<left.length:=Nat.mod_lt _ (by omega);rw [A4 lt];dsimp only;refine (pick_go nx fuel (k+1) _ _ (by rw [List.length_eraseIdx_of_lt lt]; omega)).trans ?_;rw [Array.toList_push,List.append_assoc];exact List.Perm.append_left _ (kx lt)
theorem pick_perm {α:Type} (nx:Nat→Nat) (xs:Array α):(pickOrder nx xs).toList.Perm xs.toList:=by
 have k:=pick_go nx xs.size 0 xs.toList #[] (by simp);unfold pickOrder
 simpa using k
section
variable {prog:Program} {w:World} {A:Around} {E:Value→Shared→Prop} {s:Shared}
def ordW (w:World) (a:Addr) (ep:Nat) (es:Array (Int×Value)):Array (Int×Value):=if byT w then pickOrder (w.params.setOrder a ep) es else es
theorem ordW_perm (a:Addr) (ep:Nat) (es:Array (Int×Value)):(ordW w a ep es).toList.Perm es.toList:=by
 unfold ordW
 split
 ·exact pick_perm _ _
 ·exact List.Perm.refl _
def vv (w:World) (t:SetTable) (i:Nat):Nat:=if byT w then 0 else match i with | 0=>0 | k+1=>t.place.getD k 0+1
theorem wp_next {a:Addr} {o:Obj} {es:Array (Int×Value)} {ep:Nat} {t:SetTable} {i:Nat} {Q:Option (Value×Nat)→Shared→Prop} (ho:s.heap.get? a=some o) (hd:o.data=.set es ep t) (hf:t.fits es.size=true) (hr:TabR t) (hl:t.led=ledW w) (nd:byT w=true∨t.plain=true∨es.size≤1) (hi:i≤es.size)
  (h:Q ((ordW w a ep es)[i]?.map fun e=>(e.2,vv w t (i+1))) s):wpAny (model prog w) A (setNext a (vv w t i) i ep) Q E s:=by
 unfold setNext;refine wpAny_bind <| wpAny_setState_of ho hd hf ?_;dsimp only;refine wpAny_bind <| wp_text ?_
 cases b:byT w with
 | true =>
  simp only [↓reduceIte]
  rw [if_neg (by simp)];refine wpAny_bind ?_;unfold setWalk;refine wpAny_bind <| wpAny_setState_of ho hd hf ?_;dsimp only;refine wpAny_bind <| wp_text ?_;rw [b]
  simp only [↓reduceIte]
  refine wpAny_bind <| wpAny_askSetting <| wpAny_pure <| wpAny_pure ?_;have e1:vv w t (i+1)=vv w t i:=by unfold vv; rw [if_pos b,if_pos b]
  unfold ordW at h;rw [if_pos b,e1] at h;exact h
 | false =>
  simp only [Bool.false_eq_true,↓reduceIte]
  refine wpAny_ite_split (fun hab=>?_) fun _=>?_
  ·change (!t.plain&&decide (es.size>1))=true at hab
   rcases nd with z | z | z
   ·rw [b] at z; cases z
   ·rw [z] at hab; simp at hab
   ·simp only [Bool.and_eq_true,decide_eq_true_eq] at hab; omega
  have led:t.led=true:=by rw [hl]; unfold ledW; rw [show w.params.followText "set-order" = false from b]; rfl
  change wpAny _ _ ((if (!t.led&&!es.isEmpty)=true then unsupported "set:maker-not-led" else pure ()) >>= _) _ _ _;rw [if_neg (by rw [led]; simp)];refine wpAny_bind <| wpAny_pure <| wpAny_pure ?_;have pz:t.place.size=es.size:=by
   unfold SetTable.fits at hf
   simp only [Bool.and_eq_true,beq_iff_eq] at hf
   exact hf.1
  have bi:SetTable.below t.place (vv w t i)=i:=by
   unfold vv;rw [if_neg (by rw [b]; decide)]
   cases i with
   | zero=>exact bel_zero hr.1
   | succ k =>
    dsimp only;have e:t.place[k]?=some (t.place.getD k 0):=by
     rw [Array.getElem?_eq_getElem (by omega)]
     simp [Array.getD,show k<t.place.size by omega]
    exact bel_next hr.1 e
  unfold ordW at h;rw [if_neg (by rw [b]; decide)] at h;rw [bi]
  by_cases c:i<es.size
  ·rw [Array.getElem?_eq_getElem c] at h ⊢
   rw [Array.getElem?_eq_getElem (show i<t.place.size by omega)];dsimp only;have e1:vv w t (i+1)=t.place[i]'(by omega)+1:=by
    unfold vv;rw [if_neg (by rw [b]; decide)];dsimp only
    simp [Array.getD,show i<t.place.size by omega]
   rw [e1] at h;exact h
  ·rw [Array.getElem?_eq_none (by omega)] at h ⊢
   exact h
end
theorem owner_si:Manifest.owners.lookup (String.ofList ['r','o','t','a','r','e','t','i','_','t','e','s'].reverse)=some Manifest.sig_set_iterator:=by kernel_rfl
theorem kK:Slot "set_iterator" "__next__" "set_iterator.__next__" := .of (owner := "set_iterator") (n := "__next__") (by rw [typeLookup_type,builtinLookup_eq_fast]; kernel_rfl) (by decide +kernel) (by decide +kernel) (by decide +kernel) (by first | exact .inl (by decide +kernel) | exact .inr (by decide +kernel)) (by rw [isSubtype_type]; kernel_rfl)
theorem entry_si:entryFor table "set_iterator.__next__" = some Builtin.«set_iterator.__next__»:=entryFor_of_tree (by kernel_rfl)
theorem args_si (a:Value):argsOk "set_iterator.__next__" ⟨[a],[]⟩:=by
 unfold argsOk;rw [signature?_of (id := "set_iterator.__next__") (n:=['_','_','t','x','e','n','_','_']) (o:=['r','o','t','a','r','e','t','i','_','t','e','s']) (by kernel_rfl) owner_si]
 kernel_rfl
theorem entry_sit:entryFor table "set.__iter__" = some Builtin.«frozenset.__iter__»:=by
 refine entryFor_alias (id' := "frozenset.__iter__") ?_ ?_ ?_ ?_
 ·kernel_rfl
 ·decide +kernel
 ·decide +kernel
 ·kernel_rfl
section
variable {prog:Program} {w:World} {A:Around} {E:Value→Shared→Prop} {s:Shared}
def itO (f:Value) (i n ep:Nat) (a:Addr):Obj:={ cls:=.type "set_iterator",dict:=none,data:=.fields #[f,rawInt (i:Int),.ref a,rawInt (n:Int),rawInt (ep:Int)],slots:=#[] }
theorem next_at {it a:Addr} {o:Obj} {es:Array (Int×Value)} {ep:Nat} {t:SetTable} {i:Nat} {Q:Option Value→Shared→Prop} (ho:s.heap.get? a=some o) (hd:o.data=.set es ep t) (hf:t.fits es.size=true) (hr:TabR t) (hl:t.led=ledW w) (nd:byT w=true∨t.plain=true∨es.size≤1)
  (hit:s.heap.get? it=some (itO (rawInt (vv w t i)) i es.size ep a)) {x:Int×Value} (hx:(ordW w a ep es)[i]?=some x) (hi:i<es.size)
  (hQ:∀ h',h'.get? it=some (itO (rawInt (vv w t (i+1))) (i+1) es.size ep a)→Heap.SameBut it s.heap h'→Q (some x.2) { s with heap:=h' }):wpAny (model prog w) A (pyNext (.ref it)) Q E s:=by
 have hT:s.TypeIs (.ref it) "set_iterator" := ⟨_,hit,rfl⟩;unfold pyNext;refine wpAny_bind <| wpAny_attempt <| wpAny_callSpecial?_slot (name:=Str.ofString "__next__") hT kK <| wpAny_call_entry kK hT entry_si ?_ (args_si _);unfold Builtin.«set_iterator.__next__»;refine wpAny_bind (wpAny_of_eq (a:=(Value.ref it,[])) rfl ?_);refine wpAny_bind <| wpAny_fieldsOf hit rfl ?_;dsimp only [rawInt];refine wpAny_bind <| wpAny_setEntries_of ho hd hf ?_;rw [if_neg (by simp)]
 try dsimp only
 refine wpAny_bind ?_;rw [show Int.toNat ((vv w t i:Nat):Int)=vv w t i from rfl,show Int.toNat (i:Int)=i from rfl,show Int.toNat (ep:Int)=ep from rfl];refine wp_next ho hd hf hr hl nd (Nat.le_of_lt hi) ?_;rw [hx];dsimp only [Option.map];refine wpAny_bind <| wpAny_setField_rec hit (by simp) fun h1 e1 b1=>?_
 refine wpAny_bind <| wpAny_setField_rec (s:={ s with heap:=h1 }) e1 (by simp) fun h2 e2 b2=>?_
 first
 | exact wpAny_pure ⟨x.2,rfl,wpAny_pure (hQ h2 e2 (b1.trans b2))⟩
 | exact wpAny_bind (wpAny_pure (wpAny_pure ⟨x.2,rfl,wpAny_pure (hQ h2 e2 (b1.trans b2))⟩))
theorem stop_now {it:Addr} {h0:Heap} {Q:Option Value→Shared→Prop} (hh:A.handled=none) (k:Heap.SameBut it h0 s.heap) (hQ:∀ h',(∀ b o,b≠it→h0.get? b=some o→h'.get? b=some o)→Q none { s with heap:=h' }) :
  wpAny (model prog w) A.in1 (newExc (.type "StopIteration") [] >>= fun x=>raiseNew x) (fun (_:Fin) _=>False) (fun e s'=>wpAny (model prog w) A (isInstance e (.type "StopIteration")) (fun b s''=>b=true∧Q none s'') E s') s:=by
 unfold newExc newTuple;refine wpAny_bind <| wpAny_bind <| wpAny_newObj_type (wpAny_bind (m:=firstArgMember _ _) <| wpAny_of_eq (a:=Value.none) (by simp only [firstArgMember]; rfl) <| wpAny_newObj_type <| wpAny_raiseNew_none hh ?_) (Nat.zero_le _);exact wpAny_isInstance ⟨_,Heap.get?_push_size _ rfl,rfl⟩ isSubtype_stop ⟨rfl,hQ _ fun b o nb e=>Heap.get?_push_of_some _ (Heap.get?_push_of_some _ (by rw [k.2 b nb]; exact e))⟩
theorem next_end {it a:Addr} {o:Obj} {es:Array (Int×Value)} {ep:Nat} {t:SetTable} {Q:Option Value→Shared→Prop} (hh:A.handled=none) (ho:s.heap.get? a=some o) (hd:o.data=.set es ep t) (hf:t.fits es.size=true) (hr:TabR t) (hl:t.led=ledW w) (nd:byT w=true∨t.plain=true∨es.size≤1)
  (hit:s.heap.get? it=some (itO (rawInt (vv w t es.size)) es.size es.size ep a)) (hQ:∀ h',(∀ b o,b≠it→s.heap.get? b=some o→h'.get? b=some o)→Q none { s with heap:=h' }):wpAny (model prog w) A (pyNext (.ref it)) Q E s:=by
 have hT:s.TypeIs (.ref it) "set_iterator" := ⟨_,hit,rfl⟩;unfold pyNext;refine wpAny_bind <| wpAny_attempt <| wpAny_callSpecial?_slot (name:=Str.ofString "__next__") hT kK <| wpAny_call_entry kK hT entry_si ?_ (args_si _);unfold Builtin.«set_iterator.__next__»;refine wpAny_bind (wpAny_of_eq (a:=(Value.ref it,[])) rfl ?_);refine wpAny_bind <| wpAny_fieldsOf hit rfl ?_;dsimp only [rawInt];refine wpAny_bind <| wpAny_setEntries_of ho hd hf ?_;rw [if_neg (by simp)]
 try dsimp only
 refine wpAny_bind ?_;rw [show Int.toNat ((vv w t es.size:Nat):Int)=vv w t es.size from rfl,show Int.toNat (es.size:Int)=es.size from rfl,show Int.toNat (ep:Int)=ep from rfl];refine wp_next ho hd hf hr hl nd (Nat.le_refl _) ?_;have en:(ordW w a ep es)[es.size]?=none:=Array.getElem?_eq_none (by
  have:=(ordW_perm (w:=w) a ep es).length_eq;rw [Array.length_toList,Array.length_toList] at this;omega)
 rw [en];dsimp only [Option.map];refine wpAny_bind <| wpAny_setField_rec hit (by simp) fun h1 e1 b1=>?_
 refine wpAny_mono (stop_now (E:=E) (s:={ s with heap:=h1 }) (Q:=Q) (it:=it) hh b1 fun h' k=>hQ h' k) (fun _ _ z=>z.elim) fun e s' z=>?_
 refine wpAny_bind (wpAny_mono z (fun b s'' y=>?_) fun _ _ y=>y);obtain ⟨rfl,y⟩:=y;exact wpAny_pure y
def tupO (ps:List Nat):Obj:={ cls:=.type "tuple",data:=.seq (ps.map fun (i:Nat)=>rawInt (i:Int)).toArray }
theorem draw_at {it a tp:Addr} {o:Obj} {es:Array (Int×Value)} {ep:Nat} {t:SetTable} {ps:List Nat} {i p:Nat} {Q:Option Value→Shared→Prop} (ho:s.heap.get? a=some o) (hd:o.data=.set es ep t) (hf:t.fits es.size=true)
  (hit:s.heap.get? it=some (itO (.ref tp) i es.size ep a)) (htp:s.heap.get? tp=some (tupO ps)) (hp:ps[i]?=some p) {x:Int×Value} (hx:es[p]?=some x)
  (hQ:∀ h',h'.get? it=some (itO (.ref tp) (i+1) es.size ep a)→Heap.SameBut it s.heap h'→Q (some x.2) { s with heap:=h' }):wpAny (model prog w) A (pyNext (.ref it)) Q E s:=by
 have hT:s.TypeIs (.ref it) "set_iterator" := ⟨_,hit,rfl⟩;unfold pyNext;refine wpAny_bind <| wpAny_attempt <| wpAny_callSpecial?_slot (name:=Str.ofString "__next__") hT kK <| wpAny_call_entry kK hT entry_si ?_ (args_si _);unfold Builtin.«set_iterator.__next__»;refine wpAny_bind (wpAny_of_eq (a:=(Value.ref it,[])) rfl ?_);refine wpAny_bind <| wpAny_fieldsOf hit rfl ?_;dsimp only [rawInt];refine wpAny_bind <| wpAny_setEntries_of ho hd hf ?_;rw [if_neg (by simp)]
 try dsimp only
 refine wpAny_bind <| wpAny_seqItems htp rfl ?_
 try dsimp only
 have e0:(ps.map fun (i:Nat)=>rawInt (i:Int)).toArray[Int.toNat (i:Int)]?=some (.int (p:Int) 0):=by
  rw [show Int.toNat (i:Int)=i from rfl]
  simp [hp,rawInt]
 rw [e0];dsimp only;refine wpAny_bind ?_;unfold setNextDrawn;refine wpAny_bind <| wpAny_setState_of ho hd hf ?_;dsimp only;rw [if_neg (by simp)]
 try dsimp only
 rw [show Int.toNat (p:Int)=p from rfl,hx];refine wpAny_pure ?_;refine wpAny_bind <| wpAny_setField_rec hit (by simp) fun h1 e1 b1=>?_
 first
 | exact wpAny_pure ⟨x.2,rfl,wpAny_pure (hQ h1 e1 b1)⟩
 | exact wpAny_bind (wpAny_pure (wpAny_pure ⟨x.2,rfl,wpAny_pure (hQ h1 e1 b1)⟩))
theorem draw_end {it a tp:Addr} {o:Obj} {es:Array (Int×Value)} {ep:Nat} {t:SetTable} {ps:List Nat} {Q:Option Value→Shared→Prop} (hh:A.handled=none) (ho:s.heap.get? a=some o) (hd:o.data=.set es ep t) (hf:t.fits es.size=true)
  (hit:s.heap.get? it=some (itO (.ref tp) es.size es.size ep a)) (htp:s.heap.get? tp=some (tupO ps)) (hp:ps.length=es.size) (hQ:∀ h',(∀ b o,b≠it→s.heap.get? b=some o→h'.get? b=some o)→Q none { s with heap:=h' }):wpAny (model prog w) A (pyNext (.ref it)) Q E s:=by
 have hT:s.TypeIs (.ref it) "set_iterator" := ⟨_,hit,rfl⟩;unfold pyNext;refine wpAny_bind <| wpAny_attempt <| wpAny_callSpecial?_slot (name:=Str.ofString "__next__") hT kK <| wpAny_call_entry kK hT entry_si ?_ (args_si _);unfold Builtin.«set_iterator.__next__»;refine wpAny_bind (wpAny_of_eq (a:=(Value.ref it,[])) rfl ?_);refine wpAny_bind <| wpAny_fieldsOf hit rfl ?_;dsimp only [rawInt];refine wpAny_bind <| wpAny_setEntries_of ho hd hf ?_;rw [if_neg (by simp)]
 try dsimp only
 refine wpAny_bind <| wpAny_seqItems htp rfl ?_
 try dsimp only
 have e0:(ps.map fun (i:Nat)=>rawInt (i:Int)).toArray[Int.toNat (es.size:Int)]?=none:=by
  rw [show Int.toNat (es.size:Int)=es.size from rfl]
  simp [hp]
 rw [e0];dsimp only;refine wpAny_bind <| wpAny_setField_rec hit (by simp) fun h1 e1 b1=>?_
 refine wpAny_bind <| wpAny_setField_rec (s:={ s with heap:=h1 }) e1 (by simp) fun h2 e2 b2=>?_
 refine wpAny_mono (stop_now (E:=E) (s:={ s with heap:=h2 }) (Q:=Q) (it:=it) hh (b1.trans b2) fun h' k=>hQ h' k) (fun _ _ z=>z.elim) fun e s' z=>?_
 refine wpAny_bind (wpAny_mono z (fun b s'' y=>?_) fun _ _ y=>y);obtain ⟨rfl,y⟩:=y;exact wpAny_pure y
end
theorem slot_sii:Slot "set_iterator" "__iter__" "set_iterator.__iter__" := .of (owner := "set_iterator") (n := "__iter__") (by rw [typeLookup_type,builtinLookup_eq_fast]; kernel_rfl) (by decide +kernel) (by decide +kernel) (by decide +kernel) (by first | exact .inl (by decide +kernel) | exact .inr (by decide +kernel)) (by rw [isSubtype_type]; kernel_rfl)
theorem args_sii (a:Value):argsOk "set_iterator.__iter__" ⟨[a],[]⟩:=by
 unfold argsOk;rw [signature?_of (id := "set_iterator.__iter__") (n:=['_','_','r','e','t','i','_','_']) (o:=['r','o','t','a','r','e','t','i','_','t','e','s']) (by kernel_rfl) owner_si]
 kernel_rfl
theorem entry_sii:entryFor table "set_iterator.__iter__" = some Builtin.«dict_keyiterator.__iter__»:=by
 refine entryFor_alias (id' := "dict_keyiterator.__iter__") ?_ ?_ ?_ ?_
 ·kernel_rfl
 ·decide +kernel
 ·decide +kernel
 ·kernel_rfl
section
variable {prog:Program} {w:World} {A:Around} {E:Value→Shared→Prop} {s:Shared}
theorem self_set {it:Addr} {f:Value} {i n ep:Nat} {a:Addr} {Q:Value→Shared→Prop} (hit:s.heap.get? it=some (itO f i n ep a)) (h:Q (.ref it) s):wpAny (model prog w) A (pyIter (.ref it)) Q E s:=by
 have hT:s.TypeIs (.ref it) "set_iterator" := ⟨_,hit,rfl⟩;refine wpAny_pyIter_slot hT slot_sii (wpAny_call_entry slot_sii hT entry_sii ?_ (args_sii _));show wpAny _ _ (ret (.ref it)) _ _ s;exact wpAny_pure ⟨_,rfl, "set_iterator",_,hT,kK.lookup,h⟩
structure WkS (prog:Program) (w:World) (A:Around) (a I:Addr) (fp:List Addr) (n:Nat) (vs:List Value) (St:Nat→Heap→Prop):Prop where
 wk:Walks prog w A I fp [I] n (fun i v=>vs[i]?=some v) St
 ln:vs.length=n
theorem walk_P {a I:Addr} {o:Obj} {es:Array (Int×Value)} {ep:Nat} {t:SetTable} (hh:A.handled=none) (ne:a≠I) (hd:o.data=.set es ep t) (hf:t.fits es.size=true) (hr:TabR t) (hl:t.led=ledW w) (nd:byT w=true∨t.plain=true∨es.size≤1) :
  WkS prog w A a I [I,a] es.size ((ordW w a ep es).toList.map (·.2)) (fun i h=>i≤es.size∧h.get? I=some (itO (rawInt (vv w t i)) i es.size ep a)∧h.get? a=some o):=by
 have ln:(ordW w a ep es).size=es.size:=by
  have:=(ordW_perm (w:=w) a ep es).length_eq
  rwa [Array.length_toList,Array.length_toList] at this
 refine ⟨⟨fun b hb=>by simp at hb; simp [hb],fun i h h' st hk=>⟨st.1,hk I (by simp) _ st.2.1,hk a (by simp) _ st.2.2⟩,fun i s Q E hi st hQ=>?_,fun s Q E st hQ=>?_,fun i s Q E st hQ=>self_set st.2.1 hQ⟩,by simp [ln]⟩
 ·have ex:(ordW w a ep es)[i]?=some ((ordW w a ep es)[i]'(by omega)):=Array.getElem?_eq_getElem (by omega)
  refine next_at st.2.2 hd hf hr hl nd st.2.1 ex hi fun h' e' b'=>hQ _ h' s.toks (by rw [List.getElem?_map,Array.getElem?_toList,ex]; rfl) ⟨by omega,e',by rw [b'.2 a ne]; exact st.2.2⟩ fun b o hb e=>by rw [b'.2 b (by simpa using hb)]; exact e
 ·exact next_end hh st.2.2 hd hf hr hl nd st.2.1 fun h' k=>hQ h' s.toks fun b o hb e=>k b o (by simpa using hb) e
theorem walk_D {a I tp:Addr} {o:Obj} {es:Array (Int×Value)} {ep:Nat} {t:SetTable} {ps:List Nat} (hh:A.handled=none) (ne:a≠I) (nt:tp≠I) (hd:o.data=.set es ep t) (hf:t.fits es.size=true) (hp:ps.Perm (List.range es.size)) :
  WkS prog w A a I [I,a,tp] es.size (ps.map fun p=>(es.toList.getD p (0,.none)).2) (fun i h=>i≤es.size∧h.get? I=some (itO (.ref tp) i es.size ep a)∧h.get? a=some o∧h.get? tp=some (tupO ps)):=by
 have ln:ps.length=es.size:=by rw [hp.length_eq,Aj]
 refine ⟨⟨fun b hb=>by simp at hb; simp [hb],fun i h h' st hk=>⟨st.1,hk I (by simp) _ st.2.1,hk a (by simp) _ st.2.2.1,hk tp (by simp) _ st.2.2.2⟩,fun i s Q E hi st hQ=>?_,fun s Q E st hQ=>?_,fun i s Q E st hQ=>self_set st.2.1 hQ⟩,by simp [ln]⟩
 ·have ep':ps[i]?=some (ps[i]'(by omega)):=A4 (by omega)
  have lt:ps[i]'(by omega)<es.size:=List.mem_range.mp (hp.mem_iff.mp (List.getElem_mem _));have ex:es[ps[i]'(by omega)]?=some (es[ps[i]'(by omega)]'lt):=Array.getElem?_eq_getElem lt;refine draw_at st.2.2.1 hd hf st.2.1 st.2.2.2 ep' ex fun h' e' b'=>hQ _ h' s.toks ?_ ⟨by omega,e',by rw [b'.2 a ne]; exact st.2.2.1,by rw [b'.2 tp nt]; exact st.2.2.2⟩ fun b o hb e=>by rw [b'.2 b (by simpa using hb)]; exact e
  rw [List.getElem?_map,ep'];have eg:es.toList.getD (ps[i]'(by omega)) (0,.none)=es[ps[i]'(by omega)]'lt:=by
   have e2:es.toList[ps[i]'(by omega)]?=some (es[ps[i]'(by omega)]'lt):=by rw [Array.getElem?_toList]; exact ex
   rw [List.getD,e2];rfl
  rw [← eg];rfl
 ·exact draw_end hh st.2.2.1 hd hf st.2.1 st.2.2.2 ln fun h' k=>hQ h' s.toks fun b o hb e=>k b o (by simpa using hb) e
theorem wp_pick {src:Source} {n:Nat} {Q:Nat→Shared→Prop} (hn:n≠0) (h:∀ i dr,i<n→Q i { s with drawn:=dr }):wpAny (model prog w) A (choose src n) Q E s:=fun Γ p hΓ=>⟨hn,h _ _ (Nat.mod_lt _ (Nat.pos_of_ne_zero hn))⟩
theorem wp_draw:∀ (n:Nat) (xs:List Nat) (s:Shared) {Q:List Nat→Shared→Prop},xs.length=n→(∀ ys dr,ys.Perm xs→Q ys { s with drawn:=dr })→wpAny (model prog w) A (drawOrder n xs) Q E s
 | 0,xs,s,Q,h,q=>by
  have e:xs=[]:=List.length_eq_zero_iff.mp h;subst e;exact wpAny_pure (q [] s.drawn (List.Perm.refl _))
 | n+1,x::xs,s,Q,h,q=>by
  unfold drawOrder;refine wpAny_bind <| wp_pick (by simp) fun i dr hi=>?_
  rw [A4 hi];dsimp only;refine wpAny_bind <| wp_draw n _ _ (by rw [List.length_eraseIdx_of_lt hi]; simp at h ⊢; omega) fun ys dr' hp=>wpAny_pure ?_
  exact q _ dr' ((List.Perm.cons _ hp).trans (kx hi))
 | n+1,[],s,Q,h,q=>by simp at h
theorem len_S {a:Addr} {o:Obj} {es:Array (Int×Value)} {ep:Nat} {t:SetTable} {Q:Nat→Shared→Prop} (ho:s.heap.get? a=some o) (hd:o.data=.set es ep t) (hf:t.fits es.size=true) (h:Q es.size s):wpAny (model prog w) A (Builtin.Frozenset.sizeOf a) Q E s:=by
 unfold Builtin.Frozenset.sizeOf;exact wpAny_bind (wpAny_setEntries_of ho hd hf (wpAny_pure h))
theorem ints_E:∀ {l:List (Int×Value)},ElemsOf (intKind prog w) l→IntsAre (l.map (·.2)) (l.map valE)
 | [],_=>.nil
 | e::l,h=>by
  obtain ⟨⟨k,hk,_⟩,_⟩:=h.head;obtain ⟨t,ev⟩:=Value.isInt_shape (show Value.isInt k e.2=true from hk);have ve:valE e=k:=by unfold valE; rw [ev]
  rw [List.map_cons,List.map_cons,ev,ve];exact .cons _ _ (ints_E h.tail)
theorem iter_S {a:Addr} {ks:List Int} {Q:Value→Shared→Prop} (hh:A.handled=none) (hS:SetL prog w s.heap a ks (ledW w))
  (hQ:∀ h' dr I fp vs zs St,(∀ b o,s.heap.get? b=some o→h'.get? b=some o)→s.heap.objs.size≤I→(∀ b∈fp,b=a∨s.heap.objs.size≤b)→WkS prog w A a I fp ks.length vs St→St 0 h'→IntsAre vs zs→zs.Perm ks→Q (.ref I) { s with heap:=h',drawn:=dr }):wpAny (model prog w) A (pyIter (.ref a)) Q E s:=by
 obtain ⟨o,es,ep,t,ho,hex,hd,el,pm,hb,hf,hr,hl⟩:=hS;have lk:es.size=ks.length:=by
  have:=pm.length_eq
  rwa [Al,Array.length_toList] at this
 have hT:s.TypeIs (.ref a) "set" := ⟨_,ho,hex.1⟩;have la:=Heap.lt_size ho;refine wpAny_pyIter_slot hT F.slot_set_iter (wpAny_call_entry F.slot_set_iter hT entry_sit ?_ (F.args_set_iter_1 _));unfold Builtin.«frozenset.__iter__» Builtin.Frozenset.slot0;refine wpAny_bind (wpAny_bind (wpAny_of_eq (a:=(Value.ref a,[])) rfl (wpAny_pure ?_)));refine wpAny_bind <| len_S ho hd hf ?_;unfold setDrawn;refine wpAny_bind <| wpAny_bind <| wpAny_setState_of ho hd hf ?_;dsimp only;refine wpAny_bind <| wp_text <| wpAny_pure ?_;refine wpAny_ite_split (fun c=>?_) fun c=>?_
 ·change (!byT w&&(!t.plain&&decide (es.size>1)))=true at c
  refine wpAny_bind <| wp_draw es.size (List.range es.size) s Aj fun ps dr hp=>?_
  refine wpAny_bind <| wpAny_newTuple (items:=ps.map fun (i:Nat)=>rawInt (i:Int)) ?_ (by rw [Al,hp.length_eq,Aj]; exact fits_of_scanBound hb);have ho1:(s.heap.push (tupO ps)).get? a=some o:=Heap.get?_push_of_some _ ho;refine wpAny_bind <| wpAny_bind <| wpAny_setState_of (s:={ s with heap:=s.heap.push (tupO ps),drawn:=dr }) ho1 hd hf <| wpAny_pure ?_;refine wpAny_bind <| wpAny_newObj_type (wpAny_pure ⟨_,rfl, "set_iterator",_,⟨_,Heap.get?_push_size _ rfl,rfl⟩,kK.lookup,?_⟩);have z1:(s.heap.push (tupO ps)).objs.size=s.heap.objs.size+1:=Heap.size_push ..;have W:=walk_D (prog:=prog) (w:=w) (A:=A) (a:=a) (I:=(s.heap.push (tupO ps)).objs.size) (tp:=s.heap.objs.size) hh (Nat.ne_of_lt (by rw [z1]; exact Nat.lt_succ_of_lt la)) (Nat.ne_of_lt (by rw [z1]; exact Nat.lt_succ_self _)) hd hf hp;rw [lk] at W;have pz:(ps.map fun p=>(es.toList.getD p (0,.none))).Perm es.toList:=by
   refine (hp.map _).trans ?_;have e:(List.range es.size).map (fun p=>es.toList.getD p (0,.none))=es.toList:=by
    apply List.ext_getElem?
    intro j
    by_cases hj:j<es.size
    ·have:es.toList[j]?=some es.toList[j]:=A4 (by simpa using hj)
     rw [List.getElem?_map,List.getElem?_range hj,this];show some (es.toList.getD j _)=_;rw [List.getD,this];rfl
    ·rw [List.getElem?_eq_none (by simpa using hj),List.getElem?_eq_none (by simpa using hj)]
   rw [e]
  refine hQ _ dr _ _ _ ((ps.map fun p=>(es.toList.getD p (0,.none))).map valE) _ (fun b o e=>Heap.get?_push_of_some _ (Heap.get?_push_of_some _ e)) (by rw [z1]; exact Nat.le_succ _) (fun b hb=>?_) W ⟨Nat.zero_le _,?_,Heap.get?_push_of_some _ ho1,Heap.get?_push_of_some _ (Heap.get?_push_size _ rfl)⟩ ?_ ((pz.map valE).trans pm)
  ·rcases List.mem_cons.mp hb with z | z
   ·rw [z,z1]; exact .inr (Nat.le_succ _)
   ·rcases List.mem_cons.mp z with y | y
    ·exact .inl y
    ·rw [Ae.mp y]; exact .inr (Nat.le_refl _)
  ·rw [← lk]; exact Heap.get?_push_size _ rfl
  ·have k:=ints_E (el.perm pz)
   rw [List.map_map] at k;exact k
 ·refine wpAny_bind <| wpAny_pure ?_
  refine wpAny_bind <| wpAny_bind <| wpAny_setState_of ho hd hf <| wpAny_pure ?_;refine wpAny_bind <| wpAny_newObj_type (wpAny_pure ⟨_,rfl, "set_iterator",_,⟨_,Heap.get?_push_size _ rfl,rfl⟩,kK.lookup,?_⟩);have nd:byT w=true∨t.plain=true∨es.size≤1:=by
   change ¬ (!byT w&&(!t.plain&&decide (es.size>1)))=true at c
   simp only [Bool.and_eq_true,Bool.not_eq_true',decide_eq_true_eq,not_and] at c
   by_cases b1:byT w=true
   ·exact .inl b1
   ·by_cases b2:t.plain=true
    ·exact .inr (.inl b2)
    ·exact .inr (.inr (Nat.le_of_not_lt (c (by simpa using b1) (by simpa using b2))))
  have W:=walk_P (prog:=prog) (w:=w) (A:=A) (a:=a) (I:=s.heap.objs.size) hh (Nat.ne_of_lt la) hd hf hr hl nd;rw [lk] at W;have s0:vv w t 0=0:=by unfold vv; split <;> rfl
  refine hQ _ s.drawn _ _ _ ((ordW w a ep es).toList.map valE) _ (fun b o e=>Heap.get?_push_of_some _ e) (Nat.le_refl _) (fun b hb=>?_) W ⟨Nat.zero_le _,?_,Heap.get?_push_of_some _ ho⟩ (ints_E (el.perm (ordW_perm a ep es))) (((ordW_perm a ep es).map valE).trans pm)
  ·rcases List.mem_cons.mp hb with z | z
   ·rw [z]; exact .inr (Nat.le_refl _)
   ·exact .inl (Ae.mp z)
  ·rw [← lk,s0]; exact Heap.get?_push_size _ rfl
end
section
variable {prog:Program} {w:World} {A:Around} {E:Value→Shared→Prop} {s:Shared}
theorem hint_set {r:Addr} {Q:Bool→Shared→Prop} (hT:s.TypeIs (.ref r) "set") (h:Q false s):wpAny (model prog w) A (Builtin.List.listLengthHint (.ref r)) Q E s:=by
 unfold Builtin.List.listLengthHint;refine wpAny_bind (wpAny_specialOf hT PySem.F.slot_set_len.lookup ?_);generalize hid:("set.__len__" : String)=id0
 wp_delta
 rw [show splitId id0=some ("set", "__len__") from by subst hid; decide +kernel];subst hid;refine wpAny_bind (wpAny_isInstance (T := "set") (b:=true) hT (by rw [isSubtype_type]; kernel_rfl) ?_);refine wpAny_ite_split (fun hab=>absurd hab (by decide)) fun _=>wpAny_ite_split (fun _=>?_) fun hab=>absurd (by decide +kernel) hab
 exact wpAny_bind (wpAny_typeOf hT (wpAny_pure h))
theorem coll_S {a:Addr} {ks:List Int} {R:Result→Shared→Prop} (hh:A.handled=none) (hS:SetL prog w s.heap a ks (ledW w)) (hn:ks.length≤sizeLine)
  (hR:∀ h' tk dr (acc:Array Value) c zs,(∀ b o,s.heap.get? b=some o→h'.get? b=some o)→h'.get? s.heap.objs.size=some { cls:=.type "list",dict:=none,data:=.seq acc c,slots:=#[] }→IntsAre acc.toList zs→zs.Perm ks→R (.ok (.ret (.ref s.heap.objs.size))) { s with heap:=h',toks:=tk,drawn:=dr }):codeAny (model prog w) A (.builtin "proto.collect" ⟨[.ref a],[]⟩) R s:=by
 obtain ⟨o,es,ep,t,ho,hex,_⟩:=id hS;have la:=Heap.lt_size ho;refine codeAny_builtin F.entry_proto_collect ?_;rw [Around.under_plainId F.plain_proto_collect];change wpAny _ A.in1 (newList [] >>= fun l=>again (.builtin "list.__iadd__" ⟨[l,.ref a],[]⟩)) _ _ s;refine wpAny_bind <| wpAny_newObj_type <| wpAny_pure ⟨plainId_quiet F.plain_list_iadd _,codeAny_builtin F.entry_list_iadd ?_⟩;rw [Around.under_plainId F.plain_list_iadd];generalize hs0:({ s with heap:=s.heap.push { cls:=.type "list",data:=.seq ([]:List Value).toArray } }:Shared)=s0;have eL:s0.heap.get? s.heap.objs.size=some { cls:=.type "list",data:=.seq #[] }:=by subst hs0; exact Heap.get?_push_size _ rfl
 have old:∀ b o,s.heap.get? b=some o→s0.heap.get? b=some o:=fun b o e=>by subst hs0; exact Heap.get?_push_of_some _ e
 have z0:s0.heap.objs.size=s.heap.objs.size+1:=by subst hs0; exact Heap.size_push ..
 have hS0:SetL prog w s0.heap a ks (ledW w):=hS.at fun o e=>old a o e
 have hT:s0.TypeIs (.ref a) "set" := ⟨_,old _ _ ho,hex.1⟩;have nLa:s.heap.objs.size≠a:=Nat.ne_of_gt la;change wpAny _ A.in1 (Builtin.List.listExtendWith (.ref s.heap.objs.size) (.ref a) (.ref s.heap.objs.size)) _ _ s0;unfold Builtin.List.listExtendWith;refine wpAny_bind (wpAny_typeOf (T := "set") hT ?_);have h1:Builtin.List.listSameRef (.ref s.heap.objs.size) (.ref a)=false:=by simp [Builtin.List.listSameRef,nLa]
 simp only [h1,show (Value.type "set" == Value.type "list")=false by decide,show (Value.type "set" == Value.type "tuple")=false by decide,Bool.or_false,Bool.false_eq_true,if_false]
 refine wpAny_bind <| iter_S (A:=A.in1) hh hS0 fun h2 dr I fp vs zs St kp lI hfp W st ia pz=>?_
 have eL2:=kp _ _ eL;have hT2:Shared.TypeIs { s0 with heap:=h2,drawn:=dr } (.ref a) "set" := ⟨_,kp _ _ (old _ _ ho),hex.1⟩;refine wpAny_bind (wpAny_holding (hint_set hT2 ?_));have nf:s.heap.objs.size∉fp:=fun z=>by
  rcases hfp _ z with y | y
  ·exact nLa y
  ·rw [z0] at y; exact absurd y (Nat.not_succ_le_self _)
 have key:∀ (h3:Heap) (c1:Nat),St 0 h3→(∀ b o,b≠s.heap.objs.size→h2.get? b=some o→h3.get? b=some o)→h3.get? s.heap.objs.size=some { cls:=.type "list",data:=.seq #[] c1 }→codeAny (model prog w) A (.builtin "list.extend.loop" ⟨[.ref s.heap.objs.size,.ref I,.ref s.heap.objs.size],[]⟩) R { s0 with heap:=h3,drawn:=dr }:=fun h3 c1 st3 k3 e3=>by
  refine codeAny_extend_loopS W.wk.toS hn _ nf _ ks.length 0 _ #[] c1 rfl (Nat.zero_le _) st3 e3 (ItemsOf.nil _) fun s' acc' c' hm eS ha=>?_
  rw [Moved.eq_with hm];subst hs0;refine hR s'.heap s'.toks dr acc' c' zs (fun b o e=>?_) eS ?_ pz
  ·refine hm.heap b o (fun z=>?_) (k3 b o (Nat.ne_of_lt (Heap.lt_size e)) (kp b o (old b o e)))
   rcases List.mem_cons.mp z with y | y
   ·exact absurd (Heap.lt_size e) (by rw [y]; exact Nat.lt_irrefl _)
   ·have lb:=Heap.lt_size e
    rw [Ae.mp y] at lb;rw [z0] at lI;exact absurd (Ag lb (Nat.le_of_succ_le lI)) (Nat.lt_irrefl _)
  ·have e:acc'.toList=vs:=by
    apply List.ext_getElem?
    intro j
    by_cases hj:j<acc'.size
    ·have e1:acc'[j]?=some acc'[j]:=Array.getElem?_eq_getElem hj
     have:=ha.2 j _ e1;rw [Array.getElem?_toList,e1,this]
    ·rw [List.getElem?_eq_none (by simpa using hj),List.getElem?_eq_none (by rw [W.ln,← ha.1]; omega)]
   rw [e];exact ia
 refine wpAny_ite_split (fun _=>?_) fun _=>wpAny_pure ⟨plainId_quiet PySem.F.plain_extend_loop _,key h2 _ st (fun b o _ e=>e) eL2⟩
 refine wpAny_bind <| wpAny_rule <| wpAny_bind ?_;change wpAny _ _ (updateSeq s.heap.objs.size (·.push .none) >>= fun _=>updateSeq s.heap.objs.size (·.pop)) _ _ _;refine wpAny_bind (wpAny_updateSeq (s:={ s0 with heap:=h2,drawn:=dr }) eL2 rfl ?_);have e3:=Heap.get?_update_self (Obj.mapSeq (·.push Value.none)) eL2 rfl;refine wpAny_updateSeq (hz:=by seq_fits) e3 rfl ?_;have e4:=Heap.get?_update_self (Obj.mapSeq (·.pop)) e3 rfl;refine wpAny_pure ⟨plainId_quiet PySem.F.plain_extend_loop _,key _ _ (W.wk.frame 0 _ _ st fun b hb o e=>?_) (fun b o nb e=>?_) e4⟩
 ·have nb:b≠s.heap.objs.size:=fun z=>nf (z ▸ hb)
  exact (Heap.get?_update_other _ _ (Ne.symm nb)).trans ((Heap.get?_update_other _ _ (Ne.symm nb)).trans e)
 ·exact (Heap.get?_update_other _ _ (Ne.symm nb)).trans ((Heap.get?_update_other _ _ (Ne.symm nb)).trans e)
theorem sorted_S {a:Addr} {ks:List Int} {Q:Value→Shared→Prop} (hh:A.handled=none) (hS:SetL prog w s.heap a ks (ledW w)) (hn:ks.length<64)
  (hQ:∀ (h':Heap) (tk:Nat) (dr:Drawn) (l:Addr) (out:Array Value) (e:Nat) (ns':List Int),(∀ b o,s.heap.get? b=some o→h'.get? b=some o)→s.heap.objs.size≤l→h'.get? l=some (seqObj "list" out e)→IntsAre out.toList ns'→ns'.Perm ks→ns'.Pairwise (·≤·)→Q (.ref l) { s with heap:=h',toks:=tk,drawn:=dr }) :
  wpAny (model prog w) A (call (.builtin "sorted") [.ref a]) Q E s:=by
 have hsl:sizeLine=16777216:=sizeLine_eq;refine Calls.call_function_entry kind_sorted plain_sorted entry_sorted (args_sorted1 _) ?_;unfold Builtin.«sorted»;refine wpAny_bind (m:=checkCount "sorted" 1 1 _) (wpAny_pure ?_);refine wpAny_bind ?_;unfold collect;refine wpAny_bind <| wpAny_runValue <| coll_S (A:=A.in1) hh hS (by omega) fun h1 tk dr acc c zs kp e ia pz=>?_
 change wpAny _ A.in1 (load s.heap.objs.size >>= _) _ _ _;refine wpAny_bind <| wpAny_load e <| wpAny_pure ?_;have la:acc.toList.length<64:=by rw [ia.length,pz.length_eq]; exact hn
 refine wpAny_bind (wpAny_newList ?_ (by omega));have hoL:(h1.push (seqObj "list" acc.toList.toArray 0)).get? h1.objs.size=some (seqObj "list" acc.toList.toArray 0):=Heap.get?_push_size _ rfl;refine wpAny_bind <| wpAny_holding <| wpAny_call_entry slot_list_sort (s:={ s with heap:=h1.push (seqObj "list" acc.toList.toArray 0),toks:=tk,drawn:=dr }) ⟨_,hoL,rfl⟩ entry_list_sort (list_sort_tree (s:={ s with heap:=h1.push (seqObj "list" acc.toList.toArray 0),toks:=tk,drawn:=dr }) hoL ia la fun out ns' a1 a2 a3=>⟨_,rfl,?_⟩) (args_list_sort _);obtain ⟨ee,he⟩:=sortedHeap_at (out:=out) hoL;refine wpAny_pure ⟨_,rfl,hQ _ tk dr h1.objs.size out ee ns' (fun b o eb=>?_) (Nat.le_of_lt (Heap.lt_size e)) he a1 (a2.trans pz) a3⟩;have lb:=Heap.lt_size (kp b o eb);show (sortedHeap (h1.push (seqObj "list" acc.toList.toArray 0)) h1.objs.size acc.toList out).get? b=some o;rw [sortedHeap_old (Nat.ne_of_lt lb) (by rw [size_push']; exact Nat.lt_succ_of_lt lb)];exact Heap.get?_push_of_some _ (kp b o eb)
end
section
variable {X:Cx} {pins:List (Addr×Obj)} {σ:St} {H:Hp} {s:Shared}
theorem Inv.dr (I:Inv X pins σ H s) (dr:Drawn):Inv X pins σ H { s with drawn:=dr }:=by
 cases I
 constructor <;> assumption
end
section
variable {X:Cx}
def tSortS (te:TE):TE:=fun σ H Q=>te σ H fun x H1=>∃ (p:Addr) (ns:List Int),x=.ref p∧SqL X.K H1 p (ns.map V.int)∧ns.length<64∧ns.Nodup∧∀ (l:Addr) (ns':List Int),ns'.Perm ns→ns'.Pairwise (·≤·)→H1 l=none→Q (.ref l) (upd H1 l (.lst (ns'.map V.int)))
theorem pe_sortSet {e:Expr} {te:TE} {q p p1 cpos:Pos} (hc:X.calm=true) (hg:Gl X "sorted") (hm:X.mg "sorted" = none) (gs:Gl X "set") (ms:X.mg "set" = none) (he:PE X e te) (hs:starEach [e] X.env=[(false,eval e X.env)]:=by rfl)
  (hs2:starEach [.Call (.Name "set" p) [e] [] p1] X.env=[(false,eval (.Call (.Name "set" p) [e] [] p1) X.env)]:=by rfl) :
  PE X (.Call (.Name "sorted" q) [.Call (.Name "set" p) [e] [] p1] [] cpos) (tSortS (X:=X) te):=by
 intro pins s σ H Q I h;refine wpAny_Call_Name_kw (Qw I hg hm boot_sorted ?_ (by decide) (by decide));refine PyProof.Rows.callWith_builtin1 ?_ hs2 rfl;rw [hs2];refine Calls.spliced_cons (wpAny_Call_Name_kw (Qw I gs ms boot_set ?_ (by decide) (by decide)));refine PyProof.Rows.callWith_type1 (thn (pa_cons he qj hs p1 pins s σ H (fun xs H2=>match xs with | [x]=>∃ (p:Addr) (ns:List Int),x=.ref p∧SqL X.K H2 p (ns.map V.int)∧ns.length<64∧ns.Nodup∧∀ (l:Addr) (ns':List Int),ns'.Perm ns→ns'.Pairwise (·≤·)→H2 l=none→Q (.ref l) (upd H2 l (.lst (ns'.map V.int))) | _=>False) I ?_) fun us s2 ⟨xs,H2,I2,r2,qv⟩=>?_) hs rfl
 ·exact h
 obtain ⟨x2,rfl⟩:∃ x,xs=[x]:=by
  match xs,qv with
  | [x],_=>exact ⟨x,rfl⟩
 obtain ⟨p2,ns,ex,hp,hz,nd,q⟩:=qv;subst ex;obtain ⟨u2,rfl,ru⟩:=vals1 r2
 cases ru
 obtain ⟨its,rv,pl,_⟩:=I2.list hp;have hb:ns.length+1<scanBound:=Nat.lt_of_le_of_lt (show ns.length+1≤65 by omega) (by decide);refine call_L (I2.ok.hd hc) pl.isList (ns:=ns) (by simpa using ints_are rv) nd hb fun h3 tk hS kp=>Calls.spliced_nil ?_
 have lS:s2.heap.objs.size<h3.objs.size:=by
  obtain ⟨o,_,_,_,e,_⟩:=hS;exact Heap.lt_size e
 refine sorted_S (s:={ s2 with heap:=h3,toks:=tk }) (I2.ok.hd hc) hS hz fun h' tk' dr l out e ns' kp' sl he' a1 a2 a3=>?_
 have sl2:s2.heap.objs.size≤l:=Ar (Nat.le_of_lt lS) sl;refine ⟨.ref l,_,(I2.dr dr).laid (s:={ s2 with drawn:=dr }) (t':=tk') (fun b o eb=>kp' b o (kp b o eb)) sl2 (show ObjOk X.prog X.w _ h' _ (.lst (ns'.map V.int)) from ⟨?_,out.toList,e,Z9 a1,by simpa [seqObj] using he'⟩),rfl,q l ns' a2 a3 (I2.hok.fresh sl2)⟩;have hsl:sizeLine=16777216:=sizeLine_eq;have:=a2.length_eq;rw [Al];omega
end
end L2
namespace BP
open PySem L2
theorem scyk:FnScope ["_law_script", "_law_k"] ["_law_script", "_law_k"] (qY Z4):=by walk_at "a"
theorem ZX:FnScope ["_law_cell", "_law_k", "_law_number"] ["_law_cell", "_law_k"] (qY syn):=by walk_at "a"
theorem QX:FnScope ["_law_number", "_law_k", "_law_wide_here", "_law_j"] ["_law_number", "_law_k"] (qY sx4):=by walk_at "a"
theorem yY:FnScope ["_law_script", "_law_start", "_law_many_here", "_law_total", "_law_rest", "_law_at", "_law_cell", "_law_seeds_here", "_law_k"] ["_law_script", "_law_start", "_law_many_here"] (qY sys):=by walk_at "a"
theorem QK:FnScope ["_law_top", "_law_bottom", "_law_rest", "_law_by"] ["_law_top", "_law_bottom"] (qY syp):=by walk_at "a"
theorem j8:FnScope ["_law_number", "_law_great", "_law_top", "_law_way", "_law_far", "_law_tail"] ["_law_number", "_law_great"] (qY sx0):=by walk_at "a"
theorem scyv:FnScope ["_law_number", "_law_great"] ["_law_number", "_law_great"] (qY syv):=by walk_at "a"
theorem zX:FnScope ["_law_number", "_law_places", "_law_bent", "_law_great", "_law_kind", "_law_way", "_law_more", "_law_left", "_law_terms", "_law_k", "_law_coin", "_law_spot", "_law_share"] ["_law_number", "_law_places", "_law_bent", "_law_great"] (qY sx2):=by walk_at "a"
theorem y8:FnScope ["_law_script", "_law_start", "_law_most_bends", "_law_seeds_here", "_law_lead", "_law_more", "_law_many_here", "_law_great", "_law_size", "_law_units", "_law_bends_here", "_law_number", "_law_unit_here", "_law_outs", "_law_k"] ["_law_script", "_law_start", "_law_most_bends"] (qY syo):=by walk_at "a"
theorem scya:FnScope ["one", "other", "rest"] ["one", "other"] (qY sya):=by walk_at "a"
theorem scyg:FnScope ["thing"] ["thing"] (qY syg):=by walk_at "a"
theorem scyf:FnScope ["thing"] ["thing"] (qY syf):=by walk_at "a"
theorem scy4:FnScope ["place", "end"] ["place", "end"] (qY xJ):=by walk_at "a"
theorem scx9:FnScope ["one"] ["one"] (qY sx9):=by walk_at "a"
theorem scy7:FnScope ["term", "end"] ["term", "end"] (qY Qz):=by walk_at "a"
theorem scy6:FnScope ["constant", "terms", "end", "found"] ["constant", "terms", "end"] (qY Z5):=by walk_at "a"
theorem scy8:FnScope ["unit", "end"] ["unit", "end"] (qY Qq):=by walk_at "a"
theorem Zv:FnScope ["units", "many", "found"] ["units", "many"] (qY xZ):=by walk_at "a"
theorem scy3:FnScope ["outs", "end"] ["outs", "end"] (qY Qx):=by walk_at "a"
theorem sczo:FnScope ["self", "many", "units", "outs"] ["self", "many", "units", "outs"] (qY szo):=by walk_at "a"
theorem scyy:FnScope ["_law_one", "_law_other", "_law_top"] ["_law_one", "_law_other"] (qY syy):=by walk_at "a"
theorem wq:FnScope ["_law_script", "_law_start", "_law_many_here", "_law_sides_here", "_law_number", "_law_low", "_law_wide_here"] ["_law_script", "_law_start", "_law_many_here"] (qY syu):=by walk_at "a"
theorem scz4:FnScope ["self"] ["self"] (qY sz4):=by walk_at "a"
theorem sczy:FnScope ["self", "box", "count"] ["self", "box", "count"] (qY Z7):=by walk_at "a"
theorem scxg:FnScope ["unit"] ["unit"] (qY sxg):=by walk_at "a"
theorem sczr:FnScope ["self"] ["self"] (qY szr):=by walk_at "a"
theorem scx6:FnScope ["number", "many"] ["number", "many"] (qY sx6):=by walk_at "a"
theorem scyb:FnScope ["constant", "many"] ["constant", "many"] (qY syb):=by walk_at "a"
theorem scxa:FnScope ["one", "other", "by", "top", "rest"] ["one", "other"] (qY sxa):=by walk_at "a"
theorem scxf:FnScope ["one", "other", "by", "across"] ["one", "other"] (qY sxf):=by walk_at "a"
theorem scy2:FnScope ["one", "other", "by"] ["one", "other", "by"] (qY Z6):=by walk_at "a"
theorem wv:FnScope ["constant", "terms", "found", "count", "form", "place", "share"] ["constant", "terms", "found", "count"] (qY ZK):=by walk_at "a"
theorem scx5:FnScope ["one", "other"] ["one", "other"] (qY sx5):=by walk_at "a"
theorem jw:FnScope ["form", "sides", "least", "greatest", "share", "side", "falls"] ["form", "sides"] (qY syc):=by walk_at "a"
theorem wz:FnScope ["self", "form", "span", "bent_form"] ["self", "form"] (qY wW):=by walk_at "a"
theorem xV:FnScope ["net", "sketch", "told", "found", "unit"] ["net", "sketch"] (qY sx8):=by walk_at "a"
theorem scz6:FnScope ["self", "many"] ["self", "many"] (qY ZW):=by walk_at "a"
theorem v6:FnScope ["sketch", "forms", "found", "standing", "variable"] ["sketch", "forms"] (qY wK):=by walk_at "a"
theorem scz9:FnScope ["self", "unit"] ["self", "unit"] (qY sz9):=by walk_at "a"
theorem Z3:FnScope ["self", "form", "terms", "parts"] ["self", "form"] (qY ZV):=by walk_at "a"
theorem sczn:FnScope ["self"] ["self"] (qY szn):=by walk_at "a"
theorem wX:FnScope ["net", "box", "many", "sketch", "forms", "draft", "variable", "outs"] ["net", "box"] (qY sxc):=by walk_at "a"
theorem scym:FnScope ["_law_one", "_law_other"] ["_law_one", "_law_other"] (qY sym):=by walk_at "a"
theorem zK:FnScope ["_law_unit_here", "_law_known", "_law_low", "_law_high", "_law_place", "_law_share", "_law_ends"] ["_law_unit_here", "_law_known"] (qY kW):=by walk_at "a"
theorem xW:FnScope ["_law_units", "_law_sides_here", "_law_known", "_law_unit_here", "_law_ends"] ["_law_units", "_law_sides_here"] (qY syx):=by walk_at "a"
theorem scyq:FnScope ["_law_found"] ["_law_found"] (qY syq):=by walk_at "a"
theorem vK:FnScope ["_law_unit_here", "_law_bent", "_law_places", "_law_place", "_law_share"] ["_law_unit_here", "_law_bent"] (qY x9):=by walk_at "a"
theorem zW:FnScope ["_law_found", "_law_sides_here", "_law_many_here", "_law_units", "_law_outs", "_law_ends", "_law_bent", "_law_k", "_law_unit_here"] ["_law_found", "_law_sides_here"] (qY wV):=by walk_at "a"
theorem yw:FnScope ["_law_found", "_law_many_here", "_law_units", "_law_outs", "_law_led", "_law_place", "_law_k", "_law_share"] ["_law_found"] (qY Q9):=by walk_at "a"
theorem scyj:FnScope ["_law_told"] ["_law_told"] (qY syj):=by walk_at "a"
theorem ZJ:FnScope ["_law_told", "_law_found", "_law_sides_here", "_law_k", "_law_unit_here"] ["_law_told", "_law_found", "_law_sides_here"] (qY syr):=by walk_at "a"
theorem jv:FnScope ["_law_told", "_law_many_here", "_law_units", "_law_outs", "_law_more", "_law_fresh", "_law_unit_here", "_law_terms"] ["_law_told"] (qY sx1):=by walk_at "a"
theorem scy5:FnScope ["side"] ["side"] (qY Qj):=by walk_at "a"
theorem scz1:FnScope ["self", "sides"] ["self", "sides"] (qY sz1):=by walk_at "a"
theorem scyh:FnScope ["_law_script", "_law_told", "_law_net_here", "_law_sides_here", "_law_beside", "_law_lean"] ["_law_script"] (qY syh):=by walk_at "a"
set_option genInjectivity false in
set_option genSizeOf false in
structure Adr where
 fyk:Addr
 dyk:FuncData
 fyn:Addr
 dyn:FuncData
 fx4:Addr
 dx4:FuncData
 fys:Addr
 dys:FuncData
 fyp:Addr
 dyp:FuncData
 fx0:Addr
 dx0:FuncData
 fyv:Addr
 dyv:FuncData
 fx2:Addr
 dx2:FuncData
 fyo:Addr
 dyo:FuncData
 fya:Addr
 dya:FuncData
 fyg:Addr
 dyg:FuncData
 fyf:Addr
 dyf:FuncData
 fy4:Addr
 dy4:FuncData
 fx9:Addr
 dx9:FuncData
 fy7:Addr
 dy7:FuncData
 fy6:Addr
 dy6:FuncData
 fy8:Addr
 dy8:FuncData
 fy9:Addr
 dy9:FuncData
 fy3:Addr
 dy3:FuncData
 fzo:Addr
 dzo:FuncData
 fyy:Addr
 dyy:FuncData
 fyu:Addr
 dyu:FuncData
 fz4:Addr
 dz4:FuncData
 fzy:Addr
 dzy:FuncData
 fxg:Addr
 dxg:FuncData
 fzr:Addr
 dzr:FuncData
 fx6:Addr
 dx6:FuncData
 fyb:Addr
 dyb:FuncData
 fxa:Addr
 dxa:FuncData
 fxf:Addr
 dxf:FuncData
 fy2:Addr
 dy2:FuncData
 fxe:Addr
 dxe:FuncData
 fx5:Addr
 dx5:FuncData
 fyc:Addr
 dyc:FuncData
 fzw:Addr
 dzw:FuncData
 fx8:Addr
 dx8:FuncData
 fz6:Addr
 dz6:FuncData
 fx7:Addr
 dx7:FuncData
 fz9:Addr
 dz9:FuncData
 fza:Addr
 dza:FuncData
 fzn:Addr
 dzn:FuncData
 fxc:Addr
 dxc:FuncData
 fym:Addr
 dym:FuncData
 fyw:Addr
 dyw:FuncData
 fyx:Addr
 dyx:FuncData
 fyq:Addr
 dyq:FuncData
 fyz:Addr
 dyz:FuncData
 fx3:Addr
 dx3:FuncData
 fyi:Addr
 dyi:FuncData
 fyj:Addr
 dyj:FuncData
 fyr:Addr
 dyr:FuncData
 fx1:Addr
 dx1:FuncData
 fy5:Addr
 dy5:FuncData
 fz1:Addr
 dz1:FuncData
 fyh:Addr
 dyh:FuncData
 cz0:Addr
 czm:Addr
 czv:Addr
 cz5:Addr
 tzf:Tok
 tzj:Tok
 tzh:Tok
 tzg:Tok
 gzk:Addr
 gzu:Addr
 tzi:Tok
structure Txt (K:As) (mg:Str→Option Value) (a:Adr):Prop where
 Fyk:Fun K "_law_cell_at" "_law_cell_at" Z4 a.fyk a.dyk
 myk:mg "_law_cell_at" = some (.ref a.fyk)
 byk:Binds K a.dyk ["_law_script", "_law_k"] []
 Fyn:Fun K "_law_mixed" "_law_mixed" syn a.fyn a.dyn
 myn:mg "_law_mixed" = some (.ref a.fyn)
 byn:Binds K a.dyn ["_law_cell", "_law_k"] []
 Fx4:Fun K "_law_wide" "_law_wide" sx4 a.fx4 a.dx4
 mx4:mg "_law_wide" = some (.ref a.fx4)
 bx4:Binds K a.dx4 ["_law_number", "_law_k"] []
 Fys:Fun K "_law_seeds" "_law_seeds" sys a.fys a.dys
 mys:mg "_law_seeds" = some (.ref a.fys)
 bys:Binds K a.dys ["_law_script", "_law_start", "_law_many_here"] []
 Fyp:Fun K "_law_part" "_law_part" syp a.fyp a.dyp
 myp:mg "_law_part" = some (.ref a.fyp)
 byp:Binds K a.dyp ["_law_top", "_law_bottom"] []
 Fx0:Fun K "_law_taken" "_law_taken" sx0 a.fx0 a.dx0
 mx0:mg "_law_taken" = some (.ref a.fx0)
 bx0:Binds K a.dx0 ["_law_number", "_law_great"] []
 Fyv:Fun K "_law_small" "_law_small" syv a.fyv a.dyv
 myv:mg "_law_small" = some (.ref a.fyv)
 byv:Binds K a.dyv ["_law_number", "_law_great"] []
 Fx2:Fun K "_law_unit" "_law_unit" sx2 a.fx2 a.dx2
 mx2:mg "_law_unit" = some (.ref a.fx2)
 bx2:Binds K a.dx2 ["_law_number", "_law_places", "_law_bent", "_law_great"] []
 Fyo:Fun K "_law_net" "_law_net" syo a.fyo a.dyo
 myo:mg "_law_net" = some (.ref a.fyo)
 byo:Binds K a.dyo ["_law_script", "_law_start", "_law_most_bends"] []
 Fya:Fun K "common" "common" sya a.fya a.dya
 mya:mg "common" = some (.ref a.fya)
 bya:Binds K a.dya ["one", "other"] []
 Fyg:Fun K "is_whole" "is_whole" syg a.fyg a.dyg
 myg:mg "is_whole" = some (.ref a.fyg)
 byg:Binds K a.dyg ["thing"] []
 Fyf:Fun K "is_ratio" "is_ratio" syf a.fyf a.dyf
 myf:mg "is_ratio" = some (.ref a.fyf)
 byf:Binds K a.dyf ["thing"] []
 Fy4:Fun K "checked_place" "checked_place" xJ a.fy4 a.dy4
 my4:mg "checked_place" = some (.ref a.fy4)
 by4:Binds K a.dy4 ["place", "end"] []
 Fx9:Fun K "plain" "plain" sx9 a.fx9 a.dx9
 mx9:mg "plain" = some (.ref a.fx9)
 bx9:Binds K a.dx9 ["one"] []
 Fy7:Fun K "checked_term" "checked_term" Qz a.fy7 a.dy7
 my7:mg "checked_term" = some (.ref a.fy7)
 by7:Binds K a.dy7 ["term", "end"] []
 Fy6:Fun K "checked_sum" "checked_sum" Z5 a.fy6 a.dy6
 my6:mg "checked_sum" = some (.ref a.fy6)
 by6:Binds K a.dy6 ["constant", "terms", "end"] []
 Fy8:Fun K "checked_unit" "checked_unit" Qq a.fy8 a.dy8
 my8:mg "checked_unit" = some (.ref a.fy8)
 by8:Binds K a.dy8 ["unit", "end"] []
 Fy9:Fun K "checked_units" "checked_units" xZ a.fy9 a.dy9
 my9:mg "checked_units" = some (.ref a.fy9)
 by9:Binds K a.dy9 ["units", "many"] []
 Fy3:Fun K "checked_outs" "checked_outs" Qx a.fy3 a.dy3
 my3:mg "checked_outs" = some (.ref a.fy3)
 by3:Binds K a.dy3 ["outs", "end"] []
 Fzo:Fun K "__init__" "Net.__init__" szo a.fzo a.dzo
 Mzm:Mk K a.czm a.fzo
 bzo:Binds K a.dzo ["self", "many", "units", "outs"] []
 Fyy:Fun K "_law_sum" "_law_sum" syy a.fyy a.dyy
 myy:mg "_law_sum" = some (.ref a.fyy)
 byy:Binds K a.dyy ["_law_one", "_law_other"] []
 Fyu:Fun K "_law_sides" "_law_sides" syu a.fyu a.dyu
 myu:mg "_law_sides" = some (.ref a.fyu)
 byu:Binds K a.dyu ["_law_script", "_law_start", "_law_many_here"] []
 Fz4:Fun K "told" "Box.told" sz4 a.fz4 a.dz4
 tz4:Meth K a.cz0 "told" a.fz4
 bz4:Binds K a.dz4 ["self"] []
 Fzy:Fun K "__init__" "Sketch.__init__" Z7 a.fzy a.dzy
 Mzv:Mk K a.czv a.fzy
 bzy:Binds K a.dzy ["self", "box", "count"] []
 Fxg:Fun K "told_unit" "told_unit" sxg a.fxg a.dxg
 mxg:mg "told_unit" = some (.ref a.fxg)
 bxg:Binds K a.dxg ["unit"] []
 Fzr:Fun K "told" "Net.told" szr a.fzr a.dzr
 tzr:Meth K a.czm "told" a.fzr
 bzr:Binds K a.dzr ["self"] []
 Fx6:Fun K "lone_form" "lone_form" sx6 a.fx6 a.dx6
 mx6:mg "lone_form" = some (.ref a.fx6)
 bx6:Binds K a.dx6 ["number", "many"] []
 Fyb:Fun K "even_form" "even_form" syb a.fyb a.dyb
 myb:mg "even_form" = some (.ref a.fyb)
 byb:Binds K a.dyb ["constant", "many"] []
 Fxa:Fun K "plus" "plus" sxa a.fxa a.dxa
 mxa:mg "plus" = some (.ref a.fxa)
 bxa:Binds K a.dxa ["one", "other"] []
 Fxf:Fun K "times" "times" sxf a.fxf a.dxf
 mxf:mg "times" = some (.ref a.fxf)
 bxf:Binds K a.dxf ["one", "other"] []
 Fy2:Fun K "added_times" "added_times" Z6 a.fy2 a.dy2
 my2:mg "added_times" = some (.ref a.fy2)
 by2:Binds K a.dy2 ["one", "other", "by"] []
 Fxe:Fun K "terms_form" "terms_form" ZK a.fxe a.dxe
 mxe:mg "terms_form" = some (.ref a.fxe)
 bxe:Binds K a.dxe ["constant", "terms", "found", "count"] []
 Fx5:Fun K "less" "less" sx5 a.fx5 a.dx5
 mx5:mg "less" = some (.ref a.fx5)
 bx5:Binds K a.dx5 ["one", "other"] []
 Fyc:Fun K "form_ends" "form_ends" syc a.fyc a.dyc
 myc:mg "form_ends" = some (.ref a.fyc)
 byc:Binds K a.dyc ["form", "sides"] []
 Fzw:Fun K "bend_form" "Sketch.bend_form" wW a.fzw a.dzw
 tzw:Meth K a.czv "bend_form" a.fzw
 bzw:Binds K a.dzw ["self", "form"] []
 Fx8:Fun K "out_forms" "out_forms" sx8 a.fx8 a.dx8
 mx8:mg "out_forms" = some (.ref a.fx8)
 bx8:Binds K a.dx8 ["net", "sketch"] []
 Fz6:Fun K "__init__" "Draft.__init__" ZW a.fz6 a.dz6
 Mz5:Mk K a.cz5 a.fz6
 bz6:Binds K a.dz6 ["self", "many"] []
 Fx7:Fun K "needed_variables" "needed_variables" wK a.fx7 a.dx7
 mx7:mg "needed_variables" = some (.ref a.fx7)
 bx7:Binds K a.dx7 ["sketch", "forms"] []
 Fz9:Fun K "put" "Draft.put" sz9 a.fz9 a.dz9
 tz9:Meth K a.cz5 "put" a.fz9
 bz9:Binds K a.dz9 ["self", "unit"] []
 Fza:Fun K "seat" "Draft.seat" ZV a.fza a.dza
 tza:Meth K a.cz5 "seat" a.fza
 bza:Binds K a.dza ["self", "form"] []
 Fzn:Fun K "bends" "Net.bends" szn a.fzn a.dzn
 tzn:Meth K a.czm "bends" a.fzn
 bzn:Binds K a.dzn ["self"] []
 Fxc:Fun K "smaller" "smaller" sxc a.fxc a.dxc
 mxc:mg "smaller" = some (.ref a.fxc)
 bxc:Binds K a.dxc ["net", "box"] []
 Fym:Fun K "_law_many" "_law_many" sym a.fym a.dym
 mym:mg "_law_many" = some (.ref a.fym)
 bym:Binds K a.dym ["_law_one", "_law_other"] []
 Fyw:Fun K "_law_span_of_sum" "_law_span_of_sum" kW a.fyw a.dyw
 myw:mg "_law_span_of_sum" = some (.ref a.fyw)
 byw:Binds K a.dyw ["_law_unit_here", "_law_known"] []
 Fyx:Fun K "_law_spans" "_law_spans" syx a.fyx a.dyx
 myx:mg "_law_spans" = some (.ref a.fyx)
 byx:Binds K a.dyx ["_law_units", "_law_sides_here"] []
 Fyq:Fun K "_law_ratio" "_law_ratio" syq a.fyq a.dyq
 myq:mg "_law_ratio" = some (.ref a.fyq)
 byq:Binds K a.dyq ["_law_found"] []
 Fyz:Fun K "_law_sum_normal" "_law_sum_normal" x9 a.fyz a.dyz
 myz:mg "_law_sum_normal" = some (.ref a.fyz)
 byz:Binds K a.dyz ["_law_unit_here", "_law_bent"] []
 Fx3:Fun K "_law_units_normal" "_law_units_normal" wV a.fx3 a.dx3
 mx3:mg "_law_units_normal" = some (.ref a.fx3)
 bx3:Binds K a.dx3 ["_law_found", "_law_sides_here"] []
 Fyi:Fun K "_law_all_lead" "_law_all_lead" Q9 a.fyi a.dyi
 myi:mg "_law_all_lead" = some (.ref a.fyi)
 byi:Binds K a.dyi ["_law_found"] []
 Fyj:Fun K "_law_bends" "_law_bends" syj a.fyj a.dyj
 myj:mg "_law_bends" = some (.ref a.fyj)
 byj:Binds K a.dyj ["_law_told"] []
 Fyr:Fun K "_law_right" "_law_right" syr a.fyr a.dyr
 myr:mg "_law_right" = some (.ref a.fyr)
 byr:Binds K a.dyr ["_law_told", "_law_found", "_law_sides_here"] []
 Fx1:Fun K "_law_twice" "_law_twice" sx1 a.fx1 a.dx1
 mx1:mg "_law_twice" = some (.ref a.fx1)
 bx1:Binds K a.dx1 ["_law_told"] []
 Fy5:Fun K "checked_side" "checked_side" Qj a.fy5 a.dy5
 my5:mg "checked_side" = some (.ref a.fy5)
 by5:Binds K a.dy5 ["side"] []
 Fz1:Fun K "__init__" "Box.__init__" sz1 a.fz1 a.dz1
 Mz0:Mk K a.cz0 a.fz1
 bz1:Binds K a.dz1 ["self", "sides"] []
 Fyh:Fun K "law" "law" syh a.fyh a.dyh
 myh:mg "law" = some (.ref a.fyh)
 byh:Binds K a.dyh ["_law_script"] []
 m_len:mg "len" = none
 m_range:mg "range" = none
 m_enumerate:mg "enumerate" = none
 m_abs:mg "abs" = none
 m_divmod:mg "divmod" = none
 m_list:mg "list" = none
 m_min:mg "min" = none
 m_int:mg "int" = none
 m_isinstance:mg "isinstance" = none
 m_bool:mg "bool" = none
 m_tuple:mg "tuple" = none
 m_set:mg "set" = none
 m_str:mg "str" = none
 m_zip:mg "zip" = none
 m_dict:mg "dict" = none
 m_sorted:mg "sorted" = none
 m_any:mg "any" = none
 m_max:mg "max" = none
 m_all:mg "all" = none
 m_reversed:mg "reversed" = none
 m_sum:mg "sum" = none
 Cz0:Cls K a.cz0
 mz0:mg "Box" = some (.ref a.cz0)
 nz3:vX K a.cz0 "sides"
 Czm:Cls K a.czm
 mzm:mg "Net" = some (.ref a.czm)
 nzp:vX K a.czm "many"
 nzt:vX K a.czm "units"
 nzq:vX K a.czm "outs"
 Czv:Cls K a.czv
 mzv:mg "Sketch" = some (.ref a.czv)
 ny1:vX K a.czv "widths"
 nzx:vX K a.czv "bent_forms"
 ny0:vX K a.czv "variables"
 nzz:vX K a.czv "total"
 Cz5:Cls K a.cz5
 mz5:mg "Draft" = some (.ref a.cz5)
 nz7:vX K a.cz5 "many"
 nzc:vX K a.cz5 "units"
 nz8:vX K a.cz5 "places"
 nzb:vX K a.cz5 "sums"
 mzf:mg "MOST_BENDS" = some (.int 20 a.tzf)
 mzj:mg "MOST_UNITS" = some (.int 80 a.tzj)
 mzh:mg "MOST_OUTS" = some (.int 12 a.tzh)
 mzg:mg "MOST_INS" = some (.int 6 a.tzg)
 mzk:mg "NOUGHT" = some (.ref a.gzk)
 szk:∀ H:Hp,SqT K H a.gzk [.int 0,.int 1]
 mzu:mg "ONE" = some (.ref a.gzu)
 szu:∀ H:Hp,SqT K H a.gzu [.int 1,.int 1]
 mzi:mg "MOST_SIDES" = some (.int 6 a.tzi)
section
variable {P:Program} {w:World} {K:As} {mg:Str→Option Value} {base:Heap} {a:Adr}
def spGcd:Sp:=fun vs H Q _=>∃ x y:Int,vs=[.int x,.int y]∧0≤x∧0≤y∧Q (.int (Int.gcd x y:Nat)) H
theorem Zy (T:Txt K mg a):FnOk P w K mg base CX0 1 a.fya a.dya ["one", "other"] spGcd:=by
 refine T.Fya.ok scya ?_ ?_
 ·walk_at "c"
 walk_at "b"
 obtain ⟨x0,y0,rfl,h1,h2,q⟩:=h;refine ⟨_,(qX (ps_while PassesOwn.never (zv op_ne (pv 1) qk)
    (qX (ps_s 2 scya.nd (pe_op vJ (pv 0) (pv 1)))
   (qX (ps_s 0 scya.nd (pv 1))
   (qZ (ps_s 1 scya.nd (pv 2))))))
   (qZ (zw (pv 0)))),?_⟩
 refine while_by (fun σ H'=>H'=H∧∃ (x y:Int) (r:Option V),σ=[some (.int x),some (.int y),r]∧0≤x∧0≤y∧Int.gcd x y=Int.gcd x0 y0)
  (fun σ _=>match σ with | [_,some (.int y),_]=>y.toNat | _=>0) ⟨rfl,x0,y0,none,rfl,h1,h2,rfl⟩ ?_ ?_
 ·rintro σ H' ⟨rfl,x,y,r,rfl,hx,hy,hg⟩
  refine ⟨_,rfl,rfl,_,rfl,?_⟩
  by_cases e:y=0
  ·subst e
   refine iteNS rfl ?_;refine ⟨_,rfl,?_⟩;rw [← hg,gcd_end hx] at q;exact q
  ·refine iteNP (fun z=>e (V.int.inj z)) ?_
   refine ⟨_,rfl,_,rfl,_,_,rfl,rfl,(by omega:(0:Int)<y),_,rfl,_,rfl,?_⟩;refine ⟨⟨rfl,y,x%y,_,rfl,hy,Int.emod_nonneg _ e,gcd_step.trans hg⟩,?_⟩;have:=Int.emod_lt_of_pos x (show 0<y by omega);show (x%y).toNat<y.toNat;have:=Int.emod_nonneg x e;omega
 ·rintro σ H' Q1 Q2 hq ⟨v,e,hs,k,ek,q1⟩
  exact ⟨v,e,hs,k,ek,hq _ _ q1⟩
def spBinR (K:As) (f g:Int→Int→Int→Int→Int):Sp:=fun vs H Q _=>∃ (p r:Addr) (x y u v:Int),vs=[.ref p,.ref r]∧SqT K H p (T2 x y)∧SqT K H r (T2 u v)∧IsR x y∧IsR u v∧Sm 6500 x∧Sm 6500 y∧Sm 6500 u∧Sm 6500 v∧RetT H Q (T2 (nt (f x y u v) (g x y u v)) (nb (f x y u v) (g x y u v)))
theorem mul_ne {y v:Int} (h1:0<y) (h2:0<v):y*v≠0:=by
 have:=Int.mul_pos h1 h2;omega
theorem cdivB {n:Nat} {t j:Int} (h0:j≠0) (h:Sm n j) (hn:n≤8999:=by decide):CDivB t j:=⟨h0,Ag ((h.mono hn).log2 (by decide)) (by decide)⟩
theorem Sm.fdiv {n:Nat} {x g:Int} (h:Sm n x) (d:g∣x) (h0:g≠0):Sm n (x.fdiv g):=by
 obtain ⟨k,e⟩:=d;subst e;rw [A3 k h0];refine h.le ?_;rw [Aq];exact Nat.le_mul_of_pos_left _ (by omega)
theorem ok_plusR (T:Txt K mg a):FnOk P w K mg base CX0 2 a.fxa a.dxa ["one", "other"] (spBinR K (fun x y u v=>x*v+u*y) (fun _ y _ v=>y*v)):=by
 refine T.Fxa.ok scxa ?_ ?_
 ·walk_at "c"
 walk_at "b"
 obtain ⟨p,r,x,y,u,v,rfl,hp,hq,R1,R2,sx,sy,su,sv,q⟩:=h;have hy:=R1.pos;have hv:=R2.pos;have yne:y≠0:=by omega
 have vne:v≠0:=by omega
 have sgd:Sm 6500 ((Int.gcd y v:Nat):Int):=sv.gcd_right vne;have gne:((Int.gcd y v:Nat):Int)≠0:=by
  have:=Int.gcd_pos_of_ne_zero_left v yne;omega
 have gy:((Int.gcd y v:Nat):Int)∣y:=Int.gcd_dvd_left y v;have gv:((Int.gcd y v:Nat):Int)∣v:=Int.gcd_dvd_right y v;refine ltX ?_
 intros
 refine ⟨_,body4 (by rfl)
  (ps_s 2 scxa.nd (pe_c (Zy T) hr T.mya T.Fya.kp T.bya (pa_c (pe_ix qK (pv 0) qk) (pa_c (pe_ix qK (pv 1) qk) qj))))
  (ps_s 3 scxa.nd (pe_op y9 (pe_op yK (pe_ix qK (pv 0) qk) (pe_op jq (pe_ix qK (pv 1) qk) (pv 2))) (pe_op yK (pe_ix qK (pv 1) qk) (pe_op jq (pe_ix qK (pv 0) qk) (pv 2)))))
  (ps_s 4 scxa.nd (pe_c (Zy T) hr T.mya T.Fya.kp T.bya (pa_c (qW (QQ) rfl T.m_abs boot_abs (pa_c (pv 3) qj)) (pa_c (pv 2) qj))))
  (zw (yz (pa_c (pe_op jq (pv 3) (pv 4)) (pa_c (pe_op yK (pe_op jq (pe_ix qK (pv 0) qk) (pv 2)) (pe_op jq (pe_ix qK (pv 1) qk) (pv 4))) qj)))),?_⟩
 refine lt4 ?_
 intros
 refine ⟨_,rfl,_,_,_,_,rfl,rfl,hp,rfl,_,rfl,_,_,_,_,rfl,rfl,hq,rfl,_,_,rfl,by omega,by omega,?_⟩;dsimp only;generalize hg:((Int.gcd y v:Nat):Int)=g at *;refine ⟨_,rfl,_,_,_,_,rfl,rfl,hp,rfl,_,rfl,_,_,_,_,rfl,rfl,hq,rfl,_,rfl,_,_,rfl,rfl,cdivB gne sgd,_,_,rfl,rfl,mulOk sx (sv.fdiv gv gne),?_⟩;refine ⟨_,rfl,_,_,_,_,rfl,rfl,hq,rfl,_,rfl,_,_,_,_,rfl,rfl,hp,rfl,_,rfl,_,_,rfl,rfl,cdivB gne sgd,_,_,rfl,rfl,mulOk su (sy.fdiv gy gne),_,_,rfl,rfl,?_⟩;dsimp only;generalize ht:x*v.fdiv g+u*y.fdiv g=t at *;have gnn:0≤g:=by omega
 refine ⟨_,rfl,_,rfl,_,rfl,_,_,rfl,abs_nn _,gnn,?_⟩;dsimp only;rw [Y4];have srd:Sm 6500 ((Int.gcd t g:Nat):Int):=sgd.gcd_right gne;have rne:((Int.gcd t g:Nat):Int)≠0:=by
  have:=Int.gcd_pos_of_ne_zero_right t gne;omega
 have rv:((Int.gcd t g:Nat):Int)∣v:=Int.dvd_trans (Int.gcd_dvd_right t g) gv;generalize hrr:((Int.gcd t g:Nat):Int)=d at *;refine ⟨_,rfl,_,rfl,_,_,rfl,rfl,cdivB rne srd,_,rfl,_,_,_,_,rfl,rfl,hp,rfl,_,rfl,_,_,rfl,rfl,cdivB gne sgd,?_⟩;refine ⟨_,rfl,_,_,_,_,rfl,rfl,hq,rfl,_,rfl,_,_,rfl,rfl,cdivB rne srd,_,_,rfl,rfl,mulOk (sy.fdiv gy gne) (sv.fdiv rv rne),yj,fun p' hp'=>?_⟩;have k:=plus_way R1 R2 hg.symm ht.symm hrr.symm;have n:=n_of (mul_ne hy hv) k.1 k.2;rw [← n.1,← n.2] at q;exact q.new hp'
theorem ok_timesR (T:Txt K mg a):FnOk P w K mg base CX0 2 a.fxf a.dxf ["one", "other"] (spBinR K (fun x _ u _=>x*u) (fun _ y _ v=>y*v)):=by
 refine T.Fxf.ok scxf ?_ ?_
 ·walk_at "c"
 walk_at "b"
 obtain ⟨p,r,x,y,u,v,rfl,hp,hq,R1,R2,sx,sy,su,sv,q⟩:=h;have hy:=R1.pos;have hv:=R2.pos;have yne:y≠0:=by omega
 have vne:v≠0:=by omega
 have s1:Sm 6500 ((Int.gcd x v:Nat):Int):=sv.gcd_right vne;have s2:Sm 6500 ((Int.gcd u y:Nat):Int):=sy.gcd_right yne;have n1:((Int.gcd x v:Nat):Int)≠0:=by
  have:=Int.gcd_pos_of_ne_zero_right x vne;omega
 have n2:((Int.gcd u y:Nat):Int)≠0:=by
  have:=Int.gcd_pos_of_ne_zero_right u yne;omega
 have d1:((Int.gcd x v:Nat):Int)∣x:=Int.gcd_dvd_left x v;have d2:((Int.gcd x v:Nat):Int)∣v:=Int.gcd_dvd_right x v;have d3:((Int.gcd u y:Nat):Int)∣u:=Int.gcd_dvd_left u y;have d4:((Int.gcd u y:Nat):Int)∣y:=Int.gcd_dvd_right u y;refine ltX ?_
 intros
 refine ⟨_,body3 (by rfl)
  (ps_s 2 scxf.nd (pe_c (Zy T) hr T.mya T.Fya.kp T.bya (pa_c (qW (QQ) rfl T.m_abs boot_abs (pa_c (pe_ix qK (pv 0) qk) qj)) (pa_c (pe_ix qK (pv 1) qk) qj))))
  (ps_s 3 scxf.nd (pe_c (Zy T) hr T.mya T.Fya.kp T.bya (pa_c (qW (QQ) rfl T.m_abs boot_abs (pa_c (pe_ix qK (pv 1) qk) qj)) (pa_c (pe_ix qK (pv 0) qk) qj))))
  (zw (yz (pa_c (pe_op yK (pe_op jq (pe_ix qK (pv 0) qk) (pv 2)) (pe_op jq (pe_ix qK (pv 1) qk) (pv 3))) (pa_c (pe_op yK (pe_op jq (pe_ix qK (pv 0) qk) (pv 3)) (pe_op jq (pe_ix qK (pv 1) qk) (pv 2))) qj)))),?_⟩
 refine lt3 ?_
 intros
 refine ⟨_,rfl,_,_,_,_,rfl,rfl,hp,rfl,_,rfl,_,rfl,_,_,_,_,rfl,rfl,hq,rfl,_,_,rfl,abs_nn _,by omega,?_⟩;dsimp only;rw [Y4];generalize hg:((Int.gcd x v:Nat):Int)=g at *;refine ⟨_,rfl,_,_,_,_,rfl,rfl,hq,rfl,_,rfl,_,rfl,_,_,_,_,rfl,rfl,hp,rfl,_,_,rfl,abs_nn _,by omega,?_⟩;dsimp only;rw [Y4];generalize hk:((Int.gcd u y:Nat):Int)=k at *;refine ⟨_,rfl,_,_,_,_,rfl,rfl,hp,rfl,_,rfl,_,_,rfl,rfl,cdivB n1 s1,_,rfl,_,_,_,_,rfl,rfl,hq,rfl,_,rfl,_,_,rfl,rfl,cdivB n2 s2,_,_,rfl,rfl,mulOk (sx.fdiv d1 n1) (su.fdiv d3 n2),?_⟩;refine ⟨_,rfl,_,_,_,_,rfl,rfl,hp,rfl,_,rfl,_,_,rfl,rfl,cdivB n2 s2,_,rfl,_,_,_,_,rfl,rfl,hq,rfl,_,rfl,_,_,rfl,rfl,cdivB n1 s1,_,_,rfl,rfl,mulOk (sy.fdiv d4 n2) (sv.fdiv d2 n1),yj,fun p' hp'=>?_⟩;have w:=times_way R1 R2 hg.symm hk.symm;have n:=n_of (mul_ne hy hv) w.1 w.2;rw [← n.1,← n.2] at q;exact q.new hp'
abbrev TQ (q:Rat):List V:=T2 q.num q.den
def spBinQ (K:As) (f:Rat→Rat→Rat):Sp:=fun vs H Q _=>∃ (p r:Addr) (x y:Rat),vs=[.ref p,.ref r]∧SqT K H p (TQ x)∧SqT K H r (TQ y)∧SmQ 6500 x∧SmQ 6500 y∧RetT H Q (TQ (f x y))
def IsQ (K:As) (H:Hp) (v:V) (q:Rat):Prop:=∃ p,v=.ref p∧SqT K H p (TQ q)
def RL (K:As) (H:Hp) (vs:List V) (qs:List Rat):Prop:=Paired (IsQ K H) vs qs
theorem IsQ.mono {K:As} {H H':Hp} {v:V} {q:Rat} (h:IsQ K H v q) (g:Same H H'):IsQ K H' v q:=by
 obtain ⟨p,e,s⟩:=h;exact ⟨p,e,g.tup s⟩
theorem RL.mono {K:As} {H H':Hp} {vs:List V} {qs:List Rat} (h:RL K H vs qs) (g:Same H H'):RL K H' vs qs:=Paired.mapP h fun _ _ q=>q.mono g
theorem RL.length {K:As} {H:Hp} {vs:List V} {qs:List Rat} (h:RL K H vs qs):vs.length=qs.length:=Paired.length h
theorem RL.get {K:As} {H:Hp}:∀ {vs:List V} {qs:List Rat} {i:Nat} {v:V},RL K H vs qs→vs[i]?=some v→∃ q,qs[i]?=some q∧IsQ K H v q
 | _,_,_,_,.nil,e=>by simp at e
 | v0::_,q0::_,0,v,.cons h _,e=>by
  have e':v0=v:=by simpa using e
  subst e';exact ⟨_,rfl,h⟩
 | _::_,_::_,i+1,v,.cons _ t,e=>by
  obtain ⟨q,h1,h2⟩:=RL.get (i:=i) (v:=v) t (by simpa using e);exact ⟨q,by simpa using h1,h2⟩
theorem RL.snoc {K:As} {H:Hp} {vs:List V} {qs:List Rat} {v:V} {q:Rat} (h:RL K H vs qs) (k:IsQ K H v q):RL K H (vs++[v]) (qs++[q]):=Paired.snoc h k
theorem zZ {α:Type} {xs:List α} {i:Nat} {x:α} (h:xs[i]?=some x):xs.take (i+1)=xs.take i++[x]:=by
 rw [List.take_succ,h]; rfl
def RetL (K:As) (H:Hp) (Q:VK) (qs:List Rat):Prop:=∀ p H' ys,H p=none→Same H H'→H' p=some (.lst ys)→RL K H' ys qs→Q (.ref p) H'
theorem _root_.L2.Same.laid {H H':Hp} {p:Addr} (g:Same H H') (hn:H p=none) (o:HO):Same H (upd H' p o):=fun b u q=>by
 rw [qJ (qQ q hn)];exact g _ _ q
theorem zx {H H':Hp} {p:Addr} (g:Same H H') (h:H' p=none):H p=none:=by
 cases e:H p with
 | none=>rfl
 | some o=>rw [g _ _ e] at h; cases h
theorem at0 {x:V} {r:List V}:atI (x::r) 0=some x:=by
 unfold atI ixN;rw [if_pos (Int.le_refl _),if_pos (by rw [List.length_cons]; omega)];rfl
theorem atN {vs:List V} {n:Nat} {x:V} (h:vs[n]?=some x):atI vs (n:Int)=some x:=by
 have hn:=(A1.mp h).1;unfold atI ixN;rw [if_pos (by omega),if_pos (by omega)];show vs[((n:Int)).toNat]?=some x;rw [Int.toNat_natCast];exact h
theorem okxa (T:Txt K mg a):FnOk P w K mg base CX0 2 a.fxa a.dxa ["one", "other"] (spBinQ K (·+·)):=(ok_plusR T).imp fun vs H Q E h=>by
 obtain ⟨p,r,x,y,e,hp,hr,sx,sy,q⟩:=h;refine ⟨p,r,x.num,x.den,y.num,y.den,e,hp,hr,xx x,xx y,sx.1,sx.2,sy.1,sy.2,?_⟩;rw [(q_plus x y).1,(q_plus x y).2];exact q
theorem okxf (T:Txt K mg a):FnOk P w K mg base CX0 2 a.fxf a.dxf ["one", "other"] (spBinQ K (·*·)):=(ok_timesR T).imp fun vs H Q E h=>by
 obtain ⟨p,r,x,y,e,hp,hr,sx,sy,q⟩:=h;refine ⟨p,r,x.num,x.den,y.num,y.den,e,hp,hr,xx x,xx y,sx.1,sx.2,sy.1,sy.2,?_⟩;rw [(q_times x y).1,(q_times x y).2];exact q
theorem vy {α β:Type} {F:α→β→Prop}:∀ {vs:List α} {qs:List β} {i:Nat} {v:α},Paired F vs qs→vs[i]?=some v→∃ q,qs[i]?=some q∧F v q
 | _,_,_,_,.nil,e=>by simp at e
 | v0::_,q0::_,0,v,.cons h _,e=>by
  have e':v0=v:=by simpa using e
  subst e';exact ⟨_,rfl,h⟩
 | _::_,_::_,i+1,v,.cons _ t,e=>by
  obtain ⟨q,h1,h2⟩:=vy (i:=i) (v:=v) t (by simpa using e);exact ⟨q,by simpa using h1,h2⟩
theorem wZ {α:Type} {j:Nat} {x:α} {p:Prop} (h:([]:List α)[j]?=some x):p:=by simp at h
def spWhole:Sp:=fun vs H Q _=>∃ i,vs=[.int i]∧Q (.bl true) H
theorem QY (T:Txt K mg a):FnOk P w K mg base CX0 1 a.fyg a.dyg ["thing"] spWhole:=by
 refine T.Fyg.ok scyg ?_ ?_
 ·walk_at "c"
 walk_at "b"
 obtain ⟨i,rfl,q⟩:=h;refine ⟨_,(qZ (zw (pe_and (qW (jX) rfl T.m_isinstance boot_isinstance (pa_c (pv 0) (pa_c (vW (v:=.ty "int") rfl T.m_int boot_int rfl) qj))) (pe_one (pe_not (qW (jX) rfl T.m_isinstance boot_isinstance (pa_c (pv 0) (pa_c (vW (v:=.ty "bool") rfl T.m_bool boot_bool rfl) qj)))))))),?_⟩;refine ⟨_,rfl,_,_,_,rfl,IsI.intInt i,_,rfl,iteT ?_⟩;exact ⟨_,rfl,_,_,_,rfl,IsI.intBool i,_,rfl,q⟩
def spLessQ (K:As):Sp:=fun vs H Q _=>∃ (p r:Addr) (x y:Rat),vs=[.ref p,.ref r]∧SqT K H p (TQ x)∧SqT K H r (TQ y)∧SmQ 9000 x∧SmQ 9000 y∧Q (.bl (decide (x<y))) H
theorem okx5 (T:Txt K mg a):FnOk P w K mg base CX0 1 a.fx5 a.dx5 ["one", "other"] (spLessQ K):=by
 refine T.Fx5.ok scx5 ?_ ?_
 ·walk_at "c"
 walk_at "b"
 obtain ⟨p,r,x,y,rfl,hp,hq,sx,sy,q⟩:=h;refine ⟨_,(qZ (zw (vV op_lt (pe_op yK (pe_ix qK (pv 0) qk) (pe_ix qK (pv 1) qk)) (pe_op yK (pe_ix qK (pv 1) qk) (pe_ix qK (pv 0) qk))))),?_⟩;rw [← q_less] at q;exact ⟨_,rfl,_,_,_,_,rfl,rfl,hp,rfl,_,rfl,_,_,_,_,rfl,rfl,hq,rfl,_,_,rfl,rfl,mulOk sx.1 sy.2,_,rfl,_,_,_,_,rfl,rfl,hq,rfl,_,rfl,_,_,_,_,rfl,rfl,hp,rfl,_,_,rfl,rfl,mulOk sy.1 sx.2,_,_,rfl,rfl,q⟩
def spIsQ (K:As):Sp:=fun vs H Q _=>∃ (p:Addr) (x:Rat),vs=[.ref p]∧SqT K H p (TQ x)∧Q (.bl true) H
theorem Z0 (T:Txt K mg a):FnOk P w K mg base CX0 2 a.fyf a.dyf ["thing"] (spIsQ K):=by
 refine T.Fyf.ok scyf ?_ ?_
 ·walk_at "c"
 walk_at "b"
 obtain ⟨p,x,rfl,hp,q⟩:=h;refine ⟨_,(qX (ps_if (PW.pt (pw_or (j6 (yk (qW (jX) rfl T.m_isinstance boot_isinstance (pa_c (pv 0) (pa_c (vW (v:=.ty "tuple") rfl T.m_tuple boot_tuple rfl) qj))))) (wj (zv op_ne (qW (zk) rfl T.m_len boot_len (pa_c (pv 0) qj)) qk))))
    (qZ (zw pe_bl))
    zQ)
   (qX (ps_if (PW.pt (pw_or (j6 (yk (pe_c (QY T) hr T.myg T.Fyg.kp T.byg (pa_c (pe_ix qK (pv 0) qk) qj)))) (pw_or (j6 (yk (pe_c (QY T) hr T.myg T.Fyg.kp T.byg (pa_c (pe_ix qK (pv 0) qk) qj)))) (wj (zv op_lt (pe_ix qK (pv 0) qk) qk)))))
    (qZ (zw pe_bl))
    zQ)
   (qZ (zw (vV op_eq (pe_c (Zy T) hr T.mya T.Fya.kp T.bya (pa_c (qW (QQ) rfl T.m_abs boot_abs (pa_c (pe_ix qK (pv 0) qk) qj)) (pa_c (pe_ix qK (pv 0) qk) qj))) qk))))),?_⟩
 have R:=xx x;have hy:=R.pos;refine ⟨_,rfl,_,_,_,rfl,IsI.tupTup hp,_,rfl,iteF ⟨_,rfl,_,_,rfl,.inr hp,rfl,_,rfl,iteF ?_⟩⟩;refine ⟨_,rfl,_,_,_,_,rfl,rfl,hp,rfl,_,rfl,_,rfl,iteF ⟨_,rfl,_,_,_,_,rfl,rfl,hp,rfl,_,rfl,_,rfl,iteF ⟨_,rfl,_,_,_,_,rfl,rfl,hp,rfl,_,_,rfl,rfl,_,rfl,iteN (by omega) ?_⟩⟩⟩;refine ⟨_,rfl,_,_,_,_,rfl,rfl,hp,rfl,_,rfl,_,rfl,_,_,_,_,rfl,rfl,hp,rfl,_,_,rfl,abs_nn _,by omega,rfl,?_⟩;dsimp only;have e:Int.gcd (if x.num<0 then -x.num else x.num) (x.den:Int)=1:=by
  have g:=R.low
  split <;> simp [Int.neg_gcd,g]
 rw [e];exact q
def spPlain (K:As):Sp:=fun vs H Q _=>∃ (p:Addr) (x:Rat),vs=[.ref p]∧SqT K H p (TQ x)∧RetT H Q (TQ x)
theorem okx9 (T:Txt K mg a):FnOk P w K mg base CX0 1 a.fx9 a.dx9 ["one"] (spPlain K):=by
 refine T.Fx9.ok scx9 ?_ ?_
 ·walk_at "c"
 walk_at "b"
 obtain ⟨p,x,rfl,hp,q⟩:=h;refine ⟨_,(qZ (zw (yz (pa_c (zy (vQ) rfl T.m_int boot_int (pa_c (pe_ix qK (pv 0) qk) qj)) (pa_c (zy (vQ) rfl T.m_int boot_int (pa_c (pe_ix qK (pv 0) qk) qj)) qj))))),?_⟩;exact ⟨_,rfl,_,_,_,_,rfl,rfl,hp,rfl,.inl ⟨_,rfl,_,rfl,_,_,_,_,rfl,rfl,hp,rfl,.inl ⟨_,rfl,yj,fun p' hp'=>q.new hp'⟩⟩⟩
def Z8 (K:As) (H:Hp) (v:V) (s:Rat×Rat):Prop:=∃ p pl ph,v=.ref p∧SqT K H p [.ref pl,.ref ph]∧SqT K H pl (TQ s.1)∧SqT K H ph (TQ s.2)
theorem Z8.mono {K:As} {H H':Hp} {v:V} {s:Rat×Rat} (h:Z8 K H v s) (g:Same H H'):Z8 K H' v s:=by
 obtain ⟨p,pl,ph,e,h1,h2,h3⟩:=h;exact ⟨p,pl,ph,e,g.tup h1,g.tup h2,g.tup h3⟩
def SL (K:As) (H:Hp) (vs:List V) (ss:List (Rat×Rat)):Prop:=Paired (Z8 K H) vs ss
theorem SL.mono {K:As} {H H':Hp} {vs:List V} {ss:List (Rat×Rat)} (h:SL K H vs ss) (g:Same H H'):SL K H' vs ss:=Paired.mapP h fun _ _ q=>q.mono g
theorem SL.length {K:As} {H:Hp} {vs:List V} {ss:List (Rat×Rat)} (h:SL K H vs ss):vs.length=ss.length:=Paired.length h
theorem SL.get {K:As} {H:Hp} {vs:List V} {ss:List (Rat×Rat)} {i:Nat} {v:V} (h:SL K H vs ss) (e:vs[i]?=some v):∃ s,ss[i]?=some s∧Z8 K H v s:=vy h e
theorem SL.snoc {K:As} {H:Hp} {vs:List V} {ss:List (Rat×Rat)} {v:V} {s:Rat×Rat} (h:SL K H vs ss) (k:Z8 K H v s):SL K H (vs++[v]) (ss++[s]):=Paired.snoc h k
theorem SqT.upd_lst {K:As} {H:Hp} {b t:Addr} {xs ys:List V} {o:HO} (h:SqT K H b xs) (e:H t=some (.lst ys)):SqT K (upd H t o) b xs:=by
 rcases h with (h | ⟨u,h⟩) | h
 ·exact .inl (.inl (by rw [qJ (ne_of h e (by intro z; cases z))]; exact h))
 ·exact .inl (.inr ⟨u,by rw [qJ (ne_of h e (by intro z; cases z))]; exact h⟩)
 ·exact .inr h
theorem SqT.upd_ins {K:As} {H:Hp} {b t C dx:Addr} {xs:List V} {fs:List (Str×V)} {o:HO} (h:SqT K H b xs) (e:H t=some (.ins C dx fs)):SqT K (upd H t o) b xs:=by
 rcases h with (h | ⟨u,h⟩) | h
 ·exact .inl (.inl (by rw [qJ (ne_of h e (by intro z; cases z))]; exact h))
 ·exact .inl (.inr ⟨u,by rw [qJ (ne_of h e (by intro z; cases z))]; exact h⟩)
 ·exact .inr h
theorem SL.upd_ins {K:As} {H:Hp} {t C dx:Addr} {vs:List V} {ss:List (Rat×Rat)} {fs:List (Str×V)} {o:HO} (h:SL K H vs ss) (e:H t=some (.ins C dx fs)):SL K (upd H t o) vs ss :=
 Paired.mapP h fun _ _ ⟨p,pl,ph,e0,h1,h2,h3⟩=>⟨p,pl,ph,e0,SqT.upd_ins h1 e,SqT.upd_ins h2 e,SqT.upd_ins h3 e⟩
theorem SL.upd_lst {K:As} {H:Hp} {t:Addr} {vs ys:List V} {ss:List (Rat×Rat)} {o:HO} (h:SL K H vs ss) (e:H t=some (.lst ys)):SL K (upd H t o) vs ss :=
 Paired.mapP h fun _ _ ⟨p,pl,ph,e0,h1,h2,h3⟩=>⟨p,pl,ph,e0,SqT.upd_lst h1 e,SqT.upd_lst h2 e,SqT.upd_lst h3 e⟩
theorem RL.upd_lst {K:As} {H:Hp} {t:Addr} {vs ys:List V} {qs:List Rat} {o:HO} (h:RL K H vs qs) (e:H t=some (.lst ys)):RL K (upd H t o) vs qs:=Paired.mapP h fun _ _ ⟨p,e1,s⟩=>⟨p,e1,SqT.upd_lst s e⟩
def RetSide (K:As) (H:Hp) (Q:VK) (s:Rat×Rat):Prop:=∀ p H',Same H H'→Z8 K H' (.ref p) s→Q (.ref p) H'
def spSide (K:As):Sp:=fun vs H Q _=>∃ (v:V) (s:Rat×Rat),vs=[v]∧Z8 K H v s∧s.1≤s.2∧SmQ 9000 s.1∧SmQ 9000 s.2∧RetSide K H Q s
theorem oky5 (T:Txt K mg a):FnOk P w K mg base CX0 3 a.fy5 a.dy5 ["side"] (spSide K):=by
 refine T.Fy5.ok scy5 ?_ ?_
 ·walk_at "c"
 walk_at "b"
 obtain ⟨v,sd,rfl,⟨p,pl,ph,rfl,hp,h1,h2⟩,le,m1,m2,q⟩:=h;refine ltX ?_
 intros
 refine ⟨_,body4 (by rfl)
  (ps_if (PW.pt (pw_or (j6 (yk (qW (jX) rfl T.m_isinstance boot_isinstance (pa_c (pv 0) (pa_c (vW (v:=.ty "tuple") rfl T.m_tuple boot_tuple rfl) qj))))) (wj (zv op_ne (qW (zk) rfl T.m_len boot_len (pa_c (pv 0) qj)) qk)))) (qZ j7) zQ)
  (ps_if (PW.pt (pw_or (j6 (yk (pe_c (Z0 T) hr T.myf T.Fyf.kp T.byf (pa_c (pe_ix qK (pv 0) qk) qj)))) (wj (j6 (yk (pe_c (Z0 T) hr T.myf T.Fyf.kp T.byf (pa_c (pe_ix qK (pv 0) qk) qj))))))) (qZ j7) zQ)
  (ps_if (yk (pe_c (okx5 T) hr T.mx5 T.Fx5.kp T.bx5 (pa_c (pe_ix qK (pv 0) qk) (pa_c (pe_ix qK (pv 0) qk) qj)))) (qZ j7) zQ)
  (zw (yz (pa_c (pe_c (okx9 T) hr T.mx9 T.Fx9.kp T.bx9 (pa_c (pe_ix qK (pv 0) qk) qj)) (pa_c (pe_c (okx9 T) hr T.mx9 T.Fx9.kp T.bx9 (pa_c (pe_ix qK (pv 0) qk) qj)) qj)))),?_⟩
 refine lt4 ?_
 intros
 refine ⟨_,rfl,_,_,_,rfl,IsI.tupTup hp,_,rfl,iteF ⟨_,rfl,_,_,rfl,.inr hp,rfl,_,rfl,iteF ?_⟩⟩;refine ⟨_,rfl,_,_,_,_,rfl,rfl,hp,rfl,pl,_,rfl,h1,_,rfl,iteF ⟨_,rfl,_,_,_,_,rfl,rfl,hp,rfl,ph,_,rfl,h2,_,rfl,iteF ?_⟩⟩;refine ⟨_,rfl,_,_,_,_,rfl,rfl,hp,rfl,_,rfl,_,_,_,_,rfl,rfl,hp,rfl,ph,pl,_,_,rfl,h2,h1,m2,m1,_,rfl,iteN (Rat.not_lt.mpr le) ?_⟩;refine ⟨_,rfl,_,_,_,_,rfl,rfl,hp,rfl,pl,_,rfl,h1,fun p1 H1 g1 e1=>?_⟩;refine ⟨_,rfl,_,_,_,_,rfl,rfl,g1.tup hp,rfl,ph,_,rfl,g1.tup h2,fun p2 H2 g2 e2=>⟨yj,fun t ht=>?_⟩⟩;have g3:=qy ht (.tup [.ref p1,.ref p2]);exact q t _ (g1.trans (g2.trans g3)) ⟨t,p1,p2,rfl,SqT.of qz,SqT.of (g3 _ _ (g2 _ _ e1)),SqT.of (g3 _ _ e2)⟩
def BoxAt (C:Addr) (H:Hp) (p l:Addr):Prop:=∃ dx,H p=some (.ins C dx [("sides",.ref l)])
theorem BoxAt.mono {C:Addr} {H H':Hp} {p l:Addr} (h:BoxAt C H p l) (g:Same H H'):BoxAt C H' p l:=by
 obtain ⟨dx,e⟩:=h;exact ⟨dx,g _ _ e⟩
def spInit (K:As) (C:Addr):Sp:=fun vs H Q _=>∃ (x dx l:Addr) (v1:List V) (ss:List (Rat×Rat)),vs=[.ref x,.ref l]∧H x=some (.ins C dx [])∧SqL K H l v1∧SL K H v1 ss∧1≤ss.length∧ss.length≤6∧(∀ s∈ss,s.1≤s.2∧SmQ 9000 s.1∧SmQ 9000 s.2)∧∀ m v2 H',(∀ b u,b≠x→H b=some u→H' b=some u)→H m=none→BoxAt C H' x m→H' m=some (.lst v2)→SL K H' v2 ss→Q .non H'
theorem okz1 (T:Txt K mg a):FnOk P w K mg base CX0 4 a.fz1 a.dz1 ["self", "sides"] (spInit K a.cz0):=by
 refine T.Fz1.ok scz1 ?_ ?_
 ·walk_at "c"
 walk_at "b"
 obtain ⟨x,dx,l,v1,ss,rfl,hx,hl,r1,lo,hi,sz,q⟩:=h;refine ⟨_,(qX (ps_if (PW.pt (pw_or (j6 (yk (qW (jX) rfl T.m_isinstance boot_isinstance (pa_c (pv 1) (pa_c (vW (v:=.ty "list") rfl T.m_list boot_list rfl) qj))))) (pw_or (zv op_lt (qW (zk) rfl T.m_len boot_len (pa_c (pv 1) qj)) qk) (wj (zv op_gt (qW (zk) rfl T.m_len boot_len (pa_c (pv 1) qj)) (jj (v:=.int 6) rfl T.mzi ⟨_,rfl⟩))))))
    (qZ j7)
    zQ)
   (qZ (xX (pv 0) (jQ (N:=["side"]) (ix:=[none]) ⟨rfl,rfl,rfl,rfl,trivial,rfl,trivial⟩ rfl (yq (pv 1)) (fun _=>(pg_n 0 (show (["side"]:List Str).Nodup by decide +kernel))) (fun _ σ=>jJ rfl σ) (fun _=>yZ) (fun _=>(pe_c (oky5 T) hr T.my5 T.Fy5.kp T.by5 (pa_c (pv 0) qj)))) rfl))),?_⟩
 have l1:=r1.length;refine ⟨_,rfl,_,_,_,rfl,IsI.lstList hl,_,rfl,iteF ⟨_,rfl,_,_,rfl,.inl hl,_,_,rfl,rfl,_,rfl,iteN (by omega) ⟨_,rfl,_,_,rfl,.inl hl,_,_,rfl,rfl,_,rfl,iteN (by omega) ?_⟩⟩⟩;refine ⟨_,rfl,l,rfl,⟨_,hl⟩,yy (n:=ss.length) (fun i ys H'=>Same H H'∧SL K H' ys (ss.take i)) ⟨Same.refl _,.nil⟩ (zj (by omega)) ?_ ?_ ?_⟩
 ·rintro ys H' ⟨g,r⟩
  refine ⟨⟨v1,g.seq hl,by omega⟩,fun D hD=>?_⟩;rw [A5 (Nat.le_refl _)] at r;have g2:=qy hD (.lst ys);have hx2:=(g.trans g2) _ _ hx;have ne:D≠x:=Ne.symm (qQ (g _ _ hx) hD);refine ⟨_,rfl,x,_,dx,[],rfl,hx2,T.Cz0,T.nz3,by decide,?_⟩;exact q D ys _ (fun b u hb e=>by rw [qJ hb]; exact (g.trans g2) _ _ e) (zx g hD) ⟨dx,qz⟩ (by rw [qJ ne]; exact qz) (SL.upd_ins (r.mono g2) hx2)
 ·rintro i ys H' hi' ⟨g,r⟩
  exact ⟨v1,_,g.seq hl,A4 (by omega)⟩
 ·rintro i m' ys H' c y H2 hi' ⟨g,r⟩ ⟨rfl,y1⟩ nx _
  obtain ⟨sd,es,hs⟩:=r1.get (y1 _ (g.seq hl));obtain ⟨k1,k2,k3⟩:=sz sd (A8 es);refine Or.inl ⟨rfl,_,rfl,y,sd,rfl,hs.mono g,k1,k2,k3,fun p3 H3 g3 e3=>nx _ _ ⟨g.trans g3,?_⟩⟩;rw [zZ es];exact (r.mono g3).snoc e3
def spTold (K:As) (C:Addr):Sp:=fun vs H Q _=>∃ (p l:Addr) (v:List V),vs=[.ref p]∧BoxAt C H p l∧SqL K H l v∧∀ q,H q=none→Q (.ref q) (upd H q (.lst v))
theorem okz4 (T:Txt K mg a):FnOk P w K mg base CX0 1 a.fz4 a.dz4 ["self"] (spTold K a.cz0):=by
 refine T.Fz4.ok scz4 ?_ ?_
 ·walk_at "c"
 walk_at "b"
 obtain ⟨p,l,v,rfl,⟨dx,hp⟩,hl,q⟩:=h;refine ⟨_,(qZ (zw (zy (j0) rfl T.m_list boot_list (pa_c (yx (pv 0) rfl) qj)))),?_⟩;exact ⟨_,rfl,p,_,dx,_,_,rfl,hp,T.Cz0,T.nz3,rfl,l,v,rfl,.inl hl,q⟩
inductive Un where
 | sum (c:Rat) (ts:List (Nat×Rat))
 | bend (p:Nat)
def Y6 (K:As) (H:Hp) (v:V) (x:Nat×Rat):Prop:=∃ t r,v=.ref t∧SqT K H t [.int (x.1:Int),.ref r]∧SqT K H r (TQ x.2)
theorem Y6.mono {K:As} {H H':Hp} {v:V} {x:Nat×Rat} (h:Y6 K H v x) (g:Same H H'):Y6 K H' v x:=by
 obtain ⟨t,r,e,h1,h2⟩:=h;exact ⟨t,r,e,g.tup h1,g.tup h2⟩
def TL (K:As) (H:Hp) (vs:List V) (ts:List (Nat×Rat)):Prop:=Paired (Y6 K H) vs ts
theorem TL.mono {K:As} {H H':Hp} {vs:List V} {ts:List (Nat×Rat)} (h:TL K H vs ts) (g:Same H H'):TL K H' vs ts:=Paired.mapP h fun _ _ q=>q.mono g
theorem TL.length {K:As} {H:Hp} {vs:List V} {ts:List (Nat×Rat)} (h:TL K H vs ts):vs.length=ts.length:=Paired.length h
theorem TL.get {K:As} {H:Hp} {vs:List V} {ts:List (Nat×Rat)} {i:Nat} {v:V} (h:TL K H vs ts) (e:vs[i]?=some v):∃ t,ts[i]?=some t∧Y6 K H v t:=vy h e
def UnAt (b:Bool) (K:As) (H:Hp) (v:V):Un→Prop
 | .sum c ts=>∃ t pc pt vs,v=.ref t∧SqT K H t [.str "sum",.ref pc,.ref pt]∧SqT K H pc (TQ c)∧(if b then SqT K H pt vs else SqL K H pt vs)∧TL K H vs ts
 | .bend p=>∃ t,v=.ref t∧SqT K H t [.str "bend",.int (p:Int)]
theorem UnAt.mono {b:Bool} {K:As} {H H':Hp} {v:V} {u:Un} (h:UnAt b K H v u) (g:Same H H'):UnAt b K H' v u:=by
 cases u with
 | sum c ts =>
  obtain ⟨t,pc,pt,vs,e,h1,h2,h3,h4⟩:=h;refine ⟨t,pc,pt,vs,e,g.tup h1,g.tup h2,?_,h4.mono g⟩
  cases b with
  | true=>exact g.tup h3
  | false=>exact g.seq h3
 | bend p =>
  obtain ⟨t,e,h1⟩:=h;exact ⟨t,e,g.tup h1⟩
def UL (b:Bool) (K:As) (H:Hp) (vs:List V) (us:List Un):Prop:=Paired (UnAt b K H) vs us
theorem UL.mono {b:Bool} {K:As} {H H':Hp} {vs:List V} {us:List Un} (h:UL b K H vs us) (g:Same H H'):UL b K H' vs us:=Paired.mapP h fun _ _ q=>q.mono g
theorem UL.length {b:Bool} {K:As} {H:Hp} {vs:List V} {us:List Un} (h:UL b K H vs us):vs.length=us.length:=Paired.length h
theorem UL.get {b:Bool} {K:As} {H:Hp} {vs:List V} {us:List Un} {i:Nat} {v:V} (h:UL b K H vs us) (e:vs[i]?=some v):∃ u,us[i]?=some u∧UnAt b K H v u:=vy h e
theorem UL.snoc {b:Bool} {K:As} {H:Hp} {vs:List V} {us:List Un} {v:V} {u:Un} (h:UL b K H vs us) (k:UnAt b K H v u):UL b K H (vs++[v]) (us++[u]):=Paired.snoc h k
def UnF (lf:Addr) (K:As) (H:Hp) (v:V):Un→Prop
 | .sum c ts=>∃ t pc pt vs,v=.ref t∧SqT K H t [.str "sum",.ref pc,.ref pt]∧SqT K H pc (TQ c)∧H pt=some (.lst vs)∧pt≠lf∧TL K H vs ts
 | .bend p=>∃ t,v=.ref t∧SqT K H t [.str "bend",.int (p:Int)]
theorem UnF.mono {lf:Addr} {K:As} {H H':Hp} {v:V} {u:Un} (h:UnF lf K H v u) (g:Same H H'):UnF lf K H' v u:=by
 cases u with
 | sum c ts =>
  obtain ⟨t,pc,pt,vs,e,h1,h2,h3,n,h4⟩:=h;exact ⟨t,pc,pt,vs,e,g.tup h1,g.tup h2,g _ _ h3,n,h4.mono g⟩
 | bend p =>
  obtain ⟨t,e,h1⟩:=h;exact ⟨t,e,g.tup h1⟩
theorem UnF.un {lf:Addr} {K:As} {H:Hp} {v:V} {u:Un} (h:UnF lf K H v u):UnAt false K H v u:=by
 cases u with
 | sum c ts =>
  obtain ⟨t,pc,pt,vs,e,h1,h2,h3,n,h4⟩:=h;exact ⟨t,pc,pt,vs,e,h1,h2,SqL.of h3,h4⟩
 | bend p=>exact h
theorem UnF.upd {lf:Addr} {K:As} {H:Hp} {v:V} {u:Un} {ys:List V} {o:HO} (h:UnF lf K H v u) (e:H lf=some (.lst ys)):UnF lf K (upd H lf o) v u:=by
 cases u with
 | sum c ts =>
  obtain ⟨t,pc,pt,vs,e0,h1,h2,h3,n,h4⟩:=h;exact ⟨t,pc,pt,vs,e0,SqT.upd_lst h1 e,SqT.upd_lst h2 e,by rw [qJ n]; exact h3,n,Paired.mapP h4 fun _ _ ⟨t,r,e1,k1,k2⟩=>⟨t,r,e1,SqT.upd_lst k1 e,SqT.upd_lst k2 e⟩⟩
 | bend p =>
  obtain ⟨t,e0,h1⟩:=h;exact ⟨t,e0,SqT.upd_lst h1 e⟩
def UF (lf:Addr) (K:As) (H:Hp) (vs:List V) (us:List Un):Prop:=Paired (UnF lf K H) vs us
theorem UF.mono {lf:Addr} {K:As} {H H':Hp} {vs:List V} {us:List Un} (h:UF lf K H vs us) (g:Same H H'):UF lf K H' vs us:=Paired.mapP h fun _ _ q=>q.mono g
theorem UF.un {lf:Addr} {K:As} {H:Hp} {vs:List V} {us:List Un} (h:UF lf K H vs us):UL false K H vs us:=Paired.mapP h fun _ _ q=>q.un
theorem UF.upd {lf:Addr} {K:As} {H:Hp} {vs:List V} {us:List Un} {ys:List V} {o:HO} (h:UF lf K H vs us) (e:H lf=some (.lst ys)):UF lf K (upd H lf o) vs us:=Paired.mapP h fun _ _ q=>q.upd e
theorem UF.length {lf:Addr} {K:As} {H:Hp} {vs:List V} {us:List Un} (h:UF lf K H vs us):vs.length=us.length:=Paired.length h
theorem UF.get {lf:Addr} {K:As} {H:Hp} {vs:List V} {us:List Un} {i:Nat} {v:V} (h:UF lf K H vs us) (e:vs[i]?=some v):∃ u,us[i]?=some u∧UnF lf K H v u:=vy h e
theorem UF.snoc {lf:Addr} {K:As} {H:Hp} {vs:List V} {us:List Un} {v:V} {u:Un} (h:UF lf K H vs us) (k:UnF lf K H v u):UF lf K H (vs++[v]) (us++[u]):=Paired.snoc h k
def UnN (H0:Hp) (K:As) (H:Hp) (v:V) (u:Un):Prop:=∀ lf o,H0 lf=some o→UnF lf K H v u
def WfU (e:Nat):Un→Prop
 | .sum _ ts=>(∀ x∈ts,x.1<e)∧(ts.map (·.1)).Nodup∧ts.length≤100
 | .bend p=>p<e
def isB:Un→Bool
 | .sum _ _=>false
 | .bend _=>true
def WfN (many:Nat) (us:List Un):Prop:=∀ (k:Nat) (u:Un),us[k]?=some u→WfU (many+k) u
def RetBy (H:Hp) (Q:VK) (P:Hp→V→Prop):Prop:=∀ p H',Same H H'→P H' (.ref p)→Q (.ref p) H'
def spPlace:Sp:=fun vs H Q _=>∃ p e:Nat,vs=[.int (p:Int),.int (e:Int)]∧p<e∧Q (.int (p:Int)) H
theorem xz (T:Txt K mg a):FnOk P w K mg base CX0 2 a.fy4 a.dy4 ["place", "end"] spPlace:=by
 refine T.Fy4.ok scy4 ?_ ?_
 ·walk_at "c"
 walk_at "b"
 obtain ⟨p,e,rfl,lt,q⟩:=h;refine ⟨_,(qX (ps_if (PW.pt (pw_or (j6 (yk (pe_c (QY T) hr T.myg T.Fyg.kp T.byg (pa_c (pv 0) qj)))) (pw_or (zv op_lt (pv 0) qk) (wj (zv op_ge (pv 0) (pv 1))))))
    (qZ j7)
    zQ)
   (qZ (zw (zy (vQ) rfl T.m_int boot_int (pa_c (pv 0) qj))))),?_⟩
 refine ⟨_,rfl,_,rfl,_,rfl,iteF ⟨_,rfl,_,_,rfl,rfl,_,rfl,iteN (by omega) ⟨_,rfl,_,rfl,_,_,rfl,rfl,_,rfl,iteN (by omega) ?_⟩⟩⟩;exact ⟨_,rfl,.inl ⟨_,rfl,q⟩⟩
def spTerm (K:As):Sp:=fun vs H Q _=>∃ (v:V) (x:Nat×Rat) (e:Nat),vs=[v,.int (e:Int)]∧Y6 K H v x∧x.1<e∧RetBy H Q fun H' v=>Y6 K H' v x
theorem oky7 (T:Txt K mg a):FnOk P w K mg base CX0 3 a.fy7 a.dy7 ["term", "end"] (spTerm K):=by
 refine T.Fy7.ok scy7 ?_ ?_
 ·walk_at "c"
 walk_at "b"
 obtain ⟨v,x,e,rfl,⟨t,r,rfl,ht,hr'⟩,lt,q⟩:=h;refine ⟨_,(qX (ps_if (PW.pt (pw_or (j6 (yk (qW (jX) rfl T.m_isinstance boot_isinstance (pa_c (pv 0) (pa_c (vW (v:=.ty "tuple") rfl T.m_tuple boot_tuple rfl) qj))))) (wj (zv op_ne (qW (zk) rfl T.m_len boot_len (pa_c (pv 0) qj)) qk))))
    (qZ j7)
    zQ)
   (qX (ps_if (j6 (yk (pe_c (Z0 T) hr T.myf T.Fyf.kp T.byf (pa_c (pe_ix qK (pv 0) qk) qj))))
    (qZ j7)
    zQ)
   (qZ (zw (yz (pa_c (pe_c (xz T) hr T.my4 T.Fy4.kp T.by4 (pa_c (pe_ix qK (pv 0) qk) (pa_c (pv 1) qj))) (pa_c (pe_c (okx9 T) hr T.mx9 T.Fx9.kp T.bx9 (pa_c (pe_ix qK (pv 0) qk) qj)) qj))))))),?_⟩
 refine ⟨_,rfl,_,_,_,rfl,IsI.tupTup ht,_,rfl,iteF ⟨_,rfl,_,_,rfl,.inr ht,rfl,_,rfl,iteF ?_⟩⟩;refine ⟨_,rfl,_,_,_,_,rfl,rfl,ht,rfl,r,_,rfl,hr',_,rfl,iteF ?_⟩;refine ⟨_,rfl,_,_,_,_,rfl,rfl,ht,rfl,_,rfl,x.1,e,rfl,lt,_,rfl,_,_,_,_,rfl,rfl,ht,rfl,r,_,rfl,hr',fun p1 H1 g1 e1=>⟨yj,fun t2 h2=>?_⟩⟩;have g2:=qy h2 (.tup [.int (x.1:Int),.ref p1]);exact q t2 _ (g1.trans g2) ⟨t2,p1,rfl,SqT.of qz,SqT.of (g2 _ _ e1)⟩
theorem nodup_int:∀ {ns:List Nat},ns.Nodup→(ns.map fun n:Nat=>(n:Int)).Nodup
 | [],_=>List.nodup_nil
 | n::ns,h=>by
  rw [List.map_cons,List.nodup_cons];rw [List.nodup_cons] at h;refine ⟨fun z=>?_,nodup_int h.2⟩;obtain ⟨m,hm,e⟩:=List.mem_map.mp z;have e:m=n:=by omega
  exact h.1 (e ▸ hm)
def spSum (K:As):Sp:=fun vs H Q _=>∃ (pc pt:Addr) (vt:List V) (c:Rat) (ts:List (Nat×Rat)) (e:Nat),vs=[.ref pc,.ref pt,.int (e:Int)]∧SqT K H pc (TQ c)∧SqL K H pt vt∧TL K H vt ts∧WfU e (.sum c ts)∧RetBy H Q fun H' v=>UnAt true K H' v (.sum c ts)
theorem oky6 (T:Txt K mg a):FnOk P w K mg base CX0 4 a.fy6 a.dy6 ["constant", "terms", "end"] (spSum K):=by
 refine T.Fy6.ok scy6 ?_ ?_
 ·walk_at "c"
 walk_at "b"
 obtain ⟨pc,pt,vt,c,ts,e,rfl,hc,ht,rt,⟨wp,nd,l100⟩,q⟩:=h;refine ltX ?_
 intros
 refine ⟨_,body5 (by rfl)
  (ps_if (j6 (yk (pe_c (Z0 T) hr T.myf T.Fyf.kp T.byf (pa_c (pv 0) qj)))) (qZ j7) zQ)
  (ps_if (j6 (yk (qW (jX) rfl T.m_isinstance boot_isinstance (pa_c (pv 1) (pa_c (vW (v:=.ty "list") rfl T.m_list boot_list rfl) qj))))) (qZ j7) zQ)
  (kq (i:=3) scy6.nd rfl (Or.inl rfl) (N:=["term", "end"]) (ix:=[none,some 2]) ⟨rfl,rfl,rfl,rfl,⟨rfl,trivial⟩,rfl,⟨⟨rfl,Or.inr (Or.inl rfl),kz rfl,rfl,Or.inl rfl⟩,trivial⟩⟩ rfl (yq (pv 1)) (fun _=>(pg_n 0 (show (["term", "end"]:List Str).Nodup by decide +kernel))) (fun _ σ=>jJ rfl σ) (fun _=>yZ) (fun _=>(pe_c (oky7 T) hr T.my7 T.Fy7.kp T.by7 (pa_c (pv 0) (pa_c (pv 1) qj)))))
  (ps_if (zv op_ne (qW (call_len_setV) rfl T.m_len boot_len (pa_c (zy (call_set_ints rfl) rfl T.m_set boot_set (pa_c (jQ (N:=["place", "share"]) (ix:=[none,none]) ⟨rfl,rfl,rfl,rfl,trivial,rfl,trivial⟩ rfl (yq (pv 3)) (fun _=>(yJ rfl (zz (pg_n 0 (show (["place", "share"]:List Str).Nodup by decide +kernel)) (zz (pg_n 1 (show (["place", "share"]:List Str).Nodup by decide +kernel)) zV)))) (fun _ σ=>go_two rfl rfl (by decide) σ) (fun _=>yZ) (fun _=>(pv 0))) qj)) qj)) (qW (zk) rfl T.m_len boot_len (pa_c (pv 3) qj))) (qZ j7) zQ)
  (zw (yz (pa_c jY (pa_c (pe_c (okx9 T) hr T.mx9 T.Fx9.kp T.bx9 (pa_c (pv 0) qj)) (pa_c (zy (ww) rfl T.m_tuple boot_tuple (pa_c (pv 3) qj)) qj))))),?_⟩
 refine lt5 ?_
 intros
 have lt:=rt.length;refine ⟨_,rfl,pc,_,rfl,hc,_,rfl,iteF ?_⟩;refine ⟨_,rfl,_,_,_,rfl,IsI.lstList ht,_,rfl,iteF ?_⟩;refine ⟨_,rfl,pt,rfl,⟨_,ht⟩,yy (n:=ts.length) (fun i ys H'=>Same H H'∧TL K H' ys (ts.take i)) ⟨Same.refl _,.nil⟩ (zj (by omega)) ?_ ?_ ?_⟩
 case refine_2 =>
  rintro i ys H' hi ⟨g,_⟩;exact ⟨_,_,g.seq ht,A4 (by omega)⟩
 case refine_3 =>
  rintro i m' ys H' cc x H2 hi ⟨g,r⟩ ⟨rfl,y1⟩ nx _;obtain ⟨x0,ex,hx⟩:=rt.get (y1 _ (g.seq ht));refine Or.inl ⟨rfl,_,rfl,_,rfl,x,x0,e,rfl,hx.mono g,wp x0 (A8 ex),fun p3 H3 g3 e3=>nx _ _ ⟨g.trans g3,?_⟩⟩;rw [zZ ex];exact Paired.snoc (r.mono g3) e3
 rintro vf H1 ⟨g1,r1⟩;rw [A5 (Nat.le_refl _)] at r1;refine ⟨⟨_,g1.seq ht,by omega⟩,fun lf hlf=>?_⟩;have g2:=qy hlf (.lst vf);have ef:=qz (H:=H1) (a:=lf) (o:=.lst vf);have r1:=r1.mono g2;have gA:=g1.trans g2;generalize upd H1 lf (.lst vf)=H2 at *;clear g1 g2 hlf;have lvf:=TL.length r1;refine ⟨_,rfl,lf,rfl,⟨_,SqL.of ef⟩,yy (n:=ts.length) (fun i ys H'=>H'=H2∧ys=((ts.take i).map fun x=>V.int (x.1:Int))) ⟨rfl,rfl⟩ (zj (by omega)) ?_ ?_ ?_⟩
 case refine_2 =>
  rintro i ys H' hi ⟨rfl,_⟩;exact ⟨_,_,SqL.of ef,A4 (by omega)⟩
 case refine_3 =>
  rintro i m' ys H' cc x H3 hi ⟨rfl,rfl⟩ ⟨rfl,y1⟩ nx _;obtain ⟨x0,ex,tt,rr,rfl,h1,h2⟩:=TL.get r1 (y1 _ (SqL.of ef));refine ⟨tt,_,rfl,h1,rfl,_,_,rfl,_,_,rfl,rfl,Or.inl ⟨rfl,_,rfl,nx _ _ ⟨rfl,?_⟩⟩⟩;rw [zZ ex,An];rfl
 rintro ys H3 ⟨rfl,rfl⟩;rw [A5 (Nat.le_refl _)];refine ⟨⟨_,SqL.of ef,by omega⟩,fun lp hlp=>?_⟩;have g3:=qy hlp (.lst (ts.map fun x=>V.int (x.1:Int)));have ep:=qz (H:=H3) (a:=lp) (o:=.lst (ts.map fun x=>V.int (x.1:Int)));have em:(ts.map fun x=>V.int (x.1:Int))=((ts.map (·.1)).map fun n:Nat=>(n:Int)).map V.int:=by rw [List.map_map,List.map_map]; rfl
 rw [em] at ep g3 ⊢;generalize upd H3 lp (.lst (((ts.map (·.1)).map fun n:Nat=>(n:Int)).map V.int))=H4 at *;refine ⟨lp,_,rfl,SqL.of ep,by rw [Al,Al]; omega,nodup_int nd,fun ls S hls=>?_⟩;have g4:=qy hls (.set S ((ts.map (·.1)).map fun n:Nat=>(n:Int)).length);have gB:=gA.trans (g3.trans g4);have ef4:=(g3.trans g4) _ _ ef;refine ⟨ls,_,_,rfl,qz,by rw [Al,Al]; omega,_,rfl,_,_,rfl,.inl (SqL.of ef4),rfl,_,rfl,iteNS (congrArg V.int (by rw [Al,Al]; omega)) ?_⟩;have r4:=r1.mono (g3.trans g4);have hc4:=gB.tup hc;generalize upd H4 ls (.set S ((ts.map (·.1)).map fun n:Nat=>(n:Int)).length)=H5 at *;refine ⟨_,rfl,pc,_,rfl,hc4,fun p1 H6 g6 e6=>?_⟩;refine ⟨_,rfl,lf,vf,rfl,.inl ⟨SqL.of (g6 _ _ ef4),fun lt2 hlt2=>⟨(show 3≤sizeLine by decide),fun t3 h3=>?_⟩⟩⟩;have g7:=qy hlt2 (.tup vf);have g8:=qy h3 (.tup [.str "sum",.ref p1,.ref lt2]);have g78:=g7.trans g8;exact q t3 _ (gB.trans (g6.trans g78)) ⟨t3,p1,lt2,vf,rfl,SqT.of qz,SqT.of (g78 _ _ e6),SqT.of (g8 _ _ qz),TL.mono r4 (g6.trans g78)⟩
def spUnit (K:As):Sp:=fun vs H Q _=>∃ (v:V) (u:Un) (e:Nat),vs=[v,.int (e:Int)]∧UnAt false K H v u∧WfU e u∧RetBy H Q fun H' v=>UnAt true K H' v u
theorem oky8 (T:Txt K mg a):FnOk P w K mg base CX0 5 a.fy8 a.dy8 ["unit", "end"] (spUnit K):=by
 refine T.Fy8.ok scy8 ?_ ?_
 ·walk_at "c"
 walk_at "b"
 obtain ⟨v,u,e,rfl,hu,wf,q⟩:=h;refine ltX ?_
 intros
 refine ⟨_,body4 (by rfl)
  (ps_if (PW.pt (pw_or (j6 (yk (qW (jX) rfl T.m_isinstance boot_isinstance (pa_c (pv 0) (pa_c (vW (v:=.ty "tuple") rfl T.m_tuple boot_tuple rfl) qj))))) (pw_or (zv op_eq (qW (zk) rfl T.m_len boot_len (pa_c (pv 0) qj)) qk) (wj (j6 (yk (qW (jX) rfl T.m_isinstance boot_isinstance (pa_c (pe_ix qK (pv 0) qk) (pa_c (vW (v:=.ty "str") rfl T.m_str boot_str rfl) qj))))))))) (qZ j7) zQ)
  (ps_if (PW.pt (pw_and (zv op_eq (pe_ix qK (pv 0) qk) jY) (pw_and1 (zv op_eq (qW (zk) rfl T.m_len boot_len (pa_c (pv 0) qj)) qk)))) (qZ (zw (pe_c (oky6 T) hr T.my6 T.Fy6.kp T.by6 (pa_c (pe_ix qK (pv 0) qk) (pa_c (pe_ix qK (pv 0) qk) (pa_c (pv 1) qj)))))) zQ)
  (ps_if (PW.pt (pw_and (zv op_eq (pe_ix qK (pv 0) qk) jY) (pw_and1 (zv op_eq (qW (zk) rfl T.m_len boot_len (pa_c (pv 0) qj)) qk)))) (qZ (zw (yz (pa_c jY (pa_c (pe_c (xz T) hr T.my4 T.Fy4.kp T.by4 (pa_c (pe_ix qK (pv 0) qk) (pa_c (pv 1) qj))) qj))))) zQ)
  (j7),?_⟩
 refine lt4 ?_
 intros
 cases u with
 | sum c ts =>
  obtain ⟨t,pc,pt,vs,rfl,h1,h2,h3,h4⟩:=hu;refine ⟨_,rfl,_,_,_,rfl,IsI.tupTup h1,_,rfl,iteF ⟨_,rfl,_,_,rfl,.inr h1,rfl,_,rfl,iteF ⟨_,rfl,_,_,_,_,rfl,rfl,h1,rfl,_,_,_,rfl,IsI.strStr _,_,rfl,iteF ?_⟩⟩⟩;refine ⟨_,rfl,_,_,_,_,rfl,rfl,h1,rfl,rfl,_,rfl,iteP rfl ⟨_,rfl,_,_,rfl,.inr h1,rfl,_,rfl,iteP rfl ?_⟩⟩;exact ⟨_,rfl,_,_,_,_,rfl,rfl,h1,rfl,_,rfl,_,_,_,_,rfl,rfl,h1,rfl,_,rfl,pc,pt,vs,c,ts,e,rfl,h2,h3,h4,wf,q⟩
 | bend p =>
  obtain ⟨t,rfl,h1⟩:=hu;refine ⟨_,rfl,_,_,_,rfl,IsI.tupTup h1,_,rfl,iteF ⟨_,rfl,_,_,rfl,.inr h1,rfl,_,rfl,iteF ⟨_,rfl,_,_,_,_,rfl,rfl,h1,rfl,_,_,_,rfl,IsI.strStr _,_,rfl,iteF ?_⟩⟩⟩;refine ⟨_,rfl,_,_,_,_,rfl,rfl,h1,rfl,rfl,_,rfl,iteN (by decide) (iteF ?_)⟩;refine ⟨_,rfl,_,_,_,_,rfl,rfl,h1,rfl,rfl,_,rfl,iteP rfl ⟨_,rfl,_,_,rfl,.inr h1,rfl,_,rfl,iteP rfl ?_⟩⟩;refine ⟨_,rfl,_,_,_,_,rfl,rfl,h1,rfl,_,rfl,p,e,rfl,wf,yj,fun t2 h2=>?_⟩;exact q t2 _ (qy h2 _) ⟨t2,rfl,SqT.of qz⟩
def NetOk (many:Nat) (us:List Un) (outs:List Nat):Prop:=WfN many us∧us.length≤80∧(us.filter isB).length≤20∧1≤many∧many≤6∧1≤outs.length∧outs.length≤12∧∀ o∈outs,o<many+us.length
def spUnits (K:As):Sp:=fun vs H Q _=>∃ (l:Addr) (many:Nat) (vu:List V) (us:List Un),vs=[.ref l,.int (many:Int)]∧SqL K H l vu∧UL false K H vu us∧WfN many us∧us.length≤80∧(us.filter isB).length≤20∧∀ p H' vk,H p=none→Same H H'→H' p=some (.lst vk)→UL true K H' vk us→Q (.ref p) H'
theorem Y3 {b:Bool} {K:As} {H:Hp} {v:V} {u:Un} (h:UnAt b K H v u):∃ t ys,v=.ref t∧SqT K H t (.str (if isB u then "bend" else "sum")::ys):=by
 cases u with
 | sum c ts =>
  obtain ⟨t,pc,pt,vs,rfl,h1,_⟩:=h;exact ⟨t,_,rfl,h1⟩
 | bend p =>
  obtain ⟨t,rfl,h1⟩:=h;exact ⟨t,_,rfl,h1⟩
theorem kX {α:Type} (p:α→Bool) (xs:List α) (x:α):(xs++[x]).filter p=xs.filter p++(if p x then [x] else []):=by
 rw [List.filter_append]
 cases h:p x <;> simp [h]
theorem oky9 (T:Txt K mg a):FnOk P w K mg base CX0 6 a.fy9 a.dy9 ["units", "many"] (spUnits K):=by
 refine T.Fy9.ok Zv ?_ ?_
 ·walk_at "c"
 walk_at "b"
 obtain ⟨l,many,vu,us,rfl,hl,ru,wf,l80,b20,q⟩:=h;refine ltX ?_
 intros
 refine ⟨_,body4 (by rfl)
  (ps_if (PW.pt (pw_or (j6 (yk (qW (jX) rfl T.m_isinstance boot_isinstance (pa_c (pv 0) (pa_c (vW (v:=.ty "list") rfl T.m_list boot_list rfl) qj))))) (wj (zv op_gt (qW (zk) rfl T.m_len boot_len (pa_c (pv 0) qj)) (jj (v:=.int 80) rfl T.mzj ⟨_,rfl⟩))))) (qZ j7) zQ)
  (kq (i:=2) Zv.nd rfl (Or.inl rfl) (N:=["k", "unit", "many"]) (ix:=[none,none,some 1]) ⟨rfl,rfl,rfl,rfl,⟨rfl,trivial⟩,rfl,⟨⟨rfl,Or.inr (Or.inl rfl),kz rfl,rfl,Or.inl rfl⟩,trivial⟩⟩ rfl (pi_enum rfl T.m_enumerate (pa_c (pv 0) qj)) (fun _=>(yJ rfl (zz (pg_n 0 (show (["k", "unit", "many"]:List Str).Nodup by decide +kernel)) (zz (pg_n 1 (show (["k", "unit", "many"]:List Str).Nodup by decide +kernel)) zV)))) (fun _ σ=>go_two rfl rfl (by decide) σ) (fun _=>yZ) (fun _=>(pe_c (oky8 T) hr T.my8 T.Fy8.kp T.by8 (pa_c (pv 1) (pa_c (pe_op y9 (pv 2) (pv 0)) qj)))))
  (ps_if (zv op_gt (qW (zk) rfl T.m_len boot_len (pa_c (jQ (N:=["unit"]) (ix:=[none]) ⟨rfl,rfl,rfl,rfl,trivial,rfl,trivial⟩ rfl (yq (pv 2)) (fun _=>(pg_n 0 (show (["unit"]:List Str).Nodup by decide +kernel))) (fun _ σ=>jJ rfl σ) (fun _=>(pif_one (zv op_eq (pe_ix qK (pv 0) qk) jY))) (fun _=>(pv 0))) qj)) (jj (v:=.int 20) rfl T.mzf ⟨_,rfl⟩)) (qZ j7) zQ)
  (zw (pv 2)),?_⟩
 refine lt4 ?_
 intros
 have lu:=ru.length;refine ⟨_,rfl,_,_,_,rfl,IsI.lstList hl,_,rfl,iteF ⟨_,rfl,_,_,rfl,.inl hl,_,_,rfl,rfl,_,rfl,iteN (by omega) ?_⟩⟩;refine ⟨_,rfl,l,rfl,⟨_,hl⟩,yy (n:=us.length) (fun i ys H'=>Same H H'∧UL true K H' ys (us.take i)) ⟨Same.refl _,.nil⟩ (zj (by omega)) ?_ ?_ ?_⟩
 case refine_2 =>
  rintro i ys H' hi ⟨g,_⟩;exact ⟨_,_,g.seq hl,A4 (by omega)⟩
 case refine_3 =>
  rintro i m' ys H' cc x H2 hi ⟨g,r⟩ ⟨p,x2,hp,rfl,rfl,y1⟩ nx _;obtain ⟨u0,eu,hu⟩:=ru.get (y1 _ (g.seq hl));have g2:=qy hp (.tup [.int (i:Int),x2]);refine ⟨p,_,rfl,SqT.of qz,rfl,_,_,rfl,_,_,rfl,rfl,Or.inl ⟨rfl,_,rfl,_,rfl,_,rfl,_,_,rfl,rfl,x2,u0,many+i,congrArg (fun z=>[x2,V.int z]) (show (many:Int)+(i:Int)=((many+i:Nat):Int) by omega),hu.mono (g.trans g2),wf i u0 eu,fun p3 H3 g3 e3=>nx _ _ ⟨g.trans (g2.trans g3),?_⟩⟩⟩;rw [zZ eu];exact UL.snoc (r.mono (g2.trans g3)) e3
 rintro vk H1 ⟨g1,r1⟩;rw [A5 (Nat.le_refl _)] at r1;refine ⟨⟨_,g1.seq hl,by omega⟩,fun lf hlf=>?_⟩;have nlf:H lf=none:=zx g1 hlf;have g2:=qy hlf (.lst vk);have ef:=qz (H:=H1) (a:=lf) (o:=.lst vk);have r1:=r1.mono g2;have gA:=g1.trans g2;generalize upd H1 lf (.lst vk)=H2 at *;clear g1 g2 hlf;have lvk:=UL.length r1;refine ⟨_,rfl,lf,rfl,⟨_,SqL.of ef⟩,yy (n:=us.length) (fun i ys H'=>H'=H2∧ys.length=((us.take i).filter isB).length) ⟨rfl,rfl⟩ (zj (by omega)) ?_ ?_ ?_⟩
 case refine_2 =>
  rintro i ys H' hi ⟨rfl,_⟩;exact ⟨_,_,SqL.of ef,A4 (by omega)⟩
 case refine_3 =>
  rintro i m' ys H' cc x H3 hi ⟨rfl,ly⟩ ⟨rfl,y1⟩ nx sk;obtain ⟨u0,eu,hu⟩:=UL.get r1 (y1 _ (SqL.of ef));obtain ⟨t,zs,rfl,ht⟩:=Y3 hu;refine ⟨_,rfl,_,_,_,_,rfl,rfl,ht,at0,rfl,_,rfl,?_⟩;have es:us.take (i+1)=us.take i++[u0]:=zZ eu
  cases hb:isB u0 with
  | true =>
   refine Or.inl ⟨by rfl,_,rfl,nx _ _ ⟨rfl,?_⟩⟩;rw [es,kX,hb,Ad,Ad,ly];rfl
  | false =>
   refine Or.inr ⟨by rfl,sk _ ⟨rfl,?_⟩⟩;rw [es,kX,hb,Ad,ly];rfl
 rintro ys H3 ⟨rfl,ly⟩;rw [A5 (Nat.le_refl _)] at ly;refine ⟨⟨_,SqL.of ef,by omega⟩,fun lb hlb=>?_⟩;refine ⟨_,_,rfl,.inl (SqL.of qz),_,_,rfl,rfl,_,rfl,iteN (by rw [ly]; omega) ?_⟩;have g3:=qy hlb (.lst ys);exact ⟨_,rfl,q lf _ vk nlf (gA.trans g3) (g3 _ _ ef) (r1.mono g3)⟩
def outV (outs:List Nat):List V:=outs.map fun n:Nat=>V.int (n:Int)
theorem out_at {outs:List Nat} {i:Nat} {x:V} (h:(outV outs)[i]?=some x):∃ n:Nat,outs[i]?=some n∧x=.int (n:Int):=by
 unfold outV at h;rw [List.getElem?_map] at h
 cases e:outs[i]? with
 | none=>rw [e] at h; cases h
 | some z=>rw [e] at h; exact ⟨z,rfl,(Ap h).symm⟩
def spOuts (K:As):Sp:=fun vs H Q _=>∃ (l:Addr) (e:Nat) (outs:List Nat),vs=[.ref l,.int (e:Int)]∧SqL K H l (outV outs)∧(∀ o∈outs,o<e)∧1≤outs.length∧outs.length≤12∧∀ p,H p=none→Q (.ref p) (upd H p (.lst (outV outs)))
theorem oky3 (T:Txt K mg a):FnOk P w K mg base CX0 3 a.fy3 a.dy3 ["outs", "end"] (spOuts K):=by
 refine T.Fy3.ok scy3 ?_ ?_
 ·walk_at "c"
 walk_at "b"
 obtain ⟨l,e,outs,rfl,hl,lt,l1,l12,q⟩:=h;refine ⟨_,(qX (ps_if (PW.pt (pw_or (j6 (yk (qW (jX) rfl T.m_isinstance boot_isinstance (pa_c (pv 0) (pa_c (vW (v:=.ty "list") rfl T.m_list boot_list rfl) qj))))) (pw_or (zv op_lt (qW (zk) rfl T.m_len boot_len (pa_c (pv 0) qj)) qk) (wj (zv op_gt (qW (zk) rfl T.m_len boot_len (pa_c (pv 0) qj)) (jj (v:=.int 12) rfl T.mzh ⟨_,rfl⟩))))))
    (qZ j7)
    zQ)
   (qZ (zw (jQ (N:=["place", "end"]) (ix:=[none,some 1]) ⟨rfl,rfl,rfl,rfl,⟨rfl,trivial⟩,rfl,⟨⟨rfl,Or.inr (Or.inl rfl),kz rfl,rfl,Or.inl rfl⟩,trivial⟩⟩ rfl (yq (pv 0)) (fun _=>(pg_n 0 (show (["place", "end"]:List Str).Nodup by decide +kernel))) (fun _ σ=>jJ rfl σ) (fun _=>yZ) (fun _=>(pe_c (xz T) hr T.my4 T.Fy4.kp T.by4 (pa_c (pv 0) (pa_c (pv 1) qj)))))))),?_⟩
 have lo:(outV outs).length=outs.length:=by unfold outV; rw [Al]
 refine ⟨_,rfl,_,_,_,rfl,IsI.lstList hl,_,rfl,iteF ⟨_,rfl,_,_,rfl,.inl hl,_,_,rfl,rfl,_,rfl,iteN (by omega) ⟨_,rfl,_,_,rfl,.inl hl,_,_,rfl,rfl,_,rfl,iteN (by omega) ?_⟩⟩⟩;refine ⟨_,rfl,l,rfl,⟨_,hl⟩,yy (n:=outs.length) (fun i ys H'=>H'=H∧ys=outV (outs.take i)) ⟨rfl,rfl⟩ (zj (by omega)) ?_ ?_ ?_⟩
 ·rintro ys H' ⟨rfl,rfl⟩
  rw [A5 (Nat.le_refl _)];exact ⟨⟨_,hl,by omega⟩,fun D hD=>q D hD⟩
 ·rintro i ys H' hi ⟨rfl,_⟩
  exact ⟨_,_,hl,A4 (by omega)⟩
 ·rintro i m' ys H' cc x H2 hi ⟨rfl,rfl⟩ ⟨rfl,y1⟩ nx _
  obtain ⟨o,eo,rfl⟩:=out_at (y1 _ hl);refine Or.inl ⟨rfl,_,rfl,_,rfl,o,e,rfl,lt o (A8 eo),nx _ _ ⟨rfl,?_⟩⟩;rw [zZ eo];unfold outV;rw [An];rfl
def NetAt (C:Addr) (H:Hp) (p lu lo:Addr) (many:Nat):Prop:=∃ dx,H p=some (.ins C dx [("many",.int (many:Int)),("units",.ref lu),("outs",.ref lo)])
theorem NetAt.mono {C:Addr} {H H':Hp} {p lu lo:Addr} {many:Nat} (h:NetAt C H p lu lo many) (g:Same H H'):NetAt C H' p lu lo many:=by
 obtain ⟨dx,e⟩:=h;exact ⟨dx,g _ _ e⟩
theorem UL.upd_ins {K:As} {H:Hp} {t C dx:Addr} {vs:List V} {us:List Un} {fs:List (Str×V)} {o:HO} (h:UL true K H vs us) (e:H t=some (.ins C dx fs)):UL true K (upd H t o) vs us :=
 Paired.mapP h fun v u hu=>by
  cases u with
  | sum c ts =>
   obtain ⟨t',pc,pt,vs,e0,h1,h2,h3,h4⟩:=hu;exact ⟨t',pc,pt,vs,e0,SqT.upd_ins h1 e,SqT.upd_ins h2 e,SqT.upd_ins h3 e,Paired.mapP h4 fun _ _ ⟨t,r,e1,k1,k2⟩=>⟨t,r,e1,SqT.upd_ins k1 e,SqT.upd_ins k2 e⟩⟩
  | bend p =>
   obtain ⟨t',e0,h1⟩:=hu;exact ⟨t',e0,SqT.upd_ins h1 e⟩
theorem SqL.upd_ins {K:As} {H:Hp} {b t C dx:Addr} {xs:List V} {fs:List (Str×V)} {o:HO} (h:SqL K H b xs) (e:H t=some (.ins C dx fs)):SqL K (upd H t o) b xs:=by
 rcases h with (h | ⟨u,h⟩) | h
 ·exact .inl (.inl (by rw [qJ (ne_of h e (by intro z; cases z))]; exact h))
 ·exact .inl (.inr ⟨u,by rw [qJ (ne_of h e (by intro z; cases z))]; exact h⟩)
 ·exact .inr h
def spNetInit (K:As) (C:Addr):Sp:=fun vs H Q _=>∃ (x dx l m:Addr) (many:Nat) (vu:List V) (us:List Un) (outs:List Nat),vs=[.ref x,.int (many:Int),.ref l,.ref m]∧H x=some (.ins C dx [])∧SqL K H l vu∧UL false K H vu us∧SqL K H m (outV outs)∧NetOk many us outs∧∀ lu lo vk H',(∀ b u,b≠x→H b=some u→H' b=some u)→H lu=none→H lo=none→NetAt C H' x lu lo many→H' lu=some (.lst vk)→H' lo=some (.lst (outV outs))→UL true K H' vk us→Q .non H'
theorem okzo (T:Txt K mg a):FnOk P w K mg base CX0 7 a.fzo a.dzo ["self", "many", "units", "outs"] (spNetInit K a.czm):=by
 refine T.Fzo.ok sczo ?_ ?_
 ·walk_at "c"
 walk_at "b"
 obtain ⟨x,dx,l,m,many,vu,us,outs,rfl,hx,hl,ru,hm,⟨wf,l80,b20,m1,m6,o1,o12,ol⟩,q⟩:=h;refine ltX ?_
 intros
 refine ⟨_,body4 (by rfl)
  (ps_if (PW.pt (pw_or (j6 (yk (pe_c (QY T) hr T.myg T.Fyg.kp T.byg (pa_c (pv 1) qj)))) (pw_or (zv op_lt (pv 1) qk) (wj (zv op_gt (pv 1) (jj (v:=.int 6) rfl T.mzg ⟨_,rfl⟩)))))) (qZ j7) zQ)
  (xX (pv 0) (zy (vQ) rfl T.m_int boot_int (pa_c (pv 1) qj)) rfl)
  (xX (pv 0) (pe_c (oky9 T) hr T.my9 T.Fy9.kp T.by9 (pa_c (pv 2) (pa_c (yx (pv 0) rfl) qj))) rfl)
  (xX (pv 0) (pe_c (oky3 T) hr T.my3 T.Fy3.kp T.by3 (pa_c (pv 3) (pa_c (pe_op y9 (yx (pv 0) rfl) (qW (zk) rfl T.m_len boot_len (pa_c (yx (pv 0) rfl) qj))) qj))) rfl),?_⟩
 refine lt4 ?_
 intros
 refine ⟨_,rfl,_,rfl,_,rfl,iteF ⟨_,rfl,_,_,rfl,rfl,_,rfl,iteN (by omega) ⟨_,rfl,_,_,rfl,rfl,_,rfl,iteN (by omega) ?_⟩⟩⟩;refine ⟨_,rfl,.inl ⟨_,rfl,_,rfl,x,_,dx,[],rfl,hx,T.Czm,T.nzp,by decide,?_⟩⟩;have hx1:upd H x (.ins a.czm dx (putF "many" (.int (many:Int)) [])) x=some (.ins a.czm dx [("many",.int (many:Int))]):=qz;have but1:∀ b u,b≠x→H b=some u→upd H x (.ins a.czm dx (putF "many" (.int (many:Int)) [])) b=some u:=fun b u hb e=>by rw [qJ hb]; exact e
 have hl1:=SqL.upd_ins (o:=.ins a.czm dx (putF "many" (.int (many:Int)) [])) hl hx;have hm1:=SqL.upd_ins (o:=.ins a.czm dx (putF "many" (.int (many:Int)) [])) hm hx;have ru1:UL false K (upd H x (.ins a.czm dx (putF "many" (.int (many:Int)) []))) vu us:=Paired.mapP ru fun v u hu=>by
  cases u with
  | sum c ts =>
   obtain ⟨t',pc,pt,vs,e0,h1,h2,h3,h4⟩:=hu;exact ⟨t',pc,pt,vs,e0,SqT.upd_ins h1 hx,SqT.upd_ins h2 hx,SqL.upd_ins h3 hx,Paired.mapP h4 fun _ _ ⟨t,r,e1,k1,k2⟩=>⟨t,r,e1,SqT.upd_ins k1 hx,SqT.upd_ins k2 hx⟩⟩
  | bend p =>
   obtain ⟨t',e0,h1⟩:=hu;exact ⟨t',e0,SqT.upd_ins h1 hx⟩
 have none1:∀ b,upd H x (.ins a.czm dx (putF "many" (.int (many:Int)) [])) b=none→H b=none:=fun b e=>by
  by_cases hb:b=x
  ·rw [hb,qz] at e; cases e
  ·rw [qJ hb] at e; exact e
 generalize upd H x (.ins a.czm dx (putF "many" (.int (many:Int)) []))=H1 at *;refine ⟨_,rfl,_,rfl,x,_,dx,_,_,rfl,hx1,T.Czm,T.nzp,rfl,l,many,vu,us,rfl,hl1,ru1,wf,l80,b20,fun lu H2 vk nlu g2 eu rk=>?_⟩;have hx2:=g2 _ _ hx1;refine ⟨_,rfl,x,_,dx,_,rfl,hx2,T.Czm,T.nzt,(show 1<1000 by decide),?_⟩;have nux:lu≠x:=Ne.symm (qQ hx1 nlu);have hx3:upd H2 x (.ins a.czm dx (putF "units" (.ref lu) [("many",.int (many:Int))])) x=some (.ins a.czm dx [("many",.int (many:Int)),("units",.ref lu)]):=qz;have but3:∀ b u,b≠x→H b=some u→upd H2 x (.ins a.czm dx (putF "units" (.ref lu) [("many",.int (many:Int))])) b=some u:=fun b u hb e=>by rw [qJ hb]; exact g2 _ _ (but1 b u hb e)
 have eu3:upd H2 x (.ins a.czm dx (putF "units" (.ref lu) [("many",.int (many:Int))])) lu=some (.lst vk):=by rw [qJ nux]; exact eu
 have rk3:=UL.upd_ins (o:=.ins a.czm dx (putF "units" (.ref lu) [("many",.int (many:Int))])) rk hx2;have hm3:=SqL.upd_ins (o:=.ins a.czm dx (putF "units" (.ref lu) [("many",.int (many:Int))])) (g2.seq hm1) hx2;have none3:∀ b,upd H2 x (.ins a.czm dx (putF "units" (.ref lu) [("many",.int (many:Int))])) b=none→H b=none:=fun b e=>by
  by_cases hb:b=x
  ·rw [hb,qz] at e; cases e
  ·rw [qJ hb] at e; exact none1 b (zx g2 e)
 have nlu0:=none1 lu nlu;generalize upd H2 x (.ins a.czm dx (putF "units" (.ref lu) [("many",.int (many:Int))]))=H3 at *;clear but1 none1 hl1 hm1 ru1 g2 eu rk hx1 hx2;have lvk:=UL.length rk3;refine ⟨_,rfl,_,rfl,x,_,dx,_,_,rfl,hx3,T.Czm,T.nzp,rfl,_,rfl,x,_,dx,_,_,rfl,hx3,T.Czm,T.nzt,rfl,_,_,rfl,.inl (SqL.of eu3),_,_,rfl,rfl,m,many+us.length,outs,congrArg (fun z=>[V.ref m,V.int z]) (show (many:Int)+(vk.length:Int)=((many+us.length:Nat):Int) by omega),hm3,ol,o1,o12,fun lo hlo=>?_⟩;have g4:=qy hlo (.lst (outV outs));have hx4:=g4 _ _ hx3;have nox:lo≠x:=Ne.symm (qQ hx3 hlo);refine ⟨_,rfl,x,_,dx,_,rfl,hx4,T.Czm,T.nzq,(show 2<1000 by decide),?_⟩;refine q lu lo vk _ (fun b u hb e=>by rw [qJ hb]; exact g4 _ _ (but3 b u hb e)) nlu0 (none3 lo hlo) ⟨dx,qz⟩ (by rw [qJ nux]; exact g4 _ _ eu3) (by rw [qJ nox]; exact qz) (UL.upd_ins (UL.mono rk3 g4) hx4)
def spToldU (K:As):Sp:=fun vs H Q _=>∃ (v:V) (u:Un),vs=[v]∧UnAt true K H v u∧RetBy H Q fun H' v=>UnN H K H' v u
theorem okxg (T:Txt K mg a):FnOk P w K mg base CX0 1 a.fxg a.dxg ["unit"] (spToldU K):=by
 refine T.Fxg.ok scxg ?_ ?_
 ·walk_at "c"
 walk_at "b"
 obtain ⟨v,u,rfl,hu,q⟩:=h;refine ⟨_,(qX (ps_if (zv op_eq (pe_ix qK (pv 0) qk) jY)
    (qZ (zw (yz (pa_c jY (pa_c (pe_ix qK (pv 0) qk) (pa_c (zy (j0) rfl T.m_list boot_list (pa_c (pe_ix qK (pv 0) qk) qj)) qj))))))
    zQ)
   (qZ (zw (pv 0)))),?_⟩
 cases u with
 | sum c ts =>
  obtain ⟨t,pc,pt,vs,rfl,h1,h2,h3,h4⟩:=hu;refine ⟨_,rfl,_,_,_,_,rfl,rfl,h1,rfl,rfl,_,rfl,iteP rfl ?_⟩;refine ⟨_,rfl,_,_,_,_,rfl,rfl,h1,rfl,_,rfl,_,_,_,_,rfl,rfl,h1,rfl,pt,vs,rfl,.inr h3,fun l2 hl2=>⟨(show 3≤sizeLine by decide),fun t2 ht2=>?_⟩⟩;have g1:=qy hl2 (.lst vs);have g2:=qy ht2 (.tup [.str "sum",.ref pc,.ref l2]);have g:=g1.trans g2;exact q t2 _ g fun lf o e=>⟨t2,pc,l2,vs,rfl,SqT.of qz,g.tup h2,g2 _ _ qz,Ne.symm (qQ e hl2),h4.mono g⟩
 | bend p =>
  obtain ⟨t,rfl,h1⟩:=hu;refine ⟨_,rfl,_,_,_,_,rfl,rfl,h1,rfl,rfl,_,rfl,iteN (by decide) ?_⟩;exact ⟨_,rfl,q t H (Same.refl _) fun lf o e=>⟨t,rfl,h1⟩⟩
def spNetTold (K:As) (C:Addr):Sp:=fun vs H Q _=>∃ (p lu lo:Addr) (many:Nat) (vk:List V) (us:List Un) (outs:List Nat),vs=[.ref p]∧NetAt C H p lu lo many∧SqL K H lu vk∧UL true K H vk us∧us.length≤80∧SqL K H lo (outV outs)∧∀ t l2 o2 vu H',Same H H'→SqT K H' t [.int (many:Int),.ref l2,.ref o2]→H l2=none→H' l2=some (.lst vu)→(∀ lf o,H lf=some o→UF lf K H' vu us)→H o2=none→H' o2=some (.lst (outV outs))→Q (.ref t) H'
theorem kJ (T:Txt K mg a):FnOk P w K mg base CX0 2 a.fzr a.dzr ["self"] (spNetTold K a.czm):=by
 refine T.Fzr.ok sczr ?_ ?_
 ·walk_at "c"
 walk_at "b"
 obtain ⟨p,lu,lo,many,vk,us,outs,rfl,⟨dx,hp⟩,hu,rk,l80,ho,q⟩:=h;refine ⟨_,(qZ (zw (yz (pa_c (yx (pv 0) rfl) (pa_c (jQ (N:=["unit"]) (ix:=[none]) ⟨rfl,rfl,rfl,rfl,trivial,rfl,trivial⟩ rfl (yq (yx (pv 0) rfl)) (fun _=>(pg_n 0 (show (["unit"]:List Str).Nodup by decide +kernel))) (fun _ σ=>jJ rfl σ) (fun _=>yZ) (fun _=>(pe_c (okxg T) hr T.mxg T.Fxg.kp T.bxg (pa_c (pv 0) qj)))) (pa_c (zy (j0) rfl T.m_list boot_list (pa_c (yx (pv 0) rfl) qj)) qj)))))),?_⟩;have lk:=rk.length;refine ⟨_,rfl,p,_,dx,_,_,rfl,hp,T.Czm,T.nzp,rfl,_,rfl,p,_,dx,_,_,rfl,hp,T.Czm,T.nzt,rfl,lu,rfl,⟨_,hu⟩,yy (n:=us.length) (fun i ys H'=>Same H H'∧∀ lf o,H lf=some o→UF lf K H' ys (us.take i)) ⟨Same.refl _,fun lf o e=>.nil⟩ (zj (by omega)) ?_ ?_ ?_⟩
 ·rintro ys H1 ⟨g1,r1⟩
  rw [A5 (Nat.le_refl _)] at r1;refine ⟨⟨_,g1.seq hu,by omega⟩,fun l2 hl2=>?_⟩;have g2:=qy hl2 (.lst ys);have gA:=g1.trans g2;refine ⟨_,rfl,p,_,dx,_,_,rfl,gA _ _ hp,T.Czm,T.nzq,rfl,lo,_,rfl,.inl (gA.seq ho),fun o2 ho2=>⟨(show 3≤sizeLine by decide),fun t ht=>?_⟩⟩;have g3:=qy ho2 (.lst (outV outs));have g4:=qy ht (.tup [.int (many:Int),.ref l2,.ref o2]);have g34:=g3.trans g4;exact q t l2 o2 ys _ (gA.trans g34) (SqT.of qz) (zx g1 hl2) (g34 _ _ qz) (fun lf o e=>(r1 lf o e).mono (g2.trans g34)) (zx gA ho2) (g4 _ _ qz)
 ·rintro i ys H' hi ⟨g,_⟩
  exact ⟨_,_,g.seq hu,A4 (by omega)⟩
 ·rintro i m' ys H' cc x H2 hi ⟨g,r⟩ ⟨rfl,y1⟩ nx _
  obtain ⟨u0,eu,h0⟩:=rk.get (y1 _ (g.seq hu));refine Or.inl ⟨rfl,_,rfl,x,u0,rfl,h0.mono g,fun p3 H3 g3 e3=>nx _ _ ⟨g.trans g3,fun lf o e=>?_⟩⟩;rw [zZ eu];exact UF.snoc ((r lf o e).mono g3) (e3 lf o (g _ _ e))
def turnQ (e:Rat×Rat) (q:Rat):Rat×Rat:=if q<0 then (e.2,e.1) else e
def vZ (sp:List (Rat×Rat)) (acc:Rat×Rat) (x:Nat×Rat):Rat×Rat:=(acc.1+x.2*(turnQ (sp.getD x.1 (0,0)) x.2).1,acc.2+x.2*(turnQ (sp.getD x.1 (0,0)) x.2).2)
def sumSp (sp:List (Rat×Rat)) (c:Rat) (ts:List (Nat×Rat)):Rat×Rat:=ts.foldl (vZ sp) (c,c)
def spanU (sp:List (Rat×Rat)):Un→Rat×Rat
 | .sum c ts=>sumSp sp c ts
 | .bend p=>(bentQ (sp.getD p (0,0)).1,bentQ (sp.getD p (0,0)).2)
def spanN (ss:List (Rat×Rat)) (us:List Un):List (Rat×Rat):=us.foldl (fun sp u=>sp++[spanU sp u]) ss
theorem spanN_snoc (ss:List (Rat×Rat)) (us:List Un) (u:Un):spanN ss (us++[u])=spanN ss us++[spanU (spanN ss us) u]:=by unfold spanN; rw [List.foldl_append]; rfl
theorem Zx:∀ (us:List Un) (ss:List (Rat×Rat)),(spanN ss us).length=ss.length+us.length
 | [],ss=>by simp [spanN]
 | u::us,ss=>by
  have k:=Zx us (ss++[spanU ss u]);unfold spanN at k ⊢;rw [List.foldl_cons,k,Ad,A6,List.length_cons];omega
def Bs (d b:Nat) (s:Rat×Rat):Prop:=Bq d b s.1∧Bq d b s.2
def ShrU:Un→Prop
 | .sum c ts=>Shr c∧(∀ x∈ts,Shr x.2)∧ts.length≤3
 | .bend _=>True
theorem zJ {α:Type} {xs:List α} {i:Nat} {x:α} (d:α) (h:xs[i]?=some x):xs.getD i d=x:=by simp [List.getD,h]
theorem SL.getD {K:As} {H:Hp} {vs:List V} {ss:List (Rat×Rat)} {i:Nat} (h:SL K H vs ss) (hi:i<ss.length):∃ v,vs[i]?=some v∧Z8 K H v (ss.getD i (0,0)):=by
 have l:=h.length;obtain ⟨v,hv⟩:∃ v,vs[i]?=some v:=⟨_,A4 (by omega)⟩;obtain ⟨s,es,hs⟩:=h.get hv;exact ⟨v,hv,by rw [zJ _ es]; exact hs⟩
theorem sm0:SmQ 9000 (0:Rat):=⟨by unfold Sm; exact Nat.pow_pos (by decide),by unfold Sm; exact Nat.one_lt_two_pow (by decide)⟩
theorem Bq.s4 {d b:Nat} {q:Rat} (h:Bq d b q) (hd:d≤20) (hb:b≤2000):SmQ 6500 q:=h.sm.mono (by omega)
theorem Bq.s9 {d b:Nat} {q:Rat} (h:Bq d b q) (hd:d≤20) (hb:b≤2000):SmQ 9000 q:=h.sm.mono (by omega)
def NetBox (K:As) (a:Adr) (H:Hp) (pn pb:Addr) (many:Nat) (us:List Un) (outs:List Nat) (ss:List (Rat×Rat)):Prop :=
 ∃ lu lo mB vk vB,NetAt a.czm H pn lu lo many∧SqL K H lu vk∧UL true K H vk us∧SqL K H lo (outV outs)∧BoxAt a.cz0 H pb mB∧SqL K H mB vB∧SL K H vB ss
def evenF (c:Rat) (n:Nat):List Rat:=c::List.replicate n 0
def loneF (k n:Nat):List Rat:=0::(List.range n).map fun j=>if j=k then 1 else 0
def addT (f g:List Rat) (s:Rat):List Rat:=(f.zip g).map fun p=>p.1+p.2*s
theorem Q7 (c:Rat) (n:Nat):(evenF c n).length=n+1:=by unfold evenF; rw [List.length_cons,List.length_replicate]
theorem loneF_len (k n:Nat):(loneF k n).length=n+1:=by unfold loneF; rw [List.length_cons,Al,Aj]
theorem addT_len (f g:List Rat) (s:Rat):(addT f g s).length=min f.length g.length:=by unfold addT; rw [Al,List.length_zip]
theorem flat_rep {α:Type} (x:α):∀ n:Nat,(List.replicate n [x]).flatten=List.replicate n x
 | 0=>rfl
 | n+1=>by rw [List.replicate_succ,List.replicate_succ,List.flatten_cons,flat_rep x n]; rfl
theorem RL.rep {K:As} {H:Hp} {v:V} {q:Rat} (h:IsQ K H v q):∀ n:Nat,RL K H (List.replicate n v) (List.replicate n q)
 | 0=>.nil
 | n+1=>.cons h (RL.rep h n)
def spEven (K:As):Sp:=fun vs H Q _=>∃ (p:Addr) (c:Rat) (n:Nat),vs=[.ref p,.int (n:Int)]∧SqT K H p (TQ c)∧n≤40∧RetL K H Q (evenF c n)
theorem okyb (T:Txt K mg a):FnOk P w K mg base CX0 1 a.fyb a.dyb ["constant", "many"] (spEven K):=by
 refine T.Fyb.ok scyb ?_ ?_
 ·walk_at "c"
 walk_at "b"
 obtain ⟨p,c,n,rfl,hp,n40,q⟩:=h;have n0:∀ H:Hp,SqT K H a.gzk (TQ 0):=T.szk;refine ⟨_,(qZ (zw (pe_op op_cat (x4 (pa_c (pv 0) qj)) (pe_op op_rep (x4 (pa_c (jj (v:=.ref a.gzk) rfl T.mzk rfl) qj)) (pv 1))))),?_⟩;refine ⟨_,rfl,(show 1≤sizeLine by decide),fun l1 h1=>⟨(show 1≤sizeLine by decide),fun l2 h2=>?_⟩⟩;have g1:=qy h1 (.lst [.ref p]);have g2:=qy h2 (.lst [.ref a.gzk]);refine ⟨_,rfl,l2,(n:Int),_,rfl,rfl,qz,by omega,by omega,?_,fun l3 h3=>?_⟩
 ·show 1*(n:Int).toNat≤sizeLine
  have:=zj (n:=(n:Int).toNat) (by omega);omega
 rw [flat_rep] at *;have g3:=qy h3 (.lst (List.replicate (n:Int).toNat (.ref a.gzk)));refine ⟨l1,l3,_,_,rfl,rfl,g3 _ _ (g2 _ _ qz),qz,?_,fun l4 h4=>?_⟩
 ·rw [List.length_replicate,A6]
  have:=zj (n:=1+(n:Int).toNat) (by omega);omega
 have g:=g1.trans (g2.trans g3);refine q l4 _ _ (zx g h4) (g.laid (zx g h4) _) qz ?_;have gA:=g.laid (zx g h4) (.lst ([.ref p]++List.replicate (n:Int).toNat (.ref a.gzk)));exact .cons ⟨p,rfl,gA.tup hp⟩ (RL.rep ⟨_,rfl,n0 _⟩ n)
def spLone (K:As):Sp:=fun vs H Q _=>∃ (k n:Nat),vs=[.int (k:Int),.int (n:Int)]∧n≤40∧RetL K H Q (loneF k n)
theorem okx6 (T:Txt K mg a):FnOk P w K mg base CX0 1 a.fx6 a.dx6 ["number", "many"] (spLone K):=by
 refine T.Fx6.ok scx6 ?_ ?_
 ·walk_at "c"
 walk_at "b"
 obtain ⟨k,n,rfl,n40,q⟩:=h;have n0:∀ H:Hp,SqT K H a.gzk (TQ 0):=T.szk;have n1:∀ H:Hp,SqT K H a.gzu (TQ 1):=T.szu;refine ⟨_,(qZ (zw (pe_op op_cat (x4 (pa_c (jj (v:=.ref a.gzk) rfl T.mzk rfl) qj)) (jQ (N:=["k", "number"]) (ix:=[none,some 0]) ⟨rfl,rfl,rfl,rfl,⟨rfl,trivial⟩,rfl,⟨⟨rfl,Or.inr (Or.inl rfl),kz rfl,rfl,Or.inl rfl⟩,trivial⟩⟩ rfl (xq rfl T.m_range (pa_c (pv 1) qj)) (fun _=>(pg_n 0 (show (["k", "number"]:List Str).Nodup by decide +kernel))) (fun _ σ=>jJ rfl σ) (fun _=>yZ) (fun _=>(pe_ifExp (zv op_eq (pv 0) (pv 1)) (jj (v:=.ref a.gzu) rfl T.mzu rfl) (jj (v:=.ref a.gzk) rfl T.mzk rfl))))))),?_⟩;refine ⟨(show 1≤sizeLine by decide),fun l1 h1=>?_⟩;have g1:=qy h1 (.lst [.ref a.gzk]);have e1:=qz (H:=H) (a:=l1) (o:=.lst [.ref a.gzk]);generalize upd H l1 (.lst [.ref a.gzk])=H1 at *;refine ⟨_,rfl,(n:Int),rfl,by omega,by omega,yy (n:=n) (fun i ys H'=>H'=H1∧RL K H1 ys ((List.range i).map fun j=>if j=k then 1 else 0)) ⟨rfl,.nil⟩ (zj (by omega)) ?_ ?_ ?_⟩
 case refine_2 =>
  rintro i ys H' hi _;show i<(n:Int).toNat;omega
 case refine_3 =>
  rintro i m' ys H' c x H5 hi ⟨rfl,r⟩ ⟨rfl,rfl⟩ nx _;refine Or.inl ⟨rfl,_,rfl,_,rfl,rfl,_,rfl,iteD (fun z=>nx _ _ ⟨rfl,?_⟩) (fun z=>nx _ _ ⟨rfl,?_⟩)⟩
  ·have z:(0:Int)+(i:Int)=(k:Int):=V.int.inj z
   rw [List.range_succ,An,List.map_singleton,if_pos (by omega)];exact r.snoc ⟨_,rfl,n1 _⟩
  ·have z:¬ i=k:=fun y=>z (congrArg V.int (by omega))
   rw [List.range_succ,An,List.map_singleton,if_neg z];exact r.snoc ⟨_,rfl,n0 _⟩
 rintro ys H2 ⟨rfl,r⟩;refine ⟨by show (n:Int).toNat≤n; omega,fun l2 h2=>?_⟩;have g2:=qy h2 (.lst ys);have lys:=r.length;rw [Al,Aj] at lys;refine ⟨l1,l2,_,_,rfl,rfl,g2 _ _ e1,qz,?_,fun l4 h4=>?_⟩
 ·have:=zj (n:=1+n) (by omega)
  rw [A6];omega
 have g:=g1.trans g2;have g4:=qy h4 (.lst ([.ref a.gzk]++ys));exact q l4 _ _ (zx g h4) (g.trans g4) qz (.cons ⟨_,rfl,n0 _⟩ (r.mono (g2.trans g4)))
def spAddT (K:As):Sp:=fun vs H Q _=>∃ (l m r:Addr) (v1 v2:List V) (f g:List Rat) (s:Rat),vs=[.ref l,.ref m,.ref r]∧SqL K H l v1∧RL K H v1 f∧SqL K H m v2∧RL K H v2 g∧SqT K H r (TQ s)∧f.length≤60∧f.length=g.length∧(∀ x∈f,SmQ 6500 x)∧(∀ y∈g,SmQ 6500 y∧SmQ 6500 (y*s))∧SmQ 6500 s∧RetL K H Q (addT f g s)
theorem oky2 (T:Txt K mg a):FnOk P w K mg base CX0 3 a.fy2 a.dy2 ["one", "other", "by"] (spAddT K):=by
 refine T.Fy2.ok scy2 ?_ ?_
 ·walk_at "c"
 walk_at "b"
 obtain ⟨l,m,r,v1,v2,f,g,sh,rfl,hl,r1,hm,r2,hr',l60,lfg,s1,s2,s3,q⟩:=h;refine ⟨_,(qZ (zw (jQ (N:=["part", "more", "by"]) (ix:=[none,none,some 2]) ⟨rfl,rfl,rfl,rfl,⟨rfl,trivial⟩,rfl,⟨⟨rfl,Or.inr (Or.inl rfl),kz rfl,rfl,Or.inl rfl⟩,trivial⟩⟩ rfl (pi_zip rfl T.m_zip (pa_c (pv 0) (pa_c (pv 1) qj))) (fun _=>(yJ rfl (zz (pg_n 0 (show (["part", "more", "by"]:List Str).Nodup by decide +kernel)) (zz (pg_n 1 (show (["part", "more", "by"]:List Str).Nodup by decide +kernel)) zV)))) (fun _ σ=>go_two rfl rfl (by decide) σ) (fun _=>yZ) (fun _=>(pe_ifExp (zv op_eq (pe_ix qK (pv 1) qk) qk) (pv 0) (pe_c (okxa T) hr T.mxa T.Fxa.kp T.bxa (pa_c (pv 0) (pa_c (pe_c (okxf T) hr T.mxf T.Fxf.kp T.bxf (pa_c (pv 1) (pa_c (pv 2) qj))) qj)))))))),?_⟩;have lv1:=r1.length;have lv2:=r2.length;refine ⟨_,rfl,_,rfl,l,m,rfl,⟨_,hl⟩,⟨_,hm⟩,yy (n:=f.length) (fun i ys H'=>Same H H'∧RL K H' ys ((addT f g sh).take i)) ⟨Same.refl _,.nil⟩ (zj (by omega)) ?_ ?_ ?_⟩
 case refine_2 =>
  rintro i ys H' hi ⟨gg,_⟩;exact ⟨_,_,_,_,gg.seq hl,gg.seq hm,A4 (by omega),A4 (by omega)⟩
 case refine_3 =>
  rintro i m' ys H' c x H5 hi ⟨gg,rr⟩ ⟨p,x1,x2,hp,rfl,rfl,y1,y2⟩ nx _;obtain ⟨qa,ea,pa,rfl,ha⟩:=RL.get r1 (y1 _ (gg.seq hl));obtain ⟨qb,eb,pb,rfl,hb⟩:=RL.get r2 (y2 _ (gg.seq hm));have j:=qy hp (.tup [.ref pa,.ref pb]);have gj:=gg.trans j;have ez:(addT f g sh)[i]?=some (qa+qb*sh):=by
   have ez0:(f.zip g)[i]?=some (qa,qb):=by rw [List.getElem?_zip_eq_some]; exact ⟨ea,eb⟩
   unfold addT;rw [List.getElem?_map,ez0];rfl
  have mb:=s2 qb (A8 eb);refine ⟨p,_,rfl,SqT.of qz,rfl,_,_,rfl,_,_,rfl,rfl,Or.inl ⟨rfl,?_⟩⟩;refine ⟨_,rfl,_,_,_,_,rfl,rfl,gj.tup hb,rfl,rfl,_,rfl,iteD (fun z=>⟨_,rfl,nx _ _ ⟨gj,?_⟩⟩) (fun _=>?_)⟩
  ·have z:qb.num=0:=V.int.inj z
   have z:qb=0:=Rat.num_eq_zero.mp z;rw [zZ ez,z,Rat.zero_mul,Rat.add_zero];exact (rr.mono j).snoc ⟨pa,rfl,gj.tup ha⟩
  ·refine ⟨_,rfl,_,rfl,_,rfl,pb,r,qb,sh,rfl,gj.tup hb,gj.tup hr',mb.1,s3,fun p3 H3 g3 e3=>?_⟩
   refine ⟨pa,p3,qa,_,rfl,(gj.trans g3).tup ha,SqT.of e3,s1 qa (A8 ea),mb.2,fun p4 H4 g4 e4=>nx _ _ ⟨gj.trans (g3.trans g4),?_⟩⟩;rw [zZ ez];exact (rr.mono (j.trans (g3.trans g4))).snoc ⟨p4,rfl,SqT.of e4⟩
 rintro ys H2 ⟨g2,r⟩;rw [A5 (by rw [addT_len]; omega)] at r;refine ⟨⟨_,_,g2.seq hl,g2.seq hm,by omega⟩,fun l2 h2=>?_⟩;exact q l2 _ _ (zx g2 h2) (g2.laid (zx g2 h2) _) qz (r.mono (qy h2 _))
def Y7 (K:As) (a:Adr) (H:Hp) (pn:Addr) (many:Nat) (us:List Un) (outs:List Nat):Prop:=∃ lu lo vk,NetAt a.czm H pn lu lo many∧SqL K H lu vk∧UL true K H vk us∧SqL K H lo (outV outs)
theorem Y7.mono {K:As} {a:Adr} {H H':Hp} {pn:Addr} {many:Nat} {us:List Un} {outs:List Nat} (h:Y7 K a H pn many us outs) (g:Same H H'):Y7 K a H' pn many us outs:=by
 obtain ⟨lu,lo,vk,h1,h2,h3,h4⟩:=h;exact ⟨lu,lo,vk,h1.mono g,g.seq h2,h3.mono g,g.seq h4⟩
def ratS:Shp:=.pair .num .num
def qD (q:Rat):Dat ratS:=((q.num:Int),(q.den:Int))
theorem qD_inj {a b:Rat} (h:qD a=qD b):a=b:=by
 have h1:a.num=b.num:=congrArg Prod.fst h;have h2:(a.den:Int)=(b.den:Int):=congrArg Prod.snd h;exact Rat.ext h1 (Int.ofNat.inj h2)
theorem trv_rat {K:As} {H:Hp} {p:Addr} {q:Rat} (t:SqT K H p (TQ q)):TrV K H ratS (qD q) (.ref p):=⟨p,_,_,rfl,t,rfl,rfl⟩
theorem trv_rats {K:As} {H:Hp} {vs:List V} {qs:List Rat} (r:RL K H vs qs):Paired (TrV K H ratS) (qs.map qD) vs:=by
 induction r with
 | nil=>exact .nil
 | cons z _ ih =>
  obtain ⟨p,rfl,t⟩:=z;exact .cons (trv_rat t) ih
theorem trv_form {K:As} {H:Hp} {p:Addr} {vs:List V} {qs:List Rat} (t:SqT K H p vs) (r:RL K H vs qs):TrV K H (.seq ratS) (qs.map qD) (.ref p):=⟨p,vs,rfl,t,trv_rats r⟩
theorem qDs_inj {l m:List Rat} (h:l.map qD=m.map qD):l=m:=by
 induction l generalizing m with
 | nil=>cases m with
  | nil=>rfl
  | cons _ _=>cases h
 | cons x l ih=>cases m with
  | nil=>cases h
  | cons y m =>
   have h1:qD x=qD y:=by injection h
   have h2:l.map qD=m.map qD:=by injection h
   rw [qD_inj h1,ih h2]
def termS:Shp:=.pair .num ratS
def TermL (K:As) (H:Hp) (vs:List V) (ts:List (Int×Rat)):Prop:=Paired (fun v t=>∃ p r,v=.ref p∧SqT K H p [.int t.1,.ref r]∧SqT K H r (TQ t.2)) vs ts
def tD (t:Int×Rat):Dat termS:=(t.1,qD t.2)
theorem trv_terms {K:As} {H:Hp} {vs:List V} {ts:List (Int×Rat)} (r:TermL K H vs ts):Paired (TrV K H termS) (ts.map tD) vs:=by
 induction r with
 | nil=>exact .nil
 | cons z _ ih =>
  obtain ⟨p,r,rfl,t,t2⟩:=z;exact .cons ⟨p,_,_,rfl,t,rfl,trv_rat t2⟩ ih
def partS:Shp:=.pair ratS (.seq termS)
def pD (c:Rat) (ts:List (Int×Rat)):Dat partS:=(qD c,ts.map tD)
theorem trv_parts {K:As} {H:Hp} {p c l:Addr} {q:Rat} {vs:List V} {ts:List (Int×Rat)} (t:SqT K H p [.ref c,.ref l]) (hc:SqT K H c (TQ q)) (hl:SqT K H l vs) (r:TermL K H vs ts):TrV K H partS (pD q ts) (.ref p):=⟨p,_,_,rfl,t,trv_rat hc,l,vs,rfl,hl,trv_terms r⟩
theorem pD_inj {c c':Rat} {ts ts':List (Int×Rat)} (h:pD c ts=pD c' ts'):c=c'∧ts=ts':=by
 refine ⟨qD_inj (congrArg Prod.fst h),?_⟩;have e:ts.map tD=ts'.map tD:=congrArg Prod.snd h;clear h
 induction ts generalizing ts' with
 | nil=>cases ts' with
  | nil=>rfl
  | cons _ _=>cases e
 | cons x l ih=>cases ts' with
  | nil=>cases e
  | cons y m =>
   have h1:tD x=tD y:=by injection e
   have h2:l.map tD=m.map tD:=by injection e
   have e1:(tD x).1=(tD y).1:=by rw [h1]
   have e2:(tD x).2=(tD y).2:=by rw [h1]
   have exy:x=y:=Prod.ext e1 (qD_inj e2);rw [ih h2,exy]
def bendP (many:Nat):List Un→List Nat
 | []=>[]
 | u::us=>if isB u then many::bendP (many+1) us else bendP (many+1) us
theorem QZ (u:Un):∀ (us:List Un) (many:Nat),bendP many (us++[u])=bendP many us++(if isB u then [many+us.length] else [])
 | [],many=>by
  show bendP many [u]=_
  cases h:isB u <;> simp [bendP,h]
 | v::us,many=>by
  rw [List.cons_append];unfold bendP;rw [QZ u us (many+1),List.length_cons,show many+1+us.length=many+(us.length+1) by omega]
  cases isB v <;> simp
theorem bendP_len:∀ (us:List Un) (many:Nat),(bendP many us).length≤us.length
 | [],_=>Nat.le_refl _
 | v::us,many=>by
  have:=bendP_len us (many+1);unfold bendP
  cases isB v <;> simp <;> omega
def NetU (K:As) (a:Adr) (H:Hp) (pn:Addr) (many:Nat) (us:List Un):Prop:=∃ lu lo vk,NetAt a.czm H pn lu lo many∧SqL K H lu vk∧UL true K H vk us
def RetN (H:Hp) (Q:VK) (xs:List V):Prop:=∀ p H',H p=none→Same H H'→H' p=some (.lst xs)→Q (.ref p) H'
def spBends (K:As) (a:Adr):Sp:=fun vs H Q _=>∃ (pn:Addr) (many:Nat) (us:List Un),vs=[.ref pn]∧NetU K a H pn many us∧us.length≤24∧RetN H Q (outV (bendP many us))
theorem okzn (T:Txt K mg a):FnOk P w K mg base CX0 1 a.fzn a.dzn ["self"] (spBends K a):=by
 refine T.Fzn.ok sczn ?_ ?_
 ·walk_at "c"
 walk_at "b"
 obtain ⟨pn,many,us,rfl,⟨lu,lo,vk,⟨dx,hN⟩,hu,rk⟩,l24,q⟩:=h;refine ⟨_,(qZ (zw (jQ (N:=["k", "unit", "self"]) (ix:=[none,none,some 0]) ⟨rfl,rfl,rfl,rfl,⟨rfl,trivial⟩,rfl,⟨⟨rfl,Or.inr (Or.inl rfl),kz rfl,rfl,Or.inl rfl⟩,trivial⟩⟩ rfl (pi_enum rfl T.m_enumerate (pa_c (yx (pv 0) rfl) qj)) (fun _=>(yJ rfl (zz (pg_n 0 (show (["k", "unit", "self"]:List Str).Nodup by decide +kernel)) (zz (pg_n 1 (show (["k", "unit", "self"]:List Str).Nodup by decide +kernel)) zV)))) (fun _ σ=>go_two rfl rfl (by decide) σ) (fun _=>(pif_one (zv op_eq (pe_ix qK (pv 1) qk) jY))) (fun _=>(pe_op y9 (yx (pv 2) rfl) (pv 0)))))),?_⟩;have lvk:=rk.length;refine ⟨_,rfl,pn,_,dx,_,_,rfl,hN,T.Czm,T.nzt,rfl,lu,rfl,⟨_,hu⟩,yy (n:=us.length) (fun i ys H'=>Same H H'∧ys=outV (bendP many (us.take i))) ⟨Same.refl _,rfl⟩ (zj (by omega)) ?_ ?_ ?_⟩
 case refine_2 =>
  rintro i ys H' hi ⟨g,_⟩;exact ⟨_,_,g.seq hu,A4 (by omega)⟩
 case refine_3 =>
  rintro i m' ys H' cc x H3 hi ⟨g,rfl⟩ ⟨p,x2,hp,rfl,rfl,y1⟩ nx sk;obtain ⟨u0,eu,hU⟩:=UL.get rk (y1 _ (g.seq hu));obtain ⟨t,zs,rfl,ht⟩:=Y3 hU;have g2:=qy hp (.tup [.int (i:Int),.ref t]);have gg:=g.trans g2;refine ⟨p,_,rfl,SqT.of qz,rfl,_,_,rfl,_,_,rfl,rfl,?_⟩;refine ⟨_,rfl,_,_,_,_,rfl,rfl,gg.tup ht,at0,rfl,_,rfl,?_⟩;have es:us.take (i+1)=us.take i++[u0]:=zZ eu;have li:(us.take i).length=i:=by rw [Ak]; omega
  cases hb:isB u0 with
  | true =>
   refine Or.inl ⟨by rfl,_,rfl,pn,_,dx,_,_,rfl,gg _ _ hN,T.Czm,T.nzp,rfl,_,rfl,_,_,rfl,rfl,nx _ _ ⟨gg,?_⟩⟩;rw [es,QZ,hb,li];unfold outV;rw [An];show _++[V.int ((many:Int)+(i:Int))]=_++[V.int ((many+i:Nat):Int)];rw [show (many:Int)+(i:Int)=((many+i:Nat):Int) by omega]
  | false =>
   refine Or.inr ⟨by rfl,sk _ ⟨gg,?_⟩⟩;rw [es,QZ,hb]
   simp
 rintro ys H3 ⟨g3,rfl⟩;rw [A5 (Nat.le_refl _)];refine ⟨⟨_,g3.seq hu,by omega⟩,fun lb hlb=>?_⟩;exact q lb _ (zx g3 hlb) (g3.laid (zx g3 hlb) _) qz
def mvP (l d p:Nat):Nat:=if p<l then p else p+d
def mvU (l d:Nat):Un→Un
 | .sum c ts=>.sum c (ts.map fun x=>(mvP l d x.1,x.2))
 | .bend p=>.bend (mvP l d p)
theorem mvP_lt {l d p e:Nat} (h:p<e):mvP l d p<e+d:=by unfold mvP; split <;> omega
theorem mvP_inj {l d p r:Nat} (h:mvP l d p=mvP l d r):p=r:=by
 unfold mvP at h
 split at h <;> split at h <;> omega
theorem nodup_mv {l d:Nat}:∀ {ns:List Nat},ns.Nodup→(ns.map (mvP l d)).Nodup
 | [],_=>List.nodup_nil
 | n::ns,h=>by
  have h:=List.nodup_cons.mp h;refine List.nodup_cons.mpr ⟨fun z=>?_,nodup_mv h.2⟩;obtain ⟨m,hm,e⟩:=List.mem_map.mp z;exact h.1 (mvP_inj e ▸ hm)
theorem WfU.mv {l d e:Nat} {u:Un} (h:WfU e u):WfU (e+d) (mvU l d u):=by
 cases u with
 | sum c ts =>
  obtain ⟨h1,h2,h3⟩:=h;refine ⟨fun x hx=>?_,?_,by rw [Al]; exact h3⟩
  ·obtain ⟨y,hy,rfl⟩:=List.mem_map.mp hx
   exact mvP_lt (h1 y hy)
  ·have e:(ts.map fun x=>(mvP l d x.1,x.2)).map (·.1)=(ts.map (·.1)).map (mvP l d):=by rw [List.map_map,List.map_map]; rfl
   rw [e];exact nodup_mv h2
 | bend p=>exact mvP_lt (show p<e from h)
theorem isB_mv (l d:Nat) (u:Un):isB (mvU l d u)=isB u:=by cases u <;> rfl
theorem bends_mv (l d:Nat):∀ us:List Un,((us.map (mvU l d)).filter isB).length=(us.filter isB).length
 | []=>rfl
 | u::us=>by
  have ih:=bends_mv l d us;rw [List.map_cons,List.filter_cons,List.filter_cons,isB_mv]
  cases isB u
  ·exact ih
  ·exact congrArg (·+1) ih
theorem WfN.behind {many d:Nat} {as us:List Un} (ha:WfN many as) (h:WfN many us) (hd:d=as.length):WfN many (as++us.map (mvU many d)):=fun j u e=>by
 by_cases hj:j<as.length
 ·rw [List.getElem?_append_left hj] at e
  exact ha j u e
 ·rw [A0 (by omega),List.getElem?_map] at e
  cases z:us[j - as.length]? with
  | none=>rw [z] at e; cases e
  | some v =>
   rw [z] at e;have e:mvU many d v=u:=Ap e;subst e;have:=(h _ v z).mv (l:=many) (d:=d);rw [show many+(j - as.length)+d=many+j by omega] at this;exact this
theorem le1000 {n:Nat} (h:n≤1000):n≤sizeLine:=Ar h (by decide)
theorem outV_append (xs ys:List Nat):outV xs++outV ys=outV (xs++ys):=by unfold outV; rw [An]
theorem kZ (xs:List Nat):(outV xs).length=xs.length:=by unfold outV; rw [Al]
theorem UL.append {b:Bool} {K:As} {H:Hp} {vs ws:List V} {us xs:List Un} (h:UL b K H vs us) (k:UL b K H ws xs):UL b K H (vs++ws) (us++xs):=by
 unfold UL at h k ⊢
 induction h with
 | nil=>exact k
 | cons h _ ih=>exact .cons h ih
def spMixed:Sp:=fun vs H Q _=>∃ c k:Int,vs=[.int c,.int k]∧∀ m:Int,0≤m→m<429496716→Q (.int m) H
theorem Y2 (T:Txt K mg a):FnOk P w K mg base CX0 1 a.fyn a.dyn ["_law_cell", "_law_k"] spMixed:=by
 refine T.Fyn.ok ZX ?_ ?_
 ·walk_at "c"
 walk_at "b"
 obtain ⟨c,k,rfl,q⟩:=h;refine ⟨_,(qX (ps_s 2 ZX.nd (pe_op vJ (pe_op y9 (pe_op y9 (pe_op vJ (pv 0) qk) (pe_op yK qk (pv 1))) qk) qk))
   (qX (ps_s 2 ZX.nd (pe_op vJ (pe_op yK (pe_op y9 (pv 2) qk) (pe_op y9 (pe_op y9 (pv 2) qk) (pv 1))) qk))
   (qZ (zw (pe_op jq (pe_op vJ (pe_op yK (pv 2) (pe_op y9 (pv 2) qk)) qk) qk))))),?_⟩
 have pos:∀ {m:Int},(0:Int)<m→∀ x:Int,0≤x%m∧x%m<m:=fun {m} h x=>⟨Int.emod_nonneg x (by omega),Int.emod_lt_of_pos x h⟩
 refine ⟨_,rfl,_,_,rfl,rfl,(by show (0:Int)<2147483647; decide),_,rfl,_,_,rfl,rfl,IntMulOk.of_left (by decide +kernel),_,_,rfl,rfl,_,_,rfl,rfl,_,_,rfl,rfl,(by show (0:Int)<2147483629; decide),?_⟩;dsimp only;have b1:=pos (show (0:Int)<2147483629 by decide) (c%2147483647+16807*k+7);generalize (c%2147483647+16807*k+7)%2147483629=n1 at b1 ⊢;refine ⟨_,rfl,_,_,rfl,rfl,_,rfl,_,_,rfl,rfl,_,rfl,_,_,rfl,rfl,_,_,rfl,rfl,IntMulOk.of_left (intBits_le_64 (by omega) (by omega)),_,_,rfl,rfl,(by show (0:Int)<2147483587; decide),?_⟩;dsimp only;have b2:=pos (show (0:Int)<2147483587 by decide) ((n1+48271)*(n1+69621+k));generalize ((n1+48271)*(n1+69621+k))%2147483587=n2 at b2 ⊢;refine ⟨_,rfl,_,rfl,_,_,rfl,rfl,_,_,rfl,rfl,IntMulOk.of_left (intBits_le_64 (by omega) (by omega)),_,_,rfl,rfl,(by show (0:Int)<2147483579; decide),_,_,rfl,rfl,⟨by decide,by decide +kernel⟩,?_⟩;dsimp only;have b3:=pos (show (0:Int)<2147483579 by decide) (n2*(n2+40692));generalize (n2*(n2+40692))%2147483579=n3 at b3 ⊢;have e:n3.fdiv 5=n3/5:=Int.fdiv_eq_ediv_of_nonneg _ (by decide);rw [e];exact q _ (by omega) (by omega)
theorem cut_ints (ns:List Int) (lo hi:Option Int):∃ ms:List Int,cutV (ns.map V.int) lo hi=ms.map V.int∧ms.length≤ns.length:=by
 unfold cutV;rw [← List.map_drop,← List.map_take];refine ⟨_,rfl,?_⟩;rw [Ak,List.length_drop];omega
theorem int_at {zs:List Int} {i:Nat} {x:V} (h:(zs.map V.int)[i]?=some x):∃ z:Int,zs[i]?=some z∧x=.int z:=by
 rw [List.getElem?_map] at h
 cases e:zs[i]? with
 | none=>rw [e] at h; cases h
 | some z=>rw [e] at h; exact ⟨z,rfl,(Ap h).symm⟩
def spCell (K:As):Sp:=fun vs H Q _=>∃ (sa:Addr) (ns:List Int) (k:Nat),vs=[.ref sa,.int (k:Int)]∧SqL K H sa (ns.map V.int)∧∀ c:Int,Q (.int c) H
theorem okyk (T:Txt K mg a):FnOk P w K mg base CX0 1 a.fyk a.dyk ["_law_script", "_law_k"] (spCell K):=by
 refine T.Fyk.ok scyk ?_ ?_
 ·walk_at "c"
 walk_at "b"
 obtain ⟨sa,ns,k,rfl,hS,q⟩:=h;refine ⟨_,(qX (ps_if (zv op_lt (pv 1) (qW (zk) rfl T.m_len boot_len (pa_c (pv 0) qj)))
    (qZ (zw (pe_ix yV (pv 0) (pv 1))))
    zQ)
   (qZ (zw qk))),?_⟩
 refine ⟨_,rfl,_,rfl,_,_,rfl,.inl hS,_,_,rfl,rfl,_,rfl,iteD (fun c=>?_) (fun c=>?_)⟩
 ·have hk:k<(ns.map V.int).length:=by omega
  obtain ⟨x,ex⟩:∃ x,(ns.map V.int)[k]?=some x:=⟨_,A4 hk⟩;obtain ⟨z,_,rfl⟩:=int_at ex;exact ⟨_,rfl,_,rfl,sa,_,_,_,rfl,rfl,hS,atN ex,q z⟩
 ·exact q 0
def spWide:Sp:=fun vs H Q _=>∃ c k:Int,vs=[.int c,.int k]∧∀ v:Int,Q (.int v) H
theorem okx4 (T:Txt K mg a):FnOk P w K mg base CX0 2 a.fx4 a.dx4 ["_law_number", "_law_k"] spWide:=by
 refine T.Fx4.ok QX ?_ ?_
 ·walk_at "c"
 walk_at "b"
 obtain ⟨c,k,rfl,q⟩:=h;refine ⟨_,(qX (ps_s 2 QX.nd qk)
   (qX (jW PassesOwn.never rfl (xq rfl T.m_range (pa_c qk qj)) (pg_n 3 QX.nd)
    (qZ (ps_s 2 QX.nd (pe_op y9 (pe_op yK (pv 2) (pe_op op_pow qk qk)) (pe_op vJ (pe_c (Y2 T) hr T.myn T.Fyn.kp T.byn (pa_c (pv 0) (pa_c (pe_op y9 (pe_op yK qk (pv 1)) (pv 3)) qj))) (pe_op op_pow qk qk))))))
   (qZ (zw (pv 2))))),?_⟩
 refine ⟨6,rfl,by decide,by decide,jz (n:=6) (fun i σ H'=>H'=H∧∃ (v:Int) (u:Option V),σ=[some (.int c),some (.int k),some (.int v),u]) ⟨rfl,_,_,rfl⟩ ?_ ?_ ?_⟩
 ·rintro σ H' ⟨rfl,v,u,rfl⟩
  exact ⟨Nat.le_refl _,_,rfl,q v⟩
 ·rintro i σ H' hi _
  exact hi
 ·rintro i σ H' x H2 hi ⟨rfl,v,u,rfl⟩ ⟨rfl,rfl⟩
  refine ⟨_,rfl,_,_,rfl,rfl,⟨by decide,by decide,by decide⟩,_,_,rfl,rfl,IntMulOk.of_right (by decide +kernel),_,rfl,_,rfl,_,_,rfl,rfl,IntMulOk.of_left (by decide +kernel),_,rfl,_,_,rfl,rfl,_,_,rfl,fun m m0 m1=>?_⟩;exact ⟨_,_,rfl,rfl,⟨by decide,by decide,by decide⟩,_,_,rfl,rfl,(by show (0:Int)<10^(8:Int).toNat; decide),_,_,rfl,rfl,rfl,_,_,rfl⟩
def RetZ (H:Hp) (Q:VK) (n:Nat):Prop:=∀ zs:List Int,zs.length=n→∀ p H',H p=none→Same H H'→H' p=some (.lst (zs.map V.int))→Q (.ref p) H'
def spSeeds (K:As):Sp:=fun vs H Q _=>∃ (sa:Addr) (ns:List Int) (st n:Nat),vs=[.ref sa,.int (st:Int),.int (n:Int)]∧SqL K H sa (ns.map V.int)∧n≤40∧RetZ H Q n
theorem okys (T:Txt K mg a):FnOk P w K mg base CX0 3 a.fys a.dys ["_law_script", "_law_start", "_law_many_here"] (spSeeds K):=by
 refine T.Fys.ok yY ?_ ?_
 ·walk_at "c"
 walk_at "b"
 obtain ⟨sa,ns,st,n,rfl,hS,n40,q⟩:=h;refine ltX ?_
 intros
 refine ⟨_,body7 (by rfl)
  (ps_s 3 yY.nd (pe_c (okyk T) hr T.myk T.Fyk.kp T.byk (pa_c (pv 0) (pa_c (pv 1) qj))))
  (ps_s 4 yY.nd qk)
  (ps_if (zv op_eq (pe_op vJ (pv 3) qk) qk) (qZ (ps_s 4 yY.nd (pe_op jq (qW (QQ) rfl T.m_abs boot_abs (pa_c (pv 3) qj)) qk))) zQ)
  (jW PassesOwn.never rfl (pi_enum rfl T.m_enumerate (pa_c (Qk ZZ (pv 0) (xY (pv 1)) po_none) qj)) (yJ rfl (zz (pg_n 5 yY.nd) (zz (pg_n 6 yY.nd) zV))) (qZ (ps_s 3 yY.nd (pe_op vJ (pe_op y9 (pe_op yK (pv 3) qk) (pe_c (Y2 T) hr T.myn T.Fyn.kp T.byn (pa_c (pv 6) (pa_c (pv 5) qj)))) qk))))
  (ps_s 7 yY.nd (x4 qj))
  (jW PassesOwn.never rfl (xq rfl T.m_range (pa_c (pv 2) qj)) (pg_n 8 yY.nd) (qX (ps_if (zv op_gt (pv 4) (pe_op op_pow qk qk)) (qZ (jy (w5 (pv 7) (pe_op vJ (pv 4) (pe_op op_pow qk qk))))) (qZ (jy (w5 (pv 7) (pe_c (okx4 T) hr T.mx4 T.Fx4.kp T.bx4 (pa_c (pe_op y9 (pv 3) (pe_op yK qk (pv 8))) (pa_c (pv 8) qj))))))) (qZ (ps_s 4 yY.nd (pe_op jq (pv 4) (pe_op op_pow qk qk))))))
  (zw (pv 7)),?_⟩
 refine lt7 ?_
 intros
 refine ⟨_,rfl,_,rfl,sa,ns,st,rfl,hS,fun c=>?_⟩;refine ⟨_,rfl,_,_,rfl,rfl,(by show (0:Int)<3; decide),rfl,_,rfl,iteD (fun _=>⟨_,rfl,_,rfl,_,_,rfl,rfl,⟨by decide,by decide +kernel⟩,?_⟩) (fun _=>?_)⟩
 all_goals
  refine ⟨_,rfl,_,rfl,_,rfl,_,_,rfl,hS,fun c2 hc2=>?_⟩;obtain ⟨ks,ek,hk⟩:=cut_ints ns (some (st:Int)) none;rw [ek];have g0:=qy hc2 (.lst (ks.map V.int));refine ⟨c2,rfl,⟨_,SqL.of qz⟩,jz (n:=ks.length) (fun i σ H1=>Same H H1∧H1 c2=some (.lst (ks.map V.int))∧∃ (t r:Int) (u5 u6:Option V),σ=[some (.ref sa),some (.int (st:Int)),some (.int (n:Int)),some (.int t),some (.int r),u5,u6,none,none])
   ⟨g0,qz,_,_,_,_,rfl⟩ ?_ ?_ ?_⟩
  case refine_2 =>
   rintro i σ H1 hi ⟨_,e2,_⟩;exact ⟨_,_,SqL.of e2,A4 (by rw [Al]; omega)⟩
  case refine_3 =>
   rintro i σ H1 x H2 hi ⟨g,e2,t,r,u5,u6,rfl⟩ ⟨p,x2,hp,rfl,rfl,y1⟩;obtain ⟨ci,hci,rfl⟩:=int_at (y1 _ (SqL.of e2));have g3:=qy hp (.tup [.int (i:Int),.int ci]);refine ⟨p,_,rfl,SqT.of qz,rfl,_,_,rfl,_,_,rfl,rfl,?_⟩;refine ⟨_,rfl,_,_,rfl,rfl,IntMulOk.of_right (by decide +kernel),_,rfl,_,rfl,_,_,rfl,fun v v0 v1=>?_⟩;exact ⟨_,_,rfl,rfl,_,_,rfl,rfl,(by show (0:Int)<999999999989; decide),g.trans g3,g3 _ _ e2,_,_,_,_,rfl⟩
  rintro σ H1 ⟨g,e2,t,r,u5,u6,rfl⟩;refine ⟨⟨_,SqL.of e2,by rw [Al]; exact Nat.le_refl _⟩,?_⟩;refine ⟨(by decide),fun ls hls=>?_⟩;have nls:H ls=none:=zx g hls;have g1:=qy hls (.lst []);refine ⟨_,rfl,_,rfl,by omega,by omega,jz (n:=n) (fun i σ H2=>Same H H2∧∃ (zs:List Int) (r:Int) (u8:Option V),zs.length=i∧H2 ls=some (.lst (zs.map V.int))∧σ=[some (.ref sa),some (.int (st:Int)),some (.int (n:Int)),some (.int t),some (.int r),u5,u6,some (.ref ls),u8])
   ⟨g.trans g1,[],_,_,rfl,qz,rfl⟩ ?_ ?_ ?_⟩
  case refine_1 =>
   rintro σ H2 ⟨g2,zs,r,u8,ez,el,rfl⟩;exact ⟨by show _≤n; omega,_,rfl,q zs ez ls H2 nls g2 el⟩
  case refine_2 =>
   rintro i σ H2 hi _;show i<_;omega
  rintro i σ H2 x H3 hi ⟨g2,zs,r,u8,ez,el,rfl⟩ ⟨rfl,rfl⟩;have lz:(zs.map V.int).length<sizeLine:=by rw [Al]; exact zj (by omega)
  have ap:∀ v:Int,zs.map V.int++[V.int v]=(zs++[v]).map V.int:=fun v=>by rw [An]; rfl
  refine ⟨_,rfl,_,_,rfl,rfl,⟨by decide,by decide,by decide⟩,_,_,rfl,rfl,_,rfl,iteD (fun _=>?_) (fun _=>?_)⟩
  ·refine ⟨_,rfl,.inl ⟨rfl,_,SqL.of el⟩,_,rfl,_,_,rfl,rfl,⟨by decide,by decide,by decide⟩,_,_,rfl,rfl,(by show (0:Int)<10^(48:Int).toNat; decide),ls,_,_,rfl,rfl,el,lz,?_⟩
   refine ⟨_,rfl,_,_,rfl,rfl,⟨by decide,by decide,by decide⟩,_,_,rfl,rfl,⟨by decide,by decide +kernel⟩,g2.laid nls _,zs++[r%10^(48:Int).toNat],_,_,?_,?_,rfl⟩
   ·rw [Ad,ez]; rfl
   ·rw [qz]; exact congrArg (fun z=>some (HO.lst z)) (ap _)
  ·refine ⟨_,rfl,.inl ⟨rfl,_,SqL.of el⟩,_,rfl,_,rfl,_,_,rfl,rfl,IntMulOk.of_left (by decide +kernel),_,_,rfl,rfl,_,rfl,_,_,rfl,fun v=>⟨ls,_,_,rfl,rfl,el,lz,?_⟩⟩
   refine ⟨_,rfl,_,_,rfl,rfl,⟨by decide,by decide,by decide⟩,_,_,rfl,rfl,⟨by decide,by decide +kernel⟩,g2.laid nls _,zs++[v],_,_,?_,?_,rfl⟩
   ·rw [Ad,ez]; rfl
   ·rw [qz]; exact congrArg (fun z=>some (HO.lst z)) (ap v)
def spPart:Sp:=fun vs H Q _=>∃ t b:Int,vs=[.int t,.int b]∧0<b∧Sm 13400 b∧Sm 13400 t∧RetT H Q (T2 (nt t b) (nb t b))
theorem QW (T:Txt K mg a):FnOk P w K mg base CX0 1 a.fyp a.dyp ["_law_top", "_law_bottom"] spPart:=by
 refine T.Fyp.ok QK ?_ ?_
 ·walk_at "c"
 walk_at "b"
 obtain ⟨t,b,rfl,hb,hs,ht,q⟩:=h;refine ⟨_,(qX (ps_s 2 QK.nd (qW (QQ) rfl T.m_abs boot_abs (pa_c (pv 0) qj)))
   (qX (ps_s 3 QK.nd (pv 1))
   (qX (ps_while PassesOwn.never (zv op_gt (pv 2) qk)
    (qZ (ps_par (i:=2) (j:=3) rfl QK.nd rfl rfl (by decide) rfl rfl (pa_c (pe_op vJ (pv 3) (pv 2)) (pa_c (pv 2) qj)) rfl)))
   (qZ (zw (yz (pa_c (pe_op op_fdivL (pv 0) (pv 3)) (pa_c (pe_op op_fdivL (pv 1) (pv 3)) qj)))))))),?_⟩
 have d1:CDivL t (sg t b):=⟨sg_ne (show b≠0 by omega),Ag (ht.log2 (by decide)) (by decide)⟩;have d2:CDivL b (sg t b):=⟨sg_ne (show b≠0 by omega),Ag (hs.log2 (by decide)) (by decide)⟩;refine ⟨_,rfl,_,rfl,?_⟩;refine ⟨_,rfl,?_⟩;refine while_by (fun σ H'=>H'=H∧∃ (r y:Int),σ=[some (.int t),some (.int b),some (.int r),some (.int y)]∧0≤r∧0≤y∧Int.gcd y r=Int.gcd b (if t<0 then -t else t))
  (fun σ _=>match σ with | [_,_,some (.int r),_]=>r.toNat | _=>0) ⟨rfl,_,_,rfl,abs_nn _,by omega,rfl⟩ ?_ ?_
 ·rintro σ H' ⟨rfl,r,y,rfl,hr',hy,hg⟩
  refine ⟨_,rfl,_,_,rfl,rfl,_,rfl,iteD (fun c=>?_) (fun c=>?_)⟩
  ·refine ⟨_,rfl,_,rfl,_,_,rfl,rfl,c,_,rfl,_,_,rfl,?_⟩
   refine ⟨⟨rfl,y%r,r,rfl,Int.emod_nonneg _ (by omega),hr',gcd_step.trans hg⟩,?_⟩;have:=Int.emod_lt_of_pos y c;have:=Int.emod_nonneg y (show r≠0 by omega);show (y%r).toNat<r.toNat;omega
  ·have e:r=0:=by omega
   subst e;have e2:y=sg t b:=by
    rw [← gcd_end hy,hg];unfold sg;rw [if_neg (show ¬ b<0 by omega),Int.gcd_comm]
    split <;> simp [Int.neg_gcd]
   subst e2;exact ⟨_,rfl,_,rfl,_,_,rfl,rfl,d1,_,rfl,_,rfl,_,_,rfl,rfl,d2,yj,fun p hp=>q.new hp⟩
 ·rintro σ H' Q1 Q2 hq ⟨v,e,i,j,e1,e2,k,ek,q1⟩
  exact ⟨v,e,i,j,e1,e2,k,ek,hq _ _ q1⟩
theorem okyy (T:Txt K mg a):FnOk P w K mg base CX0 2 a.fyy a.dyy ["_law_one", "_law_other"] (spBinQ K (·+·)):=by
 refine T.Fyy.ok scyy ?_ ?_
 ·walk_at "c"
 walk_at "b"
 obtain ⟨p,r,x,y,rfl,hp,hq,sx,sy,q⟩:=h;refine ⟨_,(qX (ps_s 2 scyy.nd (pe_op y9 (pe_op yK (pe_ix qK (pv 0) qk) (pe_ix qK (pv 1) qk)) (pe_op yK (pe_ix qK (pv 1) qk) (pe_ix qK (pv 0) qk))))
   (qZ (zw (pe_c (QW T) hr T.myp T.Fyp.kp T.byp (pa_c (pv 2) (pa_c (pe_op yK (pe_ix qK (pv 0) qk) (pe_ix qK (pv 1) qk)) qj)))))),?_⟩
 refine ⟨_,rfl,_,_,_,_,rfl,rfl,hp,rfl,_,rfl,_,_,_,_,rfl,rfl,hq,rfl,_,_,rfl,rfl,mulOk sx.1 sy.2,_,rfl,_,_,_,_,rfl,rfl,hq,rfl,_,rfl,_,_,_,_,rfl,rfl,hp,rfl,_,_,rfl,rfl,mulOk sy.1 sx.2,_,_,rfl,rfl,?_⟩;refine ⟨_,rfl,_,rfl,_,_,_,_,rfl,rfl,hp,rfl,_,rfl,_,_,_,_,rfl,rfl,hq,rfl,_,_,rfl,rfl,mulOk sx.2 sy.2,_,_,rfl,Int.mul_pos (xx x).pos (xx y).pos,(sx.2.mul sy.2).mono (by decide),(Sm.add ((sx.1.mul sy.2).mono (m:=13000) (n:=13000) (by decide)) ((sy.1.mul sx.2).mono (by decide))).mono (by decide),?_⟩;rw [(q_plus x y).1,(q_plus x y).2];exact q
theorem okym (T:Txt K mg a):FnOk P w K mg base CX0 2 a.fym a.dym ["_law_one", "_law_other"] (spBinQ K (·*·)):=by
 refine T.Fym.ok scym ?_ ?_
 ·walk_at "c"
 walk_at "b"
 obtain ⟨p,r,x,y,rfl,hp,hq,sx,sy,q⟩:=h;refine ⟨_,(qZ (zw (pe_c (QW T) hr T.myp T.Fyp.kp T.byp (pa_c (pe_op yK (pe_ix qK (pv 0) qk) (pe_ix qK (pv 1) qk)) (pa_c (pe_op yK (pe_ix qK (pv 0) qk) (pe_ix qK (pv 1) qk)) qj))))),?_⟩;refine ⟨_,rfl,_,_,_,_,rfl,rfl,hp,rfl,_,rfl,_,_,_,_,rfl,rfl,hq,rfl,_,_,rfl,rfl,mulOk sx.1 sy.1,?_⟩;refine ⟨_,rfl,_,_,_,_,rfl,rfl,hp,rfl,_,rfl,_,_,_,_,rfl,rfl,hq,rfl,_,_,rfl,rfl,mulOk sx.2 sy.2,_,_,rfl,Int.mul_pos (xx x).pos (xx y).pos,(sx.2.mul sy.2).mono (by decide),(sx.1.mul sy.1).mono (by decide),?_⟩;rw [(q_times x y).1,(q_times x y).2];exact q
def ShrG (g:Bool) (q:Rat):Prop:=Shr q∧(g=false→Bd 12 3 q)
theorem sml_part {t:Int} {m:Nat} (hm:0<m) (h:m∣12) (ht:t.natAbs≤8):Bd 12 3 (Rat.divInt t m):=Bd.of hm h (by
 have:2^3*1≤2^3*m:=Nat.mul_le_mul_left _ hm;omega)
def SmlU:Un→Prop
 | .sum c ts=>Bd 12 3 c∧∀ x∈ts,Bd 12 3 x.2
 | .bend _=>True
def spTaken (K:As):Sp:=fun vs H Q _=>∃ (n:Int) (g:Bool),vs=[.int n,.bl g]∧∀ (n':Int) (q:Rat) (t r:Addr) (H':Hp),ShrG g q→Same H H'→SqT K H' t [.int n',.ref r]→SqT K H' r (TQ q)→Q (.ref t) H'
theorem six_at {y:Int} (h0:0≤y) (h6:y<6):∃ m:Nat,(m=1∨m=2∨m=3∨m=4∨m=7∨m=1000000000)∧m∣12∧atI [V.int 1,V.int 1,V.int 1,V.int 2,V.int 3,V.int 4] y=some (.int (m:Int)):=by
 have c:y=0∨y=1∨y=2∨y=3∨y=4∨y=5:=by omega
 rcases c with c | c | c | c | c | c <;> subst c
 ·exact ⟨1,by decide,by decide,rfl⟩
 ·exact ⟨1,by decide,by decide,rfl⟩
 ·exact ⟨1,by decide,by decide,rfl⟩
 ·exact ⟨2,by decide,by decide,rfl⟩
 ·exact ⟨3,by decide,by decide,rfl⟩
 ·exact ⟨4,by decide,by decide,rfl⟩
theorem three_at {y:Int} (h0:0≤y) (h3:y<3):∃ m:Nat,(m=1∨m=2∨m=3∨m=4∨m=7∨m=1000000000)∧atI [V.int 1,V.int 7,V.int 1000000000] y=some (.int (m:Int)):=by
 have c:y=0∨y=1∨y=2:=by omega
 rcases c with c | c | c <;> subst c
 ·exact ⟨1,by decide,rfl⟩
 ·exact ⟨7,by decide,rfl⟩
 ·exact ⟨1000000000,by decide,rfl⟩
theorem part_tq {K:As} {H:Hp} {p:Addr} {t:Int} {m:Nat} (hm:m=1∨m=2∨m=3∨m=4∨m=7∨m=1000000000) (e:H p=some (.tup (T2 (nt t m) (nb t m)))):SqT K H p (TQ (Rat.divInt t m)):=by
 have en:=n_rat (t:=t) (b:=(m:Int)) (by omega);unfold TQ;rw [← en.1,← en.2];exact SqT.of e
theorem Sm.few {m:Nat} (hm:m=1∨m=2∨m=3∨m=4∨m=7∨m=1000000000):Sm 13400 (m:Int):=Sm.mono (m:=64) (by unfold Sm; omega) (by decide)
theorem Y0 (T:Txt K mg a):FnOk P w K mg base CX0 2 a.fx0 a.dx0 ["_law_number", "_law_great"] (spTaken K):=by
 refine T.Fx0.ok j8 ?_ ?_
 ·walk_at "c"
 walk_at "b"
 obtain ⟨n,gr,rfl,q⟩:=h;refine ltX ?_
 intros
 refine ⟨_,body4 (by rfl)
  (vY (qW (j9) rfl T.m_divmod boot_divmod (pa_c (pv 0) (pa_c qk qj))) (yJ rfl (zz (pg_n 0 j8.nd) (zz (pg_n 2 j8.nd) zV))))
  (vY (qW (j9) rfl T.m_divmod boot_divmod (pa_c (pv 0) (pa_c qk qj))) (yJ rfl (zz (pg_n 0 j8.nd) (zz (pg_n 3 j8.nd) zV))))
  (ps_if (yk (pv 1)) (qX (vY (qW (j9) rfl T.m_divmod boot_divmod (pa_c (pv 0) (pa_c qk qj))) (yJ rfl (zz (pg_n 0 j8.nd) (zz (pg_n 4 j8.nd) zV)))) (qZ (ps_if (zv op_eq (pv 4) qk) (qX (vY (qW (j9) rfl T.m_divmod boot_divmod (pa_c (pv 0) (pa_c (pe_op op_pow qk qk) qj))) (yJ rfl (zz (pg_n 0 j8.nd) (zz (pg_n 5 j8.nd) zV)))) (qZ (zw (yz (pa_c (pv 0) (pa_c (pe_c (QW T) hr T.myp T.Fyp.kp T.byp (pa_c (pe_op y9 (pe_op yK (pe_op op_sub (pv 2) qk) (pe_op op_pow qk qk)) (pv 5)) (pa_c (pe_ix yV (x4 (pa_c qk (pa_c qk (pa_c (pe_op op_pow qk qk) qj)))) (pe_op vJ (pv 3) qk)) qj))) qj)))))) zQ))) zQ)
  (zw (yz (pa_c (pv 0) (pa_c (pe_c (QW T) hr T.myp T.Fyp.kp T.byp (pa_c (pe_op op_sub (pv 2) qk) (pa_c (pe_ix yV (x4 (pa_c qk (pa_c qk (pa_c qk (pa_c qk (pa_c qk (pa_c qk qj))))))) (pv 3)) qj))) qj)))),?_⟩
 refine lt4 ?_
 intros
 refine ⟨_,rfl,_,_,rfl,⟨by decide,by decide⟩,fun p1 h1=>⟨p1,_,rfl,SqT.of qz,rfl,_,_,rfl,_,_,rfl,rfl,?_⟩⟩;have g1:=qy h1 (.tup [.int (n/13),.int (n%13)]);generalize upd H p1 (.tup [.int (n/13),.int (n%13)])=H1 at *;refine ⟨_,rfl,_,_,rfl,⟨by decide,by decide⟩,fun p2 h2=>⟨p2,_,rfl,SqT.of qz,rfl,_,_,rfl,_,_,rfl,rfl,?_⟩⟩;have g2:=g1.trans (qy h2 (.tup [.int (n/13/6),.int (n/13%6)]));generalize upd H1 p2 (.tup [.int (n/13/6),.int (n/13%6)])=H2 at *;have a0:0≤n%13:=Int.emod_nonneg _ (by decide);have a1:n%13<13:=Int.emod_lt_of_pos _ (by decide);have b0:0≤n/13%6:=Int.emod_nonneg _ (by decide);have b1:n/13%6<6:=Int.emod_lt_of_pos _ (by decide);generalize n%13=x at *;generalize n/13%6=y at *;generalize n/13/6=n2 at *;clear h1 h2 g1;obtain ⟨m6,hm6,d12,at6⟩:=six_at b0 b1;refine ⟨_,rfl,_,rfl,?_⟩
 cases gr with
 | false =>
  refine iteF ?_;refine ⟨_,rfl,_,rfl,_,_,rfl,rfl,(show 6≤sizeLine by decide),fun l hl=>⟨_,rfl,l,_,_,_,rfl,rfl,SqL.of qz,at6,_,_,rfl,by omega,Sm.few hm6,Sm.mono (m:=64) (by unfold Sm; omega) (by decide),fun p5 H5 g5 e5=>⟨yj,fun t ht=>?_⟩⟩⟩;have g6:=qy ht (.tup [.int n2,.ref p5]);exact q n2 _ t p5 _ ⟨shr_part hm6 (by omega),fun _=>sml_part (by omega) d12 (by omega)⟩ (g2.trans ((qy hl _).trans (g5.trans g6))) (SqT.of qz) (g6.tup (part_tq hm6 e5))
 | true =>
  refine iteT ?_;refine ⟨_,rfl,_,_,rfl,⟨by decide,by decide⟩,fun p3 h3=>⟨p3,_,rfl,SqT.of qz,rfl,_,_,rfl,_,_,rfl,rfl,?_⟩⟩;have g3:=g2.trans (qy h3 (.tup [.int (n2/3),.int (n2%3)]));generalize upd H2 p3 (.tup [.int (n2/3),.int (n2%3)])=H3 at *;refine ⟨_,rfl,rfl,_,rfl,iteD (fun _=>?_) (fun _=>?_)⟩
  ·refine ⟨_,rfl,_,_,rfl,rfl,⟨by decide,by decide,by decide⟩,_,_,rfl,⟨by decide,by decide⟩,fun p4 h4=>⟨p4,_,rfl,SqT.of qz,rfl,_,_,rfl,_,_,rfl,rfl,?_⟩⟩
   have e9:(10:Int)^(9:Int).toNat=1000000000:=by decide
   have g4:=g3.trans (qy h4 (.tup [.int (n2/3/10^(9:Int).toNat),.int (n2/3%10^(9:Int).toNat)]));dsimp only;generalize upd H3 p4 (.tup [.int (n2/3/10^(9:Int).toNat),.int (n2/3%10^(9:Int).toNat)])=H4 at *;have c0:0≤n2/3%10^(9:Int).toNat:=Int.emod_nonneg _ (by decide);have c1:n2/3%10^(9:Int).toNat<1000000000:=Int.emod_lt_of_pos _ (by decide);generalize n2/3%10^(9:Int).toNat=z at *;generalize n2/3/10^(9:Int).toNat=n4 at *;obtain ⟨m3,hm3,at3⟩:=three_at (y:=y%3) (Int.emod_nonneg _ (by decide)) (Int.emod_lt_of_pos _ (by decide));refine ⟨_,rfl,_,rfl,_,_,rfl,rfl,_,_,rfl,rfl,⟨by decide,by decide,by decide⟩,_,_,rfl,rfl,IntMulOk.of_left (intBits_le_64 (by omega) (by omega)),_,rfl,_,_,rfl,rfl,_,_,rfl,rfl,⟨by decide,by decide,by decide⟩,(show 3≤sizeLine by decide),fun l hl=>?_⟩;have e18:(10:Int)^(18:Int).toNat=1000000000000000000:=by decide
   refine ⟨_,rfl,_,_,rfl,rfl,(by show (0:Int)<3; decide),l,_,_,_,rfl,rfl,SqL.of qz,at3,_,_,rfl,by omega,Sm.few hm3,Sm.mono (m:=64) (by unfold Sm; rw [e18]; omega) (by decide),fun p5 H5 g5 e5=>⟨yj,fun t ht=>?_⟩⟩;have g6:=qy ht (.tup [.int n4,.ref p5]);exact q n4 _ t p5 _ ⟨shr_part hm3 (by rw [e18]; omega),fun z=>by cases z⟩ (g4.trans ((qy hl _).trans (g5.trans g6))) (SqT.of qz) (g6.tup (part_tq hm3 e5))
  ·refine ⟨_,rfl,_,rfl,_,_,rfl,rfl,(show 6≤sizeLine by decide),fun l hl=>⟨_,rfl,l,_,_,_,rfl,rfl,SqL.of qz,at6,_,_,rfl,by omega,Sm.few hm6,Sm.mono (m:=64) (by unfold Sm; omega) (by decide),fun p5 H5 g5 e5=>⟨yj,fun t ht=>?_⟩⟩⟩
   have g6:=qy ht (.tup [.int (n2/3),.ref p5]);exact q (n2/3) _ t p5 _ ⟨shr_part hm6 (by omega),fun z=>by cases z⟩ (g3.trans ((qy hl _).trans (g5.trans g6))) (SqT.of qz) (g6.tup (part_tq hm6 e5))
def spSmall (K:As):Sp:=fun vs H Q _=>∃ (n:Int) (g:Bool),vs=[.int n,.bl g]∧∀ (q:Rat) (r:Addr) (H':Hp),ShrG g q→Same H H'→SqT K H' r (TQ q)→Q (.ref r) H'
theorem okyv (T:Txt K mg a):FnOk P w K mg base CX0 3 a.fyv a.dyv ["_law_number", "_law_great"] (spSmall K):=by
 refine T.Fyv.ok scyv ?_ ?_
 ·walk_at "c"
 walk_at "b"
 obtain ⟨n,gr,rfl,q⟩:=h;refine ⟨_,(qZ (zw (pe_ix qK (pe_c (Y0 T) hr T.mx0 T.Fx0.kp T.bx0 (pa_c (pv 0) (pa_c (pv 1) qj))) qk))),?_⟩;exact ⟨_,rfl,_,rfl,n,gr,rfl,fun n' x t r H' sx g ht hr'=>⟨t,_,_,_,rfl,rfl,ht,rfl,q x r H' sx g hr'⟩⟩
theorem cutNN {vs:List V} {i j:Nat} (hi:i≤vs.length) (hj:j≤vs.length):cutV vs (some (i:Int)) (some (j:Int))=(vs.drop i).take (j - i):=by
 unfold cutV;rw [HT.sIx_nat,HT.sIx_nat,Nat.min_eq_left hi,Nat.min_eq_left hj]
theorem outV_get {ls:List Nat} {k:Nat} {m:Nat} (h:ls[k]?=some m):(outV ls)[k]?=some (.int (m:Int)):=by unfold outV; rw [List.getElem?_map,h]; rfl
theorem outV_len (ls:List Nat):(outV ls).length=ls.length:=by unfold outV; rw [Al]
theorem map_erase {α β:Type} (f:α→β):∀ (l:List α) (k:Nat),(l.map f).eraseIdx k=(l.eraseIdx k).map f
 | [],_=>rfl
 | _::_,0=>rfl
 | x::xs,k+1=>by
  show f x::(xs.map f).eraseIdx k=f x::(xs.eraseIdx k).map f;rw [map_erase f xs k]
theorem outV_erase (ls:List Nat) (k:Nat):(outV ls).eraseIdx k=outV (ls.eraseIdx k):=map_erase _ ls k
theorem kx:∀ {l:List Nat} {k m:Nat},l[k]?=some m→(m::l.eraseIdx k).Perm l
 | [],_,_,h=>by simp at h
 | x::xs,0,m,h=>by
  have e:x=m:=by simpa using h
  subst e;exact List.Perm.refl _
 | x::xs,k+1,m,h=>by
  have z:=kx (l:=xs) (k:=k) (m:=m) (by simpa using h);show (m::x::xs.eraseIdx k).Perm (x::xs);exact (List.Perm.swap x m _).trans (List.Perm.cons x z)
theorem seqIx {k n:Nat} (h:k<n):seqIndex? (k:Int) n=some k:=by
 unfold seqIndex?
 first
  | (simp; omega)
  | (simp [h]; done)
  | (rw [if_neg (by omega)]; simp [h])
theorem TL.upd_lst {K:As} {H:Hp} {t:Addr} {vs ys:List V} {ts:List (Nat×Rat)} {o:HO} (h:TL K H vs ts) (e:H t=some (.lst ys)):TL K (upd H t o) vs ts :=
 Paired.mapP h fun _ _ ⟨t,r,e1,k1,k2⟩=>⟨t,r,e1,SqT.upd_lst k1 e,SqT.upd_lst k2 e⟩
def spUnitL (K:As):Sp:=fun vs H Q _=>∃ (n:Int) (pl:Nat) (b g:Bool),vs=[.int n,.int (pl:Int),.bl b,.bl g]∧1≤pl∧pl≤30∧∀ u,WfU pl u→ShrU u→(g=false→SmlU u)→(isB u=true→b=true)→RetBy H Q fun H' v=>UnN H K H' v u
theorem okx2 (T:Txt K mg a):FnOk P w K mg base CX0 4 a.fx2 a.dx2 ["_law_number", "_law_places", "_law_bent", "_law_great"] (spUnitL K):=by
 refine T.Fx2.ok zX ?_ ?_
 ·walk_at "c"
 walk_at "b"
 obtain ⟨n,pl,b,gr,rfl,p1,p30,q⟩:=h;refine ltX ?_
 intros
 refine ⟨_,body7 (by rfl)
  (vY (qW (j9) rfl T.m_divmod boot_divmod (pa_c (pv 0) (pa_c qk qj))) (yJ rfl (zz (pg_n 0 zX.nd) (zz (pg_n 4 zX.nd) zV))))
  (ps_if (PW.pt (pw_and (zv op_lt (pv 4) qk) (pw_and1 (yk (pv 2))))) (qX (vY (qW (j9) rfl T.m_divmod boot_divmod (pa_c (pv 0) (pa_c qk qj))) (yJ rfl (zz (pg_n 0 zX.nd) (zz (pg_n 5 zX.nd) zV)))) (qZ (zw (yz (pa_c jY (pa_c (pe_ix yV (x4 (pa_c (pe_op vJ (pv 0) (pv 1)) (pa_c (pe_op op_sub (pv 1) qk) qj))) (zy (vQ) rfl T.m_int boot_int (pa_c (vV op_gt (pv 5) qk) qj))) qj)))))) zQ)
  (vY (qW (j9) rfl T.m_divmod boot_divmod (pa_c (pv 0) (pa_c qk qj))) (yJ rfl (zz (pg_n 0 zX.nd) (zz (pg_n 6 zX.nd) zV))))
  (ps_s 7 zX.nd (zy (call_list_rng rfl) rfl T.m_list boot_list (pa_c (zy (call_range1) rfl T.m_range boot_range (pa_c (pv 1) qj)) qj)))
  (ps_s 8 zX.nd (x4 qj))
  (jW PassesOwn.never rfl (xq rfl T.m_range (pa_c (qW (call_min2 rfl) rfl T.m_min boot_min (pa_c (pv 1) (pa_c (pe_op y9 qk (pv 6)) qj))) qj)) (pg_n 9 zX.nd) (qX (vY (qW (j9) rfl T.m_divmod boot_divmod (pa_c (pv 0) (pa_c qk qj))) (yJ rfl (zz (pg_n 0 zX.nd) (zz (pg_n 10 zX.nd) zV)))) (qX (vY (qW (j9) rfl T.m_divmod boot_divmod (pa_c (pv 0) (pa_c (qW (zk) rfl T.m_len boot_len (pa_c (pv 7) qj)) qj))) (yJ rfl (zz (pg_n 0 zX.nd) (zz (pg_n 11 zX.nd) zV)))) (qX (ps_if (PW.pt (pw_and (zv op_eq (pv 9) qk) (pw_and1 (zv op_eq (pv 10) qk)))) (qZ (ps_s 11 zX.nd (pe_op op_sub (qW (zk) rfl T.m_len boot_len (pa_c (pv 7) qj)) qk))) zQ) (qX (vY (pe_c (Y0 T) hr T.mx0 T.Fx0.kp T.bx0 (pa_c (pv 0) (pa_c (pv 3) qj))) (yJ rfl (zz (pg_n 0 zX.nd) (zz (pg_n 12 zX.nd) zV)))) (qZ (jy (w5 (pv 8) (yz (pa_c (pe_bm PySem.F.plainAttrs_list PySem.F.slot_list_pop PySem.F.type_list_pop mt_popAt (pv 7) (pa_c (pv 11) qj)) (pa_c (pv 12) qj)))))))))))
  (zw (yz (pa_c jY (pa_c (pe_c (okyv T) hr T.myv T.Fyv.kp T.byv (pa_c (pv 0) (pa_c (pv 3) qj))) (pa_c (pv 8) qj))))),?_⟩
 refine lt7 ?_
 intros
 refine ⟨_,rfl,_,_,rfl,⟨by decide,by decide⟩,fun pa ha=>⟨pa,_,rfl,SqT.of qz,rfl,_,_,rfl,_,_,rfl,rfl,?_⟩⟩;have g1:=qy ha (.tup [.int (n/5),.int (n%5)]);generalize upd H pa (.tup [.int (n/5),.int (n%5)])=H1 at *;generalize n/5=n1 at *;generalize n%5=kd at *;clear ha;refine (fun h=>⟨_,rfl,_,_,rfl,rfl,_,rfl,iteD (fun c=>⟨_,rfl,_,rfl,?bd⟩) (fun _=>iteF h)⟩) ?_
 case bd =>
  cases b with
  | false=>exact iteF h
  | true =>
   refine iteT ?_;refine ⟨_,rfl,_,_,rfl,⟨by decide,by decide⟩,fun pb hb=>⟨pb,_,rfl,SqT.of qz,rfl,_,_,rfl,_,_,rfl,rfl,?_⟩⟩;have g2:=g1.trans (qy hb (.tup [.int (n1/3),.int (n1%3)]));generalize upd H1 pb (.tup [.int (n1/3),.int (n1%3)])=H2 at *;generalize n1/3=n2 at *;generalize n1%3=wy at *;obtain ⟨m,hm⟩:∃ m:Nat,n2%(pl:Int)=(m:Int):=Int.eq_ofNat_of_zero_le (Int.emod_nonneg _ (by omega));have ml:m<pl:=by
    have:=Int.emod_lt_of_pos n2 (show (0:Int)<pl by omega);omega
   refine ⟨_,rfl,_,rfl,_,_,rfl,rfl,(by show (0:Int)<pl; omega),_,rfl,_,_,rfl,rfl,yj,fun l hl=>?_⟩;refine ⟨_,rfl,_,_,rfl,rfl,.inr ⟨_,rfl,?_⟩⟩
   by_cases k:0<wy
   ·refine ⟨l,_,_,.int ((pl:Int) - 1),rfl,rfl,SqL.of qz,(by dsimp only; rw [decide_eq_true k]; rfl),yj,fun t ht=>?_⟩
    refine q (.bend (pl - 1)) (show pl - 1<pl by omega) trivial (fun _=>trivial) (fun _=>rfl) t _ (g2.trans ((qy hl _).trans (qy ht _))) fun lf o e=>⟨t,rfl,?_⟩
    rw [show ((pl - 1:Nat):Int)=(pl:Int) - 1 by omega];exact SqT.of qz
   ·refine ⟨l,_,_,.int (n2%(pl:Int)),rfl,rfl,SqL.of qz,(by dsimp only; rw [decide_eq_false k]; rfl),yj,fun t ht=>?_⟩
    refine q (.bend m) ml trivial (fun _=>trivial) (fun _=>rfl) t _ (g2.trans ((qy hl _).trans (qy ht _))) fun lf o e=>⟨t,rfl,?_⟩
    rw [← hm];exact SqT.of qz
 refine ⟨_,rfl,_,_,rfl,⟨by decide,by decide⟩,fun pb hb=>⟨pb,_,rfl,SqT.of qz,rfl,_,_,rfl,_,_,rfl,rfl,?_⟩⟩;have g2:=g1.trans (qy hb (.tup [.int (n1/3),.int (n1%3)]));have m0:0≤n1%3:=Int.emod_nonneg _ (by decide);have m1:n1%3<3:=Int.emod_lt_of_pos _ (by decide);generalize upd H1 pb (.tup [.int (n1/3),.int (n1%3)])=H2 at *;generalize n1/3=n2 at *;generalize n1%3=mo at *;clear g1 hb;refine ⟨_,rfl,pl,rfl,fun pr hpr=>⟨pr,pl,rfl,qz,by omega,fun ll hll=>⟨(by decide),fun lt hlt=>?_⟩⟩⟩;have k1:=qy hpr (.ext (RngAt pr pl));have k2:=qy hll (.lst ((List.range pl).map fun k:Nat=>V.int (k:Int)));have k3:=qy hlt (.lst []);have nll:H ll=none:=zx (g2.trans k1) hll;have nlt:H lt=none:=zx (g2.trans (k1.trans k2)) hlt;have eL:=k3 _ _ (qz (H:=upd H2 pr (.ext (RngAt pr pl))) (a:=ll) (o:=.lst ((List.range pl).map fun k:Nat=>V.int (k:Int))));have eT:=qz (H:=upd (upd H2 pr (.ext (RngAt pr pl))) ll (.lst ((List.range pl).map fun k:Nat=>V.int (k:Int)))) (a:=lt) (o:=.lst []);have ltl:ll≠lt:=qQ qz hlt;have g3:=g2.trans (k1.trans (k2.trans k3));generalize upd (upd (upd H2 pr (.ext (RngAt pr pl))) ll (.lst ((List.range pl).map fun k:Nat=>V.int (k:Int)))) lt (.lst [])=H3 at *;clear k1 k2 k3 hpr hll hlt g2;obtain ⟨cnt,hc,c3,cp⟩:∃ cnt:Nat,(if 1+mo<(pl:Int) then 1+mo else (pl:Int))=(cnt:Int)∧cnt≤3∧cnt≤pl:=by
  by_cases k:1+mo<(pl:Int)
  ·rw [if_pos k]; exact ⟨(1+mo).toNat,by omega,by omega,by omega⟩
  ·rw [if_neg k]; exact ⟨pl,rfl,by omega,by omega⟩
 refine ⟨_,rfl,_,rfl,_,_,rfl,rfl,_,_,rfl,(cnt:Int),congrArg (fun z=>[V.int z]) hc,by omega,by omega,jz (n:=cnt) (fun i σ H'=>Same H H'∧∃ (num:Int) (ls:List Nat) (ts:List (Nat×Rat)) (vt:List V) (u9 u10 u11 u12:Option V),σ=[some (.int num),some (.int (pl:Int)),some (.bl b),some (.bl gr),some (.int kd),none,some (.int mo),some (.ref ll),some (.ref lt),u9,u10,u11,u12]∧H' ll=some (.lst (outV ls))∧H' lt=some (.lst vt)∧TL K H' vt ts∧ts.length=i∧ls.length+i=pl∧(ts.map (·.1)++ls).Nodup∧(∀ m∈ts.map (·.1)++ls,m<pl)∧∀ x∈ts,ShrG gr x.2)
  ⟨g3,n2,List.range pl,[],[],_,_,_,_,rfl,eL,eT,.nil,rfl,by rw [Aj]; rfl,by rw [List.map_nil,List.nil_append]; exact List.nodup_range,fun m hm=>by simpa using hm,fun x hx=>(by cases hx)⟩ ?_ ?_ ?_⟩
 ·rintro σ H' ⟨g,num,ls,ts,vt,u9,u10,u11,u12,rfl,eL,eT,rT,lts,lls,nd,lim,sh⟩
  refine ⟨by show (cnt:Int).toNat≤cnt; omega,?_⟩;refine ⟨_,rfl,_,rfl,num,gr,rfl,fun qx r H5 sx g5 hr5=>⟨_,rfl,(show 3≤sizeLine by decide),fun t ht=>?_⟩⟩;have g6:=qy ht (.tup [.str "sum",.ref r,.ref lt]);have g56:=g5.trans g6;refine q (.sum qx ts) ⟨fun x hx=>lim _ (Ab _ (List.mem_map.mpr ⟨x,hx,rfl⟩)),(List.nodup_append.mp nd).1,by omega⟩ ⟨sx.1,fun x hx=>(sh x hx).1,by omega⟩ (fun z=>⟨sx.2 z,fun x hx=>(sh x hx).2 z⟩) (fun z=>by cases z) t _ (g.trans g56) fun lf o e=>?_
  exact ⟨t,r,lt,vt,rfl,SqT.of qz,g6.tup hr5,g56 _ _ eT,Ne.symm (qQ e nlt),rT.mono g56⟩
 ·rintro i σ H' hi _
  show i<(cnt:Int).toNat;omega
 ·rintro i σ H0 x H' hi ⟨g,num,ls,ts,vt,u9,u10,u11,u12,rfl,eL,eT,rT,lts,lls,nd,lim,sh⟩ ⟨rfl,rfl⟩
  refine ⟨_,rfl,_,_,rfl,⟨by decide,by decide⟩,fun pc hc'=>⟨pc,_,rfl,SqT.of qz,rfl,_,_,rfl,_,_,rfl,rfl,?_⟩⟩;have j1:=qy hc' (.tup [.int (num/2),.int (num%2)]);have eL:=j1 _ _ eL;have eT:=j1 _ _ eT;have rT:=rT.mono j1;have g:=g.trans j1;generalize upd H' pc (.tup [.int (num/2),.int (num%2)])=H4 at *;generalize num/2=num2 at *;generalize num%2=coin at *;clear j1 hc';have ol:=outV_len ls;refine ⟨_,rfl,_,rfl,_,_,rfl,.inl (SqL.of eL),_,_,rfl,⟨by omega,by omega⟩,fun pd hd=>⟨pd,_,rfl,SqT.of qz,rfl,_,_,rfl,_,_,rfl,rfl,?_⟩⟩;have j1:=qy hd (.tup [.int (num2/((outV ls).length:Int)),.int (num2%((outV ls).length:Int))]);have eL:=j1 _ _ eL;have eT:=j1 _ _ eT;have rT:=rT.mono j1;have g:=g.trans j1;generalize upd H4 pd (.tup [.int (num2/((outV ls).length:Int)),.int (num2%((outV ls).length:Int))])=H5 at *;clear j1 hd;obtain ⟨kk,ek,kl⟩:∃ kk:Nat,num2%((outV ls).length:Int)=(kk:Int)∧kk<ls.length:=by
   have a:=Int.emod_nonneg num2 (show ((outV ls).length:Int)≠0 by omega);have b:=Int.emod_lt_of_pos num2 (show (0:Int)<((outV ls).length:Int) by omega);exact ⟨(num2%((outV ls).length:Int)).toNat,by omega,by omega⟩
  rw [ek];generalize num2/((outV ls).length:Int)=num3 at *;have e1:((outV ls).length:Int) - 1=((ls.length - 1:Nat):Int):=by omega
  refine ⟨_,rfl,rfl,_,rfl,iteD (fun _=>⟨_,rfl,rfl,_,rfl,iteD (fun _=>⟨_,rfl,_,_,rfl,.inl (SqL.of eL),_,_,rfl,rfl,?_⟩) (fun _=>?_)⟩) (fun _=>iteF ?_)⟩
  ·dsimp only
   rw [e1];have hk0:ls.length - 1<ls.length:=by omega
   clear e1 ek kl;generalize ls.length - 1=k0 at *;obtain ⟨mm,em⟩:∃ mm,ls[k0]?=some mm:=⟨_,A4 hk0⟩;refine ⟨_,rfl,_,rfl,num3,gr,rfl,fun n' qx t r H6 sx g6 ht hr6=>⟨t,_,rfl,ht,rfl,_,_,rfl,_,_,rfl,rfl,?_⟩⟩;have eL6:=g6 _ _ eL;have eT6:=g6 _ _ eT;refine ⟨_,rfl,.inl ⟨rfl,_,SqL.of eT6⟩,_,rfl,.inl ⟨rfl,_,SqL.of eL6⟩,_,rfl,ll,_,_,k0,_,rfl,rfl,eL6,by omega,by omega,seqIx (by omega),outV_get em,_,rfl,yj,fun t2 ht2=>?_⟩;rw [outV_erase] at ht2 ⊢;have eT7:upd H6 ll (.lst (outV (ls.eraseIdx k0))) lt=some (.lst vt):=by rw [qJ (Ne.symm ltl)]; exact eT6
   have rT7:TL K (upd H6 ll (.lst (outV (ls.eraseIdx k0)))) vt ts:=TL.upd_lst (rT.mono g6) eL6;have hr7:=SqT.upd_lst (o:=.lst (outV (ls.eraseIdx k0))) hr6 eL6;have g7:Same H (upd H6 ll (.lst (outV (ls.eraseIdx k0)))):=(g.trans g6).laid nll _;have eL7:=qz (H:=H6) (a:=ll) (o:=.lst (outV (ls.eraseIdx k0)));generalize upd H6 ll (.lst (outV (ls.eraseIdx k0)))=H7 at *;have j1:=qy ht2 (.tup [.int (mm:Int),.ref r]);have eT8:=j1 _ _ eT7;have lvt:=TL.length rT7;refine ⟨lt,vt,_,rfl,rfl,eT8,zj (by omega),?_⟩;have perm:((ts++[(mm,qx)]).map (·.1)++ls.eraseIdx k0).Perm (ts.map (·.1)++ls):=by
    rw [An,List.append_assoc];refine List.Perm.append_left _ ?_;exact kx em
   refine ⟨(g7.trans j1).laid nlt _,n',ls.eraseIdx k0,ts++[(mm,qx)],vt++[.ref t2],_,_,_,_,rfl,by rw [qJ ltl]; exact j1 _ _ eL7,qz,TL.upd_lst (Paired.snoc (TL.mono rT7 j1) ⟨t2,r,rfl,SqT.of qz,j1.tup hr7⟩) eT8,by rw [Ad,lts]; rfl,?_,perm.nodup_iff.mpr nd,fun m hm=>lim m (perm.mem_iff.mp hm),fun x hx=>?_⟩
   ·rw [List.length_eraseIdx_of_lt hk0]; omega
   ·rcases Am.mp hx with z | z
    ·exact sh x z
    ·rw [Ae.mp z]; exact sx
  ·have hk0:=kl
   clear e1 ek kl;generalize kk=k0 at *;obtain ⟨mm,em⟩:∃ mm,ls[k0]?=some mm:=⟨_,A4 hk0⟩;refine ⟨_,rfl,_,rfl,num3,gr,rfl,fun n' qx t r H6 sx g6 ht hr6=>⟨t,_,rfl,ht,rfl,_,_,rfl,_,_,rfl,rfl,?_⟩⟩;have eL6:=g6 _ _ eL;have eT6:=g6 _ _ eT;refine ⟨_,rfl,.inl ⟨rfl,_,SqL.of eT6⟩,_,rfl,.inl ⟨rfl,_,SqL.of eL6⟩,_,rfl,ll,_,_,k0,_,rfl,rfl,eL6,by omega,by omega,seqIx (by omega),outV_get em,_,rfl,yj,fun t2 ht2=>?_⟩;rw [outV_erase] at ht2 ⊢;have eT7:upd H6 ll (.lst (outV (ls.eraseIdx k0))) lt=some (.lst vt):=by rw [qJ (Ne.symm ltl)]; exact eT6
   have rT7:TL K (upd H6 ll (.lst (outV (ls.eraseIdx k0)))) vt ts:=TL.upd_lst (rT.mono g6) eL6;have hr7:=SqT.upd_lst (o:=.lst (outV (ls.eraseIdx k0))) hr6 eL6;have g7:Same H (upd H6 ll (.lst (outV (ls.eraseIdx k0)))):=(g.trans g6).laid nll _;have eL7:=qz (H:=H6) (a:=ll) (o:=.lst (outV (ls.eraseIdx k0)));generalize upd H6 ll (.lst (outV (ls.eraseIdx k0)))=H7 at *;have j1:=qy ht2 (.tup [.int (mm:Int),.ref r]);have eT8:=j1 _ _ eT7;have lvt:=TL.length rT7;refine ⟨lt,vt,_,rfl,rfl,eT8,zj (by omega),?_⟩;have perm:((ts++[(mm,qx)]).map (·.1)++ls.eraseIdx k0).Perm (ts.map (·.1)++ls):=by
    rw [An,List.append_assoc];refine List.Perm.append_left _ ?_;exact kx em
   refine ⟨(g7.trans j1).laid nlt _,n',ls.eraseIdx k0,ts++[(mm,qx)],vt++[.ref t2],_,_,_,_,rfl,by rw [qJ ltl]; exact j1 _ _ eL7,qz,TL.upd_lst (Paired.snoc (TL.mono rT7 j1) ⟨t2,r,rfl,SqT.of qz,j1.tup hr7⟩) eT8,by rw [Ad,lts]; rfl,?_,perm.nodup_iff.mpr nd,fun m hm=>lim m (perm.mem_iff.mp hm),fun x hx=>?_⟩
   ·rw [List.length_eraseIdx_of_lt hk0]; omega
   ·rcases Am.mp hx with z | z
    ·exact sh x z
    ·rw [Ae.mp z]; exact sx
  ·have hk0:=kl
   clear e1 ek kl;generalize kk=k0 at *;obtain ⟨mm,em⟩:∃ mm,ls[k0]?=some mm:=⟨_,A4 hk0⟩;refine ⟨_,rfl,_,rfl,num3,gr,rfl,fun n' qx t r H6 sx g6 ht hr6=>⟨t,_,rfl,ht,rfl,_,_,rfl,_,_,rfl,rfl,?_⟩⟩;have eL6:=g6 _ _ eL;have eT6:=g6 _ _ eT;refine ⟨_,rfl,.inl ⟨rfl,_,SqL.of eT6⟩,_,rfl,.inl ⟨rfl,_,SqL.of eL6⟩,_,rfl,ll,_,_,k0,_,rfl,rfl,eL6,by omega,by omega,seqIx (by omega),outV_get em,_,rfl,yj,fun t2 ht2=>?_⟩;rw [outV_erase] at ht2 ⊢;have eT7:upd H6 ll (.lst (outV (ls.eraseIdx k0))) lt=some (.lst vt):=by rw [qJ (Ne.symm ltl)]; exact eT6
   have rT7:TL K (upd H6 ll (.lst (outV (ls.eraseIdx k0)))) vt ts:=TL.upd_lst (rT.mono g6) eL6;have hr7:=SqT.upd_lst (o:=.lst (outV (ls.eraseIdx k0))) hr6 eL6;have g7:Same H (upd H6 ll (.lst (outV (ls.eraseIdx k0)))):=(g.trans g6).laid nll _;have eL7:=qz (H:=H6) (a:=ll) (o:=.lst (outV (ls.eraseIdx k0)));generalize upd H6 ll (.lst (outV (ls.eraseIdx k0)))=H7 at *;have j1:=qy ht2 (.tup [.int (mm:Int),.ref r]);have eT8:=j1 _ _ eT7;have lvt:=TL.length rT7;refine ⟨lt,vt,_,rfl,rfl,eT8,zj (by omega),?_⟩;have perm:((ts++[(mm,qx)]).map (·.1)++ls.eraseIdx k0).Perm (ts.map (·.1)++ls):=by
    rw [An,List.append_assoc];refine List.Perm.append_left _ ?_;exact kx em
   refine ⟨(g7.trans j1).laid nlt _,n',ls.eraseIdx k0,ts++[(mm,qx)],vt++[.ref t2],_,_,_,_,rfl,by rw [qJ ltl]; exact j1 _ _ eL7,qz,TL.upd_lst (Paired.snoc (TL.mono rT7 j1) ⟨t2,r,rfl,SqT.of qz,j1.tup hr7⟩) eT8,by rw [Ad,lts]; rfl,?_,perm.nodup_iff.mpr nd,fun m hm=>lim m (perm.mem_iff.mp hm),fun x hx=>?_⟩
   ·rw [List.length_eraseIdx_of_lt hk0]; omega
   ·rcases Am.mp hx with z | z
    ·exact sh x z
    ·rw [Ae.mp z]; exact sx
theorem WfN.snoc {many:Nat} {us:List Un} {u:Un} (h:WfN many us) (k:WfU (many+us.length) u):WfN many (us++[u]):=fun j v e=>by
 by_cases hj:j<us.length
 ·rw [List.getElem?_append_left hj] at e
  exact h j v e
 ·have hl:=(A1.mp e).1
  rw [Ad,A6] at hl;have ej:j=us.length:=by omega
  subst ej;rw [A0 (Nat.le_refl _),Nat.sub_self] at e;have e:u=v:=by simpa using e
  rw [← e];exact k
def spNetL (K:As):Sp:=fun vs H Q _=>∃ (sa:Addr) (ns:List Int) (st mb:Nat),vs=[.ref sa,.int (st:Int),.int (mb:Int)]∧SqL K H sa (ns.map V.int)∧∀ (many:Nat) (us:List Un) (outs:List Nat) (t lu lo:Addr) (vu:List V) (H':Hp),NetOk many us outs→outs.length≤3→many≤3→us.length≤12→(∀ u∈us,ShrU u)→((us.filter isB).length≤2∨(∀ u∈us,SmlU u)∧(us.filter isB).length≤mb)→Same H H'→SqT K H' t [.int (many:Int),.ref lu,.ref lo]→H lu=none→H' lu=some (.lst vu)→UL false K H' vu us→H lo=none→H' lo=some (.lst (outV outs))→Q (.ref t) H'
theorem okyo (T:Txt K mg a):FnOk P w K mg base CX0 5 a.fyo a.dyo ["_law_script", "_law_start", "_law_most_bends"] (spNetL K):=by
 refine T.Fyo.ok y8 ?_ ?_
 ·walk_at "c"
 walk_at "b"
 obtain ⟨sa,ns,st,mb,rfl,hS,q⟩:=h;have cd:∀ {x m:Int},m≠0→m.natAbs.log2<9000→CDivB x m:=fun h1 h2=>⟨h1,h2⟩
 refine ltX ?_
 intros
 refine ⟨_,body13 (by rfl)
  (ps_s 3 y8.nd (pe_c (okys T) hr T.mys T.Fys.kp T.bys (pa_c (pv 0) (pa_c (pv 1) (pa_c qk qj)))))
  (vY (qW (j9) rfl T.m_divmod boot_divmod (pa_c (pe_ix yV (pv 3) qk) (pa_c qk qj))) (yJ rfl (zz (pg_n 4 y8.nd) (zz (pg_n 5 y8.nd) zV))))
  (ps_s 6 y8.nd (pe_op y9 qk (pv 5)))
  (ps_s 7 y8.nd (vV op_eq (pe_op vJ (pv 4) qk) qk))
  (ps_s 8 y8.nd (pe_op y9 qk (pe_op vJ (pe_op jq (pv 4) qk) qk)))
  (ps_s 4 y8.nd (pe_op jq (pv 4) qk))
  (ps_s 9 y8.nd (x4 qj))
  (ps_s 10 y8.nd qk)
  (ps_if (yk (pv 7)) (qZ (ps_s 2 y8.nd (qW (call_min2 rfl) rfl T.m_min boot_min (pa_c (pv 2) (pa_c qk qj))))) zQ)
  (jW PassesOwn.never rfl (yq (Qk ZZ (pv 3) (xY qk) (xY (pe_op y9 qk (pv 8))))) (pg_n 11 y8.nd) (qX (ps_s 12 y8.nd (pe_c (okx2 T) hr T.mx2 T.Fx2.kp T.bx2 (pa_c (pv 11) (pa_c (pe_op y9 (pv 6) (qW (zk) rfl T.m_len boot_len (pa_c (pv 9) qj))) (pa_c (vV op_lt (pv 10) (pv 2)) (pa_c (pv 7) qj)))))) (qX (ps_s 10 y8.nd (pe_op y9 (pv 10) (zy (vQ) rfl T.m_int boot_int (pa_c (vV op_eq (pe_ix qK (pv 12) qk) jY) qj)))) (qZ (jy (w5 (pv 9) (pv 12)))))))
  (ps_s 13 y8.nd (x4 (pa_c (pe_op op_sub (pe_op y9 (pv 6) (pv 8)) qk) qj)))
  (jW PassesOwn.never rfl (xq rfl T.m_range (pa_c (pe_op vJ (pv 4) qk) qj)) (pg_n 14 y8.nd) (qX (ps_s 4 y8.nd (pe_op jq (pv 4) (pe_op y9 (pv 6) (pv 8)))) (qZ (jy (w5 (pv 13) (pe_op vJ (pv 4) (pe_op y9 (pv 6) (pv 8))))))))
  (zw (yz (pa_c (pv 6) (pa_c (pv 9) (pa_c (pv 13) qj))))),?_⟩
 refine lt13 ?_
 intros
 refine ⟨_,rfl,_,rfl,sa,ns,st,13,rfl,hS,by decide,fun zs lz ls H1 _ g1 e1=>?_⟩;obtain ⟨z0,ez0⟩:∃ z,zs[0]?=some z:=⟨_,A4 (by omega)⟩;have ezv:(zs.map V.int)[0]?=some (.int z0):=by rw [List.getElem?_map,ez0]; rfl
 refine ⟨_,rfl,_,_,_,_,rfl,rfl,SqL.of e1,atN (n:=0) ezv,_,_,rfl,⟨by decide,by decide⟩,fun pa ha=>⟨pa,_,rfl,SqT.of qz,rfl,_,_,rfl,_,_,rfl,rfl,?_⟩⟩;have j1:=qy ha (.tup [.int (z0/3),.int (z0%3)]);have e1:=j1 _ _ e1;have g1:=g1.trans j1;generalize upd H1 pa (.tup [.int (z0/3),.int (z0%3)])=H2 at *;have m0:0≤z0%3:=Int.emod_nonneg _ (by decide);have m1:z0%3<3:=Int.emod_lt_of_pos _ (by decide);generalize z0/3=ld at *;generalize z0%3=mo at *;clear j1 ha;refine ⟨_,rfl,_,_,rfl,rfl,?_⟩;dsimp only;obtain ⟨many,hmany,n1,n3⟩:∃ many:Nat,1+mo=(many:Int)∧1≤many∧many≤3:=⟨(1+mo).toNat,by omega,by omega,by omega⟩;rw [hmany];refine ⟨_,rfl,_,_,rfl,rfl,(by show (0:Int)<8; decide),rfl,?_⟩;dsimp only;generalize decide (V.int (ld%8)=V.int 0)=gr;refine ⟨_,rfl,_,_,rfl,rfl,cd (by decide) (by decide +kernel),_,_,rfl,rfl,(by show (0:Int)<12; decide),_,_,rfl,rfl,?_⟩;dsimp only;obtain ⟨sz,hsz,s1,s12⟩:∃ sz:Nat,1+ld.fdiv 8%12=(sz:Int)∧1≤sz∧sz≤12:=by
  have a:=Int.emod_nonneg (ld.fdiv 8) (show (12:Int)≠0 by decide);have b:=Int.emod_lt_of_pos (ld.fdiv 8) (show (0:Int)<12 by decide);exact ⟨(1+ld.fdiv 8%12).toNat,by omega,by omega,by omega⟩
 rw [hsz];refine ⟨_,rfl,_,_,rfl,rfl,cd (by decide) (by decide +kernel),?_⟩;dsimp only;generalize ld.fdiv 96=ld2;refine ⟨(by decide),fun lu hlu=>?_⟩;have nlu:H lu=none:=zx g1 hlu;have j1:=qy hlu (.lst []);have e1:=j1 _ _ e1;have g1:=g1.trans j1;have eu:=qz (H:=H2) (a:=lu) (o:=.lst []);generalize upd H2 lu (.lst [])=H3 at *;clear j1 hlu;refine ⟨_,rfl,_,rfl,?_⟩
 cases gr with
 | true =>
  refine iteT ⟨_,rfl,_,_,rfl,?_⟩;dsimp only;obtain ⟨M,hM,hM2⟩:∃ M:Int,(if (2:Int)<(mb:Int) then (2:Int) else (mb:Int))=M∧M≤2:=⟨_,rfl,by split <;> omega⟩;rw [hM];refine ⟨_,rfl,_,rfl,_,rfl,_,_,rfl,rfl,_,rfl,_,_,rfl,SqL.of e1,fun c2 hc2=>?_⟩;have lzv:(zs.map V.int).length=13:=by rw [Al,lz]
  rw [show (1:Int)+(sz:Int)=((1+sz:Nat):Int) by omega,show cutV (zs.map V.int) (some 1) (some ((1+sz:Nat):Int))=_ from cutNN (i:=1) (by omega) (by omega),← List.map_drop,← List.map_take];have lk:((zs.drop 1).take (1+sz - 1)).length=sz:=by rw [Ak,List.length_drop]; omega
  generalize (zs.drop 1).take (1+sz - 1)=ks at *;have j1:=qy hc2 (.lst (ks.map V.int));have e2:=qz (H:=H3) (a:=c2) (o:=.lst (ks.map V.int));have nc2:c2≠lu:=Ne.symm (qQ eu hc2);have eu:=j1 _ _ eu;have g1:=g1.trans j1;generalize upd H3 c2 (.lst (ks.map V.int))=H4 at *;clear j1 hc2 e1;refine ⟨c2,rfl,⟨_,SqL.of e2⟩,jz (n:=sz) (fun i σ H'=>Same H H'∧H' c2=some (.lst (ks.map V.int))∧∃ (vu:List V) (us:List Un) (bs:Int) (u11 u12:Option V),σ=[some (.ref sa),some (.int (st:Int)),some (.int M),some (.ref ls),some (.int ld2),some (.int mo),some (.int (many:Int)),some (.bl true),some (.int (sz:Int)),some (.ref lu),some (.int bs),u11,u12,none,none]∧H' lu=some (.lst vu)∧UF lu K H' vu us∧us.length=i∧WfN many us∧(∀ u∈us,ShrU u)∧(true=false→∀ u∈us,SmlU u)∧bs=((us.filter isB).length:Int)∧(us.filter isB=[]∨bs≤M))
   ⟨g1,e2,[],[],_,_,_,rfl,eu,.nil,rfl,fun k u e=>wZ e,fun u hu=>(by cases hu),fun _ u hu=>(by cases hu),rfl,.inl rfl⟩ ?_ ?_ ?_⟩
  case refine_2 =>
   rintro i σ H' hi ⟨g,k2,_⟩;exact ⟨_,_,SqL.of k2,A4 (by rw [Al]; omega)⟩
  case refine_3 =>
   rintro i σ H0 x H' hi ⟨g,k2,vu,us,bs,u11,u12,rfl,eu,rU,lus,wf,sh,sm,hbs,hle⟩ ⟨rfl,y1⟩;obtain ⟨z,ez,rfl⟩:=int_at (y1 _ (SqL.of k2));have lvu:=UF.length rU;refine ⟨_,rfl,_,rfl,_,rfl,_,_,rfl,.inl (SqL.of eu),_,_,rfl,rfl,_,rfl,_,rfl,_,_,rfl,rfl,_,rfl,?_⟩;dsimp only;rw [show (many:Int)+(vu.length:Int)=((many+i:Nat):Int) by omega];refine ⟨z,many+i,_,_,rfl,by omega,by omega,fun u wu su su2 ub p H5 g5 hU=>?_⟩;have hU:UnF lu K H5 (.ref p) u:=hU lu _ eu;obtain ⟨t,ys,et,ht⟩:=Y3 hU.un
   cases et
   refine ⟨_,rfl,_,rfl,_,_,_,_,rfl,rfl,ht,at0,rfl,.inr ⟨_,rfl,_,_,rfl,rfl,?_⟩⟩;have eu5:=g5 _ _ eu;refine ⟨_,rfl,.inl ⟨rfl,_,SqL.of eu5⟩,_,rfl,lu,vu,_,rfl,rfl,eu5,zj (by omega),?_⟩;refine ⟨(g.trans g5).laid nlu _,by rw [qJ nc2]; exact g5 _ _ k2,vu++[.ref p],us++[u],_,_,_,rfl,qz,UF.upd ((rU.mono g5).snoc hU) eu5,by rw [Ad,lus]; rfl,wf.snoc (by rw [lus]; exact wu),fun v hv=>?_,fun z v hv=>?_,?_,?_⟩
   ·rcases Am.mp hv with k | k
    ·exact sh v k
    ·rw [Ae.mp k]; exact su
   ·rcases Am.mp hv with k | k
    ·exact sm z v k
    ·rw [Ae.mp k]; exact su2 z
   ·rw [kX]
    cases isB u with
    | true=>rw [hbs,Ad]; show ((us.filter isB).length:Int)+1=_; rfl
    | false=>rw [hbs,Ad]; show ((us.filter isB).length:Int)+0=_; rw [Int.add_zero]; rfl
   ·rw [kX]
    cases hu2:isB u with
    | true =>
     have:=of_decide_eq_true (ub hu2);exact .inr (by show bs+1≤M; omega)
    | false =>
     rcases hle with k | k
     ·exact .inl (by rw [k]; rfl)
     ·exact .inr (by show bs+0≤M; omega)
  rintro σ H5 ⟨g5,k2,vu,us,bs,u11,u12,rfl,eu,rU,lus,wf,sh,sm,hbs,hle⟩;refine ⟨⟨_,SqL.of k2,by rw [Al]; omega⟩,?_⟩;have rU:=rU.un;refine ⟨_,rfl,_,rfl,_,_,rfl,rfl,_,_,rfl,rfl,(show 1≤sizeLine by decide),fun lo hlo=>?_⟩
  try dsimp only
  have nlo:H lo=none:=zx g5 hlo;have j1:=qy hlo (.lst [.int ((many:Int)+(sz:Int) - 1)]);have e0:[V.int ((many:Int)+(sz:Int) - 1)]=outV [many+sz - 1]:=congrArg (fun z=>[V.int z]) (show (many:Int)+(sz:Int) - 1=((many+sz - 1:Nat):Int) by omega);have eo:upd H5 lo (.lst [.int ((many:Int)+(sz:Int) - 1)]) lo=some (.lst (outV [many+sz - 1])):=by rw [qz,e0]
  obtain ⟨cnt,hc,c2'⟩:∃ cnt:Nat,ld2%3=(cnt:Int)∧cnt≤2:=by
   have a:=Int.emod_nonneg ld2 (show (3:Int)≠0 by decide);have b:=Int.emod_lt_of_pos ld2 (show (0:Int)<3 by decide);exact ⟨(ld2%3).toNat,by omega,by omega⟩
  refine ⟨_,rfl,_,_,rfl,rfl,(by show (0:Int)<3; decide),(cnt:Int),congrArg (fun z=>[V.int z]) hc,by omega,by omega,jz (n:=cnt) (fun i σ H'=>Same H5 H'∧∃ (outs:List Nat) (l3:Int) (u14:Option V),σ=[some (.ref sa),some (.int (st:Int)),some (.int M),some (.ref ls),some (.int l3),some (.int mo),some (.int (many:Int)),some (.bl true),some (.int (sz:Int)),some (.ref lu),some (.int bs),u11,u12,some (.ref lo),u14]∧H' lo=some (.lst (outV outs))∧outs.length=1+i∧∀ o∈outs,o<many+sz)
   ⟨j1,[many+sz - 1],_,_,rfl,eo,rfl,fun o ho=>by rw [Ae.mp ho]; omega⟩ ?_ ?_ ?_⟩
  case refine_1 =>
   rintro σ H6 ⟨g6,outs,l3,u14,rfl,eo,lo1,ol⟩;refine ⟨by show (cnt:Int).toNat≤cnt; omega,?_⟩;refine ⟨_,rfl,_,rfl,_,rfl,(show 3≤sizeLine by decide),fun t ht=>?_⟩;have g7:=qy ht (.tup [.int (many:Int),.ref lu,.ref lo]);have g67:=g6.trans g7;have fl:(us.filter isB).length≤us.length:=List.length_filter_le _ _;exact q many us outs t lu lo vu _ ⟨wf,by omega,by omega,n1,by omega,by omega,by omega,fun o ho=>by rw [lus]; exact ol o ho⟩ (by omega) n3 (by omega) sh (by
    have hc:(us.filter isB).length=0∨((us.filter isB).length:Int)≤M:=by
     rcases hle with k | k
     ·exact .inl (by rw [k]; rfl)
     ·exact .inr (by rw [← hbs]; exact k)
    first
     | exact .inl (by omega)
     | exact .inr ⟨sm rfl,by omega⟩) (g5.trans g67) (SqT.of qz) nlu (g67 _ _ eu) (rU.mono g67) nlo (g7 _ _ eo)
  case refine_2 =>
   rintro i σ H' hi _;show i<(cnt:Int).toNat;omega
  rintro i σ H0 x H' hi ⟨g6,outs,l3,u14,rfl,eo,lo1,ol⟩ ⟨rfl,rfl⟩;refine ⟨_,rfl,_,rfl,_,rfl,_,_,rfl,rfl,_,_,rfl,rfl,cdivB (n:=64) (by omega) (by unfold Sm; omega),?_⟩;dsimp only;generalize l3.fdiv ((many:Int)+(sz:Int))=l4;refine ⟨_,rfl,.inl ⟨rfl,_,SqL.of eo⟩,_,rfl,_,rfl,_,rfl,_,_,rfl,rfl,_,_,rfl,rfl,(by show (0:Int)<(many:Int)+(sz:Int); omega),lo,_,_,rfl,rfl,eo,by rw [outV_len]; exact zj (by omega),?_⟩;obtain ⟨m,hm,ml⟩:∃ m:Nat,l4%((many:Int)+(sz:Int))=(m:Int)∧m<many+sz:=by
   have a:=Int.emod_nonneg l4 (show (many:Int)+(sz:Int)≠0 by omega);have b:=Int.emod_lt_of_pos l4 (show (0:Int)<(many:Int)+(sz:Int) by omega);exact ⟨(l4%((many:Int)+(sz:Int))).toNat,by omega,by omega⟩
  dsimp only;rw [hm];have ea:outV outs++[V.int (m:Int)]=outV (outs++[m]):=by unfold outV; rw [An]; rfl
  refine ⟨g6.laid hlo _,outs++[m],l4,_,rfl,?_,by rw [Ad,lo1]; rfl,fun o ho=>?_⟩
  ·rw [qz,ea]
  ·rcases Am.mp ho with k | k
   ·exact ol o k
   ·rw [Ae.mp k]; exact ml
 | false =>
  refine iteF ?_;obtain ⟨M,hM,hM2⟩:∃ M:Int,(mb:Int)=M∧M≤(mb:Int):=⟨_,rfl,Int.le_refl _⟩;rw [hM];refine ⟨_,rfl,_,rfl,_,rfl,_,_,rfl,rfl,_,rfl,_,_,rfl,SqL.of e1,fun c2 hc2=>?_⟩;have lzv:(zs.map V.int).length=13:=by rw [Al,lz]
  rw [show (1:Int)+(sz:Int)=((1+sz:Nat):Int) by omega,show cutV (zs.map V.int) (some 1) (some ((1+sz:Nat):Int))=_ from cutNN (i:=1) (by omega) (by omega),← List.map_drop,← List.map_take];have lk:((zs.drop 1).take (1+sz - 1)).length=sz:=by rw [Ak,List.length_drop]; omega
  generalize (zs.drop 1).take (1+sz - 1)=ks at *;have j1:=qy hc2 (.lst (ks.map V.int));have e2:=qz (H:=H3) (a:=c2) (o:=.lst (ks.map V.int));have nc2:c2≠lu:=Ne.symm (qQ eu hc2);have eu:=j1 _ _ eu;have g1:=g1.trans j1;generalize upd H3 c2 (.lst (ks.map V.int))=H4 at *;clear j1 hc2 e1;refine ⟨c2,rfl,⟨_,SqL.of e2⟩,jz (n:=sz) (fun i σ H'=>Same H H'∧H' c2=some (.lst (ks.map V.int))∧∃ (vu:List V) (us:List Un) (bs:Int) (u11 u12:Option V),σ=[some (.ref sa),some (.int (st:Int)),some (.int M),some (.ref ls),some (.int ld2),some (.int mo),some (.int (many:Int)),some (.bl false),some (.int (sz:Int)),some (.ref lu),some (.int bs),u11,u12,none,none]∧H' lu=some (.lst vu)∧UF lu K H' vu us∧us.length=i∧WfN many us∧(∀ u∈us,ShrU u)∧(false=false→∀ u∈us,SmlU u)∧bs=((us.filter isB).length:Int)∧(us.filter isB=[]∨bs≤M))
   ⟨g1,e2,[],[],_,_,_,rfl,eu,.nil,rfl,fun k u e=>wZ e,fun u hu=>(by cases hu),fun _ u hu=>(by cases hu),rfl,.inl rfl⟩ ?_ ?_ ?_⟩
  case refine_2 =>
   rintro i σ H' hi ⟨g,k2,_⟩;exact ⟨_,_,SqL.of k2,A4 (by rw [Al]; omega)⟩
  case refine_3 =>
   rintro i σ H0 x H' hi ⟨g,k2,vu,us,bs,u11,u12,rfl,eu,rU,lus,wf,sh,sm,hbs,hle⟩ ⟨rfl,y1⟩;obtain ⟨z,ez,rfl⟩:=int_at (y1 _ (SqL.of k2));have lvu:=UF.length rU;refine ⟨_,rfl,_,rfl,_,rfl,_,_,rfl,.inl (SqL.of eu),_,_,rfl,rfl,_,rfl,_,rfl,_,_,rfl,rfl,_,rfl,?_⟩;dsimp only;rw [show (many:Int)+(vu.length:Int)=((many+i:Nat):Int) by omega];refine ⟨z,many+i,_,_,rfl,by omega,by omega,fun u wu su su2 ub p H5 g5 hU=>?_⟩;have hU:UnF lu K H5 (.ref p) u:=hU lu _ eu;obtain ⟨t,ys,et,ht⟩:=Y3 hU.un
   cases et
   refine ⟨_,rfl,_,rfl,_,_,_,_,rfl,rfl,ht,at0,rfl,.inr ⟨_,rfl,_,_,rfl,rfl,?_⟩⟩;have eu5:=g5 _ _ eu;refine ⟨_,rfl,.inl ⟨rfl,_,SqL.of eu5⟩,_,rfl,lu,vu,_,rfl,rfl,eu5,zj (by omega),?_⟩;refine ⟨(g.trans g5).laid nlu _,by rw [qJ nc2]; exact g5 _ _ k2,vu++[.ref p],us++[u],_,_,_,rfl,qz,UF.upd ((rU.mono g5).snoc hU) eu5,by rw [Ad,lus]; rfl,wf.snoc (by rw [lus]; exact wu),fun v hv=>?_,fun z v hv=>?_,?_,?_⟩
   ·rcases Am.mp hv with k | k
    ·exact sh v k
    ·rw [Ae.mp k]; exact su
   ·rcases Am.mp hv with k | k
    ·exact sm z v k
    ·rw [Ae.mp k]; exact su2 z
   ·rw [kX]
    cases isB u with
    | true=>rw [hbs,Ad]; show ((us.filter isB).length:Int)+1=_; rfl
    | false=>rw [hbs,Ad]; show ((us.filter isB).length:Int)+0=_; rw [Int.add_zero]; rfl
   ·rw [kX]
    cases hu2:isB u with
    | true =>
     have:=of_decide_eq_true (ub hu2);exact .inr (by show bs+1≤M; omega)
    | false =>
     rcases hle with k | k
     ·exact .inl (by rw [k]; rfl)
     ·exact .inr (by show bs+0≤M; omega)
  rintro σ H5 ⟨g5,k2,vu,us,bs,u11,u12,rfl,eu,rU,lus,wf,sh,sm,hbs,hle⟩;refine ⟨⟨_,SqL.of k2,by rw [Al]; omega⟩,?_⟩;have rU:=rU.un;refine ⟨_,rfl,_,rfl,_,_,rfl,rfl,_,_,rfl,rfl,(show 1≤sizeLine by decide),fun lo hlo=>?_⟩
  try dsimp only
  have nlo:H lo=none:=zx g5 hlo;have j1:=qy hlo (.lst [.int ((many:Int)+(sz:Int) - 1)]);have e0:[V.int ((many:Int)+(sz:Int) - 1)]=outV [many+sz - 1]:=congrArg (fun z=>[V.int z]) (show (many:Int)+(sz:Int) - 1=((many+sz - 1:Nat):Int) by omega);have eo:upd H5 lo (.lst [.int ((many:Int)+(sz:Int) - 1)]) lo=some (.lst (outV [many+sz - 1])):=by rw [qz,e0]
  obtain ⟨cnt,hc,c2'⟩:∃ cnt:Nat,ld2%3=(cnt:Int)∧cnt≤2:=by
   have a:=Int.emod_nonneg ld2 (show (3:Int)≠0 by decide);have b:=Int.emod_lt_of_pos ld2 (show (0:Int)<3 by decide);exact ⟨(ld2%3).toNat,by omega,by omega⟩
  refine ⟨_,rfl,_,_,rfl,rfl,(by show (0:Int)<3; decide),(cnt:Int),congrArg (fun z=>[V.int z]) hc,by omega,by omega,jz (n:=cnt) (fun i σ H'=>Same H5 H'∧∃ (outs:List Nat) (l3:Int) (u14:Option V),σ=[some (.ref sa),some (.int (st:Int)),some (.int M),some (.ref ls),some (.int l3),some (.int mo),some (.int (many:Int)),some (.bl false),some (.int (sz:Int)),some (.ref lu),some (.int bs),u11,u12,some (.ref lo),u14]∧H' lo=some (.lst (outV outs))∧outs.length=1+i∧∀ o∈outs,o<many+sz)
   ⟨j1,[many+sz - 1],_,_,rfl,eo,rfl,fun o ho=>by rw [Ae.mp ho]; omega⟩ ?_ ?_ ?_⟩
  case refine_1 =>
   rintro σ H6 ⟨g6,outs,l3,u14,rfl,eo,lo1,ol⟩;refine ⟨by show (cnt:Int).toNat≤cnt; omega,?_⟩;refine ⟨_,rfl,_,rfl,_,rfl,(show 3≤sizeLine by decide),fun t ht=>?_⟩;have g7:=qy ht (.tup [.int (many:Int),.ref lu,.ref lo]);have g67:=g6.trans g7;have fl:(us.filter isB).length≤us.length:=List.length_filter_le _ _;exact q many us outs t lu lo vu _ ⟨wf,by omega,by omega,n1,by omega,by omega,by omega,fun o ho=>by rw [lus]; exact ol o ho⟩ (by omega) n3 (by omega) sh (by
    have hc:(us.filter isB).length=0∨((us.filter isB).length:Int)≤M:=by
     rcases hle with k | k
     ·exact .inl (by rw [k]; rfl)
     ·exact .inr (by rw [← hbs]; exact k)
    first
     | exact .inl (by omega)
     | exact .inr ⟨sm rfl,by omega⟩) (g5.trans g67) (SqT.of qz) nlu (g67 _ _ eu) (rU.mono g67) nlo (g7 _ _ eo)
  case refine_2 =>
   rintro i σ H' hi _;show i<(cnt:Int).toNat;omega
  rintro i σ H0 x H' hi ⟨g6,outs,l3,u14,rfl,eo,lo1,ol⟩ ⟨rfl,rfl⟩;refine ⟨_,rfl,_,rfl,_,rfl,_,_,rfl,rfl,_,_,rfl,rfl,cdivB (n:=64) (by omega) (by unfold Sm; omega),?_⟩;dsimp only;generalize l3.fdiv ((many:Int)+(sz:Int))=l4;refine ⟨_,rfl,.inl ⟨rfl,_,SqL.of eo⟩,_,rfl,_,rfl,_,rfl,_,_,rfl,rfl,_,_,rfl,rfl,(by show (0:Int)<(many:Int)+(sz:Int); omega),lo,_,_,rfl,rfl,eo,by rw [outV_len]; exact zj (by omega),?_⟩;obtain ⟨m,hm,ml⟩:∃ m:Nat,l4%((many:Int)+(sz:Int))=(m:Int)∧m<many+sz:=by
   have a:=Int.emod_nonneg l4 (show (many:Int)+(sz:Int)≠0 by omega);have b:=Int.emod_lt_of_pos l4 (show (0:Int)<(many:Int)+(sz:Int) by omega);exact ⟨(l4%((many:Int)+(sz:Int))).toNat,by omega,by omega⟩
  dsimp only;rw [hm];have ea:outV outs++[V.int (m:Int)]=outV (outs++[m]):=by unfold outV; rw [An]; rfl
  refine ⟨g6.laid hlo _,outs++[m],l4,_,rfl,?_,by rw [Ad,lo1]; rfl,fun o ho=>?_⟩
  ·rw [qz,ea]
  ·rcases Am.mp ho with k | k
   ·exact ol o k
   ·rw [Ae.mp k]; exact ml
def SdZ (s:Rat×Rat):Prop:=Bs 1 64 s∧Bd 12 4 s.1∧Bd 12 4 s.2
theorem Bd.absq {D b:Nat} {q:Rat} (h:Bd D b q):Bd D b (absQ q):=by
 unfold absQ
 split
 ·exact ⟨h.1,by show (-q.num).natAbs≤_; rw [Int.natAbs_neg]; exact h.2⟩
 ·exact h
theorem Bq.absq {d b:Nat} {q:Rat} (h:Bq d b q):Bq d b (absQ q):=by
 unfold absQ
 split
 ·exact h.neg
 ·exact h
def spSidesL (K:As):Sp:=fun vs H Q _=>∃ (sa:Addr) (ns:List Int) (st many:Nat),vs=[.ref sa,.int (st:Int),.int (many:Int)]∧SqL K H sa (ns.map V.int)∧many≤6∧∀ (ss:List (Rat×Rat)) (vS:List V) (p:Addr) (H':Hp),ss.length=many→(∀ s∈ss,s.1≤s.2∧SdZ s)→H p=none→Same H H'→H' p=some (.lst vS)→SL K H' vS ss→Q (.ref p) H'
theorem okyu (T:Txt K mg a):FnOk P w K mg base CX0 4 a.fyu a.dyu ["_law_script", "_law_start", "_law_many_here"] (spSidesL K):=by
 refine T.Fyu.ok wq ?_ ?_
 ·walk_at "c"
 walk_at "b"
 obtain ⟨sa,ns,st,many,rfl,hS,m6,q⟩:=h;refine ltX ?_
 intros
 refine ⟨_,body3 (by rfl)
  (ps_s 3 wq.nd (x4 qj))
  (jW PassesOwn.never rfl (yq (Qk ZZ (pe_c (okys T) hr T.mys T.Fys.kp T.bys (pa_c (pv 0) (pa_c (pv 1) (pa_c qk qj)))) (xY qk) (xY (pe_op y9 qk (pv 2))))) (pg_n 4 wq.nd) (qX (vY (pe_c (Y0 T) hr T.mx0 T.Fx0.kp T.bx0 (pa_c (pv 4) (pa_c pe_bl qj))) (yJ rfl (zz (pg_n 4 wq.nd) (zz (pg_n 5 wq.nd) zV)))) (qX (ps_s 6 wq.nd (pe_c (okyv T) hr T.myv T.Fyv.kp T.byv (pa_c (pv 4) (pa_c pe_bl qj)))) (qZ (jy (w5 (pv 3) (yz (pa_c (pv 5) (pa_c (pe_c (okyy T) hr T.myy T.Fyy.kp T.byy (pa_c (pv 5) (pa_c (yz (pa_c (qW (QQ) rfl T.m_abs boot_abs (pa_c (pe_ix qK (pv 6) qk) qj)) (pa_c (pe_ix qK (pv 6) qk) qj))) qj))) qj)))))))))
  (zw (pv 3)),?_⟩
 refine lt3 ?_
 intros
 refine ⟨(by decide),fun lS hlS=>?_⟩;have g0:=qy hlS (.lst []);have eS:=qz (H:=H) (a:=lS) (o:=.lst []);have hS:=g0.seq hS;generalize upd H lS (.lst [])=H0 at *;refine ⟨_,rfl,_,rfl,sa,ns,st,19,rfl,hS,by decide,fun zs lz ls H1 _ g1 e1=>⟨_,rfl,_,rfl,_,_,rfl,rfl,_,rfl,_,_,rfl,SqL.of e1,fun c2 hc2=>?_⟩⟩;have lzv:(zs.map V.int).length=19:=by rw [Al,lz]
 rw [show (13:Int)+(many:Int)=((13+many:Nat):Int) by omega,show cutV (zs.map V.int) (some 13) (some ((13+many:Nat):Int))=_ from cutNN (i:=13) (by omega) (by omega),← List.map_drop,← List.map_take];have lk:((zs.drop 13).take (13+many - 13)).length=many:=by rw [Ak,List.length_drop]; omega
 generalize (zs.drop 13).take (13+many - 13)=ks at *;have j1:=qy hc2 (.lst (ks.map V.int));have e2:=qz (H:=H1) (a:=c2) (o:=.lst (ks.map V.int));have g2:=g1.trans j1;have nc2:c2≠lS:=Ne.symm (qQ (g1 _ _ eS) hc2);have eS:=g2 _ _ eS;have g2:=g0.trans g2;generalize upd H1 c2 (.lst (ks.map V.int))=H2 at *;clear j1 hc2 e1 g1 g0;refine ⟨c2,rfl,⟨_,SqL.of e2⟩,jz (n:=many) (fun i σ H'=>Same H H'∧H' c2=some (.lst (ks.map V.int))∧∃ (vS:List V) (ss:List (Rat×Rat)) (u4 u5 u6:Option V),σ=[some (.ref sa),some (.int (st:Int)),some (.int (many:Int)),some (.ref lS),u4,u5,u6]∧H' lS=some (.lst vS)∧SL K H' vS ss∧ss.length=i∧∀ s∈ss,s.1≤s.2∧SdZ s)
  ⟨g2,e2,[],[],_,_,_,rfl,eS,.nil,rfl,fun s hs=>(by cases hs)⟩ ?_ ?_ ?_⟩
 ·rintro σ H' ⟨g,k2,vS,ss,u4,u5,u6,rfl,eS,rS,ls,szs⟩
  exact ⟨⟨_,SqL.of k2,by rw [Al]; omega⟩,_,rfl,q ss vS lS H' ls szs hlS g eS rS⟩
 ·rintro i σ H' hi ⟨g,k2,_⟩
  exact ⟨_,_,SqL.of k2,A4 (by rw [Al]; omega)⟩
 ·rintro i σ H0' x H' hi ⟨g,k2,vS,ss,u4,u5,u6,rfl,eS,rS,lss,szs⟩ ⟨rfl,y1⟩
  obtain ⟨z,ez,rfl⟩:=int_at (y1 _ (SqL.of k2));refine ⟨_,rfl,z,false,rfl,fun n' qx t r H3 sx g3 ht hr3=>⟨t,_,rfl,ht,rfl,_,_,rfl,_,_,rfl,rfl,?_⟩⟩;refine ⟨_,rfl,n',false,rfl,fun qw rw' H4 sw g4 hw=>?_⟩;have g34:=g3.trans g4;have eS4:=g34 _ _ eS;have hr4:=g4.tup hr3;refine ⟨_,rfl,.inl ⟨rfl,_,SqL.of eS4⟩,_,rfl,_,rfl,_,rfl,_,_,_,_,rfl,rfl,hw,rfl,_,rfl,_,rfl,_,_,_,_,rfl,rfl,hw,rfl,yj,fun t5 h5=>?_⟩;have g5:=qy h5 (.tup [.int (if qw.num<0 then -qw.num else qw.num),.int (qw.den:Int)]);have ha:SqT K (upd H4 t5 (.tup [.int (if qw.num<0 then -qw.num else qw.num),.int (qw.den:Int)])) t5 (TQ (absQ qw)):=by
   unfold TQ;rw [(absQ_num qw).1,(absQ_num qw).2];exact SqT.of qz
  refine ⟨r,t5,qx,absQ qw,rfl,g5.tup hr4,ha,sx.1.s4 (by decide) (by decide),(Bq.absq sw.1).s4 (by decide) (by decide),fun p6 H6 g6 e6=>⟨yj,fun t7 h7=>?_⟩⟩;have g7:=qy h7 (.tup [.ref r,.ref p6]);have g57:=g5.trans (g6.trans g7);have gA:=g34.trans g57;have eS7:=gA _ _ eS;have lvS:=rS.length;refine ⟨lS,vS,_,rfl,rfl,eS7,zj (by omega),(g.trans gA).laid hlS _,by rw [qJ nc2]; exact gA _ _ k2,vS++[.ref t7],ss++[(qx,qx+absQ qw)],_,_,_,rfl,qz,SL.upd_lst ((rS.mono gA).snoc ⟨t7,r,p6,rfl,SqT.of qz,g57.tup hr4,SqT.of (g7 _ _ e6)⟩) eS7,by rw [Ad,lss]; rfl,fun s hs=>?_⟩
  rcases Am.mp hs with k | k
  ·exact szs s k
  ·rw [Ae.mp k]
   exact ⟨by have:=jx qw; show qx≤qx+absQ qw; grind,⟨Bq.mono sx.1 (by decide) (by decide),Bq.add sx.1 (Bq.absq sw.1)⟩,(sx.2 rfl).mono (Nat.dvd_refl _) (by decide),Bd.add (by decide) (sx.2 rfl) (Bd.absq (sw.2 rfl))⟩
theorem num_neg (q:Rat):q.num<0↔q<0:=by
 have h:=Rat.num_nonneg (q:=q)
 constructor
 ·intro k
  refine Classical.byContradiction fun z=>?_
  have:=h.mpr (Rat.not_lt.mp z);omega
 ·intro k
  refine Classical.byContradiction fun z=>?_
  exact (Rat.not_lt.mpr (h.mp (by omega))) k
theorem num_pos (q:Rat):0<q.num↔0<q:=by
 have h:=num_neg (-q);have e:(-q).num = -q.num:=rfl;rw [e] at h
 constructor
 ·intro k
  have:=h.mp (by omega);grind
 ·intro k
  have:=h.mpr (by grind);omega
theorem jk {α:Type} (xs:List α) (x d:α) (i:Nat):(xs++[x]).getD i d=if i<xs.length then xs.getD i d else if i=xs.length then x else d:=by
 by_cases h:i<xs.length
 ·rw [if_pos h]; simp [List.getD,List.getElem?_append_left h]
 ·rw [if_neg h]
  by_cases k:i=xs.length
  ·rw [if_pos k,k]; simp [List.getD]
  ·rw [if_neg k]
   have e:(xs++[x])[i]?=none:=List.getElem?_eq_none (by rw [Ad,A6]; omega)
   simp [List.getD,e]
theorem RL.getD {K:As} {H:Hp} {vs:List V} {qs:List Rat} {i:Nat} (h:RL K H vs qs) (hi:i<qs.length):∃ v,vs[i]?=some v∧IsQ K H v (qs.getD i 0):=by
 have l:=h.length;obtain ⟨v,hv⟩:∃ v,vs[i]?=some v:=⟨_,A4 (by omega)⟩;obtain ⟨q,eq,hq⟩:=h.get hv;exact ⟨v,hv,by rw [zJ _ eq]; exact hq⟩
theorem _root_.BP.InB.at:∀ {ss:List (Rat×Rat)} {qs:List Rat} {i:Nat} {s:Rat×Rat} {q:Rat},InB ss qs→ss[i]?=some s→qs[i]?=some q→s.1≤q∧q≤s.2
 | [],[],_,_,_,_,e,_=>by simp at e
 | s0::ss,q0::qs,0,s,q,h,e1,e2=>by
  have e1:s0=s:=by simpa using e1
  have e2:q0=q:=by simpa using e2
  subst e1 e2;exact ⟨h.1,h.2.1⟩
 | _::ss,_::qs,i+1,s,q,h,e1,e2=>InB.at (i:=i) h.2.2 (by simpa using e1) (by simpa using e2)
 | [],_::_,_,_,_,h,_,_=>h.elim
 | _::_,[],_,_,_,h,_,_=>h.elim
def PtF (lp:Addr) (K:As) (H:Hp) (v:V) (pt:List Rat):Prop:=∃ l ys,v=.ref l∧H l=some (.lst ys)∧l≠lp∧RL K H ys pt
theorem PtF.mono {lp:Addr} {K:As} {H H':Hp} {v:V} {pt:List Rat} (h:PtF lp K H v pt) (g:Same H H'):PtF lp K H' v pt:=by
 obtain ⟨l,ys,e,h1,n,h2⟩:=h;exact ⟨l,ys,e,g _ _ h1,n,h2.mono g⟩
def PLF (lp:Addr) (K:As) (H:Hp) (vs:List V) (pts:List (List Rat)):Prop:=Paired (PtF lp K H) vs pts
theorem PLF.mono {lp:Addr} {K:As} {H H':Hp} {vs:List V} {pts:List (List Rat)} (h:PLF lp K H vs pts) (g:Same H H'):PLF lp K H' vs pts:=Paired.mapP h fun _ _ q=>q.mono g
theorem PLF.length {lp:Addr} {K:As} {H:Hp} {vs:List V} {pts:List (List Rat)} (h:PLF lp K H vs pts):vs.length=pts.length:=Paired.length h
def co (f:List Rat) (k:Nat):Rat:=f.getD k 0
def sumF (g:Nat→Rat):Nat→Rat
 | 0=>0
 | n+1=>sumF g n+g n
theorem jK {g h:Nat→Rat}:∀ {n:Nat},(∀ k,k<n→g k=h k)→sumF g n=sumF h n
 | 0,_=>rfl
 | n+1,e=>by
  show sumF g n+g n=sumF h n+h n;rw [jK fun k hk=>e k (Nat.lt_succ_of_lt hk),e n (Nat.lt_succ_self n)]
theorem sumF_zero {g:Nat→Rat}:∀ {n:Nat},(∀ k,k<n→g k=0)→sumF g n=0
 | 0,_=>rfl
 | n+1,e=>by
  show sumF g n+g n=0;rw [sumF_zero fun k hk=>e k (Nat.lt_succ_of_lt hk),e n (Nat.lt_succ_self n),Rat.add_zero]
theorem sumF_lin (g h:Nat→Rat) (s:Rat):∀ n:Nat,sumF (fun k=>g k+h k*s) n=sumF g n+sumF h n*s
 | 0=>by show (0:Rat)=0+0*s; grind
 | n+1=>by
  show sumF (fun k=>g k+h k*s) n+(g n+h n*s)=sumF g n+g n+(sumF h n+h n)*s;rw [sumF_lin g h s n];grind
theorem sumF_le {g h:Nat→Rat}:∀ {n:Nat},(∀ k,k<n→g k≤h k)→sumF g n≤sumF h n
 | 0,_=>Rat.le_refl
 | n+1,e=>by
  have a:=sumF_le fun k hk=>e k (Nat.lt_succ_of_lt hk)
  have b:=e n (Nat.lt_succ_self n);show sumF g n+g n≤sumF h n+h n;grind
theorem sumF_more {g:Nat→Rat} {n:Nat}:∀ {m:Nat},n≤m→(∀ k,n≤k→k<m→g k=0)→sumF g m=sumF g n
 | 0,h,_=>by rw [Nat.le_zero.mp h]
 | m+1,h,e=>by
  by_cases c:n=m+1
  ·rw [c]
  ·show sumF g m+g m=_
   rw [sumF_more (by omega) fun k a b=>e k a (by omega),e m (by omega) (by omega),Rat.add_zero]
theorem sumF_one {g:Nat→Rat} {n i:Nat} (h:i<n) (e:∀ k,k<n→k≠i→g k=0):sumF g n=g i:=by
 induction n with
 | zero=>omega
 | succ n ih =>
  show sumF g n+g n=g i
  by_cases c:i=n
  ·subst c
   rw [sumF_zero fun k hk=>e k (by omega) (by omega),Rat.zero_add]
  ·rw [ih (by omega) fun k hk hn=>e k (by omega) hn,e n (by omega) (by omega),Rat.add_zero]
def Low (f:List Rat) (n:Nat):Prop:=∀ k,n≤k→co f (k+1)=0
def termsF (c:Rat) (ts:List (Nat×Rat)) (fs:List (List Rat)) (n:Nat):List Rat:=ts.foldl (fun f x=>addT f (fs.getD x.1 []) x.2) (evenF c n)
theorem co_addT {f g:List Rat} {s:Rat} (h:f.length=g.length) (k:Nat):co (addT f g s) k=co f k+co g k*s:=by
 unfold co addT
 by_cases c:k<f.length
 ·have e1:f[k]?=some f[k]:=A4 c
  have e2:g[k]?=some (g[k]'(h ▸ c)):=A4 (h ▸ c);have ez:(f.zip g)[k]?=some (f[k],g[k]'(h ▸ c)):=by rw [List.getElem?_zip_eq_some]; exact ⟨e1,e2⟩
  rw [zJ _ e1,zJ _ e2,zJ (x:=f[k]+g[k]'(h ▸ c)*s) _ (by rw [List.getElem?_map,ez]; rfl)]
 ·have e1:f[k]?=none:=List.getElem?_eq_none (by omega)
  have e2:g[k]?=none:=List.getElem?_eq_none (by omega);have ez:((f.zip g).map fun p=>p.1+p.2*s)[k]?=none:=List.getElem?_eq_none (by rw [Al,List.length_zip]; omega)
  simp only [List.getD,e1,e2,ez,Option.getD_none]
  grind
theorem co_even0 (c:Rat) (n:Nat):co (evenF c n) 0=c:=rfl
theorem co_even (c:Rat) (n k:Nat):co (evenF c n) (k+1)=0:=by
 unfold co evenF;show (List.replicate n (0:Rat)).getD k 0=0
 by_cases h:k<n
 ·rw [zJ (x:=(0:Rat)) _ (by rw [List.getElem?_replicate,if_pos h])]
 ·simp [List.getD,List.getElem?_replicate,h]
theorem co_lone0 (i n:Nat):co (loneF i n) 0=0:=rfl
theorem co_lone (i n k:Nat):co (loneF i n) (k+1)=if k=i∧k<n then 1 else 0:=by
 unfold co loneF;show ((List.range n).map fun j=>if j=i then (1:Rat) else 0).getD k 0=_
 by_cases h:k<n
 ·rw [zJ (x:=if k=i then (1:Rat) else 0) _ (by rw [List.getElem?_map,List.getElem?_range h]; rfl)]
  by_cases c:k=i
  ·rw [if_pos c,if_pos ⟨c,h⟩]
  ·rw [if_neg c,if_neg fun z=>c z.1]
 ·rw [if_neg fun z=>h z.2]
  simp [List.getD,h]
theorem termsF_len {c:Rat} {fs:List (List Rat)} {n:Nat}:∀ (ts:List (Nat×Rat)) (f:List Rat),f.length=n+1→(∀ x∈ts,(fs.getD x.1 []).length=n+1)→(ts.foldl (fun f x=>addT f (fs.getD x.1 []) x.2) f).length=n+1
 | [],f,h,_=>h
 | x::ts,f,h,hx=>by
  refine termsF_len (c:=c) ts _ ?_ fun y hy=>hx y (A9 _ hy)
  rw [addT_len,h,hx x Af];omega
theorem Low.mono {f:List Rat} {n m:Nat} (h:Low f n) (k:n≤m):Low f m:=fun j hj=>h j (by omega)
theorem Low.addT {f g:List Rat} {s:Rat} {n:Nat} (h:Low f n) (k:Low g n) (e:f.length=g.length):Low (addT f g s) n:=fun j hj=>by rw [co_addT e,h j hj,k j hj]; grind
theorem low_even (c:Rat) (t n:Nat):Low (evenF c t) n:=fun k _=>co_even c t k
theorem low_lone {i t n:Nat} (h:i<n):Low (loneF i t) n:=fun k hk=>by rw [co_lone,if_neg fun z=>by omega]
theorem low_terms {fs:List (List Rat)} {n t:Nat}:∀ (ts:List (Nat×Rat)) (f:List Rat),f.length=t+1→Low f n→(∀ x∈ts,(fs.getD x.1 []).length=t+1∧Low (fs.getD x.1 []) n)→Low (ts.foldl (fun f x=>addT f (fs.getD x.1 []) x.2) f) n
 | [],_,_,h,_=>h
 | x::ts,f,l,h,hx=>by
  have e:=hx x Af;exact low_terms ts _ (by rw [addT_len,l,e.1]; omega) (h.addT e.2 (by rw [l,e.1])) fun y hy=>hx y (A9 _ hy)
def loW (f:List Rat) (ws:List (Rat×Rat)) (k:Nat):Rat:=if co f (k+1)<0 then (ws.getD k (0,0)).2 else (ws.getD k (0,0)).1
def hiW (f:List Rat) (ws:List (Rat×Rat)) (k:Nat):Rat:=if co f (k+1)<0 then (ws.getD k (0,0)).1 else (ws.getD k (0,0)).2
def loS (f:List Rat) (ws:List (Rat×Rat)):Rat:=co f 0+sumF (fun k=>co f (k+1)*loW f ws k) ws.length
def hiS (f:List Rat) (ws:List (Rat×Rat)):Rat:=co f 0+sumF (fun k=>co f (k+1)*hiW f ws k) ws.length
def posF:List (List Rat)→List Rat→Nat→Option Nat
 | [],_,_=>none
 | g::gs,f,n=>if g=f then some n else posF gs f (n+1)
theorem posF_some:∀ {gs:List (List Rat)} {f:List Rat} {n p:Nat},posF gs f n=some p→n≤p∧gs[p - n]?=some f
 | [],_,_,_,h=>by cases h
 | g::gs,f,n,p,h=>by
  unfold posF at h
  by_cases c:g=f
  ·rw [if_pos c] at h
   have e:n=p:=Ap h;subst e c;exact ⟨Nat.le_refl _,by rw [Nat.sub_self]; rfl⟩
  ·rw [if_neg c] at h
   obtain ⟨h1,h2⟩:=posF_some h;refine ⟨by omega,?_⟩;rw [show p - n=(p - (n+1))+1 by omega];exact h2
theorem posF_none:∀ {gs:List (List Rat)} {f:List Rat} {n:Nat},posF gs f n=none→f∉gs
 | [],_,_,_=>fun z=>by cases z
 | g::gs,f,n,h=>by
  unfold posF at h
  by_cases c:g=f
  ·rw [if_pos c] at h; cases h
  ·rw [if_neg c] at h
   intro z
   rcases List.mem_cons.mp z with k | k
   ·exact c k.symm
   ·exact posF_none h k
structure Sk where
 ws:List (Rat×Rat)
 bs:List (List Rat)
def bendF (m tot:Nat) (sk:Sk) (f:List Rat):List Rat×Sk :=
 if loS f sk.ws<0 then
  if 0<hiS f sk.ws then
   match posF sk.bs f m with
   | some p=>(loneF p tot,sk)
   | none=>(loneF (m+sk.bs.length) tot,⟨sk.ws++[(0,hiS f sk.ws)],sk.bs++[f]⟩)
  else (evenF 0 tot,sk)
 else (f,sk)
def outS (m tot:Nat) (st:List (List Rat)×Sk):Un→List (List Rat)×Sk
 | .sum c ts=>(st.1++[termsF c ts st.1 tot],st.2)
 | .bend p=>(st.1++[(bendF m tot st.2 (st.1.getD p [])).1],(bendF m tot st.2 (st.1.getD p [])).2)
def outN (m tot:Nat) (ss:List (Rat×Rat)) (us:List Un):List (List Rat)×Sk:=us.foldl (outS m tot) ((List.range m).map (fun k=>loneF k tot),⟨ss,[]⟩)
theorem Zw (m tot:Nat) (ss:List (Rat×Rat)) (us:List Un) (u:Un):outN m tot ss (us++[u])=outS m tot (outN m tot ss us) u:=by unfold outN; rw [List.foldl_append]; rfl
def needD (m:Nat) (bs:List (List Rat)):Nat→List (List Rat)→List Nat
 | 0,_=>[]
 | j+1,st=>if st.any (fun f=>decide (co f (m+j+1)≠0)) then needD m bs j (st++[bs.getD j []])++[j] else needD m bs j st
structure Dr where
 us:List Un
 pl:List (Nat×Nat)
 sm:List ((Rat×List (Nat×Rat))×Nat)
def plV (pl:List (Nat×Nat)) (k:Nat):Option Nat:=(pl.find? fun x=>decide (x.1=k)).map (·.2)
def zq (pl:List (Nat×Nat)):List Rat→Nat→List (Nat×Rat)
 | [],_=>[]
 | s::r,k=>if s=0 then zq pl r (k+1) else ((plV pl k).getD 0,s)::zq pl r (k+1)
def smV (sm:List ((Rat×List (Nat×Rat))×Nat)) (key:Rat×List (Nat×Rat)):Option Nat:=(sm.find? fun x=>decide (x.1=key)).map (·.2)
def seatF (m:Nat) (d:Dr) (f:List Rat):Nat×Dr :=
 if co f 0=0∧(zq d.pl f.tail 0).length=1∧((zq d.pl f.tail 0).getD 0 (0,0)).2=1 then (((zq d.pl f.tail 0).getD 0 (0,0)).1,d)
 else match smV d.sm (co f 0,zq d.pl f.tail 0) with
  | some p=>(p,d)
  | none=>(m+d.us.length,⟨d.us++[.sum (co f 0) (zq d.pl f.tail 0)],d.pl,d.sm++[((co f 0,zq d.pl f.tail 0),m+d.us.length)]⟩)
def putB (m:Nat) (bs:List (List Rat)) (d:Dr) (j:Nat):Dr :=
 ⟨(seatF m d (bs.getD j [])).2.us++[.bend (seatF m d (bs.getD j [])).1],(seatF m d (bs.getD j [])).2.pl++[(m+j,m+(seatF m d (bs.getD j [])).2.us.length)],(seatF m d (bs.getD j [])).2.sm⟩
def dr0 (m:Nat):Dr:=⟨[],(List.range m).map (fun k=>(k,k)),[]⟩
def drawF (m:Nat) (bs:List (List Rat)) (need:List Nat):Dr:=need.foldl (putB m bs) (dr0 m)
theorem Y5 (m:Nat) (bs:List (List Rat)) (need:List Nat) (j:Nat):drawF m bs (need++[j])=putB m bs (drawF m bs need) j:=by unfold drawF; rw [List.foldl_append]; rfl
def seatsS (m:Nat) (st:List Nat×Dr) (f:List Rat):List Nat×Dr:=(st.1++[(seatF m st.2 f).1],(seatF m st.2 f).2)
def yQ (m:Nat) (d:Dr) (fs:List (List Rat)):List Nat×Dr:=fs.foldl (seatsS m) ([],d)
theorem QJ (m:Nat) (d:Dr) (fs:List (List Rat)) (f:List Rat):yQ m d (fs++[f])=seatsS m (yQ m d fs) f:=by unfold yQ; rw [List.foldl_append]; rfl
def totF (m:Nat) (us:List Un):Nat:=m+(us.filter isB).length
def outsF (m:Nat) (us:List Un) (outs:List Nat) (ss:List (Rat×Rat)):List (List Rat):=outs.map fun o=>(outN m (totF m us) ss us).1.getD o []
def bsF (m:Nat) (us:List Un) (ss:List (Rat×Rat)):List (List Rat):=(outN m (totF m us) ss us).2.bs
def needF (m:Nat) (us:List Un) (outs:List Nat) (ss:List (Rat×Rat)):List Nat:=needD m (bsF m us ss) (bsF m us ss).length (outsF m us outs ss)
def jV (m:Nat) (us:List Un) (outs:List Nat) (ss:List (Rat×Rat)):List Nat×Dr:=yQ m (drawF m (bsF m us ss) (needF m us outs ss)) (outsF m us outs ss)
theorem vj {α:Type} {p:List α→Prop} (h0:p []) (h1:∀ l a,p l→p (l++[a])):∀ l,p l:=by
 have z:∀ l:List α,p l.reverse:=fun l=>by
  induction l with
  | nil=>exact h0
  | cons a l ih=>rw [List.reverse_cons]; exact h1 _ _ ih
 intro l;have:=z l.reverse
 rwa [List.reverse_reverse] at this
structure SkI (m tot:Nat) (ss:List (Rat×Rat)) (sk:Sk):Prop where
 len:sk.ws.length=m+sk.bs.length
 fit:m+sk.bs.length≤tot
 ok:∀ (j:Nat) (f:List Rat),sk.bs[j]?=some f→f.length=tot+1∧Low f (m+j)
def FoI (m tot:Nat) (sk:Sk) (f:List Rat):Prop:=f.length=tot+1∧Low f (m+sk.bs.length)
theorem bent_pos {q:Rat} (h:¬ q<0):bentQ q=q:=by
 unfold bentQ
 by_cases c:0<q
 ·rw [if_pos c]
 ·rw [if_neg c]; grind
theorem bent_neg {q:Rat} (h:¬ 0<q):bentQ q=0:=by unfold bentQ; rw [if_neg h]
theorem bendF_ok {m tot:Nat} {ss:List (Rat×Rat)} {sk:Sk} {f:List Rat} (I:SkI m tot ss sk) (h:FoI m tot sk f) (room:m+sk.bs.length<tot) :
  SkI m tot ss (bendF m tot sk f).2∧FoI m tot (bendF m tot sk f).2 (bendF m tot sk f).1∧((bendF m tot sk f).2.bs=sk.bs∨(bendF m tot sk f).2.bs=sk.bs++[f]):=by
 unfold bendF
 by_cases c1:loS f sk.ws<0
 ·rw [if_pos c1]
  by_cases c2:0<hiS f sk.ws
  ·rw [if_pos c2]
   cases hp:posF sk.bs f m with
   | some p =>
    obtain ⟨h1,h2⟩:=posF_some hp;have hlt:=(A1.mp h2).1;exact ⟨I,⟨loneF_len _ _,low_lone (by show p<m+sk.bs.length; omega)⟩,.inl rfl⟩
   | none =>
    refine ⟨⟨?_,?_,fun j g e=>?_⟩,⟨loneF_len _ _,low_lone ?_⟩,.inr rfl⟩
    ·show (sk.ws++[(0,hiS f sk.ws)]).length=m+(sk.bs++[f]).length
     rw [Ad,Ad,I.len]; rfl
    ·show m+(sk.bs++[f]).length≤tot
     rw [Ad,A6]; omega
    ·change (sk.bs++[f])[j]?=some g at e
     by_cases c:j<sk.bs.length
     ·rw [List.getElem?_append_left c] at e; exact I.ok j g e
     ·have hj:=(A1.mp e).1
      rw [Ad,A6] at hj;have ej:j=sk.bs.length:=by omega
      subst ej;rw [A0 (Nat.le_refl _),Nat.sub_self] at e;have e:f=g:=by simpa using e
      subst e;exact h
    ·show m+sk.bs.length<m+(sk.bs++[f]).length
     rw [Ad,A6]; omega
  ·rw [if_neg c2]
   exact ⟨I,⟨Q7 _ _,low_even _ _ _⟩,.inl rfl⟩
 ·rw [if_neg c1]
  exact ⟨I,h,.inl rfl⟩
structure OutI (m tot:Nat) (ss:List (Rat×Rat)) (us:List Un) (st:List (List Rat)×Sk):Prop where
 sk:SkI m tot ss st.2
 len:st.1.length=m+us.length
 fo:∀ f∈st.1,FoI m tot st.2 f
 few:st.2.bs.length≤(us.filter isB).length
theorem in_at {α:Type} {xs:List α} {p:Nat} (d:α) (h:p<xs.length):xs.getD p d∈xs:=by
 have e:xs[p]?=some xs[p]:=A4 h;rw [zJ _ e];exact A8 e
theorem WfN.left {m:Nat} {us:List Un} {u:Un} (h:WfN m (us++[u])):WfN m us∧WfU (m+us.length) u:=by
 refine ⟨fun k v e=>h k v (by rw [List.getElem?_append_left (A1.mp e).1]; exact e),h us.length u ?_⟩;rw [A0 (Nat.le_refl _),Nat.sub_self];rfl
theorem Q3 {m tot:Nat} {ss:List (Rat×Rat)} (hm:ss.length=m):∀ us:List Un,WfN m us→m+(us.filter isB).length≤tot→OutI m tot ss us (outN m tot ss us) :=
 vj (fun _ ht=>by
   have hlen:((List.range m).map (fun k=>loneF k tot)).length=m:=by rw [Al,Aj]
   refine ⟨⟨hm,?_,fun j f h=>wZ h⟩,hlen,fun f hf=>?_,Nat.le_refl _⟩
   ·show m+0≤tot
    have:([]:List Un).filter isB=[]:=rfl;rw [this] at ht;exact ht
   ·obtain ⟨k,hk,rfl⟩:=List.mem_map.mp hf
    exact ⟨loneF_len _ _,low_lone (by have:=List.mem_range.mp hk; show k<m+0; omega)⟩) fun us u ih wf ht=>by
  obtain ⟨wf1,wfu⟩:=wf.left;rw [List.filter_append,Ad] at ht;have J:=ih wf1 (by omega);rw [Zw];generalize outN m tot ss us=st at *;have fin:∀ (g:List Rat) (sk:Sk),SkI m tot ss sk→FoI m tot sk g→(sk.bs=st.2.bs∨∃ b,sk.bs=st.2.bs++[b])→sk.bs.length≤((us++[u]).filter isB).length→OutI m tot ss (us++[u]) (st.1++[g],sk):=fun g sk a1 a2 a3 a4=>by
   have keep:∀ f,FoI m tot st.2 f→FoI m tot sk f:=fun f hf=>by
    rcases a3 with e | ⟨b,e⟩
    ·exact ⟨hf.1,by rw [e]; exact hf.2⟩
    ·exact ⟨hf.1,by rw [e]; exact hf.2.mono (by rw [Ad]; omega)⟩
   refine ⟨a1,by show (st.1++[g]).length=_; rw [Ad,J.len,Ad]; rfl,fun f hf=>?_,a4⟩
   rcases Am.mp hf with k | k
   ·exact keep f (J.fo f k)
   ·rw [Ae.mp k]; exact a2
  have few:=J.few
  cases u with
  | sum c ts =>
   have ln:∀ x∈ts,(st.1.getD x.1 []).length=tot+1∧Low (st.1.getD x.1 []) (m+st.2.bs.length):=fun x hx=>J.fo _ (in_at [] (by rw [J.len]; exact wfu.1 x hx))
   exact fin _ st.2 J.sk ⟨termsF_len (c:=c) ts _ (Q7 c tot) fun x hx=>(ln x hx).1,low_terms ts _ (Q7 c tot) (low_even _ _ _) ln⟩ (.inl rfl) (by rw [List.filter_append,Ad]; omega)
  | bend p =>
   have hp:p<m+us.length:=wfu;have fp:=J.fo _ (in_at (xs:=st.1) (p:=p) [] (by rw [J.len]; exact hp));have hb:([Un.bend p].filter isB).length=1:=rfl;rw [hb] at ht;obtain ⟨b1,b2,b3⟩:=bendF_ok J.sk fp (by omega);refine fin _ _ b1 b2 (b3.elim .inl fun e=>.inr ⟨_,e⟩) ?_;rw [List.filter_append,Ad,hb]
   rcases b3 with e | e <;> rw [e]
   ·omega
   ·rw [Ad,A6]; omega
theorem xQ {m:Nat} {bs:List (List Rat)}:∀ (n:Nat) (st:List (List Rat)),(needD m bs n st).Pairwise (·<·)∧(∀ j∈needD m bs n st,j<n)∧(∀ f∈st,∀ j,j<n→co f (m+j+1)≠0→j∈needD m bs n st)∧∀ i∈needD m bs n st,∀ j,j<i→co (bs.getD i []) (m+j+1)≠0→j∈needD m bs n st
 | 0,st=>⟨List.Pairwise.nil,fun j h=>(by cases h),fun f _ j h=>(by omega),fun i h=>(by cases h)⟩
 | n+1,st=>by
  unfold needD
  by_cases c:st.any (fun f=>decide (co f (m+n+1)≠0))=true
  ·rw [if_pos c]
   obtain ⟨h1,h2,h3,h4⟩:=xQ (m:=m) (bs:=bs) n (st++[bs.getD n []]);refine ⟨List.pairwise_append.mpr ⟨h1,List.pairwise_singleton _ _,fun a ha b hb=>by rw [Ae.mp hb]; exact h2 a ha⟩,fun j hj=>?_,fun f hf j hj hc=>?_,fun i hi j hj hc=>?_⟩
   ·rcases Am.mp hj with k | k
    ·have:=h2 j k; omega
    ·rw [Ae.mp k]; omega
   ·by_cases e:j=n
    ·exact Am.mpr (.inr (by rw [e]; exact Ae.mpr rfl))
    ·exact Am.mpr (.inl (h3 f (Am.mpr (.inl hf)) j (by omega) hc))
   ·rcases Am.mp hi with k | k
    ·exact Am.mpr (.inl (h4 i k j hj hc))
    ·rw [Ae.mp k] at hj hc
     exact Am.mpr (.inl (h3 _ (Am.mpr (.inr (Ae.mpr rfl))) j hj hc))
  ·rw [if_neg c]
   obtain ⟨h1,h2,h3,h4⟩:=xQ (m:=m) (bs:=bs) n st;refine ⟨h1,fun j hj=>by have:=h2 j hj; omega,fun f hf j hj hc=>?_,h4⟩
   by_cases e:j=n
   ·subst e
    exact absurd (List.any_eq_true.mpr ⟨f,hf,decide_eq_true hc⟩) c
   ·exact h3 f hf j (by omega) hc
theorem WfU.mono {e e':Nat} {u:Un} (h:WfU e u) (l:e≤e'):WfU e' u:=by
 cases u with
 | sum c ts=>exact ⟨fun x hx=>Ag (h.1 x hx) l,h.2⟩
 | bend p=>exact Ag (show p<e from h) l
theorem kY {pl:List (Nat×Nat)} {k:Nat} (h:k∈pl.map (·.1)):∃ p,plV pl k=some p∧(k,p)∈pl:=by
 unfold plV
 cases e:pl.find? fun x=>decide (x.1=k) with
 | none =>
  obtain ⟨y,hy,ey⟩:=List.mem_map.mp h;have:=List.find?_eq_none.mp e y hy;exact absurd ey (by simpa using this)
 | some y =>
  have h1:=List.find?_some e;have h1:y.1=k:=by simpa using h1
  exact ⟨y.2,rfl,by rw [← h1]; exact List.mem_of_find?_eq_some e⟩
theorem vx {pl:List (Nat×Nat)}:∀ {r:List Rat} {k:Nat},(∀ i,r.getD i 0≠0→k+i∈pl.map (·.1))→∀ t∈zq pl r k,t.2≠0∧∃ i,r.getD i 0=t.2∧(k+i,t.1)∈pl
 | [],_,_,t,ht=>by cases ht
 | s::r,k,h,t,ht=>by
  have hr:∀ i,r.getD i 0≠0→(k+1)+i∈pl.map (·.1):=fun i hi=>by
   have:=h (i+1) hi
   rwa [show k+(i+1)=k+1+i by omega] at this
  have tl:t∈zq pl r (k+1)→t.2≠0∧∃ i,(s::r).getD i 0=t.2∧(k+i,t.1)∈pl:=fun z=>by
   obtain ⟨a,i,b,c⟩:=vx hr t z;exact ⟨a,i+1,b,by rwa [show k+(i+1)=k+1+i by omega]⟩
  unfold zq at ht
  by_cases c:s=0
  ·rw [if_pos c] at ht
   exact tl ht
  ·rw [if_neg c] at ht
   rcases List.mem_cons.mp ht with e | e
   ·obtain ⟨p,ep,hp⟩:=kY (h 0 c)
    rw [e,show k=k+0 from rfl,ep];exact ⟨c,0,rfl,hp⟩
   ·exact tl e
theorem up_mem {pl:List (Nat×Nat)} (h:pl.Pairwise fun a b=>a.1<b.1∧a.2<b.2) {a b:Nat×Nat} (ha:a∈pl) (hb:b∈pl) (l:a.1<b.1):a.2<b.2:=by
 induction h with
 | nil=>cases ha
 | @cons x xs h1 _ ih =>
  rcases List.mem_cons.mp ha with e | e
  ·rcases List.mem_cons.mp hb with e' | e'
   ·rw [e,e'] at l; omega
   ·rw [e]; exact (h1 b e').2
  ·rcases List.mem_cons.mp hb with e' | e'
   ·have:=(h1 a e).1; rw [e'] at l; omega
   ·exact ih e e'
theorem Zj {pl:List (Nat×Nat)} (up:pl.Pairwise fun a b=>a.1<b.1∧a.2<b.2):∀ {r:List Rat} {k:Nat},(∀ i,r.getD i 0≠0→k+i∈pl.map (·.1))→((zq pl r k).map (·.1)).Pairwise (·<·)
 | [],_,_=>List.Pairwise.nil
 | s::r,k,h=>by
  have hr:∀ i,r.getD i 0≠0→(k+1)+i∈pl.map (·.1):=fun i hi=>by
   have:=h (i+1) hi
   rwa [show k+(i+1)=k+1+i by omega] at this
  unfold zq
  by_cases c:s=0
  ·rw [if_pos c]; exact Zj up hr
  ·rw [if_neg c,List.map_cons]
   refine List.Pairwise.cons (fun q hq=>?_) (Zj up hr);obtain ⟨t,ht,rfl⟩:=List.mem_map.mp hq;obtain ⟨_,i,_,hi⟩:=vx hr t ht;obtain ⟨p,ep,hp⟩:=kY (h 0 c);rw [show k=k+0 from rfl,ep];exact up_mem up hp hi (by show k+0<k+1+i; omega)
theorem termsD_len {pl:List (Nat×Nat)}:∀ (r:List Rat) (k:Nat),(zq pl r k).length≤r.length
 | [],_=>Nat.le_refl _
 | s::r,k=>by
  have ih:=termsD_len (pl:=pl) r (k+1);unfold zq
  by_cases c:s=0
  ·rw [if_pos c,List.length_cons]; omega
  ·rw [if_neg c,List.length_cons,List.length_cons]; omega
theorem ZQ (g:Nat→Rat):∀ n:Nat,sumF g (n+1)=g 0+sumF (fun k=>g (k+1)) n
 | 0=>by show (0:Rat)+g 0=g 0+0; grind
 | n+1=>by
  show sumF g (n+1)+g (n+1)=g 0+(sumF (fun k=>g (k+1)) n+g (n+1));rw [ZQ g n];grind
structure DrI (m:Nat) (ss:List (Rat×Rat)) (bs:List (List Rat)) (R:List Nat) (d:Dr):Prop where
 keys:d.pl.map (·.1)=List.range m++R.map (m+·)
 up:d.pl.Pairwise fun a b=>a.1<b.1∧a.2<b.2
 lt:∀ x∈d.pl,x.2<m+d.us.length
 wf:WfN m d.us
 sm:∀ x∈d.sm,m≤x.2∧d.us[x.2 - m]?=some (.sum x.1.1 x.1.2)
 bnd:(d.us.filter isB).length=R.length
 sml:d.sm.length≤d.us.length
theorem yW (f:List Rat) (i:Nat):f.tail.getD i 0=co f (i+1):=by cases f <;> rfl
theorem WfN.snoc' {m:Nat} {us:List Un} {u:Un} (h:WfN m us) (k:WfU (m+us.length) u):WfN m (us++[u]):=fun j v e=>by
 by_cases c:j<us.length
 ·rw [List.getElem?_append_left c] at e; exact h j v e
 ·have hj:=(A1.mp e).1
  rw [Ad,A6] at hj;have ej:j=us.length:=by omega
  subst ej;rw [A0 (Nat.le_refl _),Nat.sub_self] at e;have e:u=v:=by simpa using e
  subst e;exact k
theorem DrI.more {m:Nat} {ss:List (Rat×Rat)} {bs:List (List Rat)} {R:List Nat} {d:Dr} (hm:ss.length=m) (I:DrI m ss bs R d) {c:Rat} {ts:List (Nat×Rat)} (h:WfU (m+d.us.length) (.sum c ts)):DrI m ss bs R ⟨d.us++[.sum c ts],d.pl,d.sm++[((c,ts),m+d.us.length)]⟩:=by
 refine ⟨I.keys,I.up,fun x hx=>?_,I.wf.snoc' h,fun x hx=>?_,?_,by have:=I.sml; show (d.sm++[_]).length≤(d.us++[_]).length; rw [Ad,Ad,A6,A6]; omega⟩
 ·have:=I.lt x hx
  show x.2<m+(d.us++[_]).length;rw [Ad,A6]; omega
 ·rcases Am.mp hx with k | k
  ·obtain ⟨h1,h2⟩:=I.sm x k
   exact ⟨h1,by show (d.us++[_])[_]?=_; rw [List.getElem?_append_left (A1.mp h2).1]; exact h2⟩
  ·rw [Ae.mp k]
   refine ⟨by show m≤m+_; omega,?_⟩;show (d.us++[Un.sum c ts])[m+d.us.length - m]?=some (Un.sum c ts);rw [show m+d.us.length - m=d.us.length by omega,A0 (Nat.le_refl _),Nat.sub_self];rfl
 ·show ((d.us++[Un.sum c ts]).filter isB).length=_
  rw [List.filter_append,Ad,I.bnd];rfl
theorem nodup_up {ns:List Nat} (h:ns.Pairwise (·<·)):ns.Nodup:=List.Pairwise.imp (fun k=>Nat.ne_of_lt k) h
theorem Zk {m tot:Nat} {ss:List (Rat×Rat)} {bs:List (List Rat)} {R:List Nat} {d:Dr} (hm:ss.length=m) (I:DrI m ss bs R d) (hb:m+bs.length≤tot) (ht:tot≤99) {f:List Rat} (hl:f.length=tot+1) (lw:Low f (m+bs.length)) (hn:∀ k,co f (k+1)≠0→k∈d.pl.map (·.1)) :
  DrI m ss bs R (seatF m d f).2∧(seatF m d f).1<m+(seatF m d f).2.us.length∧(seatF m d f).2.pl=d.pl∧d.us.length≤(seatF m d f).2.us.length∧(seatF m d f).2.us.length≤d.us.length+1∧True:=by
 have hn':∀ i,f.tail.getD i 0≠0→0+i∈d.pl.map (·.1):=fun i hi=>by rw [Nat.zero_add]; exact hn i (by rwa [yW] at hi)
 have wfs:WfU (m+d.us.length) (.sum (co f 0) (zq d.pl f.tail 0)):=by
  refine ⟨fun t h=>?_,nodup_up (Zj I.up hn'),Ar (termsD_len _ _) (by rw [List.length_tail]; omega)⟩;obtain ⟨_,i,_,hi⟩:=vx hn' t h;exact I.lt _ hi
 unfold seatF
 by_cases c:co f 0=0∧(zq d.pl f.tail 0).length=1∧((zq d.pl f.tail 0).getD 0 (0,0)).2=1
 ·rw [if_pos c]
  obtain ⟨c1,c2,c3⟩:=c;obtain ⟨t,et⟩:∃ t,zq d.pl f.tail 0=[t]:=by
   match h:zq d.pl f.tail 0,c2 with
   | [t],_=>exact ⟨t,rfl⟩
  rw [et];obtain ⟨_,i,_,hi⟩:=vx hn' t (by rw [et]; exact Ae.mpr rfl);exact ⟨I,I.lt _ hi,rfl,Nat.le_refl _,Nat.le_succ _,trivial⟩
 ·rw [if_neg c]
  cases h:smV d.sm (co f 0,zq d.pl f.tail 0) with
  | some p =>
   obtain ⟨h1,h2⟩:m≤p∧d.us[p - m]?=some (.sum (co f 0) (zq d.pl f.tail 0)):=by
    unfold smV at h
    cases e:d.sm.find? fun x=>decide (x.1=(co f 0,zq d.pl f.tail 0)) with
    | none=>rw [e] at h; cases h
    | some y =>
     rw [e] at h;have h:y.2=p:=Ap h;have e1:=List.find?_some e;have e1:y.1=(co f 0,zq d.pl f.tail 0):=by simpa using e1
     have:=I.sm y (List.mem_of_find?_eq_some e);rw [e1,h] at this;exact this
   have hlt:=(A1.mp h2).1;exact ⟨I,by show p<m+d.us.length; omega,rfl,Nat.le_refl _,Nat.le_succ _,trivial⟩
  | none =>
   exact ⟨I.more hm wfs,by show m+d.us.length<m+(d.us++[_]).length; rw [Ad,A6]; omega,rfl,by show d.us.length≤(d.us++[_]).length; rw [Ad]; omega,by show (d.us++[_]).length≤_; rw [Ad]; exact Nat.le_refl _,trivial⟩
theorem putB_ok {m tot:Nat} {ss:List (Rat×Rat)} {bs:List (List Rat)} {R:List Nat} {d:Dr} (hm:ss.length=m) (I:DrI m ss bs R d) (hb:m+bs.length≤tot) (ht:tot≤99) (ok:∀ (j:Nat) (f:List Rat),bs[j]?=some f→f.length=tot+1∧Low f (m+j)) {j:Nat} (hj:j<bs.length) (hR:∀ i∈R,i<j)
  (hn:∀ i,i<j→co (bs.getD j []) (m+i+1)≠0→i∈R) :
  DrI m ss bs (R++[j]) (putB m bs d j)∧(putB m bs d j).us.length≤d.us.length+2:=by
 have ej:bs[j]?=some bs[j]:=A4 hj;have eg:bs.getD j []=bs[j]:=zJ _ ej;obtain ⟨hl,lw⟩:=ok j _ ej;rw [← eg] at hl lw;have hk:∀ k,co (bs.getD j []) (k+1)≠0→k∈d.pl.map (·.1):=fun k hc=>by
  rw [I.keys]
  by_cases c:k<m
  ·exact Am.mpr (.inl (List.mem_range.mpr c))
  ·have:k<m+j:=Nat.lt_of_not_le fun z=>hc (lw k z)
   refine Am.mpr (.inr (List.mem_map.mpr ⟨k - m,hn (k - m) (by omega) ?_,by omega⟩))
   rwa [show m+(k - m)=k by omega]
 obtain ⟨J,s1,s2,s3,s4,_⟩:=Zk hm I hb ht hl (lw.mono (by omega)) hk;unfold putB;generalize seatF m d (bs.getD j [])=r at *;have ub:∀ y∈r.2.pl,y.1<m+j:=fun y hy=>by
  have:y.1∈r.2.pl.map (·.1):=List.mem_map.mpr ⟨y,hy,rfl⟩;rw [J.keys] at this
  rcases Am.mp this with k | k
  ·have:=List.mem_range.mp k; omega
  ·obtain ⟨i,hi,e⟩:=List.mem_map.mp k
   have:=hR i hi;omega
 refine ⟨⟨?_,?_,fun x hx=>?_,J.wf.snoc' s1,fun x hx=>?_,?_,by have:=J.sml; show r.2.sm.length≤(r.2.us++[_]).length; rw [Ad]; omega⟩,?_⟩
 ·show (r.2.pl++[_]).map _=_
  rw [An,J.keys,An,List.append_assoc];rfl
 ·exact List.pairwise_append.mpr ⟨J.up,List.pairwise_singleton _ _,fun a ha b hb=>by rw [Ae.mp hb]; exact ⟨ub a ha,J.lt a ha⟩⟩
 ·show x.2<m+(r.2.us++[_]).length
  rw [Ad,A6]
  rcases Am.mp hx with k | k
  ·have:=J.lt x k; omega
  ·rw [Ae.mp k]; show m+r.2.us.length<_; omega
 ·obtain ⟨h1,h2⟩:=J.sm x hx
  exact ⟨h1,by show (r.2.us++[_])[_]?=_; rw [List.getElem?_append_left (A1.mp h2).1]; exact h2⟩
 ·show ((r.2.us++[Un.bend r.1]).filter isB).length=_
  rw [List.filter_append,Ad,J.bnd,Ad];rfl
 ·show (r.2.us++[_]).length≤_
  rw [Ad,A6];omega
theorem dr0_ok {m:Nat} {ss:List (Rat×Rat)} {bs:List (List Rat)} (hm:ss.length=m):DrI m ss bs [] (dr0 m):=by
 refine ⟨?_,?_,fun x hx=>?_,fun k u h=>wZ h,fun x hx=>(by cases hx),rfl,Nat.le_refl _⟩
 ·show ((List.range m).map fun k=>(k,k)).map (·.1)=List.range m++[]
  rw [List.append_nil,List.map_map];exact List.map_id _
 ·exact List.pairwise_map.mpr (List.Pairwise.imp (fun h=>⟨h,h⟩) List.pairwise_lt_range)
 ·obtain ⟨k,hk,rfl⟩:=List.mem_map.mp hx
  have:=List.mem_range.mp hk;show k<m+0;omega
theorem Qy {m tot:Nat} {ss:List (Rat×Rat)} {bs:List (List Rat)} (hm:ss.length=m) (hb:m+bs.length≤tot) (ht:tot≤99) (ok:∀ (j:Nat) (f:List Rat),bs[j]?=some f→f.length=tot+1∧Low f (m+j)) :
  ∀ R:List Nat,R.Pairwise (·<·)→(∀ j∈R,j<bs.length)→(∀ i∈R,∀ j,j<i→co (bs.getD i []) (m+j+1)≠0→j∈R)→DrI m ss bs R (drawF m bs R)∧(drawF m bs R).us.length≤2*R.length :=
 vj (fun _ _ _=>⟨dr0_ok hm,Nat.le_refl _⟩) fun R j ih up lt nd=>by
  obtain ⟨u1,_,u2⟩:=List.pairwise_append.mp up;have below:∀ i∈R,i<j:=fun i hi=>u2 i hi j (Ae.mpr rfl)
  have back:∀ i,i∈R++[j]→i≠j→i∈R:=fun i hi hn=>(Am.mp hi).elim id fun k=>absurd (Ae.mp k) hn
  obtain ⟨I,l⟩:=ih u1 (fun i hi=>lt i (Am.mpr (.inl hi))) fun i hi k hk hc=>back k (nd i (Am.mpr (.inl hi)) k hk hc) (by have:=below i hi; omega)
  rw [Y5];obtain ⟨J,l2⟩:=putB_ok hm I hb ht ok (lt j (Am.mpr (.inr (Ae.mpr rfl)))) below fun i hi hc=>back i (nd j (Am.mpr (.inr (Ae.mpr rfl))) i hi hc) (by omega)
  exact ⟨J,by rw [Ad,A6]; omega⟩
theorem Q5 {m tot:Nat} {ss:List (Rat×Rat)} {bs:List (List Rat)} {R:List Nat} {d:Dr} (hm:ss.length=m) (I:DrI m ss bs R d) (hb:m+bs.length≤tot) (ht:tot≤99) :
  ∀ fs:List (List Rat),(∀ f∈fs,f.length=tot+1∧Low f (m+bs.length)∧∀ k,co f (k+1)≠0→k∈d.pl.map (·.1))→DrI m ss bs R (yQ m d fs).2∧(yQ m d fs).2.pl=d.pl∧(yQ m d fs).2.us.length≤d.us.length+fs.length∧(yQ m d fs).1.length=fs.length∧(∀ o∈(yQ m d fs).1,o<m+(yQ m d fs).2.us.length)∧True :=
 vj (fun _=>⟨I,rfl,Nat.le_refl _,rfl,fun o h=>(by cases h),trivial⟩) fun fs f ih h=>by
  obtain ⟨J,p1,p2,p3,p4,_⟩:=ih fun g hg=>h g (Am.mpr (.inl hg))
  obtain ⟨hl,lw,hn⟩:=h f (Am.mpr (.inr (Ae.mpr rfl)));rw [QJ];unfold seatsS;generalize yQ m d fs=st at *;obtain ⟨J2,s1,s2,s3,s4,_⟩:=Zk hm J hb ht hl lw (by rw [p1]; exact hn);generalize seatF m st.2 f=r at *;refine ⟨J2,by rw [← p1]; exact s2,by rw [Ad,A6]; show r.2.us.length≤_; omega,by show (st.1++[r.1]).length=_; rw [Ad,p3,Ad]; rfl,fun o ho=>?_,trivial⟩
  ·rcases Am.mp ho with k | k
   ·have:=p4 o k
    show o<m+r.2.us.length;omega
   ·rw [Ae.mp k]; exact s1
theorem up_len:∀ (n:Nat) (R:List Nat),R.Pairwise (·<·)→(∀ j∈R,j<n)→R.length≤n:=by
 intro n
 induction n with
 | zero=>intro R _ h; cases R with
  | nil=>exact Nat.le_refl _
  | cons a R=>exact absurd (h a Af) (Nat.not_lt_zero _)
 | succ n ih =>
  refine vj (fun _ _=>Nat.zero_le _) fun R j _ up lt=>?_
  obtain ⟨u1,_,u2⟩:=List.pairwise_append.mp up;have:=ih R u1 fun i hi=>by
   have:=u2 i hi j (Ae.mpr rfl);have:=lt j (Am.mpr (.inr (Ae.mpr rfl)));omega
  rw [Ad,A6]; omega
theorem smallF_ok {m:Nat} {us:List Un} {outs:List Nat} {ss:List (Rat×Rat)} (hm:ss.length=m) (wf:WfN m us) (ol:∀ o∈outs,o<m+us.length) (ht:totF m us≤99) :
  WfN m (jV m us outs ss).2.us∧((jV m us outs ss).2.us.filter isB).length≤(us.filter isB).length∧(jV m us outs ss).2.us.length≤2*(us.filter isB).length+outs.length∧(jV m us outs ss).1.length=outs.length∧(∀ o∈(jV m us outs ss).1,o<m+(jV m us outs ss).2.us.length)∧True:=by
 have O:=Q3 (tot:=totF m us) hm us wf (Nat.le_refl _);have hb:m+(bsF m us ss).length≤totF m us:=O.sk.fit;have fo:∀ f∈outsF m us outs ss,f.length=totF m us+1∧Low f (m+(bsF m us ss).length):=fun f hf=>by
  obtain ⟨o,ho,rfl⟩:=List.mem_map.mp hf;exact O.fo _ (in_at [] (by rw [O.len]; exact ol o ho))
 obtain ⟨n1,n2,n3,n4⟩:=xQ (m:=m) (bs:=bsF m us ss) (bsF m us ss).length (outsF m us outs ss);obtain ⟨I,l1⟩:=Qy hm hb ht O.sk.ok _ n1 n2 n4;have hn:∀ f∈outsF m us outs ss,∀ k,co f (k+1)≠0→k∈(drawF m (bsF m us ss) (needF m us outs ss)).pl.map (·.1):=fun f hf k hc=>by
  have e:=I.keys;unfold needF;rw [e]
  by_cases c:k<m
  ·exact Am.mpr (.inl (List.mem_range.mpr c))
  ·have:k<m+(bsF m us ss).length:=Nat.lt_of_not_le fun z=>hc ((fo f hf).2 k z)
   refine Am.mpr (.inr (List.mem_map.mpr ⟨k - m,n3 f hf (k - m) (by omega) ?_,by omega⟩))
   rwa [show m+(k - m)=k by omega]
 obtain ⟨J,p1,p2,p3,p4,_⟩:=Q5 hm I hb ht (outsF m us outs ss) fun f hf=>⟨(fo f hf).1,(fo f hf).2,hn f hf⟩
 have nl:=up_len _ _ n1 n2;have few:(bsF m us ss).length≤(us.filter isB).length:=O.few;have lo:(outsF m us outs ss).length=outs.length:=by unfold outsF; rw [Al]
 refine ⟨J.wf,?_,?_,?_,p4,trivial⟩
 ·have:=J.bnd
  show (((yQ m (drawF m (bsF m us ss) (needF m us outs ss)) (outsF m us outs ss))).2.us.filter isB).length≤_;unfold needF;omega
 ·show (yQ m (drawF m (bsF m us ss) (needF m us outs ss)) (outsF m us outs ss)).2.us.length≤_
  unfold needF;omega
 ·rw [← lo]; exact p3
def Zq (q:Rat):Prop:=∃ n:Int,q=(n:Rat)
theorem Zq.add {x y:Rat} (h:Zq x) (k:Zq y):Zq (x+y):=by
 obtain ⟨n,rfl⟩:=h;obtain ⟨l,rfl⟩:=k;exact ⟨n+l,by rw [Rat.intCast_add]⟩
theorem Zq.mul {x y:Rat} (h:Zq x) (k:Zq y):Zq (x*y):=by
 obtain ⟨n,rfl⟩:=h;obtain ⟨l,rfl⟩:=k;exact ⟨n*l,by rw [Ao]⟩
theorem Zq.zero:Zq 0:=⟨0,rfl⟩
theorem Zq.nat (n:Nat):Zq (n:Rat):=⟨n,rfl⟩
theorem Zq.int (n:Int):Zq (n:Rat):=⟨n,rfl⟩
theorem Q8 (q:Rat):(q<0∧absQ q = -q)∨(0≤q∧absQ q=q):=by
 unfold absQ
 by_cases c:q<0
 ·exact .inl ⟨c,by rw [if_pos ((num_neg q).mpr c)]⟩
 ·exact .inr ⟨Rat.not_lt.mp c,by rw [if_neg fun z=>c ((num_neg q).mp z)]⟩
theorem x8:absQ 0=0:=rfl
theorem abs_one:absQ 1=1:=rfl
theorem abs_add (x y:Rat):absQ (x+y)≤absQ x+absQ y:=by
 rcases Q8 x with ⟨a,b⟩ | ⟨a,b⟩ <;> rcases Q8 y with ⟨c,d⟩ | ⟨c,d⟩ <;> rcases Q8 (x+y) with ⟨e,f⟩ | ⟨e,f⟩ <;> rw [b,d,f] <;> grind
theorem abs_mul (x y:Rat):absQ (x*y)=absQ x*absQ y:=by
 rcases Q8 x with ⟨a,b⟩ | ⟨a,b⟩ <;> rcases Q8 y with ⟨c,d⟩ | ⟨c,d⟩ <;> rw [b,d] <;> rcases Q8 (x*y) with ⟨e,f⟩ | ⟨e,f⟩ <;> rw [f]
 ·have:0≤(-x)*(-y):=Rat.mul_nonneg (by grind) (by grind); grind
 ·grind
 ·grind
 ·have:0≤(-x)*y:=Rat.mul_nonneg (by grind) c; grind
 ·grind
 ·have:0≤x*(-y):=Rat.mul_nonneg a (by grind); grind
 ·have:0≤x*y:=Rat.mul_nonneg a c; grind
theorem mul_nn {x y:Rat} (h:0≤x) (k:0≤y):0≤x*y:=Rat.mul_nonneg h k
theorem le_mul {a x y:Rat} (h:0≤a) (k:x≤y):a*x≤a*y:=Rat.mul_le_mul_of_nonneg_left k h
theorem Qv (n:Nat):(0:Rat)≤(n:Rat):=Rat.natCast_nonneg
theorem xK {n l:Nat} (h:n≤l):(n:Rat)≤(l:Rat):=Rat.natCast_le_natCast.mpr h
theorem sumF_nn {g:Nat→Rat}:∀ {n:Nat},(∀ k,k<n→0≤g k)→0≤sumF g n
 | 0,_=>Rat.le_refl
 | n+1,h=>by
  have a:=sumF_nn fun k hk=>h k (Nat.lt_succ_of_lt hk)
  have b:=h n (Nat.lt_succ_self n);show 0≤sumF g n+g n;grind
theorem sumF_at {g:Nat→Rat} {n i:Nat} (h:∀ k,k<n→0≤g k) (hi:i<n):g i≤sumF g n:=by
 induction n with
 | zero=>omega
 | succ n ih =>
  show g i≤sumF g n+g n
  by_cases c:i=n
  ·have:=sumF_nn fun k (hk:k<n)=>h k (by omega)
   rw [c]; grind
  ·have a:=ih (fun k hk=>h k (by omega)) (by omega)
   have b:=h n (by omega);grind
theorem sumF_upto {g:Nat→Rat} {i:Nat}:∀ {n:Nat},(∀ k,k<n→0≤g k)→i≤n→sumF g i≤sumF g n
 | 0,_,hi=>by rw [Nat.le_zero.mp hi]; exact Rat.le_refl
 | n+1,h,hi=>by
  by_cases c:i=n+1
  ·rw [c]; exact Rat.le_refl
  ·have a:=sumF_upto (n:=n) (i:=i) (fun k hk=>h k (by omega)) (by omega)
   have b:=h n (by omega);show sumF g i≤sumF g n+g n;grind
theorem sumF_abs {g h:Nat→Rat}:∀ {n:Nat},(∀ k,k<n→absQ (g k)≤h k)→absQ (sumF g n)≤sumF h n
 | 0,_=>Rat.le_refl
 | n+1,e=>by
  have a:=sumF_abs fun k hk=>e k (Nat.lt_succ_of_lt hk)
  have b:=e n (Nat.lt_succ_self n);have c:=abs_add (sumF g n) (g n);show absQ (sumF g n+g n)≤sumF h n+h n;grind
theorem sumF_Z {g:Nat→Rat} {s:Rat}:∀ {n:Nat},(∀ k,k<n→Zq (g k*s))→Zq (sumF g n*s)
 | 0,_=>by show Zq (0*s); rw [Rat.zero_mul]; exact Zq.zero
 | n+1,e=>by
  show Zq ((sumF g n+g n)*s);rw [Rat.add_mul];exact (sumF_Z fun k hk=>e k (Nat.lt_succ_of_lt hk)).add (e n (Nat.lt_succ_self n))
def GOk (g:Nat×Nat):Prop:=1≤g.1∧g.1<2^1990∧1≤g.2∧g.2<2^1990
def GLe (g h:Nat×Nat):Prop:=g.1∣h.1∧g.2≤h.2
def Gq (g:Nat×Nat) (q:Rat):Prop:=Zq (q*(g.1:Rat))∧absQ q≤(g.2:Rat)
theorem num_of (q:Rat):q*(q.den:Rat)=(q.num:Rat):=by
 have hd:((q.den:Int):Rat)≠0:=fun z=>q.den_nz (by exact_mod_cast z)
 have e:(q.num:Rat)/((q.den:Int):Rat)=q:=by rw [← Rat.divInt_eq_div]; exact Ai q
 show q*((q.den:Int):Rat)=(q.num:Rat);generalize ((q.den:Int):Rat)=d at *;generalize (q.num:Rat)=n at *;grind
theorem GLe.refl (g:Nat×Nat):GLe g g:=⟨Nat.dvd_refl _,Nat.le_refl _⟩
theorem GLe.trans {g h k:Nat×Nat} (a:GLe g h) (b:GLe h k):GLe g k:=⟨Nat.dvd_trans a.1 b.1,Ar a.2 b.2⟩
theorem Zq.up {q:Rat} {s t:Nat} (h:Zq (q*(s:Rat))) (d:s∣t):Zq (q*(t:Rat)):=by
 obtain ⟨c,rfl⟩:=d;rw [Rat.natCast_mul,← Rat.mul_assoc];exact h.mul (Zq.nat c)
theorem Gq.up {g h:Nat×Nat} {q:Rat} (a:Gq g q) (l:GLe g h):Gq h q:=⟨a.1.up l.1,Rat.le_trans a.2 (xK l.2)⟩
theorem Gq.zero (g:Nat×Nat):Gq g 0:=⟨by rw [Rat.zero_mul]; exact Zq.zero,by rw [x8]; exact Qv _⟩
theorem Gq.den {g:Nat×Nat} {q:Rat} (h:Gq g q):q.den∣g.1:=by
 obtain ⟨n,e⟩:=h.1;have e1:q.num*(g.1:Int)=n*(q.den:Int):=by
  have e2:(q.num:Rat)=q*(q.den:Rat):=(num_of q).symm;have e3:((q.num*(g.1:Int):Int):Rat)=((n*(q.den:Int):Int):Rat):=by
   rw [Ao,Ao,e2];show q*(q.den:Rat)*((g.1:Nat):Rat)=(n:Rat)*((q.den:Nat):Rat);rw [← e];grind
  exact_mod_cast e3
 have d:(q.den:Int)∣q.num*(g.1:Int):=⟨n,by rw [e1,Int.mul_comm]⟩;have d2:q.den∣q.num.natAbs*g.1:=by
  have:=Int.natAbs_dvd_natAbs.mpr d
  rwa [Aq,Ah,Ah] at this
 exact Nat.Coprime.dvd_of_dvd_mul_left (Nat.Coprime.symm q.reduced) d2
theorem Gq.sm {g:Nat×Nat} {q:Rat} (h:Gq g q) (k:GOk g):SmQ 6500 q:=by
 have d:=h.den;have dl:q.den≤g.1:=Nat.le_of_dvd (by have:=k.1; omega) d;have d1:q.den<2^1990:=Nat.lt_of_le_of_lt dl k.2.1;have nl:q.num.natAbs≤g.2*q.den:=by
  have e:=h.2;have e2:absQ q*(q.den:Rat)≤(g.2:Rat)*(q.den:Rat):=Rat.mul_le_mul_of_nonneg_right e (Qv _);have e3:absQ q*(q.den:Rat)=((q.num.natAbs:Nat):Rat):=by
   have a:=absQ_num q;have b:absQ q*((absQ q).den:Rat)=((absQ q).num:Rat):=num_of _;rw [a.2,a.1] at b;rw [b];have c:(if q.num<0 then -q.num else q.num)=(q.num.natAbs:Int):=by split <;> omega
   rw [c];rfl
  rw [e3,← Rat.natCast_mul] at e2;exact Rat.natCast_le_natCast.mp e2
 refine ⟨Sm.mono (m:=3980) ?_ (by decide),Sm.mono (m:=1990) ?_ (by decide)⟩
 ·unfold Sm
  have e:(2:Nat)^3980=2^1990*2^1990:=(Nat.pow_add 2 1990 1990);rw [e];exact Nat.lt_of_le_of_lt nl (Nat.mul_lt_mul'' k.2.2.2 d1)
 ·unfold Sm
  rw [Ah];exact d1
def gN (gv:List (Nat×Nat)) (k:Nat):Nat×Nat:=gv.getD k (1,1)
def FG (gv:List (Nat×Nat)) (S:Nat) (B:Rat) (f:List Rat):Prop:=Zq (co f 0*(S:Rat))∧(∀ k,∃ n:Int,co f (k+1)*(S:Rat)=(n:Rat)*((gN gv k).1:Rat))∧absQ (co f 0)+sumF (fun k=>absQ (co f (k+1))*((gN gv k).2:Rat)) gv.length≤B
theorem FG.mono {gv:List (Nat×Nat)} {S:Nat} {B C:Rat} {f:List Rat} (h:FG gv S B f) (l:B≤C):FG gv S C f:=⟨h.1,h.2.1,Rat.le_trans h.2.2 l⟩
theorem FG.up {gv:List (Nat×Nat)} {S T:Nat} {B:Rat} {f:List Rat} (h:FG gv S B f) (d:S∣T):FG gv T B f:=by
 refine ⟨h.1.up d,fun k=>?_,h.2.2⟩;obtain ⟨n,e⟩:=h.2.1 k;obtain ⟨c,rfl⟩:=d;refine ⟨n*(c:Int),?_⟩;rw [Rat.natCast_mul,Ao,← Rat.mul_assoc,e];show (n:Rat)*((gN gv k).1:Rat)*(c:Rat)=(n:Rat)*(c:Rat)*((gN gv k).1:Rat);grind
theorem gN_snoc (gv:List (Nat×Nat)) (h:Nat×Nat) (k:Nat):gN (gv++[h]) k=if k<gv.length then gN gv k else if k=gv.length then h else (1,1):=jk gv h (1,1) k
theorem FG.ext {gv:List (Nat×Nat)} {S:Nat} {B:Rat} {f:List Rat} {h:Nat×Nat} (a:FG gv S B f) (lw:Low f gv.length):FG (gv++[h]) S B f:=by
 refine ⟨a.1,fun k=>?_,?_⟩
 ·by_cases c:k<gv.length
  ·rw [gN_snoc,if_pos c]; exact a.2.1 k
  ·refine ⟨0,?_⟩
   rw [lw k (by omega)];show 0*(S:Rat)=0*_;rw [Rat.zero_mul,Rat.zero_mul]
 ·rw [Ad,A6]
  show absQ (co f 0)+(sumF _ gv.length+_)≤B;dsimp only;rw [lw gv.length (Nat.le_refl _),x8,Rat.zero_mul,Rat.add_zero,jK (h:=fun k=>absQ (co f (k+1))*((gN gv k).2:Rat)) fun k hk=>by rw [gN_snoc,if_pos hk]];exact a.2.2
theorem FG.even {gv:List (Nat×Nat)} {S n:Nat} {c:Rat} (h:Zq (c*(S:Rat))):FG gv S (absQ c) (evenF c n):=by
 refine ⟨h,fun k=>⟨0,?_⟩,?_⟩
 ·rw [co_even]
  show 0*(S:Rat)=0*_;rw [Rat.zero_mul,Rat.zero_mul]
 ·rw [co_even0,sumF_zero fun k _=>by rw [co_even,x8,Rat.zero_mul],Rat.add_zero]
  exact Rat.le_refl
theorem FG.lone {gv:List (Nat×Nat)} {S i n:Nat} (hi:i<gv.length) (d:(gN gv i).1∣S):FG gv S ((gN gv i).2:Rat) (loneF i n):=by
 refine ⟨by rw [co_lone0,Rat.zero_mul]; exact Zq.zero,fun k=>?_,?_⟩
 ·rw [co_lone]
  by_cases c:k=i∧k<n
  ·rw [if_pos c,c.1]
   obtain ⟨x,e⟩:=d;exact ⟨(x:Int),by rw [e,Rat.natCast_mul]; show 1*(((gN gv i).1:Rat)*(x:Rat))=(x:Rat)*_; grind⟩
  ·rw [if_neg c]
   exact ⟨0,by show 0*(S:Rat)=0*_; rw [Rat.zero_mul,Rat.zero_mul]⟩
 ·rw [co_lone0,x8,Rat.zero_add,sumF_one hi fun k _ hk=>by rw [co_lone,if_neg fun z=>hk z.1,x8,Rat.zero_mul],co_lone]
  by_cases c:i=i∧i<n
  ·rw [if_pos c,abs_one,Rat.one_mul]; exact Rat.le_refl
  ·rw [if_neg c,x8,Rat.zero_mul]; exact Qv _
theorem FG.plus {gv:List (Nat×Nat)} {S T:Nat} {B C s:Rat} {f g:List Rat} (hl:f.length=g.length) (a:FG gv S B f) (b:FG gv T C g) (hs:∃ n:Int,s*(S:Rat)=(n:Rat)*(T:Rat)):FG gv S (B+absQ s*C) (addT f g s):=by
 obtain ⟨n,en⟩:=hs;refine ⟨?_,fun k=>?_,?_⟩
 ·rw [co_addT hl]
  have e:(co f 0+co g 0*s)*(S:Rat)=co f 0*(S:Rat)+co g 0*(T:Rat)*(n:Rat):=by
   have:(co f 0+co g 0*s)*(S:Rat)=co f 0*(S:Rat)+co g 0*(s*(S:Rat)):=by grind
   rw [this,en]; grind
  rw [e];exact a.1.add (b.1.mul (Zq.int n))
 ·obtain ⟨x,ex⟩:=a.2.1 k
  obtain ⟨y,ey⟩:=b.2.1 k;refine ⟨x+y*n,?_⟩;rw [co_addT hl,Rat.intCast_add,Ao];have:(co f (k+1)+co g (k+1)*s)*(S:Rat)=co f (k+1)*(S:Rat)+co g (k+1)*(s*(S:Rat)):=by grind
  rw [this,en,ex];have:co g (k+1)*((n:Rat)*(T:Rat))=co g (k+1)*(T:Rat)*(n:Rat):=by grind
  rw [this,ey];grind
 ·have z:∀ k,absQ (co (addT f g s) (k+1))*((gN gv k).2:Rat)≤absQ (co f (k+1))*((gN gv k).2:Rat)+(absQ (co g (k+1))*((gN gv k).2:Rat))*absQ s:=fun k=>by
   rw [co_addT hl];have h1:=abs_add (co f (k+1)) (co g (k+1)*s);rw [abs_mul] at h1;have h2:=Rat.mul_le_mul_of_nonneg_right h1 (Qv (gN gv k).2);grind
  have y:=sumF_le (n:=gv.length) fun k _=>z k
  rw [sumF_lin] at y;have h1:=abs_add (co f 0) (co g 0*s);rw [abs_mul] at h1;rw [co_addT hl];have h2:=a.2.2;have h3:=b.2.2;have h4:=Rat.mul_le_mul_of_nonneg_right h3 (jx s);grind
theorem FG.all {gv:List (Nat×Nat)} {S L:Nat} {f:List Rat} (h:FG gv S (L:Rat) f) (ok:∀ k,1≤(gN gv k).2) (lw:Low f gv.length) (k:Nat):Gq (S,L) (co f k):=by
 have nn:∀ k,k<gv.length→0≤absQ (co f (k+1))*((gN gv k).2:Rat):=fun k _=>mul_nn (jx _) (Qv _)
 cases k with
 | zero =>
  refine ⟨h.1,?_⟩;have a:=sumF_nn nn;have b:=h.2.2;show absQ (co f 0)≤(L:Rat);grind
 | succ k =>
  by_cases c:k<gv.length
  ·refine ⟨?_,?_⟩
   ·obtain ⟨n,e⟩:=h.2.1 k
    rw [e];exact (Zq.int n).mul (Zq.nat _)
   ·have a:=sumF_at nn c
    have b:=h.2.2;have d:=jx (co f 0);have e:=le_mul (jx (co f (k+1))) (xK (ok k));show absQ (co f (k+1))≤(L:Rat);have e:absQ (co f (k+1))*((1:Nat):Rat)≤absQ (co f (k+1))*((gN gv k).2:Rat):=e;have o:((1:Nat):Rat)=1:=rfl;rw [o] at e;grind
  ·rw [lw k (by omega)]; exact Gq.zero _
theorem mem_co {f:List Rat} {z:Rat} (h:z∈f):∃ k,z=co f k:=by
 obtain ⟨k,e⟩:=Aa h;exact ⟨k,(zJ _ e).symm⟩
def tsum (g:Nat→Nat×Nat):List (Nat×Rat)→Rat
 | []=>0
 | x::ts=>absQ x.2*((g x.1).2:Rat)+tsum g ts
theorem tsum_nn (g:Nat→Nat×Nat):∀ ts:List (Nat×Rat),0≤tsum g ts
 | []=>Rat.le_refl
 | x::ts=>by
  have a:=tsum_nn g ts;have b:=mul_nn (jx x.2) (Qv (g x.1).2);show 0≤absQ x.2*((g x.1).2:Rat)+tsum g ts;grind
theorem tsum_take (g:Nat→Nat×Nat):∀ (ts:List (Nat×Rat)) (i:Nat),tsum g (ts.take i)≤tsum g ts
 | [],_=>by rw [List.take_nil]; exact Rat.le_refl
 | x::ts,0=>tsum_nn g (x::ts)
 | x::ts,i+1=>by
  have a:=tsum_take g ts i;show absQ x.2*((g x.1).2:Rat)+tsum g (ts.take i)≤absQ x.2*((g x.1).2:Rat)+tsum g ts;grind
theorem tsum_mem {g:Nat→Nat×Nat}:∀ {ts:List (Nat×Rat)} {x:Nat×Rat},x∈ts→absQ x.2*((g x.1).2:Rat)≤tsum g ts
 | y::ts,x,h=>by
  have b:=mul_nn (jx y.2) (Qv (g y.1).2);show _≤absQ y.2*((g y.1).2:Rat)+tsum g ts
  rcases List.mem_cons.mp h with e | e
  ·rw [e]; have:=tsum_nn g ts; grind
  ·have:=tsum_mem (g:=g) e; grind
theorem FG.fold {gv:List (Nat×Nat)} {S n:Nat} {g:Nat→Nat×Nat} {fs:List (List Rat)}:∀ (ts:List (Nat×Rat)) (f:List Rat) (B:Rat),f.length=n+1→FG gv S B f→(∀ x∈ts,(fs.getD x.1 []).length=n+1∧FG gv (g x.1).1 ((g x.1).2:Rat) (fs.getD x.1 [])∧∃ l:Int,x.2*(S:Rat)=(l:Rat)*((g x.1).1:Rat))→FG gv S (B+tsum g ts) (ts.foldl (fun f x=>addT f (fs.getD x.1 []) x.2) f)
 | [],f,B,_,h,_=>h.mono (by show B≤B+0; grind)
 | x::ts,f,B,hl,h,hx=>by
  obtain ⟨e1,e2,e3⟩:=hx x Af;have a:=FG.fold ts _ _ (by rw [addT_len,hl,e1]; omega) (h.plus (by rw [hl,e1]) e2 e3) fun y hy=>hx y (A9 _ hy)
  refine a.mono ?_;show B+absQ x.2*((g x.1).2:Rat)+tsum g ts≤B+(absQ x.2*((g x.1).2:Rat)+tsum g ts);grind
def TermsOk (c:Rat) (ts:List (Nat×Rat)) (fs:List (List Rat)) (n:Nat):Prop:=∀ (i:Nat) (x:Nat×Rat),ts[i]?=some x→((ts.take i).foldl (fun f x=>addT f (fs.getD x.1 []) x.2) (evenF c n)).length=n+1∧(fs.getD x.1 []).length=n+1∧(∀ z∈(ts.take i).foldl (fun f x=>addT f (fs.getD x.1 []) x.2) (evenF c n),SmQ 6500 z)∧(∀ z∈fs.getD x.1 [],SmQ 6500 z∧SmQ 6500 (z*x.2))∧SmQ 6500 x.2
theorem terms_sm {gv:List (Nat×Nat)} {n:Nat} {g:Nat→Nat×Nat} {h:Nat×Nat} {fs:List (List Rat)} {c:Rat} {ts:List (Nat×Rat)} (ok:∀ k,1≤(gN gv k).2) (ho:GOk h) (go:∀ p,GOk (g p)) (hc:Zq (c*(h.1:Rat))) (hB:absQ c+tsum g ts≤(h.2:Rat))
  (hx:∀ x∈ts,(fs.getD x.1 []).length=n+1∧FG gv (g x.1).1 ((g x.1).2:Rat) (fs.getD x.1 [])∧Low (fs.getD x.1 []) gv.length∧∃ l:Int,x.2*(h.1:Rat)=(l:Rat)*((g x.1).1:Rat)):TermsOk c ts fs n∧FG gv h.1 (h.2:Rat) (termsF c ts fs n):=by
 have part:∀ i,FG gv h.1 (h.2:Rat) ((ts.take i).foldl (fun f x=>addT f (fs.getD x.1 []) x.2) (evenF c n)):=fun i=>by
  have a:=FG.fold (gv:=gv) (g:=g) (fs:=fs) (ts.take i) (evenF c n) (absQ c) (Q7 c n) (FG.even hc) fun x hm=>by
   obtain ⟨e1,e2,_,e4⟩:=hx x (List.mem_of_mem_take hm);exact ⟨e1,e2,e4⟩
  have b:=tsum_take g ts i;exact a.mono (by grind)
 have low:∀ i,Low ((ts.take i).foldl (fun f x=>addT f (fs.getD x.1 []) x.2) (evenF c n)) gv.length:=fun i=>low_terms (ts.take i) _ (Q7 c n) (low_even _ _ _) fun x hm=>by
  obtain ⟨e1,_,e3,_⟩:=hx x (List.mem_of_mem_take hm);exact ⟨e1,e3⟩
 refine ⟨fun i x e=>?_,by have:=part ts.length; rw [List.take_length] at this; exact this⟩;have hm:=A8 e;obtain ⟨e1,e2,e3,l,e4⟩:=hx x hm;have hz:∀ z∈fs.getD x.1 [],Gq (g x.1) z:=fun z hz=>by
  obtain ⟨k,rfl⟩:=mem_co hz;exact e2.all ok e3 k
 have hL:=tsum_mem (g:=g) hm;refine ⟨termsF_len (c:=c) (ts.take i) _ (Q7 c n) fun y hy=>(hx y (List.mem_of_mem_take hy)).1,e1,fun z hz=>?_,fun z hz'=>⟨(hz z hz').sm (go _),Gq.sm (g:=h) ⟨?_,?_⟩ ho⟩,Gq.sm (g:=h) ⟨?_,?_⟩ ho⟩
 ·obtain ⟨k,rfl⟩:=mem_co hz
  exact ((part i).all ok (low i) k).sm ho
 ·obtain ⟨a,ea⟩:=(hz z hz').1
  have:z*x.2*(h.1:Rat)=z*(x.2*(h.1:Rat)):=by grind
  rw [this,e4];have:z*((l:Rat)*((g x.1).1:Rat))=z*((g x.1).1:Rat)*(l:Rat):=by grind
  rw [this,ea];exact (Zq.int a).mul (Zq.int l)
 ·rw [abs_mul]
  have a:=le_mul (jx x.2) (hz z hz').2;have b:=jx c;grind
 ·rw [e4]
  exact (Zq.int l).mul (Zq.nat _)
 ·have a:=le_mul (jx x.2) (xK (go x.1).2.2.1)
  have o:((1:Nat):Rat)=1:=rfl;rw [o] at a;have b:=jx c;grind
def EndsOk (f:List Rat) (ws:List (Rat×Rat)):Prop:=∀ k,(k<ws.length→SmQ 6500 (co f (k+1))∧SmQ 6500 (ws.getD k (0,0)).1∧SmQ 6500 (ws.getD k (0,0)).2∧SmQ 6500 (co f (k+1)*(ws.getD k (0,0)).1)∧SmQ 6500 (co f (k+1)*(ws.getD k (0,0)).2))∧(k≤ws.length→SmQ 6500 (co f 0+sumF (fun k=>co f (k+1)*loW f ws k) k)∧SmQ 6500 (co f 0+sumF (fun k=>co f (k+1)*hiW f ws k) k))
theorem ends_sm {gv:List (Nat×Nat)} {h:Nat×Nat} {f:List Rat} {ws:List (Rat×Rat)} (el:ws.length=gv.length) (okv:∀ k,GOk (gN gv k)) (ho:GOk h) (a:FG gv h.1 (h.2:Rat) f) (lw:Low f gv.length) (hw:∀ k,k<ws.length→Gq (gN gv k) (ws.getD k (0,0)).1∧Gq (gN gv k) (ws.getD k (0,0)).2) :
  EndsOk f ws∧Gq h (hiS f ws):=by
 have nn:∀ k,k<gv.length→0≤absQ (co f (k+1))*((gN gv k).2:Rat):=fun k _=>mul_nn (jx _) (Qv _)
 have one:∀ k q,k<gv.length→Gq (gN gv k) q→Zq (co f (k+1)*q*(h.1:Rat))∧absQ (co f (k+1)*q)≤absQ (co f (k+1))*((gN gv k).2:Rat):=fun k q hk hq=>by
  refine ⟨?_,by rw [abs_mul]; exact le_mul (jx _) hq.2⟩;obtain ⟨n,e⟩:=a.2.1 k;have:co f (k+1)*q*(h.1:Rat)=q*(co f (k+1)*(h.1:Rat)):=by grind
  rw [this,e];have:q*((n:Rat)*((gN gv k).1:Rat))=q*((gN gv k).1:Rat)*(n:Rat):=by grind
  rw [this];exact hq.1.mul (Zq.int n)
 have all:∀ w:Nat→Rat,(∀ k,k<gv.length→Gq (gN gv k) (w k))→∀ i,i≤gv.length→Gq h (co f 0+sumF (fun k=>co f (k+1)*w k) i):=fun w hww i hi=>by
  refine ⟨?_,?_⟩
  ·rw [Rat.add_mul]
   exact a.1.add (sumF_Z fun k hk=>(one k _ (by omega) (hww k (by omega))).1)
  ·have b:=sumF_abs (n:=i) fun k hk=>(one k (w k) (by omega) (hww k (by omega))).2
   have c:=sumF_upto nn hi;have d:=abs_add (co f 0) (sumF (fun k=>co f (k+1)*w k) i);have e:=a.2.2;grind
 have lo:∀ k,k<gv.length→Gq (gN gv k) (loW f ws k):=fun k hk=>by
  unfold loW
  split
  ·exact (hw k (by omega)).2
  ·exact (hw k (by omega)).1
 have hi:∀ k,k<gv.length→Gq (gN gv k) (hiW f ws k):=fun k hk=>by
  unfold hiW
  split
  ·exact (hw k (by omega)).1
  ·exact (hw k (by omega)).2
 have prod:∀ k q,k<gv.length→Gq (gN gv k) q→SmQ 6500 (co f (k+1)*q):=fun k q hk hq=>by
  obtain ⟨z1,z2⟩:=one k q hk hq;refine Gq.sm (g:=h) ⟨z1,?_⟩ ho;have b:=sumF_at nn hk;have c:=jx (co f 0);have e:=a.2.2;grind
 refine ⟨fun k=>⟨fun hk=>?_,fun hk=>⟨(all _ lo k (by omega)).sm ho,(all _ hi k (by omega)).sm ho⟩⟩,?_⟩
 ·obtain ⟨w1,w2⟩:=hw k hk
  exact ⟨(a.all (fun k=>(okv k).2.2.1) lw (k+1)).sm ho,w1.sm (okv k),w2.sm (okv k),prod k _ (by omega) w1,prod k _ (by omega) w2⟩
 ·have:=all _ hi gv.length (Nat.le_refl _)
  unfold hiS;rw [el];exact this
structure GN (m:Nat) (us:List Un) (g:Nat→Nat×Nat):Prop where
 mono:∀ p q,p≤q→GLe (g p) (g q)
 ok:∀ p,GOk (g p)
 sum:∀ (k:Nat) (c:Rat) (ts:List (Nat×Rat)),us[k]?=some (.sum c ts)→Zq (c*((g (m+k)).1:Rat))∧(∀ x∈ts,∃ n:Int,x.2*((g (m+k)).1:Rat)=(n:Rat)*((g x.1).1:Rat))∧absQ c+tsum g ts≤((g (m+k)).2:Rat)
theorem GN.left {m:Nat} {us:List Un} {u:Un} {g:Nat→Nat×Nat} (h:GN m (us++[u]) g):GN m us g :=
 ⟨h.mono,h.ok,fun k c ts e=>h.sum k c ts (by rw [List.getElem?_append_left (A1.mp e).1]; exact e)⟩
theorem GN.take {m:Nat} {us:List Un} {g:Nat→Nat×Nat} (h:GN m us g) (i:Nat):GN m (us.take i) g :=
 ⟨h.mono,h.ok,fun k c ts e=>h.sum k c ts (by
  have hk:k<i:=by
   have:=(A1.mp e).1;rw [Ak] at this;omega
  rwa [A2 hk] at e)⟩
theorem WfN.take {m:Nat} {us:List Un} (h:WfN m us) (i:Nat):WfN m (us.take i):=fun k u e=>h k u (by
 have hk:k<i:=by
  have:=(A1.mp e).1;rw [Ak] at this;omega
 rwa [A2 hk] at e)
theorem Gq.bent {g:Nat×Nat} {q:Rat} (h:Gq g q):Gq g (bentQ q):=by
 unfold bentQ
 split
 ·exact h
 ·exact Gq.zero g
structure SkG (m:Nat) (g:Nat→Nat×Nat) (n:Nat) (st:List (List Rat)×Sk) (gv:List (Nat×Nat)):Prop where
 len:gv.length=m+st.2.bs.length
 ins:∀ k,k<m→gN gv k=g k
 frm:∀ k,k<gv.length→∃ p,p<m+n∧gN gv k=g p
 chain:∀ i j,i≤j→j<gv.length→GLe (gN gv i) (gN gv j)
 fo:∀ p,p<m+n→FG gv (g p).1 ((g p).2:Rat) (st.1.getD p [])
 bs:∀ (j:Nat) (f:List Rat),st.2.bs[j]?=some f→FG gv (gN gv (m+j)).1 ((gN gv (m+j)).2:Rat) f
 ws:∀ k,k<st.2.ws.length→Gq (gN gv k) (st.2.ws.getD k (0,0)).1∧Gq (gN gv k) (st.2.ws.getD k (0,0)).2
theorem gok_one:GOk (1,1):=⟨Nat.le_refl _,Nat.one_lt_two_pow (by decide),Nat.le_refl _,Nat.one_lt_two_pow (by decide)⟩
theorem SkG.ok {m:Nat} {g:Nat→Nat×Nat} {n:Nat} {st:List (List Rat)×Sk} {gv:List (Nat×Nat)} (h:SkG m g n st gv) (go:∀ p,GOk (g p)) (k:Nat):GOk (gN gv k):=by
 by_cases c:k<gv.length
 ·obtain ⟨p,_,e⟩:=h.frm k c
  rw [e]; exact go p
 ·have:gN gv k=(1,1):=by
   have e:gv[k]?=none:=List.getElem?_eq_none (by omega)
   simp [gN,List.getD,e]
  rw [this];exact gok_one
def UnitOk (tot:Nat) (st:List (List Rat)×Sk):Un→Prop
 | .sum c ts=>TermsOk c ts st.1 tot
 | .bend p=>EndsOk (st.1.getD p []) st.2.ws
def OutOk (m tot:Nat) (ss:List (Rat×Rat)) (us:List Un):Prop:=∀ (i:Nat) (u:Un),us[i]?=some u→UnitOk tot (outN m tot ss (us.take i)) u
theorem xj {α:Type} {xs:List α} {x y:α} {i:Nat} (h:(xs++[x])[i]?=some y):(i<xs.length∧xs[i]?=some y)∨(i=xs.length∧x=y):=by
 by_cases c:i<xs.length
 ·rw [List.getElem?_append_left c] at h; exact .inl ⟨c,h⟩
 ·have hi:=(A1.mp h).1
  rw [Ad,A6] at hi;have ei:i=xs.length:=by omega
  subst ei;rw [A0 (Nat.le_refl _),Nat.sub_self] at h;exact .inr ⟨rfl,by simpa using h⟩
theorem outN_G {m tot:Nat} {g:Nat→Nat×Nat} {ss:List (Rat×Rat)} (hm:ss.length=m) (gs:∀ k,k<m→Gq (g k) (ss.getD k (0,0)).1∧Gq (g k) (ss.getD k (0,0)).2):∀ us:List Un,WfN m us→m+(us.filter isB).length≤tot→GN m us g→(∃ gv,SkG m g us.length (outN m tot ss us) gv)∧OutOk m tot ss us :=
 vj (fun _ _ G=>by
   refine ⟨⟨(List.range m).map g,?_⟩,fun i u h=>wZ h⟩;have gn:∀ k,k<m→gN ((List.range m).map g) k=g k:=fun k hk=>zJ _ (by rw [List.getElem?_map,List.getElem?_range hk]; rfl)
   have lg:((List.range m).map g).length=m:=by rw [Al,Aj]
   refine ⟨lg,gn,fun k hk=>⟨k,by rw [lg] at hk; exact hk,gn k (by omega)⟩,fun i j hi hj=>by rw [gn i (by omega),gn j (by omega)]; exact G.mono i j hi,fun p hp=>?_,fun j f h=>wZ h,fun k hk=>?_⟩
   ·have hp:p<m:=hp
    show FG _ _ _ (((List.range m).map (fun k=>loneF k tot)).getD p []);rw [zJ (x:=loneF p tot) _ (by rw [List.getElem?_map,List.getElem?_range hp]; rfl),← gn p hp];exact FG.lone (by omega) (Nat.dvd_refl _)
   ·have hk:k<m:=by rw [← hm]; exact hk
    rw [gn k hk];exact gs k hk) fun us u ih wf ht G=>by
  obtain ⟨wf1,wfu⟩:=wf.left;rw [List.filter_append,Ad] at ht;obtain ⟨⟨gv,I⟩,ok⟩:=ih wf1 (by omega) G.left;have O:=Q3 hm us wf1 (tot:=tot) (by omega);have okv:=I.ok G.ok;have okS:∀ (hu:UnitOk tot (outN m tot ss us) u),OutOk m tot ss (us++[u]):=fun hu i v e=>by
   rcases xj e with ⟨h1,h2⟩ | ⟨h1,h2⟩
   ·rw [List.take_append_of_le_length (by omega)]
    exact ok i v h2
   ·subst h1 h2
    rw [List.take_append_of_le_length (Nat.le_refl _),List.take_length];exact hu
  rw [Zw];generalize outN m tot ss us=st at *;have lst:=O.len;have il:=I.len;have low:∀ p,p<m+us.length→Low (st.1.getD p []) gv.length:=fun p hp=>by
   rw [il];exact (O.fo _ (in_at [] (by rw [lst]; exact hp))).2
  have lnn:(us++[u]).length=us.length+1:=by rw [Ad]; rfl
  have keep:∀ f,FG gv (g (m+us.length)).1 ((g (m+us.length)).2:Rat) f→SkG m g (us++[u]).length (st.1++[f],st.2) gv:=fun f hf=>by
   refine ⟨I.len,I.ins,fun k hk=>?_,I.chain,fun p hp=>?_,I.bs,I.ws⟩
   ·obtain ⟨p,hp,e⟩:=I.frm k hk
    exact ⟨p,by omega,e⟩
   ·show FG _ _ _ ((st.1++[f]).getD p [])
    rw [jk,lst]
    by_cases c:p<m+us.length
    ·rw [if_pos c]; exact I.fo p c
    ·rw [if_neg c,if_pos (by omega),show p=m+us.length by omega]; exact hf
  cases u with
  | sum c ts =>
   obtain ⟨a1,a2,a3⟩:=G.sum us.length c ts (by rw [A0 (Nat.le_refl _),Nat.sub_self]; rfl);obtain ⟨b1,b2⟩:=terms_sm (n:=tot) (fs:=st.1) (fun k=>(okv k).2.2.1) (G.ok _) G.ok a1 a3 fun x hx=>⟨(O.fo _ (in_at [] (by rw [lst]; exact wfu.1 x hx))).1,I.fo _ (wfu.1 x hx),low _ (wfu.1 x hx),a2 x hx⟩
   exact ⟨⟨gv,keep _ b2⟩,okS b1⟩
  | bend p =>
   have hp:p<m+us.length:=wfu;have fp:=I.fo p hp;have lep:=G.mono p (m+us.length) (by omega);have wl:st.2.ws.length=gv.length:=by rw [O.sk.len,il]
   obtain ⟨e1,e2⟩:=ends_sm wl okv (G.ok p) fp (low p hp) I.ws;have fq:FG gv (g (m+us.length)).1 ((g (m+us.length)).2:Rat) (st.1.getD p []):=(fp.up lep.1).mono (xK lep.2);refine ⟨?_,okS e1⟩;have up:∀ k,k<gv.length→GLe (gN gv k) (g (m+us.length)):=fun k hk=>by
    obtain ⟨r,hr,e⟩:=I.frm k hk;rw [e];exact G.mono _ _ (by omega)
   show ∃ gv,SkG m g _ (st.1++[(bendF m tot st.2 (st.1.getD p [])).1],(bendF m tot st.2 (st.1.getD p [])).2) gv;unfold bendF
   by_cases c1:loS (st.1.getD p []) st.2.ws<0
   ·rw [if_pos c1]
    by_cases c2:0<hiS (st.1.getD p []) st.2.ws
    ·rw [if_pos c2]
     cases hq:posF st.2.bs (st.1.getD p []) m with
     | some r =>
      obtain ⟨h1,h2⟩:=posF_some hq;have hlt:=(A1.mp h2).1;have lr:=up r (by omega);exact ⟨gv,keep _ ((FG.lone (n:=tot) (by omega) lr.1).mono (xK lr.2))⟩
     | none =>
      have gnk:∀ k,k<gv.length→gN (gv++[g (m+us.length)]) k=gN gv k:=fun k hk=>by rw [gN_snoc,if_pos hk]
      have gnl:gN (gv++[g (m+us.length)]) gv.length=g (m+us.length):=by rw [gN_snoc,if_neg (Nat.lt_irrefl _),if_pos rfl]
      have l1:(gv++[g (m+us.length)]).length=gv.length+1:=by rw [Ad]; rfl
      refine ⟨gv++[g (m+us.length)],?_,fun k hk=>?_,fun k hk=>?_,fun i j hi hj=>?_,fun r hr=>?_,fun j f hf=>?_,fun k hk=>?_⟩
      ·show _=m+(st.2.bs++[_]).length
       rw [l1,il,Ad]; rfl
      ·rw [gnk k (by omega)]; exact I.ins k hk
      ·by_cases c:k<gv.length
       ·obtain ⟨r,hr,e⟩:=I.frm k c
        exact ⟨r,by omega,by rw [gnk k c]; exact e⟩
       ·exact ⟨m+us.length,by omega,by rw [show k=gv.length by omega]; exact gnl⟩
      ·by_cases c:j<gv.length
       ·rw [gnk i (by omega),gnk j c]; exact I.chain i j hi c
       ·rw [show j=gv.length by omega,gnl]
        by_cases d:i<gv.length
        ·rw [gnk i d]; exact up i d
        ·rw [show i=gv.length by omega,gnl]; exact GLe.refl _
      ·show FG _ _ _ ((st.1++[loneF (m+st.2.bs.length) tot]).getD r [])
       rw [jk,lst]
       by_cases c:r<m+us.length
       ·rw [if_pos c]; exact (I.fo r c).ext (low r c)
       ·rw [if_neg c,if_pos (by omega),show r=m+us.length by omega,← il]
        have z:=FG.lone (gv:=gv++[g (m+us.length)]) (S:=(g (m+us.length)).1) (i:=gv.length) (n:=tot) (by omega) (by rw [gnl]; exact Nat.dvd_refl _);rw [gnl] at z;exact z
      ·change (st.2.bs++[_])[j]?=some f at hf
       rcases xj hf with ⟨h1,h2⟩ | ⟨h1,h2⟩
       ·rw [gnk (m+j) (by omega)]
        exact (I.bs j f h2).ext (by rw [il]; exact (O.sk.ok j f h2).2.mono (by omega))
       ·subst h1 h2
        rw [← il,gnl];exact fq.ext (low p hp)
      ·change k<(st.2.ws++[_]).length at hk
       rw [Ad,A6] at hk;show Gq _ ((st.2.ws++[(0,hiS (st.1.getD p []) st.2.ws)]).getD k (0,0)).1∧Gq _ ((st.2.ws++[(0,hiS (st.1.getD p []) st.2.ws)]).getD k (0,0)).2;rw [jk]
       by_cases c:k<st.2.ws.length
       ·rw [if_pos c,gnk k (by omega)]; exact I.ws k c
       ·rw [if_neg c,if_pos (by omega),show k=gv.length by omega,gnl]
        exact ⟨Gq.zero _,e2.up lep⟩
    ·rw [if_neg c2]
     refine ⟨gv,keep _ ((FG.even (n:=tot) (c:=0) (by rw [Rat.zero_mul]; exact Zq.zero)).mono ?_)⟩;rw [x8];exact Qv _
   ·rw [if_neg c1]
    exact ⟨gv,keep _ fq⟩
theorem tsum_eq {g h:Nat→Nat×Nat}:∀ {ts:List (Nat×Rat)},(∀ x∈ts,g x.1=h x.1)→tsum g ts=tsum h ts
 | [],_=>rfl
 | x::ts,e=>by
  show absQ x.2*((g x.1).2:Rat)+tsum g ts=absQ x.2*((h x.1).2:Rat)+tsum h ts;rw [e x Af,tsum_eq fun y hy=>e y (A9 _ hy)]
structure DrG (m:Nat) (gv:List (Nat×Nat)) (d:Dr) (gl:List (Nat×Nat)):Prop where
 len:gl.length=m+d.us.length
 pl:∀ y∈d.pl,gN gl y.2=gN gv y.1
 chain:∀ i j,i≤j→j<gl.length→GLe (gN gl i) (gN gl j)
 ok:∀ k,k<gl.length→GOk (gN gl k)
 ins:∀ k,k<m→gN gl k=gN gv k
 sum:∀ (k:Nat) (c:Rat) (ts:List (Nat×Rat)),d.us[k]?=some (.sum c ts)→Zq (c*((gN gl (m+k)).1:Rat))∧(∀ x∈ts,x.1<m+k∧∃ n:Int,x.2*((gN gl (m+k)).1:Rat)=(n:Rat)*((gN gl x.1).1:Rat))∧absQ c+tsum (gN gl) ts≤((gN gl (m+k)).2:Rat)
theorem termsD_tsum {pl:List (Nat×Nat)} {gl gv:List (Nat×Nat)} (pv:∀ y∈pl,gN gl y.2=gN gv y.1):∀ {r:List Rat} {k:Nat},(∀ i,r.getD i 0≠0→k+i∈pl.map (·.1))→tsum (gN gl) (zq pl r k)=sumF (fun i=>absQ (r.getD i 0)*((gN gv (k+i)).2:Rat)) r.length
 | [],_,_=>rfl
 | s::r,k,h=>by
  have hr:∀ i,r.getD i 0≠0→(k+1)+i∈pl.map (·.1):=fun i hi=>by
   have:=h (i+1) hi
   rwa [show k+(i+1)=k+1+i by omega] at this
  have e1:sumF (fun i=>absQ ((s::r).getD i 0)*((gN gv (k+i)).2:Rat)) (s::r).length=absQ s*((gN gv k).2:Rat)+sumF (fun i=>absQ (r.getD i 0)*((gN gv (k+1+i)).2:Rat)) r.length:=by
   rw [List.length_cons,ZQ];show absQ s*((gN gv (k+0)).2:Rat)+_=_
   congr 1
   exact jK fun i _=>by show absQ (r.getD i 0)*((gN gv (k+(i+1))).2:Rat)=_; rw [show k+(i+1)=k+1+i by omega]
  rw [e1,← termsD_tsum pv hr]
  conv=>lhs; unfold zq
  by_cases z:s=0
  ·rw [if_pos z,z,x8]; grind
  ·rw [if_neg z]
   obtain ⟨p,ep,hp⟩:=kY (h 0 z);have ep:plV pl k=some p:=ep;have e2:=pv _ hp;rw [ep];show absQ s*((gN gl p).2:Rat)+_=_;rw [e2];rfl
theorem DrG.more {m:Nat} {gv gl:List (Nat×Nat)} {d:Dr} {h:Nat×Nat} {u:Un} {pl:List (Nat×Nat)} {sm:List ((Rat×List (Nat×Rat))×Nat)} (G:DrG m gv d gl) (wf:WfN m d.us) (lt:∀ y∈d.pl,y.2<m+d.us.length) (ho:GOk h) (top:∀ k,k<gl.length→GLe (gN gl k) h) (hp:∀ y∈pl,y∈d.pl∨(y.2=m+d.us.length∧gN gv y.1=h))
  (hu:∀ c ts,u=.sum c ts→Zq (c*(h.1:Rat))∧(∀ x∈ts,x.1<m+d.us.length∧∃ n:Int,x.2*(h.1:Rat)=(n:Rat)*((gN gl x.1).1:Rat))∧absQ c+tsum (gN gl) ts≤(h.2:Rat)) :
  DrG m gv ⟨d.us++[u],pl,sm⟩ (gl++[h])∧∀ k,k<(gl++[h]).length→GLe (gN (gl++[h]) k) h:=by
 have gl0:=G.len;have gk:∀ k,k<gl.length→gN (gl++[h]) k=gN gl k:=fun k hk=>by rw [gN_snoc,if_pos hk]
 have ge:gN (gl++[h]) gl.length=h:=by rw [gN_snoc,if_neg (Nat.lt_irrefl _),if_pos rfl]
 have l1:(gl++[h]).length=gl.length+1:=by rw [Ad]; rfl
 refine ⟨⟨?_,fun y hy=>?_,fun i j hi hj=>?_,fun k hk=>?_,fun k hk=>?_,fun k c ts e=>?_⟩,fun k hk=>?_⟩
 ·show _=m+(d.us++[u]).length
  rw [l1,Ad,gl0]; rfl
 ·rcases hp y hy with z | ⟨z1,z2⟩
  ·have:=lt y z
   rw [gk y.2 (by omega)]; exact G.pl y z
  ·rw [z1,z2,← gl0]; exact ge
 ·by_cases c:j<gl.length
  ·rw [gk i (by omega),gk j c]; exact G.chain i j hi c
  ·rw [show j=gl.length by omega,ge]
   by_cases d:i<gl.length
   ·rw [gk i d]; exact top i d
   ·rw [show i=gl.length by omega,ge]; exact GLe.refl _
 ·by_cases c:k<gl.length
  ·rw [gk k c]; exact G.ok k c
  ·rw [show k=gl.length by omega,ge]; exact ho
 ·rw [gk k (by omega)]; exact G.ins k hk
 ·rcases xj e with ⟨h1,h2⟩ | ⟨h1,h2⟩
  ·obtain ⟨a1,a2,a3⟩:=G.sum k c ts h2
   rw [gk (m+k) (by omega)];refine ⟨a1,fun x hx=>⟨(a2 x hx).1,?_⟩,?_⟩
   ·rw [gk x.1 (by have:=(a2 x hx).1; omega)]; exact (a2 x hx).2
   ·rw [tsum_eq (h:=gN gl) fun x hx=>gk x.1 (by have:=(a2 x hx).1; omega)]; exact a3
  ·obtain ⟨a1,a2,a3⟩:=hu c ts h2
   rw [show m+k=gl.length by omega,ge];refine ⟨a1,fun x hx=>⟨by have:=(a2 x hx).1; omega,?_⟩,?_⟩
   ·rw [gk x.1 (by have:=(a2 x hx).1; omega)]; exact (a2 x hx).2
   ·rw [tsum_eq (h:=gN gl) fun x hx=>gk x.1 (by have:=(a2 x hx).1; omega)]; exact a3
 ·by_cases c:k<gl.length
  ·rw [gk k c]; exact top k c
  ·rw [show k=gl.length by omega,ge]; exact GLe.refl _
theorem seatG {m tot:Nat} {ss:List (Rat×Rat)} {bs:List (List Rat)} {R:List Nat} {d:Dr} {gv gl:List (Nat×Nat)} {h:Nat×Nat} (I:DrI m ss bs R d) (G:DrG m gv d gl) (ho:GOk h) (top:∀ k,k<gl.length→GLe (gN gl k) h) {f:List Rat} (hl:f.length=tot+1) (gt:gv.length≤tot) (lw:Low f gv.length) (fg:FG gv h.1 (h.2:Rat) f) (hn:∀ k,co f (k+1)≠0→k∈d.pl.map (·.1)) :
  ∃ gl',DrG m gv (seatF m d f).2 gl'∧∀ k,k<gl'.length→GLe (gN gl' k) h:=by
 have hn':∀ i,f.tail.getD i 0≠0→0+i∈d.pl.map (·.1):=fun i hi=>by rw [Nat.zero_add]; exact hn i (by rwa [yW] at hi)
 unfold seatF
 split
 ·exact ⟨gl,G,top⟩
 ·split
  ·exact ⟨gl,G,top⟩
  ·refine ⟨gl++[h],G.more I.wf I.lt ho top (fun y hy=>.inl hy) fun c ts e=>?_⟩
   cases e
   refine ⟨fg.1,fun x hx=>?_,?_⟩
   ·obtain ⟨_,i,h1,h2⟩:=vx hn' x hx
    refine ⟨I.lt _ h2,?_⟩;rw [G.pl _ h2];obtain ⟨n,e⟩:=fg.2.1 i;refine ⟨n,?_⟩;rw [← h1,yW,e,Nat.zero_add]
   ·rw [termsD_tsum G.pl hn',List.length_tail,hl]
    have z:=fg.2.2;rw [jK (h:=fun k=>absQ (co f (k+1))*((gN gv k).2:Rat)) fun k _=>by rw [yW,Nat.zero_add],sumF_more (n:=gv.length) (m:=tot+1 - 1) (by omega) fun k hk _=>by rw [lw k hk,x8,Rat.zero_mul]];exact z
theorem drawG {m tot:Nat} {ss:List (Rat×Rat)} {bs:List (List Rat)} {gv:List (Nat×Nat)} (hm:ss.length=m) (hb:m+bs.length≤tot) (ht:tot≤99) (ok:∀ (j:Nat) (f:List Rat),bs[j]?=some f→f.length=tot+1∧Low f (m+j)) (gvl:gv.length=m+bs.length) (gok:∀ k,GOk (gN gv k)) (chain:∀ i j,i≤j→j<gv.length→GLe (gN gv i) (gN gv j))
  (fg:∀ (j:Nat) (f:List Rat),bs[j]?=some f→FG gv (gN gv (m+j)).1 ((gN gv (m+j)).2:Rat) f) :
  ∀ R:List Nat,R.Pairwise (·<·)→(∀ j∈R,j<bs.length)→(∀ i∈R,∀ j,j<i→co (bs.getD i []) (m+j+1)≠0→j∈R)→∃ gl,DrG m gv (drawF m bs R) gl∧∀ k,k<gl.length→∃ i,i<gv.length∧(∀ j,j<bs.length→(∀ r∈R,r<j)→i≤m+j)∧GLe (gN gl k) (gN gv i) :=
 vj (fun _ _ _=>by
   refine ⟨(List.range m).map (gN gv),?_⟩;have gn:∀ k,k<m→gN ((List.range m).map (gN gv)) k=gN gv k:=fun k hk=>zJ _ (by rw [List.getElem?_map,List.getElem?_range hk]; rfl)
   have lg:((List.range m).map (gN gv)).length=m:=by rw [Al,Aj]
   refine ⟨⟨lg,fun y hy=>?_,fun i j hi hj=>by rw [gn i (by omega),gn j (by omega)]; exact chain i j hi (by omega),fun k hk=>by rw [gn k (by omega)]; exact gok k,gn,fun k c ts e=>wZ e⟩,fun k hk=>⟨k,by omega,fun j _ _=>by omega,by rw [gn k (by omega)]; exact GLe.refl _⟩⟩;obtain ⟨k,hk,rfl⟩:=List.mem_map.mp hy;exact gn k (List.mem_range.mp hk)) fun R j ih up lt nd=>by
  obtain ⟨u1,_,u2⟩:=List.pairwise_append.mp up;have below:∀ i∈R,i<j:=fun i hi=>u2 i hi j (Ae.mpr rfl)
  have back:∀ i,i∈R++[j]→i≠j→i∈R:=fun i hi hn=>(Am.mp hi).elim id fun k=>absurd (Ae.mp k) hn
  have lt1:∀ i∈R,i<bs.length:=fun i hi=>lt i (Am.mpr (.inl hi))
  have nd1:∀ i∈R,∀ k,k<i→co (bs.getD i []) (m+k+1)≠0→k∈R:=fun i hi k hk hc=>back k (nd i (Am.mpr (.inl hi)) k hk hc) (by have:=below i hi; omega)
  obtain ⟨gl,G,tp⟩:=ih u1 lt1 nd1;obtain ⟨I,_⟩:=Qy hm hb ht ok R u1 lt1 nd1;have hj:=lt j (Am.mpr (.inr (Ae.mpr rfl)));have ej:bs[j]?=some bs[j]:=A4 hj;have eg:bs.getD j []=bs[j]:=zJ _ ej;have top:∀ k,k<gl.length→GLe (gN gl k) (gN gv (m+j)):=fun k hk=>by
   obtain ⟨i,h1,h2,h3⟩:=tp k hk;exact h3.trans (chain _ _ (h2 j hj below) (by omega))
  obtain ⟨hl,lw⟩:=ok j _ ej;rw [← eg] at hl lw;have hk:∀ k,co (bs.getD j []) (k+1)≠0→k∈(drawF m bs R).pl.map (·.1):=fun k hc=>by
   rw [I.keys]
   by_cases c:k<m
   ·exact Am.mpr (.inl (List.mem_range.mpr c))
   ·have:k<m+j:=Nat.lt_of_not_le fun z=>hc (lw k z)
    refine Am.mpr (.inr (List.mem_map.mpr ⟨k - m,back _ (nd j (Am.mpr (.inr (Ae.mpr rfl))) (k - m) (by omega) ?_) (by omega),by omega⟩))
    rwa [show m+(k - m)=k by omega]
  have fj:=fg j _ ej;rw [← eg] at fj;rw [Y5];obtain ⟨J,s1,s2,s3,s4,_⟩:=Zk hm I hb ht hl (lw.mono (by omega)) hk;obtain ⟨gl1,G1,top1⟩:=seatG I G (gok (m+j)) top hl (by omega) (lw.mono (by omega)) fj hk;unfold putB;generalize seatF m (drawF m bs R) (bs.getD j [])=r at *;obtain ⟨G2,top2⟩:=G1.more (u:=.bend r.1) (pl:=r.2.pl++[(m+j,m+r.2.us.length)]) (sm:=r.2.sm) J.wf J.lt (gok (m+j)) top1 (fun y hy=>(Am.mp hy).elim .inl fun k=>.inr (by rw [Ae.mp k]; exact ⟨rfl,rfl⟩)) fun c ts e=>nomatch e
  exact ⟨_,G2,fun k hk=>⟨m+j,by omega,fun i _ h2=>by have:=h2 j (Am.mpr (.inr (Ae.mpr rfl))); omega,top2 k hk⟩⟩
theorem seatsG {m tot:Nat} {ss:List (Rat×Rat)} {bs:List (List Rat)} {R:List Nat} {d:Dr} {gv gl:List (Nat×Nat)} {h:Nat×Nat} (hm:ss.length=m) (I:DrI m ss bs R d) (hb:m+bs.length≤tot) (ht:tot≤99) (G:DrG m gv d gl) (ho:GOk h) (top:∀ k,k<gl.length→GLe (gN gl k) h) (gvl:gv.length=m+bs.length) :
  ∀ fs:List (List Rat),(∀ f∈fs,f.length=tot+1∧Low f (m+bs.length)∧FG gv h.1 (h.2:Rat) f∧∀ k,co f (k+1)≠0→k∈d.pl.map (·.1))→∃ gl',DrG m gv (yQ m d fs).2 gl'∧∀ k,k<gl'.length→GLe (gN gl' k) h :=
 vj (fun _=>⟨gl,G,top⟩) fun fs f ih hf=>by
  obtain ⟨gl1,G1,t1⟩:=ih fun g hg=>hf g (Am.mpr (.inl hg))
  obtain ⟨J,p1,_⟩:=Q5 hm I hb ht fs fun g hg=>by
   obtain ⟨a,b,_,c⟩:=hf g (Am.mpr (.inl hg));exact ⟨a,b,c⟩
  obtain ⟨hl,lw,fg,hn⟩:=hf f (Am.mpr (.inr (Ae.mpr rfl)));rw [QJ];exact seatG J G1 ho t1 hl (by omega) (by rw [gvl]; exact lw) fg (by rw [p1]; exact hn)
theorem small_G {m:Nat} {us:List Un} {outs:List Nat} {ss:List (Rat×Rat)} {g:Nat→Nat×Nat} (hm:ss.length=m) (wf:WfN m us) (ol:∀ o∈outs,o<m+us.length) (ht:totF m us≤99) (G:GN m us g) (gs:∀ k,k<m→Gq (g k) (ss.getD k (0,0)).1∧Gq (g k) (ss.getD k (0,0)).2) :
  OutOk m (totF m us) ss us∧∃ g',GN m (jV m us outs ss).2.us g'∧∀ k,k<m→g' k=g k:=by
 obtain ⟨⟨gv,S⟩,ok⟩:=outN_G (tot:=totF m us) hm gs us wf (Nat.le_refl _) G;refine ⟨ok,?_⟩;have O:=Q3 (tot:=totF m us) hm us wf (Nat.le_refl _);have hb:m+(bsF m us ss).length≤totF m us:=O.sk.fit;have gok:=S.ok G.ok;have gvl:gv.length=m+(bsF m us ss).length:=S.len;have fo:∀ f∈outsF m us outs ss,f.length=totF m us+1∧Low f (m+(bsF m us ss).length):=fun f hf=>by
  obtain ⟨o,ho,rfl⟩:=List.mem_map.mp hf;exact O.fo _ (in_at [] (by rw [O.len]; exact ol o ho))
 obtain ⟨n1,n2,n3,n4⟩:=xQ (m:=m) (bs:=bsF m us ss) (bsF m us ss).length (outsF m us outs ss);obtain ⟨I,_⟩:=Qy hm hb ht O.sk.ok _ n1 n2 n4;obtain ⟨gl,DG,tp⟩:=drawG hm hb ht O.sk.ok gvl gok S.chain S.bs _ n1 n2 n4;have top:∀ k,k<gl.length→GLe (gN gl k) (g (m+us.length)):=fun k hk=>by
  obtain ⟨i,h1,_,h3⟩:=tp k hk;obtain ⟨p,hp,e⟩:=S.frm i h1;rw [e] at h3;exact h3.trans (G.mono _ _ (by omega))
 have hn:∀ f∈outsF m us outs ss,∀ k,co f (k+1)≠0→k∈(drawF m (bsF m us ss) (needD m (bsF m us ss) (bsF m us ss).length (outsF m us outs ss))).pl.map (·.1):=fun f hf k hc=>by
  rw [I.keys]
  by_cases c:k<m
  ·exact Am.mpr (.inl (List.mem_range.mpr c))
  ·have:k<m+(bsF m us ss).length:=Nat.lt_of_not_le fun z=>hc ((fo f hf).2 k z)
   refine Am.mpr (.inr (List.mem_map.mpr ⟨k - m,n3 f hf (k - m) (by omega) ?_,by omega⟩))
   rwa [show m+(k - m)=k by omega]
 obtain ⟨gl',G',top'⟩:=seatsG hm I hb ht DG (G.ok _) top gvl (outsF m us outs ss) fun f hf=>by
  refine ⟨(fo f hf).1,(fo f hf).2,?_,hn f hf⟩;obtain ⟨o,ho,rfl⟩:=List.mem_map.mp hf;have l:=G.mono o (m+us.length) (Nat.le_of_lt (ol o ho));exact ((S.fo o (ol o ho)).up l.1).mono (xK l.2)
 obtain ⟨J,_⟩:=Q5 hm I hb ht (outsF m us outs ss) fun f hf=>⟨(fo f hf).1,(fo f hf).2,hn f hf⟩
 have le':=G'.len;refine ⟨fun p=>if p<gl'.length then gN gl' p else g (m+us.length),⟨fun p q hpq=>?_,fun p=>?_,fun k c ts e=>?_⟩,fun k hk=>?_⟩
 ·try dsimp only
  by_cases c:q<gl'.length
  ·rw [if_pos c,if_pos (show p<gl'.length by omega)]; exact G'.chain p q hpq c
  ·rw [if_neg c]
   by_cases d:p<gl'.length
   ·rw [if_pos d]; exact top' p d
   ·rw [if_neg d]; exact GLe.refl _
 ·try dsimp only
  by_cases c:p<gl'.length
  ·rw [if_pos c]; exact G'.ok p c
  ·rw [if_neg c]; exact G.ok _
 ·obtain ⟨a1,a2,a3⟩:=G'.sum k c ts e
  have hk:=(A1.mp e).1;have hk:k<(yQ m (drawF m (bsF m us ss) (needD m (bsF m us ss) (bsF m us ss).length (outsF m us outs ss))) (outsF m us outs ss)).2.us.length:=hk
  try dsimp only
  have tx:∀ x∈ts,(if x.1<gl'.length then gN gl' x.1 else g (m+us.length))=gN gl' x.1:=fun x hx=>if_pos (by have:=(a2 x hx).1; omega)
  rw [if_pos (show m+k<gl'.length by omega)];refine ⟨a1,fun x hx=>by rw [tx x hx]; exact (a2 x hx).2,?_⟩;rw [tsum_eq (h:=gN gl') tx];exact a3
 ·try dsimp only
  rw [if_pos (by omega),G'.ins k hk];exact S.ins k hk
def g0 (m p:Nat):Nat×Nat:=if p<m then (D0^2,2^70) else (D0^(3+min (p - m) 24),2^(136+66*min (p - m) 24))
theorem d0_lt {e:Nat} (h:e≤27):1≤D0^e∧D0^e<2^1990:=by
 refine ⟨Nat.pow_pos (by decide),?_⟩;have a:D0^e≤(2^37)^e:=Nat.pow_le_pow_left (by decide) e;rw [← Nat.pow_mul] at a;exact Nat.lt_of_le_of_lt a (Nat.pow_lt_pow_right (by decide) (by omega))
theorem two_lt {e:Nat} (h:e<1990):1≤2^e∧2^e<2^1990:=⟨Nat.pow_pos (by decide),Nat.pow_lt_pow_right (by decide) h⟩
theorem g0_ok (m p:Nat):GOk (g0 m p):=by
 unfold g0
 split
 ·exact ⟨(d0_lt (by decide)).1,(d0_lt (by decide)).2,(two_lt (by decide)).1,(two_lt (by decide)).2⟩
 ·exact ⟨(d0_lt (by omega)).1,(d0_lt (by omega)).2,(two_lt (by omega)).1,(two_lt (by omega)).2⟩
theorem g0_le {m p q:Nat} (h:p≤q):GLe (g0 m p) (g0 m q):=by
 unfold g0
 by_cases c:q<m
 ·rw [if_pos c,if_pos (by omega)]; exact GLe.refl _
 ·rw [if_neg c]
  by_cases d:p<m
  ·rw [if_pos d]
   exact ⟨Nat.pow_dvd_pow _ (by omega),Ac (by decide) (by omega)⟩
  ·rw [if_neg d]
   exact ⟨Nat.pow_dvd_pow _ (by omega),Ac (by decide) (by omega)⟩
theorem zq_of {q:Rat} {N:Nat} (h:q.den∣N):Zq (q*(N:Rat)):=by
 obtain ⟨c,rfl⟩:=h;rw [Rat.natCast_mul,← Rat.mul_assoc,num_of];exact (Zq.int _).mul (Zq.nat c)
theorem abs_of {q:Rat} {N:Nat} (h:q.num.natAbs≤N*q.den):absQ q≤(N:Rat):=by
 have a:=absQ_num q;have b:absQ q*((absQ q).den:Rat)=((absQ q).num:Rat):=num_of _;rw [a.2,a.1] at b;have c:(if q.num<0 then -q.num else q.num)=(q.num.natAbs:Int):=by split <;> omega
 rw [c] at b;have d:((q.num.natAbs:Nat):Rat)≤(N:Rat)*(q.den:Rat):=by rw [← Rat.natCast_mul]; exact xK h
 have e:absQ q*(q.den:Rat)≤(N:Rat)*(q.den:Rat):=by rw [b]; exact d
 have f:(0:Rat)<(q.den:Rat):=by
  have:=xK (show 1≤q.den from q.den_pos);have o:((1:Nat):Rat)=1:=rfl;rw [o] at this;grind
 exact Rat.le_of_mul_le_mul_right e f
theorem Bq.gq {d b:Nat} {q:Rat} (h:Bq d b q) {g:Nat×Nat} (hd:D0^d∣g.1) (hb:2^b≤g.2):Gq g q:=⟨zq_of (Nat.dvd_trans h.1 hd),Rat.le_trans (abs_of h.2) (xK hb)⟩
theorem tsum_le {g:Nat→Nat×Nat} {A L:Nat}:∀ {ts:List (Nat×Rat)},(∀ x∈ts,absQ x.2≤(A:Rat)∧(g x.1).2≤L)→tsum g ts≤((ts.length*(A*L):Nat):Rat)
 | [],_=>by show (0:Rat)≤((0*(A*L):Nat):Rat); exact Qv _
 | x::ts,h=>by
  have a:=tsum_le fun y hy=>h y (A9 _ hy)
  obtain ⟨h1,h2⟩:=h x Af;have b:=le_mul (jx x.2) (xK h2);have c:=Rat.mul_le_mul_of_nonneg_right h1 (Qv L);have e:(((x::ts).length*(A*L):Nat):Rat)=((ts.length*(A*L):Nat):Rat)+(A:Rat)*(L:Rat):=by
   rw [List.length_cons,Nat.add_mul,Nat.one_mul,Rat.natCast_add,Rat.natCast_mul (a:=A)]
  rw [e];show absQ x.2*((g x.1).2:Rat)+tsum g ts≤_;grind
theorem g0_net {m:Nat} {us:List Un} (wf:WfN m us) (shr:∀ u∈us,ShrU u) (l24:us.length≤24):GN m us (g0 m):=by
 refine ⟨fun p q h=>g0_le h,g0_ok m,fun k c ts e=>?_⟩;have hk:=(A1.mp e).1;obtain ⟨sc,st,l3⟩:=shr _ (A8 e);have wfu:=wf k _ e;have ge:g0 m (m+k)=(D0^(3+k),2^(136+66*k)):=by
  unfold g0;rw [if_neg (by omega),show m+k - m=k by omega,show min k 24=k by omega]
 have ga:∀ x∈ts,D0*(g0 m x.1).1∣D0^(3+k)∧(g0 m x.1).2≤2^(70+66*k):=fun x hx=>by
  have hl:=wfu.1 x hx;have mulp:∀ e,D0*D0^e=D0^(e+1):=fun e=>by rw [Nat.pow_succ,Nat.mul_comm]
  unfold g0
  by_cases c:x.1<m
  ·rw [if_pos c]
   exact ⟨by show D0*D0^2∣_; rw [mulp]; exact Nat.pow_dvd_pow _ (by omega),Ac (by decide) (by omega)⟩
  ·rw [if_neg c]
   exact ⟨by show D0*D0^_∣_; rw [mulp]; exact Nat.pow_dvd_pow _ (by omega),Ac (by decide) (by omega)⟩
 rw [ge];refine ⟨zq_of (Nat.dvd_trans sc.1 (Nat.pow_dvd_pow _ (by omega))),fun x hx=>?_,?_⟩
 ·obtain ⟨r,er⟩:=(ga x hx).1
  have sx:Shr x.2:=st x hx;have d1:x.2.den∣D0:=by have:=sx.1; rwa [Nat.pow_one] at this
  obtain ⟨n,en⟩:=zq_of d1;refine ⟨n*(r:Int),?_⟩;show x.2*((D0^(3+k):Nat):Rat)=_;rw [er,Rat.natCast_mul,Rat.natCast_mul,Ao];have:x.2*((D0:Rat)*((g0 m x.1).1:Rat)*(r:Rat))=x.2*(D0:Rat)*(r:Rat)*((g0 m x.1).1:Rat):=by grind
  rw [this,en];rfl
 ·have a:absQ c≤((2^63:Nat):Rat):=abs_of sc.2
  have b:=tsum_le (g:=g0 m) (A:=2^63) (L:=2^(70+66*k)) (ts:=ts) fun x hx=>⟨abs_of (st x hx).2,(ga x hx).2⟩
  have c1:ts.length*(2^63*2^(70+66*k))≤3*(2^63*2^(70+66*k)):=Nat.mul_le_mul_right _ l3;have c2:2^63≤2^63*2^(70+66*k):=Nat.le_mul_of_pos_right _ (Nat.pow_pos (by decide));have c3:4*(2^63*2^(70+66*k))≤2^(136+66*k):=by
   have e1:4*(2^63*2^(70+66*k))=2^(2+(63+(70+66*k))):=by rw [Nat.pow_add 2 2,Nat.pow_add 2 63 (70+66*k)]
   rw [e1];exact Ac (by decide) (by omega)
  generalize 2^63*2^(70+66*k)=W at *;have d:2^63+ts.length*W≤2^(136+66*k):=by omega
  have d2:=xK d;rw [Rat.natCast_add] at d2;show absQ c+tsum (g0 m) ts≤((2^(136+66*k):Nat):Rat);grind
def But3 (l d e:Addr) (H H':Hp):Prop:=∀ b o,b≠l→b≠d→b≠e→H b=some o→H' b=some o
structure Kd (H:Hp) (l d e:Addr):Prop where
 lst:∃ vs,H l=some (.lst vs)
 dk:∃ k,H d=some (.dK k)
 ex:∃ q,H e=some (.ext q)
theorem But3.trans {l d e:Addr} {H H' H'':Hp} (g:But3 l d e H H') (k:But3 l d e H' H''):But3 l d e H H'':=fun b o h1 h2 h3 x=>k b o h1 h2 h3 (g b o h1 h2 h3 x)
theorem _root_.L2.Same.but3 {l d e:Addr} {H H':Hp} (g:Same H H'):But3 l d e H H':=fun b o _ _ _ x=>g b o x
theorem But3.same {l d e:Addr} {H0 H H':Hp} (g:But3 l d e H H') (s:Same H0 H) (n1:H0 l=none) (n2:H0 d=none) (n3:H0 e=none):Same H0 H':=fun b o x=>g b o (qQ x n1) (qQ x n2) (qQ x n3) (s b o x)
theorem Kd.mono {H H':Hp} {l d e:Addr} (k:Kd H l d e) (g:Same H H'):Kd H' l d e:=by
 obtain ⟨⟨x,h1⟩,⟨y,h2⟩,⟨z,h3⟩⟩:=k;exact ⟨⟨x,g _ _ h1⟩,⟨y,g _ _ h2⟩,⟨z,g _ _ h3⟩⟩
theorem Kd.ne {H:Hp} {l d e:Addr} (k:Kd H l d e):l≠d∧l≠e∧d≠e:=by
 obtain ⟨⟨x,h1⟩,⟨y,h2⟩,⟨z,h3⟩⟩:=k;exact ⟨ne_of h1 h2 (by intro z; cases z),ne_of h1 h3 (by intro z; cases z),ne_of h2 h3 (by intro z; cases z)⟩
theorem Kd.list {H:Hp} {l d e p:Addr} {vs:List V} (k:Kd H l d e) (h:H p=some (.lst vs)):p≠d∧p≠e:=by
 obtain ⟨_,⟨y,h2⟩,⟨z,h3⟩⟩:=k;exact ⟨ne_of h h2 (by intro z; cases z),ne_of h h3 (by intro z; cases z)⟩
theorem Kd.inst {H:Hp} {l d e p C dx:Addr} {fs:List (Str×V)} (k:Kd H l d e) (h:H p=some (.ins C dx fs)):p≠l∧p≠d∧p≠e:=by
 obtain ⟨⟨x,h1⟩,⟨y,h2⟩,⟨z,h3⟩⟩:=k;exact ⟨ne_of h h1 (by intro z; cases z),ne_of h h2 (by intro z; cases z),ne_of h h3 (by intro z; cases z)⟩
theorem But3.tup {l d e p:Addr} {H H':Hp} {xs:List V} (g:But3 l d e H H') (k:Kd H l d e) (h:SqT K H p xs):SqT K H' p xs:=by
 obtain ⟨⟨x,h1⟩,⟨y,h2⟩,⟨z,h3⟩⟩:=k
 rcases h with (h | ⟨u,h⟩) | h
 ·exact .inl (.inl (g _ _ (ne_of h h1 (by intro z; cases z)) (ne_of h h2 (by intro z; cases z)) (ne_of h h3 (by intro z; cases z)) h))
 ·exact .inl (.inr ⟨u,g _ _ (ne_of h h1 (by intro z; cases z)) (ne_of h h2 (by intro z; cases z)) (ne_of h h3 (by intro z; cases z)) h⟩)
 ·exact .inr h
theorem But3.rl {l d e:Addr} {H H':Hp} {vs:List V} {qs:List Rat} (g:But3 l d e H H') (k:Kd H l d e) (h:RL K H vs qs):RL K H' vs qs:=Paired.mapP h fun _ _ ⟨p,e,s⟩=>⟨p,e,g.tup k s⟩
theorem But3.sl {l d e:Addr} {H H':Hp} {vs:List V} {ss:List (Rat×Rat)} (g:But3 l d e H H') (k:Kd H l d e) (h:SL K H vs ss):SL K H' vs ss:=Paired.mapP h fun _ _ ⟨p,x,y,e,s,t,u⟩=>⟨p,x,y,e,g.tup k s,g.tup k t,g.tup k u⟩
theorem But3.lst {l d e p:Addr} {H H':Hp} {vs:List V} (g:But3 l d e H H') (k:Kd H l d e) (n:p≠l) (h:H p=some (.lst vs)):H' p=some (.lst vs):=g _ _ n (k.list h).1 (k.list h).2 h
theorem But3.ins {l d e p C dx:Addr} {H H':Hp} {fs:List (Str×V)} (g:But3 l d e H H') (k:Kd H l d e) (h:H p=some (.ins C dx fs)):H' p=some (.ins C dx fs):=g _ _ (k.inst h).1 (k.inst h).2.1 (k.inst h).2.2 h
theorem But3.pt {l d e:Addr} {H H':Hp} {v:V} {f:List Rat} (g:But3 l d e H H') (k:Kd H l d e) (h:PtF l K H v f):PtF l K H' v f:=by
 obtain ⟨p,ys,e0,h1,n,h2⟩:=h;exact ⟨p,ys,e0,g.lst k n h1,n,g.rl k h2⟩
theorem But3.pl {l d e:Addr} {H H':Hp} {vs:List V} {fs:List (List Rat)} (g:But3 l d e H H') (k:Kd H l d e) (h:PLF l K H vs fs):PLF l K H' vs fs:=Paired.mapP h fun _ _ z=>g.pt k z
theorem But3.tl {l d e:Addr} {H H':Hp} {vs:List V} {ts:List (Nat×Rat)} (g:But3 l d e H H') (k:Kd H l d e) (h:TL K H vs ts):TL K H' vs ts:=Paired.mapP h fun _ _ ⟨t,r,e1,k1,k2⟩=>⟨t,r,e1,g.tup k k1,g.tup k k2⟩
theorem But3.uf {l d e:Addr} {H H':Hp} {vs:List V} {us:List Un} (g:But3 l d e H H') (k:Kd H l d e) (h:UF l K H vs us):UF l K H' vs us:=Paired.mapP h fun v u hu=>by
 cases u with
 | sum c ts =>
  obtain ⟨t,pc,pt,vs,e0,h1,h2,h3,n,h4⟩:=hu;exact ⟨t,pc,pt,vs,e0,g.tup k h1,g.tup k h2,g.lst k n h3,n,g.tl k h4⟩
 | bend p =>
  obtain ⟨t,e0,h1⟩:=hu;exact ⟨t,e0,g.tup k h1⟩
theorem But3.trv {l d e:Addr} {H H':Hp} (g:But3 l d e H H') (k:Kd H l d e):∀ (sh:Shp) {x:Dat sh} {v:V},TrV K H sh x v→TrV K H' sh x v:=by
 intro sh
 induction sh with
 | num=>exact fun h=>h
 | seq sh ih =>
  rintro x v ⟨p,vs,rfl,t,f⟩;exact ⟨p,vs,rfl,g.tup k t,Paired.mapP f fun _ _ z=>ih z⟩
 | pair a b ia ib =>
  rintro x v ⟨p,u,w,rfl,t,f1,f2⟩;exact ⟨p,u,w,rfl,g.tup k t,ia f1,ib f2⟩
theorem PLF.getD {lp:Addr} {H:Hp} {vs:List V} {fs:List (List Rat)} {i:Nat} (h:PLF lp K H vs fs) (hi:i<fs.length):∃ v,vs[i]?=some v∧PtF lp K H v (fs.getD i []):=by
 have l:=PLF.length h;obtain ⟨v,hv⟩:∃ v,vs[i]?=some v:=⟨_,A4 (by omega)⟩;obtain ⟨f,ef,hf⟩:=vy h hv;exact ⟨v,hv,by rw [zJ _ ef]; exact hf⟩
theorem But3.none {l d e p:Addr} {H H':Hp} (g:But3 l d e H H') (k:Kd H' l d e) (h:H' p=none):H p=none:=by
 obtain ⟨⟨x,h1⟩,⟨y,h2⟩,⟨z,h3⟩⟩:=k
 cases c:H p with
 | none=>rfl
 | some o=>rw [g p o (Ne.symm (qQ h1 h)) (Ne.symm (qQ h2 h)) (Ne.symm (qQ h3 h)) c] at h; cases h
def PL2 (l lf:Addr) (K:As) (H:Hp) (vs:List V) (fs:List (List Rat)):Prop:=Paired (fun v f=>∃ p ys,v=V.ref p∧H p=some (.lst ys)∧p≠l∧p≠lf∧RL K H ys f) vs fs
theorem PL2.one {l lf:Addr} {H:Hp} {vs:List V} {fs:List (List Rat)} (h:PL2 l lf K H vs fs):PLF l K H vs fs:=Paired.mapP h fun _ _ ⟨p,ys,e,a,b,_,d⟩=>⟨p,ys,e,a,b,d⟩
theorem PL2.but3 {l d e lf:Addr} {H H':Hp} {vs:List V} {fs:List (List Rat)} (h:PL2 l lf K H vs fs) (g:But3 l d e H H') (k:Kd H l d e):PL2 l lf K H' vs fs:=Paired.mapP h fun _ _ ⟨p,ys,e,a,b,c,r⟩=>⟨p,ys,e,g.lst k b a,b,c,g.rl k r⟩
theorem PL2.upd {l lf:Addr} {H:Hp} {vs ys:List V} {fs:List (List Rat)} {o:HO} (h:PL2 l lf K H vs fs) (e:H lf=some (.lst ys)):PL2 l lf K (upd H lf o) vs fs:=Paired.mapP h fun _ _ ⟨p,zs,e0,a,b,c,d⟩=>⟨p,zs,e0,by rw [qJ c]; exact a,b,c,RL.upd_lst d e⟩
theorem PL2.length {l lf:Addr} {H:Hp} {vs:List V} {fs:List (List Rat)} (h:PL2 l lf K H vs fs):vs.length=fs.length:=Paired.length h
theorem PL2.getD {l lf:Addr} {H:Hp} {vs:List V} {fs:List (List Rat)} {i:Nat} (h:PL2 l lf K H vs fs) (hi:i<fs.length):∃ v,vs[i]?=some v∧∃ p ys,v=V.ref p∧H p=some (.lst ys)∧p≠l∧p≠lf∧RL K H ys (fs.getD i []):=by
 have l:=h.length;obtain ⟨v,hv⟩:∃ v,vs[i]?=some v:=⟨_,A4 (by omega)⟩;obtain ⟨f,ef,hf⟩:=vy h hv;exact ⟨v,hv,by rw [zJ _ ef]; exact hf⟩
theorem filter_take {α:Type} (p:α→Bool) (xs:List α) (i:Nat):((xs.take i).filter p).length≤(xs.filter p).length:=((List.take_sublist i xs).filter p).length_le
def spTermsG (K:As):Sp:=fun vs H Q _=>∃ (pc pt lf lp:Addr) (vt vf:List V) (c:Rat) (ts:List (Nat×Rat)) (fs:List (List Rat)) (n:Nat),vs=[.ref pc,.ref pt,.ref lf,.int (n:Int)]∧SqT K H pc (TQ c)∧SqL K H pt vt∧TL K H vt ts∧SqL K H lf vf∧PLF lp K H vf fs∧(∀ x∈ts,x.1<fs.length)∧ts.length≤100∧TermsOk c ts fs n∧n≤40∧RetL K H Q (termsF c ts fs n)
theorem okxe (T:Txt K mg a):FnOk P w K mg base CX0 4 a.fxe a.dxe ["constant", "terms", "found", "count"] (spTermsG K):=by
 refine T.Fxe.ok wv ?_ ?_
 ·walk_at "c"
 walk_at "b"
 obtain ⟨pc,pt,lf,lp,vt,vf,c,ts,fs,n,rfl,hc,ht,rt,hf,rf,wf,l100,ok,n40,q⟩:=h;have lt:=rt.length;refine ltX ?_
 intros
 refine ⟨_,body3 (by rfl)
  (ps_s 4 wv.nd (pe_c (okyb T) hr T.myb T.Fyb.kp T.byb (pa_c (pv 0) (pa_c (pv 3) qj))))
  (jW PassesOwn.never rfl (yq (pv 1)) (yJ rfl (zz (pg_n 5 wv.nd) (zz (pg_n 6 wv.nd) zV))) (qZ (ps_s 4 wv.nd (pe_c (oky2 T) hr T.my2 T.Fy2.kp T.by2 (pa_c (pv 4) (pa_c (pe_ix yV (pv 2) (pv 5)) (pa_c (pv 6) qj)))))))
  (zw (pv 4)),?_⟩
 refine lt3 ?_
 intros
 refine ⟨_,rfl,_,rfl,pc,c,n,rfl,hc,n40,fun p1 H1 v1 np1 g1 e1 r1=>?_⟩;refine ⟨_,rfl,pt,rfl,⟨_,g1.seq ht⟩,jz (n:=ts.length) (fun i σ H'=>Same H H'∧∃ (p2:Addr) (v2:List V) (u5 u6:Option V),σ=[some (.ref pc),some (.ref pt),some (.ref lf),some (.int (n:Int)),some (.ref p2),u5,u6]∧H p2=none∧H' p2=some (.lst v2)∧RL K H' v2 ((ts.take i).foldl (fun f x=>addT f (fs.getD x.1 []) x.2) (evenF c n)))
  ⟨g1,p1,v1,_,_,rfl,np1,e1,r1⟩ ?_ ?_ ?_⟩
 ·rintro σ H' ⟨g,p2,v2,u5,u6,rfl,np,e2,r2⟩
  refine ⟨⟨_,g.seq ht,by omega⟩,?_⟩;rw [A5 (Nat.le_refl _)] at r2;exact ⟨_,rfl,q p2 H' v2 np g e2 r2⟩
 ·rintro i σ H' hi ⟨g,_⟩
  exact ⟨_,_,g.seq ht,A4 (by omega)⟩
 ·rintro i σ H0 x H' hi ⟨g,p2,v2,u5,u6,rfl,np,e2,r2⟩ ⟨rfl,y1⟩
  obtain ⟨x0,ex,tt,r,rfl,k1,k2⟩:=rt.get (y1 _ (g.seq ht));have hx:=wf x0 (A8 ex);obtain ⟨ve,ev,lg,wg,rfl,hg,_,rg⟩:=rf.getD hx;obtain ⟨o1,o2,o3,o4,o5⟩:=ok i x0 ex;rw [zZ ex,List.foldl_append];show _;refine ⟨tt,_,rfl,g.tup k1,rfl,_,_,rfl,_,_,rfl,rfl,?_⟩;refine ⟨_,rfl,_,rfl,_,rfl,lf,_,_,_,rfl,rfl,g.seq hf,atN ev,_,rfl,p2,lg,r,v2,wg,_,_,x0.2,rfl,SqL.of e2,r2,SqL.of (g _ _ hg),rg.mono g,g.tup k2,by rw [o1]; omega,by rw [o1,o2],o3,o4,o5,fun p3 H3 v3 np3 g3 e3 r3=>?_⟩;exact ⟨g.trans g3,p3,v3,_,_,rfl,zx g np3,e3,r3⟩
theorem cut1 {vs:List V}:cutV vs (some 1) none=vs.drop 1:=by
 unfold cutV;have e1:HT.sIx vs.length 0 (some 1)=min 1 vs.length:=HT.sIx_nat _ _ 1;have e2:HT.sIx vs.length vs.length none=vs.length:=rfl;rw [e1,e2]
 cases vs with
 | nil=>rfl
 | cons v r =>
  have e3:min 1 (v::r).length=1:=by rw [List.length_cons]; omega
  rw [e3];exact A5 (by rw [List.length_drop]; exact Nat.le_refl _)
def spEndsG (K:As):Sp:=fun vs H Q _=>∃ (l m:Addr) (v1 v2:List V) (f:List Rat) (ws:List (Rat×Rat)),vs=[.ref l,.ref m]∧SqL K H l v1∧SqL K H m v2∧RL K H v1 f∧SL K H v2 ws∧ws.length<f.length∧ws.length≤60∧EndsOk f ws∧RetSide K H Q (loS f ws,hiS f ws)
theorem s49 {q:Rat} (h:SmQ 6500 q):SmQ 9000 q:=h.mono
theorem okyc (T:Txt K mg a):FnOk P w K mg base CX0 3 a.fyc a.dyc ["form", "sides"] (spEndsG K):=by
 refine T.Fyc.ok jw ?_ ?_
 ·walk_at "c"
 walk_at "b"
 obtain ⟨l,m,v1,v2,f,ws,rfl,hl,hm,r1,r2,el,small,ok,q⟩:=h;refine ltX ?_
 intros
 refine ⟨_,body4 (by rfl)
  (ps_s 2 jw.nd (pe_ix yV (pv 0) qk))
  (ps_s 3 jw.nd (pe_ix yV (pv 0) qk))
  (jW PassesOwn.never rfl (pi_zip rfl T.m_zip (pa_c (Qk ZZ (pv 0) (xY qk) po_none) (pa_c (pv 1) qj))) (yJ rfl (zz (pg_n 4 jw.nd) (zz (pg_n 5 jw.nd) zV))) (qX (ps_s 6 jw.nd (pe_c (okx5 T) hr T.mx5 T.Fx5.kp T.bx5 (pa_c (pv 4) (pa_c (jj (v:=.ref a.gzk) rfl T.mzk rfl) qj)))) (qX (ps_s 2 jw.nd (pe_c (okxa T) hr T.mxa T.Fxa.kp T.bxa (pa_c (pv 2) (pa_c (pe_c (okxf T) hr T.mxf T.Fxf.kp T.bxf (pa_c (pv 4) (pa_c (pe_ifExp (yk (pv 6)) (pe_ix qK (pv 5) qk) (pe_ix qK (pv 5) qk)) qj))) qj)))) (qZ (ps_s 3 jw.nd (pe_c (okxa T) hr T.mxa T.Fxa.kp T.bxa (pa_c (pv 3) (pa_c (pe_c (okxf T) hr T.mxf T.Fxf.kp T.bxf (pa_c (pv 4) (pa_c (pe_ifExp (yk (pv 6)) (pe_ix qK (pv 5) qk) (pe_ix qK (pv 5) qk)) qj))) qj))))))))
  (zw (yz (pa_c (pv 2) (pa_c (pv 3) qj)))),?_⟩
 refine lt4 ?_
 intros
 cases r1 with
 | nil=>exact absurd el (Nat.not_lt_zero _)
 | @cons x0 c vr as hx r1 =>
 obtain ⟨p0,rfl,h0⟩:=hx;have l1:=RL.length r1;have l2:=r2.length;have el:ws.length<as.length+1:=el;have n0:∀ H:Hp,SqT K H a.gzk (TQ 0):=T.szk;refine ⟨_,rfl,l,_,_,_,rfl,rfl,hl,at0,?_⟩;refine ⟨_,rfl,l,_,_,_,rfl,rfl,hl,at0,?_⟩;refine ⟨_,rfl,_,rfl,_,_,rfl,hl,fun c2 hc2=>?_⟩;rw [cut1];have g1:=qy hc2 (.lst vr);have e1:upd H c2 (.lst vr) c2=some (.lst vr):=qz;refine ⟨_,rfl,c2,m,rfl,⟨_,SqL.of e1⟩,⟨_,g1.seq hm⟩,jz (n:=ws.length) (fun i σ H'=>Same (upd H c2 (.lst vr)) H'∧∃ pt pu u4 u5 u6,σ=[some (.ref l),some (.ref m),some (.ref pt),some (.ref pu),u4,u5,u6]∧SqT K H' pt (TQ (co (c::as) 0+sumF (fun k=>co (c::as) (k+1)*loW (c::as) ws k) i))∧SqT K H' pu (TQ (co (c::as) 0+sumF (fun k=>co (c::as) (k+1)*hiW (c::as) ws k) i)))
  ⟨Same.refl _,p0,p0,_,_,_,rfl,by show SqT K _ p0 (TQ (c+0)); rw [Rat.add_zero]; exact g1.tup h0,by show SqT K _ p0 (TQ (c+0)); rw [Rat.add_zero]; exact g1.tup h0⟩ ?_ ?_ ?_⟩
 ·rintro σ H' ⟨g,pt,pu,u4,u5,u6,rfl,ht,hu⟩
  refine ⟨⟨_,_,SqL.of (g _ _ e1),g.seq (g1.seq hm),.inr (by omega)⟩,?_⟩;refine ⟨_,rfl,_,rfl,yj,fun t h5=>?_⟩;have g5:=qy h5 (.tup [.ref pt,.ref pu]);exact q t _ (g1.trans (g.trans g5)) ⟨t,pt,pu,rfl,SqT.of qz,g5.tup ht,g5.tup hu⟩
 ·rintro i σ H' hi ⟨g,pt,pu,u4,u5,u6,rfl,ht,hu⟩
  exact ⟨_,_,_,_,SqL.of (g _ _ e1),g.seq (g1.seq hm),A4 (by omega),A4 (by omega)⟩
 ·rintro i σ H' x H2 hi ⟨g,pt,pu,u4,u5,u6,rfl,ht,hu⟩ ⟨p,x1,x2,hp,rfl,rfl,y1,y2⟩
  obtain ⟨qa,ea,pa,rfl,ha⟩:=RL.get r1 (y1 _ (SqL.of (g _ _ e1)));obtain ⟨sd,eb,ps,pl,ph,rfl,hs,hlo,hhi⟩:=r2.get (y2 _ (g.seq (g1.seq hm)));have g2:=qy hp (.tup [.ref pa,.ref ps]);have g3:=(g1.trans g).trans g2;have ca:co (c::as) (i+1)=qa:=zJ _ ea;have cb:ws.getD i (0,0)=sd:=zJ _ eb;obtain ⟨k1,k2⟩:=ok i;obtain ⟨m1,m2,m3,m4,m5⟩:=k1 hi;obtain ⟨m6,m7⟩:=k2 (Nat.le_of_lt hi);rw [ca] at m1 m4 m5;rw [cb] at m2 m3 m4 m5;have sL:∀ w:Nat→Rat,co (c::as) 0+sumF (fun k=>co (c::as) (k+1)*w k) (i+1)=(co (c::as) 0+sumF (fun k=>co (c::as) (k+1)*w k) i)+qa*w i:=fun w=>by
   show _+(_+co (c::as) (i+1)*w i)=_;rw [ca]; grind
  rw [sL,sL];have lw:loW (c::as) ws i=if qa<0 then sd.2 else sd.1:=by unfold loW; rw [ca,cb]
  have hw:hiW (c::as) ws i=if qa<0 then sd.1 else sd.2:=by unfold hiW; rw [ca,cb]
  rw [lw,hw];have ha:=g3.tup ha;have hs:=g3.tup hs;have hlo:=g3.tup hlo;have hhi:=g3.tup hhi;have ht:=g2.tup ht;have hu:=g2.tup hu;have gS:=g.trans g2;refine ⟨p,_,rfl,SqT.of qz,rfl,_,_,rfl,_,_,rfl,rfl,?_⟩;generalize upd H' p (.tup [.ref pa,.ref ps])=H3 at *;generalize co (c::as) 0+sumF (fun k=>co (c::as) (k+1)*loW (c::as) ws k) i=x1 at *;generalize co (c::as) 0+sumF (fun k=>co (c::as) (k+1)*hiW (c::as) ws k) i=x2 at *;refine ⟨_,rfl,pa,a.gzk,qa,0,rfl,ha,n0 _,s49 m1,sm0,?_⟩
  by_cases k:qa<0
  ·refine ⟨_,rfl,_,rfl,_,rfl,_,rfl,iteP k ⟨_,rfl,_,_,_,_,rfl,rfl,hs,rfl,pa,ph,qa,sd.2,rfl,ha,hhi,m1,m3,fun p4 H4 g4 e4=>?_⟩⟩
   refine ⟨pt,p4,_,_,rfl,g4.tup ht,SqT.of e4,m6,m5,fun p5 H5 g5 e5=>?_⟩;have g45:=g4.trans g5;refine ⟨_,rfl,_,rfl,_,rfl,_,rfl,iteP k ⟨_,rfl,_,_,_,_,rfl,rfl,g45.tup hs,rfl,pa,pl,qa,sd.1,rfl,g45.tup ha,g45.tup hlo,m1,m2,fun p6 H6 g6 e6=>?_⟩⟩;refine ⟨pu,p6,_,_,rfl,g6.tup (g45.tup hu),SqT.of e6,m7,m4,fun p7 H7 g7 e7=>?_⟩;refine ⟨gS.trans (g45.trans (g6.trans g7)),p5,p7,_,_,_,rfl,?_,?_⟩
   ·rw [if_pos k]; exact SqT.of ((g6.trans g7) _ _ e5)
   ·rw [if_pos k]; exact SqT.of e7
  ·refine ⟨_,rfl,_,rfl,_,rfl,_,rfl,iteN k ⟨_,rfl,_,_,_,_,rfl,rfl,hs,rfl,pa,pl,qa,sd.1,rfl,ha,hlo,m1,m2,fun p4 H4 g4 e4=>?_⟩⟩
   refine ⟨pt,p4,_,_,rfl,g4.tup ht,SqT.of e4,m6,m4,fun p5 H5 g5 e5=>?_⟩;have g45:=g4.trans g5;refine ⟨_,rfl,_,rfl,_,rfl,_,rfl,iteN k ⟨_,rfl,_,_,_,_,rfl,rfl,g45.tup hs,rfl,pa,ph,qa,sd.2,rfl,g45.tup ha,g45.tup hhi,m1,m3,fun p6 H6 g6 e6=>?_⟩⟩;refine ⟨pu,p6,_,_,rfl,g6.tup (g45.tup hu),SqT.of e6,m7,m5,fun p7 H7 g7 e7=>?_⟩;refine ⟨gS.trans (g45.trans (g6.trans g7)),p5,p7,_,_,_,rfl,?_,?_⟩
   ·rw [if_neg k]; exact SqT.of ((g6.trans g7) _ _ e5)
   ·rw [if_neg k]; exact SqT.of e7
theorem iteND {c A B:Prop} [Decidable c] (h1:¬ c→A) (h2:c→B):if (!decide c)=true then A else B:=by
 by_cases h:c
 ·exact iteNS h (h2 h)
 ·exact iteNP h (h1 h)
theorem hF8:deep (.seq ratS)≤8:=by decide
def frD (f:List Rat):Dat (.seq ratS):=f.map qD
theorem frD_inj {f g:List Rat} (h:frD f=frD g):f=g:=qDs_inj h
def dkL:Nat→List (List Rat×Addr)→List (Key×V)
 | _,[]=>[]
 | n,e::es=>(Sum.inl (n:Int),.ref e.2)::dkL (n+1) es
def dtL:Nat→List (List Rat×Addr)→List (Dat (.seq ratS)×Addr×Int)
 | _,[]=>[]
 | n,e::es=>(frD e.1,e.2,(n:Int))::dtL (n+1) es
theorem dkL_snoc (x:List Rat×Addr):∀ (es:List (List Rat×Addr)) (n:Nat),dkL n (es++[x])=dkL n es++[(Sum.inl ((n+es.length:Nat):Int),.ref x.2)]
 | [],n=>rfl
 | e::es,n=>by
  show _::dkL (n+1) (es++[x])=_::(dkL (n+1) es++_);rw [dkL_snoc x es,List.length_cons,show n+1+es.length=n+(es.length+1) by omega]
theorem dtL_snoc (x:List Rat×Addr):∀ (es:List (List Rat×Addr)) (n:Nat),dtL n (es++[x])=dtL n es++[(frD x.1,x.2,((n+es.length:Nat):Int))]
 | [],n=>rfl
 | e::es,n=>by
  show _::dtL (n+1) (es++[x])=_::(dtL (n+1) es++_);rw [dtL_snoc x es,List.length_cons,show n+1+es.length=n+(es.length+1) by omega]
theorem dkL_len:∀ (es:List (List Rat×Addr)) (n:Nat),(dkL n es).length=es.length
 | [],_=>rfl
 | e::es,n=>by show (dkL (n+1) es).length+1=_; rw [dkL_len es]; rfl
theorem dtL_len:∀ (es:List (List Rat×Addr)) (n:Nat),(dtL n es).length=es.length
 | [],_=>rfl
 | e::es,n=>by show (dtL (n+1) es).length+1=_; rw [dtL_len es]; rfl
theorem dkL_at:∀ (es:List (List Rat×Addr)) (n j:Nat),valV (dkL n es) (Sum.inl ((n+j:Nat):Int))=(es[j]?).map fun x=>V.ref x.2
 | [],_,_=>rfl
 | e::es,n,0=>v9 rfl
 | e::es,n,j+1=>by
  have h:=dkL_at es (n+1) j;rw [show n+1+j=n+(j+1) by omega] at h;show valV ((Sum.inl (n:Int),V.ref e.2)::dkL (n+1) es) _=_;rw [vz (by intro z; have z:=Sum.inl.inj z; omega),h];rfl
theorem dtL_at (f:List Rat):∀ (es:List (List Rat×Addr)) (n:Nat),atT (dtL n es) (frD f)=(posF (es.map (·.1)) f n).map fun p:Nat=>(p:Int)
 | [],_=>rfl
 | e::es,n=>by
  have h:=dtL_at f es (n+1);unfold atT at h ⊢;show (List.find? _ ((frD e.1,e.2,(n:Int))::dtL (n+1) es)).map _=(posF (e.1::es.map (·.1)) f n).map _;unfold posF;rw [List.find?_cons]
  by_cases c:e.1=f
  ·rw [if_pos c]
   have:decide (frD e.1=frD f)=true:=decide_eq_true (by rw [c]);dsimp only;rw [this];rfl
  ·rw [if_neg c]
   have:decide (frD e.1=frD f)=false:=decide_eq_false fun z=>c (frD_inj z)
   dsimp only;rw [this];exact h
theorem dtL_mem {k:Dat (.seq ratS)×Addr×Int}:∀ {es:List (List Rat×Addr)} {n:Nat},k∈dtL n es→∃ x∈es,k.1=frD x.1∧k.2.1=x.2
 | [],_,h=>by cases h
 | e::es,n,h=>by
  rcases List.mem_cons.mp h with z | z
  ·exact ⟨e,Af,by rw [z],by rw [z]⟩
  ·obtain ⟨x,hx,a,b⟩:=dtL_mem z
   exact ⟨x,A9 _ hx,a,b⟩
theorem dtL_keys:∀ (es:List (List Rat×Addr)) (n:Nat),(dtL n es).map (·.1)=(es.map (·.1)).map frD
 | [],_=>rfl
 | e::es,n=>by
  show _::(dtL (n+1) es).map _=_;rw [dtL_keys es];rfl
theorem nodup_qD:∀ {fs:List (List Rat)},fs.Nodup→(fs.map frD).Nodup
 | [],_=>List.nodup_nil
 | f::fs,h=>by
  have h:=List.nodup_cons.mp h;refine List.nodup_cons.mpr ⟨fun z=>?_,nodup_qD h.2⟩;obtain ⟨g,hg,e⟩:=List.mem_map.mp z;exact h.1 (frD_inj e ▸ hg)
theorem posF_last {f:List Rat}:∀ {gs:List (List Rat)} {n:Nat},f∉gs→posF (gs++[f]) f n=some (n+gs.length)
 | [],n,_=>by
  show (if f=f then some n else none)=_;rw [if_pos rfl]; rfl
 | g::gs,n,h=>by
  show (if g=f then some n else posF (gs++[f]) f (n+1))=_;rw [if_neg fun z=>h (by rw [z]; exact Af),posF_last fun z=>h (A9 _ z),List.length_cons,show n+1+gs.length=n+(gs.length+1) by omega]
structure SA where
 p:Addr
 dx:Addr
 l:Addr
 d:Addr
 e:Addr
def skF (A:SA) (tot:Nat):List (Str×V):=[("widths",.ref A.l),("bent_forms",.ref A.d),("variables",.ref A.e),("total",.int (tot:Int))]
def TupF (K:As) (H:Hp) (p:Addr) (f:List Rat):Prop:=∃ vs,SqT K H p vs∧RL K H vs f
structure SkAt (P:Program) (w:World) (K:As) (C:Addr) (H:Hp) (A:SA) (m tot:Nat) (sk:Sk):Prop where
 ins:H A.p=some (.ins C A.dx (skF A tot))
 ws:∃ vw,H A.l=some (.lst vw)∧SL K H vw sk.ws
 bs:∃ es:List (List Rat×Addr),es.map (·.1)=sk.bs∧H A.d=some (.dK (dkL m es))∧H A.e=some (.ext (DicAt P w (.seq ratS) hF8 A.e (dtL m es)))∧∀ x∈es,TupF K H x.2 x.1
 nd:sk.bs.Nodup
section
variable {C:Addr} {H H':Hp} {A:SA} {m tot:Nat} {sk:Sk}
theorem SkAt.kd (h:SkAt P w K C H A m tot sk):Kd H A.l A.d A.e:=by
 obtain ⟨vw,h1,_⟩:=h.ws;obtain ⟨es,_,h2,h3,_⟩:=h.bs;exact ⟨⟨_,h1⟩,⟨_,h2⟩,⟨_,h3⟩⟩
theorem SkAt.mono (h:SkAt P w K C H A m tot sk) (g:Same H H'):SkAt P w K C H' A m tot sk:=by
 obtain ⟨vw,h1,h2⟩:=h.ws;obtain ⟨es,e1,e2,e3,e4⟩:=h.bs;exact ⟨g _ _ h.ins,⟨vw,g _ _ h1,h2.mono g⟩,⟨es,e1,g _ _ e2,g _ _ e3,fun x hx=>by obtain ⟨vs,a,b⟩:=e4 x hx; exact ⟨vs,g.tup a,b.mono g⟩⟩,h.nd⟩
theorem SkAt.upd {lf:Addr} {ys:List V} {o:HO} (h:SkAt P w K C H A m tot sk) (n:lf≠A.l) (e:H lf=some (.lst ys)):SkAt P w K C (upd H lf o) A m tot sk:=by
 obtain ⟨vw,h1,h2⟩:=h.ws;obtain ⟨es,e1,e2,e3,e4⟩:=h.bs;refine ⟨by rw [qJ (ne_of h.ins e (by intro z; cases z))]; exact h.ins,⟨vw,by rw [qJ (Ne.symm n)]; exact h1,SL.upd_lst h2 e⟩,⟨es,e1,by rw [qJ (ne_of e2 e (by intro z; cases z))]; exact e2,by rw [qJ (ne_of e3 e (by intro z; cases z))]; exact e3,fun x hx=>?_⟩,h.nd⟩;obtain ⟨vs,a,b⟩:=e4 x hx;exact ⟨vs,SqT.upd_lst a e,RL.upd_lst b e⟩
theorem keys_of {es:List (List Rat×Addr)} (nd:(es.map (·.1)).Nodup) (e4:∀ x∈es,TupF K H x.2 x.1):KeysV K H (.seq ratS) (dtL m es):=by
 refine ⟨fun k hk=>?_,by rw [dtL_keys]; exact nodup_qD nd⟩;obtain ⟨x,hx,a,b⟩:=dtL_mem hk;obtain ⟨vs,c,d⟩:=e4 x hx;rw [a,b];exact trv_form c d
end
def spSkInit (P:Program) (w:World) (K:As) (C CB:Addr):Sp:=fun vs H Q _=>∃ (x dx pb mB:Addr) (m tot:Nat) (vB:List V) (ss:List (Rat×Rat)),vs=[.ref x,.ref pb,.int (tot:Int)]∧H x=some (.ins C dx [])∧BoxAt CB H pb mB∧SqL K H mB vB∧SL K H vB ss∧∀ (A:SA) H',(∀ b u,b≠x→H b=some u→H' b=some u)→A.p=x→H A.l=none→H A.d=none→H A.e=none→SkAt P w K C H' A m tot ⟨ss,[]⟩→Q .non H'
theorem okzy (T:Txt K mg a):FnOk P w K mg base CX0 2 a.fzy a.dzy ["self", "box", "count"] (spSkInit P w K a.czv a.cz0):=by
 refine T.Fzy.ok sczy ?_ ?_
 ·walk_at "c"
 walk_at "b"
 obtain ⟨x,dx,pb,mB,m,tot,vB,ss,rfl,hx,hB,hm,rS,q⟩:=h;obtain ⟨db,hB'⟩:=id hB;refine ltX ?_
 intros
 refine ⟨_,body4 (by rfl)
  (xX (pv 0) (xy (pv 1) T.Cz0 T.tz4 (okz4 T) (hr.mono (by decide)) T.bz4 .nil pass0) rfl)
  (xX (pv 0) pe_dnewK rfl)
  (xX (pv 0) (pe_dicT0 (sh:=(.seq ratS)) (h8:=by decide)) rfl)
  (xX (pv 0) (pv 2) rfl),?_⟩
 refine lt4 ?_
 intros
 refine ⟨_,rfl,pb,db,_,rfl,hB',rfl,pb,mB,vB,rfl,hB,hm,fun l hl=>?_⟩;have g1:=qy hl (.lst vB);have el:=qz (H:=H) (a:=l) (o:=.lst vB);have hx1:=g1 _ _ hx;have rS1:=rS.mono g1;generalize upd H l (.lst vB)=H1 at *;refine ⟨_,rfl,x,_,dx,[],rfl,hx1,T.Czv,T.ny1,by decide,?_⟩;have nlx:l≠x:=ne_of el hx1 (by intro z; cases z);have hx2:upd H1 x (.ins a.czv dx (putF "widths" (.ref l) [])) x=some (.ins a.czv dx [("widths",.ref l)]):=qz;have el2:upd H1 x (.ins a.czv dx (putF "widths" (.ref l) [])) l=some (.lst vB):=by rw [qJ nlx]; exact el
 have rS2:=SL.upd_ins (o:=.ins a.czv dx (putF "widths" (.ref l) [])) rS1 hx1;have but:∀ b u,b≠x→H b=some u→upd H1 x (.ins a.czv dx (putF "widths" (.ref l) [])) b=some u:=fun b u hb e=>by rw [qJ hb]; exact g1 _ _ e
 generalize upd H1 x (.ins a.czv dx (putF "widths" (.ref l) []))=H2 at *;clear g1 hx1 rS1 el;have back:∀ b,H2 b=none→H b=none:=fun b e=>by
  cases z:H b with
  | none=>rfl
  | some o =>
   by_cases c:b=x
   ·rw [c,hx2] at e; cases e
   ·rw [but b o c z] at e; cases e
 intro d hd;have g3:=qy hd (.dK []);have ed:=qz (H:=H2) (a:=d) (o:=.dK []);have hx3:=g3 _ _ hx2;have nd0:=back d hd;have ndx:d≠x:=Ne.symm (qQ hx2 hd);have ndl:d≠l:=Ne.symm (qQ el2 hd);refine ⟨_,rfl,x,_,dx,_,rfl,hx3,T.Czv,T.nzx,(show 1<1000 by decide),?_⟩;intro e he;have hen:upd H2 d (.dK []) e=none:=by
  by_cases c:e=x
  ·rw [c,qz] at he; cases he
  ·rw [qJ c] at he; exact he
 have ne0:=back e (zx g3 hen);have nex:e≠x:=Ne.symm (qQ hx3 hen);have ned:e≠d:=Ne.symm (qQ ed hen);have nel:e≠l:=Ne.symm (qQ (g3 _ _ el2) hen);refine ⟨_,rfl,x,_,dx,[("widths",.ref l),("bent_forms",.ref d)],rfl,(by rw [qJ (Ne.symm nex),qz]; rfl),T.Czv,T.ny0,(show 2<1000 by decide),?_⟩;refine ⟨_,rfl,_,rfl,x,_,dx,[("widths",.ref l),("bent_forms",.ref d),("variables",.ref e)],rfl,qz,T.Czv,T.nzz,(show 3<1000 by decide),?_⟩;refine q ⟨x,dx,l,d,e⟩ _ (fun b u hb z=>?_) rfl hl nd0 ne0 ⟨qz,⟨vB,?_,?_⟩,⟨[],rfl,?_,?_,fun y hy=>(by cases hy)⟩,List.nodup_nil⟩
 ·have z2:=but b u hb z
  rw [qJ hb,qJ hb,qJ (qQ (g3 _ _ z2) hen),qJ hb];exact g3 _ _ z2
 ·show upd _ x _ l=_
  rw [qJ nlx,qJ nlx,qJ (Ne.symm nel),qJ nlx];exact g3 _ _ el2
 ·refine SL.upd_ins (C:=a.czv) (dx:=dx) (fs:=[("widths",.ref l),("bent_forms",.ref d),("variables",.ref e)]) (SL.upd_ins (C:=a.czv) (dx:=dx) (fs:=[("widths",.ref l),("bent_forms",.ref d)]) (SL.mono (SL.upd_ins (rS2.mono g3) hx3) (qy he _)) ?_) qz
  rw [qJ (Ne.symm nex),qz];rfl
 ·show upd _ x _ d=_
  rw [qJ ndx,qJ ndx,qJ (Ne.symm ned),qJ ndx];exact ed
 ·show upd _ x _ e=_
  rw [qJ nex,qJ nex];exact qz
def spBendF (P:Program) (w:World) (K:As) (C:Addr):Sp:=fun vs H Q _=>∃ (Z:SA) (lf:Addr) (m tot:Nat) (sk:Sk) (f:List Rat),vs=[.ref Z.p,.ref lf]∧SkAt P w K C H Z m tot sk∧PtF Z.l K H (.ref lf) f∧f.length=tot+1∧sk.ws.length=m+sk.bs.length∧sk.ws.length≤tot∧tot≤40∧EndsOk f sk.ws∧∀ p H',But3 Z.l Z.d Z.e H H'→SkAt P w K C H' Z m tot (bendF m tot sk f).2→PtF Z.l K H' (.ref p) (bendF m tot sk f).1→(p=lf∨H p=none)→Q (.ref p) H'
theorem okzw (T:Txt K mg a):FnOk P w K mg base CX0 4 a.fzw a.dzw ["self", "form"] (spBendF P w K a.czv):=by
 refine T.Fzw.ok wz ?_ ?_
 ·walk_at "c"
 walk_at "b"
 obtain ⟨Z,lf,m,tot,sk,f,rfl,S,hf,lf1,lws,wt,t40,eo,q⟩:=h;have n0:∀ H:Hp,SqT K H a.gzk (TQ 0):=T.szk;refine ltX ?_
 intros
 refine ⟨_,body6 (by rfl)
  (ps_s 2 wz.nd (pe_c (okyc T) hr T.myc T.Fyc.kp T.byc (pa_c (pv 1) (pa_c (yx (pv 0) rfl) qj))))
  (ps_if (j6 (yk (pe_c (okx5 T) hr T.mx5 T.Fx5.kp T.bx5 (pa_c (pe_ix qK (pv 2) qk) (pa_c (jj (v:=.ref a.gzk) rfl T.mzk rfl) qj))))) (qZ (zw (pv 1))) zQ)
  (ps_if (j6 (yk (pe_c (okx5 T) hr T.mx5 T.Fx5.kp T.bx5 (pa_c (jj (v:=.ref a.gzk) rfl T.mzk rfl) (pa_c (pe_ix qK (pv 2) qk) qj))))) (qZ (zw (pe_c (okyb T) hr T.myb T.Fyb.kp T.byb (pa_c (jj (v:=.ref a.gzk) rfl T.mzk rfl) (pa_c (yx (pv 0) rfl) qj))))) zQ)
  (ps_s 3 wz.nd (zy (ww) rfl T.m_tuple boot_tuple (pa_c (pv 1) qj)))
  (ps_if (zv (op_notInD (sh:=(.seq ratS)) (h8:=by decide) hr.units) (pv 3) (yx (pv 0) rfl) (by with_unfolding_all rfl)) (qX (vY (qW (zk) rfl T.m_len boot_len (pa_c (yx (pv 0) rfl) qj)) (pg_sub (yx (pv 0) rfl) (pv 3) (set_dicT (sh:=(.seq ratS)) (h8:=by decide) hr.units))) (qX (ps_dput (hu_of hr) (yx (pv 0) rfl) (qW (zk) rfl T.m_len boot_len (pa_c (yx (pv 0) rfl) qj)) (pv 3) rfl) (qZ (jy (w5 (yx (pv 0) rfl) (yz (pa_c (jj (v:=.ref a.gzk) rfl T.mzk rfl) (pa_c (pe_ix qK (pv 2) qk) qj)))))))) zQ)
  (zw (pe_c (okx6 T) hr T.mx6 T.Fx6.kp T.bx6 (pa_c (pe_ix (ix_dicT (sh:=(.seq ratS)) (h8:=by decide) hr.units) (yx (pv 0) rfl) (pv 3)) (pa_c (yx (pv 0) rfl) qj)))),?_⟩
 refine lt6 ?_
 intros
 obtain ⟨_,ys,ee,hl,nl,rf⟩:=id hf
 cases ee
 obtain ⟨vw,hw,rw'⟩:=S.ws;refine ⟨_,rfl,_,rfl,Z.p,_,Z.dx,_,_,rfl,S.ins,T.Czv,T.ny1,rfl,lf,Z.l,ys,vw,f,sk.ws,rfl,SqL.of hl,SqL.of hw,rf,rw',by omega,by omega,eo,fun sp H1 g1 hsp=>?_⟩;obtain ⟨_,plo,phi,ee,hs1,hs2,hs3⟩:=hsp
 cases ee
 have S1:=S.mono g1;obtain ⟨e1,e2⟩:=(eo sk.ws.length).2 (Nat.le_refl _);have e1:SmQ 6500 (loS f sk.ws):=e1;have e2:SmQ 6500 (hiS f sk.ws):=e2;have hf1:=hf.mono g1;unfold bendF at q;refine ⟨_,rfl,_,_,_,_,rfl,rfl,hs1,rfl,plo,a.gzk,_,0,rfl,hs2,n0 _,s49 e1,sm0,_,rfl,iteND (fun c=>?_) (fun c=>?_)⟩
 ·rw [if_neg c] at q
  exact ⟨_,rfl,q lf H1 g1.but3 S1 hf1 (.inl rfl)⟩
 rw [if_pos c] at q;refine ⟨_,rfl,_,_,_,_,rfl,rfl,hs1,rfl,a.gzk,phi,0,_,rfl,n0 _,hs3,sm0,s49 e2,_,rfl,iteND (fun c2=>?_) (fun c2=>?_)⟩
 ·rw [if_neg c2] at q
  refine ⟨_,rfl,Z.p,_,Z.dx,_,_,rfl,S1.ins,T.Czv,T.nzz,rfl,a.gzk,0,tot,rfl,n0 _,t40,fun p2 H2 v2 np g2 ep r2=>?_⟩;obtain ⟨vw1,hw1,_⟩:=S1.ws;exact q p2 H2 (g1.trans g2).but3 (S1.mono g2) ⟨p2,v2,rfl,ep,Ne.symm (qQ hw1 np),r2⟩ (.inr (zx g1 np))
 rw [if_pos c2] at q;refine ⟨_,rfl,lf,ys,rfl,.inl ⟨SqL.of (g1 _ _ hl),fun t ht=>?_⟩⟩;have g2:=qy ht (.tup ys);have et:=qz (H:=H1) (a:=t) (o:=.tup ys);have g12:=g1.trans g2;have S2:=S1.mono g2;have rf2:=rf.mono g12;have hs3:=g2.tup hs3;have hf2:=hf1.mono g2;generalize upd H1 t (.tup ys)=H2 at *;have hs1:=g2.tup hs1;clear g1 g2 S1 ht hs2;have key:TrV K H2 (.seq ratS) (frD f) (.ref t):=trv_form (SqT.of et) rf2;obtain ⟨es,b1,b2,b3,b4⟩:=S2.bs;have kv:=keys_of (m:=m) (by rw [b1]; exact S2.nd) b4;have le:es.length=sk.bs.length:=by rw [← b1,Al]
 have at1:=dtL_at f es m;rw [b1] at at1;refine ⟨_,rfl,_,rfl,Z.p,_,Z.dx,_,_,rfl,S2.ins,T.Czv,T.ny0,rfl,t,Z.e,_,_,rfl,rfl,key,b3,kv,?_⟩
 cases hp:posF sk.bs f m with
 | some r =>
  rw [hp] at at1 q;rw [at1];refine ⟨_,rfl,iteF ⟨_,rfl,Z.p,_,Z.dx,_,_,rfl,S2.ins,T.Czv,T.ny0,rfl,_,rfl,Z.e,t,_,_,_,rfl,rfl,key,b3,kv,at1,_,rfl,Z.p,_,Z.dx,_,_,rfl,S2.ins,T.Czv,T.nzz,rfl,r,tot,rfl,t40,fun p3 H3 v3 np g3 ep r3=>?_⟩⟩;obtain ⟨vw2,hw2,_⟩:=S2.ws;exact q p3 H3 (g12.trans g3).but3 (S2.mono g3) ⟨p3,v3,rfl,ep,Ne.symm (qQ hw2 np),r3⟩ (.inr (zx g12 np))
 | none =>
  rw [hp] at at1 q;rw [at1];obtain ⟨vw2,hw2,rw2⟩:=S2.ws;have lv:vw2.length=m+es.length:=by rw [rw2.length,lws,le]
  obtain ⟨nld,nle,nde⟩:=S2.kd.ne;obtain ⟨npl,npd,npe⟩:=S2.kd.inst S2.ins;refine ⟨_,rfl,iteT ⟨_,rfl,Z.p,_,Z.dx,_,_,rfl,S2.ins,T.Czv,T.ny1,rfl,_,_,rfl,.inl (SqL.of hw2),_,rfl,Z.p,_,Z.dx,_,_,rfl,S2.ins,T.Czv,T.ny0,rfl,_,rfl,Z.e,t,frD f,_,_,rfl,rfl,rfl,key,b3,kv,at1,by rw [dtL_len]; omega,?_⟩⟩;rw [lv];have ek:dtL m es++[(frD f,t,((m+es.length:Nat):Int))]=dtL m (es++[(f,t)]):=(dtL_snoc (f,t) es m).symm;rw [ek];have k3:But3 Z.l Z.d Z.e H2 (upd H2 Z.e (.ext (DicAt P w (.seq ratS) hF8 Z.e (dtL m (es++[(f,t)]))))):=fun b o _ _ h3 x=>by rw [qJ h3]; exact x
  have ee:upd H2 Z.e (.ext (DicAt P w (.seq ratS) hF8 Z.e (dtL m (es++[(f,t)])))) Z.e=some (.ext (DicAt P w (.seq ratS) hF8 Z.e (dtL m (es++[(f,t)])))):=qz;have ed:upd H2 Z.e (.ext (DicAt P w (.seq ratS) hF8 Z.e (dtL m (es++[(f,t)])))) Z.d=some (.dK (dkL m es)):=by rw [qJ nde]; exact b2
  have ew:upd H2 Z.e (.ext (DicAt P w (.seq ratS) hF8 Z.e (dtL m (es++[(f,t)])))) Z.l=some (.lst vw2):=by rw [qJ nle]; exact hw2
  have ei:upd H2 Z.e (.ext (DicAt P w (.seq ratS) hF8 Z.e (dtL m (es++[(f,t)])))) Z.p=some (.ins a.czv Z.dx (skF Z tot)):=by rw [qJ npe]; exact S2.ins
  have kd3:Kd (upd H2 Z.e (.ext (DicAt P w (.seq ratS) hF8 Z.e (dtL m (es++[(f,t)]))))) Z.l Z.d Z.e:=⟨⟨_,ew⟩,⟨_,ed⟩,⟨_,ee⟩⟩;have hs1:=k3.tup S2.kd hs1;have hs3:=k3.tup S2.kd hs3;have ht3:SqT K (upd H2 Z.e (.ext (DicAt P w (.seq ratS) hF8 Z.e (dtL m (es++[(f,t)]))))) t ys:=k3.tup S2.kd (SqT.of et);have rf3:=k3.rl S2.kd rf2;have rw3:=k3.sl S2.kd rw2;have b43:∀ x∈es++[(f,t)],TupF K (upd H2 Z.e (.ext (DicAt P w (.seq ratS) hF8 Z.e (dtL m (es++[(f,t)]))))) x.2 x.1:=fun x hx=>by
   rcases Am.mp hx with z | z
   ·obtain ⟨vs,p1,p2⟩:=b4 x z
    exact ⟨vs,k3.tup S2.kd p1,k3.rl S2.kd p2⟩
   ·rw [Ae.mp z]
    exact ⟨ys,ht3,rf3⟩
  have k3:But3 Z.l Z.d Z.e H (upd H2 Z.e (.ext (DicAt P w (.seq ratS) hF8 Z.e (dtL m (es++[(f,t)]))))):=g12.but3.trans k3;change (fun H3=>_) (upd H2 Z.e (.ext (DicAt P w (.seq ratS) hF8 Z.e (dtL m (es++[(f,t)])))));have nd':(sk.bs++[f]).Nodup:=List.nodup_append.mpr ⟨S2.nd,List.nodup_cons.mpr ⟨fun z=>(by cases z),List.nodup_nil⟩,fun x hx y hy=>by rw [Ae.mp hy]; exact fun z=>posF_none hp (z ▸ hx)⟩;have b1':(es++[(f,t)]).map (·.1)=sk.bs++[f]:=by rw [An,b1]; rfl
  generalize upd H2 Z.e (.ext (DicAt P w (.seq ratS) hF8 Z.e (dtL m (es++[(f,t)]))))=H3 at *;clear key kv b3 b2 b4 S2 hw2 rw2 rf2 et g12 hf2;refine ⟨_,rfl,_,rfl,Z.p,_,Z.dx,_,_,rfl,ei,T.Czv,T.nzx,rfl,_,rfl,Z.p,_,Z.dx,_,_,rfl,ei,T.Czv,T.ny1,rfl,_,_,rfl,.inl (SqL.of ew),Z.d,_,rfl,DPut.k (k:=Sum.inl (vw2.length:Int)) ed (by rw [dkL_len]; exact zj (by omega)),?_⟩;rw [lv,putK_new (.ref t) (by rw [dkL_at]; simp),← dkL_snoc (f,t) es m];have k4:But3 Z.l Z.d Z.e H3 (upd H3 Z.d (.dK (dkL m (es++[(f,t)])))):=fun b o _ h2 _ x=>by rw [qJ h2]; exact x
  have ed4:=qz (H:=H3) (a:=Z.d) (o:=.dK (dkL m (es++[(f,t)])));have ee4:upd H3 Z.d (.dK (dkL m (es++[(f,t)]))) Z.e=some (.ext (DicAt P w (.seq ratS) hF8 Z.e (dtL m (es++[(f,t)])))):=by rw [qJ (Ne.symm nde)]; exact ee
  have ew4:upd H3 Z.d (.dK (dkL m (es++[(f,t)]))) Z.l=some (.lst vw2):=by rw [qJ nld]; exact ew
  have ei4:=k4.ins kd3 ei;have hs1:=k4.tup kd3 hs1;have hs3:=k4.tup kd3 hs3;have ht4:=k4.tup kd3 ht3;have rf4:=k4.rl kd3 rf3;have rw4:=k4.sl kd3 rw3;have b44:∀ x∈es++[(f,t)],TupF K (upd H3 Z.d (.dK (dkL m (es++[(f,t)])))) x.2 x.1:=fun x hx=>by
   obtain ⟨vs,p1,p2⟩:=b43 x hx;exact ⟨vs,k4.tup kd3 p1,k4.rl kd3 p2⟩
  have kd4:Kd (upd H3 Z.d (.dK (dkL m (es++[(f,t)])))) Z.l Z.d Z.e:=⟨⟨_,ew4⟩,⟨_,ed4⟩,⟨_,ee4⟩⟩;have k4:=k3.trans k4;generalize upd H3 Z.d (.dK (dkL m (es++[(f,t)])))=H4 at *;clear k3 kd3 ed ee ew ei ht3 rf3 rw3 b43;refine ⟨_,rfl,Z.p,_,Z.dx,_,_,rfl,ei4,T.Czv,T.ny1,rfl,.inl ⟨rfl,_,SqL.of ew4⟩,_,rfl,_,_,_,_,rfl,rfl,hs1,rfl,yj,fun t2 ht2=>?_⟩;have j:=qy ht2 (.tup [.ref a.gzk,.ref phi]);have et2:=qz (H:=H4) (a:=t2) (o:=.tup [.ref a.gzk,.ref phi]);refine ⟨Z.l,vw2,_,rfl,rfl,j _ _ ew4,zj (by omega),?_⟩;have k5:But3 Z.l Z.d Z.e (upd H4 t2 (.tup [.ref a.gzk,.ref phi])) (upd (upd H4 t2 (.tup [.ref a.gzk,.ref phi])) Z.l (.lst (vw2++[.ref t2]))):=fun b o h1 _ _ x=>by rw [qJ h1]; exact x
  have kd5:=kd4.mono j;have S5:SkAt P w K a.czv (upd (upd H4 t2 (.tup [.ref a.gzk,.ref phi])) Z.l (.lst (vw2++[.ref t2]))) Z m tot ⟨sk.ws++[(0,hiS f sk.ws)],sk.bs++[f]⟩:=by
   refine ⟨k5.ins kd5 (j _ _ ei4),⟨_,qz,SL.snoc (k5.sl kd5 (rw4.mono j)) ⟨t2,_,phi,rfl,k5.tup kd5 (SqT.of et2),n0 _,k5.tup kd5 (j.tup hs3)⟩⟩,⟨es++[(f,t)],b1',?_,?_,fun x hx=>?_⟩,nd'⟩
   ·rw [qJ (Ne.symm nld)]; exact j _ _ ed4
   ·rw [qJ (Ne.symm nle)]; exact j _ _ ee4
   ·obtain ⟨vs,p1,p2⟩:=b44 x hx
    exact ⟨vs,k5.tup kd5 (j.tup p1),k5.rl kd5 (p2.mono j)⟩
  have k6:=(k4.trans j.but3).trans k5;have ht6:=k5.tup kd5 (j.tup ht4);have rf6:=k5.rl kd5 (rf4.mono j);generalize upd (upd H4 t2 (.tup [.ref a.gzk,.ref phi])) Z.l (.lst (vw2++[.ref t2]))=H6 at *;clear kd5 k5 j et2 ed4 ee4 ew4 ei4 rf4 rw4 b44 kd4 k4 ht4 hs1 hs3;obtain ⟨es6,c1,c2,c3,c4⟩:=S5.bs;have key:TrV K H6 (.seq ratS) (frD f) (.ref t):=trv_form ht6 rf6;have kv:=keys_of (m:=m) (by rw [c1]; exact nd') c4;have at6:=dtL_at f es6 m;rw [c1,posF_last (posF_none hp)] at at6;refine ⟨_,rfl,Z.p,_,Z.dx,_,_,rfl,S5.ins,T.Czv,T.ny0,rfl,_,rfl,Z.e,t,_,_,_,rfl,rfl,key,c3,kv,at6,_,rfl,Z.p,_,Z.dx,_,_,rfl,S5.ins,T.Czv,T.nzz,rfl,m+sk.bs.length,tot,rfl,t40,fun p7 H7 v7 np g7 ep r7=>?_⟩;obtain ⟨vw7,hw7,_⟩:=S5.ws;exact q p7 H7 (k6.trans g7.but3) (S5.mono g7) ⟨p7,v7,rfl,ep,Ne.symm (qQ hw7 np),r7⟩ (.inr (k6.none S5.kd np))
def But4 (f l d e:Addr) (H H':Hp):Prop:=∀ b o,b≠f→b≠l→b≠d→b≠e→H b=some o→H' b=some o
theorem But4.refl (f l d e:Addr) (H:Hp):But4 f l d e H H:=fun _ _ _ _ _ _ h=>h
theorem But4.then3 {f l d e:Addr} {H H' H'':Hp} (g:But4 f l d e H H') (k:But3 l d e H' H''):But4 f l d e H H'':=fun b o h0 h1 h2 h3 x=>k b o h1 h2 h3 (g b o h0 h1 h2 h3 x)
theorem But4.upd {f l d e:Addr} {H H':Hp} {o:HO} (g:But4 f l d e H H'):But4 f l d e H (upd H' f o):=fun b u h0 h1 h2 h3 x=>by rw [qJ h0]; exact g b u h0 h1 h2 h3 x
theorem But4.tup {f l d e p:Addr} {H H':Hp} {xs ys:List V} (g:But4 f l d e H H') (k:Kd H l d e) (hf:H f=some (.lst ys)) (h:SqT K H p xs):SqT K H' p xs:=by
 obtain ⟨⟨x,h1⟩,⟨y,h2⟩,⟨z,h3⟩⟩:=k
 rcases h with (h | ⟨u,h⟩) | h
 ·exact .inl (.inl (g _ _ (ne_of h hf (by intro z; cases z)) (ne_of h h1 (by intro z; cases z)) (ne_of h h2 (by intro z; cases z)) (ne_of h h3 (by intro z; cases z)) h))
 ·exact .inl (.inr ⟨u,g _ _ (ne_of h hf (by intro z; cases z)) (ne_of h h1 (by intro z; cases z)) (ne_of h h2 (by intro z; cases z)) (ne_of h h3 (by intro z; cases z)) h⟩)
 ·exact .inr h
theorem But4.lst {f l d e p:Addr} {H H':Hp} {vs:List V} (g:But4 f l d e H H') (k:Kd H l d e) (n0:p≠f) (n:p≠l) (h:H p=some (.lst vs)):H' p=some (.lst vs):=g _ _ n0 n (k.list h).1 (k.list h).2 h
def spOutForms (P:Program) (w:World) (K:As) (a:Adr):Sp:=fun vs H Q _=>∃ (pn:Addr) (Z:SA) (m tot:Nat) (us:List Un) (outs:List Nat) (ss:List (Rat×Rat)),vs=[.ref pn,.ref Z.p]∧Y7 K a H pn m us outs∧SkAt P w K a.czv H Z m tot ⟨ss,[]⟩∧ss.length=m∧WfN m us∧us.length≤80∧outs.length≤12∧(∀ o∈outs,o<m+us.length)∧m+(us.filter isB).length≤tot∧tot≤40∧OutOk m tot ss us∧∀ p vo H',But3 Z.l Z.d Z.e H H'→SkAt P w K a.czv H' Z m tot (outN m tot ss us).2→H p=none→H' p=some (.lst vo)→PLF Z.l K H' vo (outs.map fun o=>(outN m tot ss us).1.getD o [])→Q (.ref p) H'
theorem okx8 (T:Txt K mg a):FnOk P w K mg base CX0 5 a.fx8 a.dx8 ["net", "sketch"] (spOutForms P w K a):=by
 refine T.Fx8.ok xV ?_ ?_
 ·walk_at "c"
 walk_at "b"
 obtain ⟨pn,Z,m,tot,us,outs,ss,rfl,hN,S,hm,wf,l80,o12,ol,ht,t40,ok,q⟩:=h;refine ltX ?_
 intros
 refine ⟨_,body4 (by rfl)
  (ps_s 2 xV.nd (xy (pv 0) T.Czm T.tzr (kJ T) (hr.mono (by decide)) T.bzr .nil pass0))
  (ps_set (i:=3) xV.nd rfl (Or.inr rfl) (jQ (N:=["place", "sketch"]) (ix:=[none,some 1]) ⟨rfl,rfl,rfl,rfl,⟨rfl,trivial⟩,rfl,⟨⟨rfl,Or.inr (Or.inl rfl),kz rfl,rfl,Or.inl rfl⟩,trivial⟩⟩ rfl (xq rfl T.m_range (pa_c (pe_ix qK (pv 2) qk) qj)) (fun _=>(pg_n 0 (show (["place", "sketch"]:List Str).Nodup by decide +kernel))) (fun _ σ=>jJ rfl σ) (fun _=>yZ) (fun _=>(pe_c (okx6 T) hr T.mx6 T.Fx6.kp T.bx6 (pa_c (pv 0) (pa_c (yx (pv 1) rfl) qj))))))
  (jW PassesOwn.never rfl (yq (pe_ix qK (pv 2) qk)) (pg_n 4 xV.nd) (qZ (ps_if (zv op_eq (pe_ix qK (pv 4) qk) jY) (qZ (jy (w5 (pv 3) (pe_c (okxe T) hr T.mxe T.Fxe.kp T.bxe (pa_c (pe_ix qK (pv 4) qk) (pa_c (pe_ix qK (pv 4) qk) (pa_c (pv 3) (pa_c (yx (pv 1) rfl) qj)))))))) (qZ (jy (w5 (pv 3) (pe_meth (pv 1) T.Czv T.tzw (okzw T) (hr.mono (by decide)) T.bzw .nil pass0 (pa_c (pe_ix yV (pv 3) (pe_ix qK (pv 4) qk)) qj) (hst:=qq rfl _ _) (hpl:=qV rfl))))))))
  (zw (jQ (N:=["place", "found"]) (ix:=[none,some 3]) ⟨rfl,rfl,rfl,rfl,⟨rfl,trivial⟩,rfl,⟨⟨rfl,Or.inr (Or.inl rfl),kz rfl,rfl,Or.inl rfl⟩,trivial⟩⟩ rfl (yq (pe_ix qK (pv 2) qk)) (fun _=>(pg_n 0 (show (["place", "found"]:List Str).Nodup by decide +kernel))) (fun _ σ=>jJ rfl σ) (fun _=>yZ) (fun _=>(pe_ix yV (pv 1) (pv 0))))),?_⟩
 refine lt4 ?_
 intros
 obtain ⟨lu,lo,vk,n1,n2,n3,n4⟩:=hN;obtain ⟨d1,n1'⟩:=id n1;refine ⟨_,rfl,pn,d1,_,rfl,n1',rfl,pn,lu,lo,m,vk,us,outs,rfl,n1,n2,n3,l80,n4,fun t l2 o2 vu H1 g1 hT nl2 e2 r2 no2 f2=>?_⟩;obtain ⟨vw,hw,_⟩:=S.ws;have r2:=r2 Z.l _ hw;have nl:l2≠Z.l:=Ne.symm (qQ hw nl2);have no:o2≠Z.l:=Ne.symm (qQ hw no2);have S1:=S.mono g1;clear n1 n2 n3 n4 n1';refine ⟨_,rfl,_,_,_,_,rfl,rfl,hT,rfl,(m:Int),rfl,by omega,by omega,yy (n:=m) (fun i ys H'=>Same H1 H'∧PLF Z.l K H' ys ((List.range i).map fun k=>loneF k tot)) ⟨Same.refl _,.nil⟩ (zj (by omega)) ?_ ?_ ?_⟩
 case refine_2 =>
  rintro i ys H' hi _;show i<(m:Int).toNat;omega
 case refine_3 =>
  rintro i m' ys H' c x H5 hi ⟨g,r⟩ ⟨rfl,rfl⟩ nx _;have S':=S1.mono g;obtain ⟨vw1,hw1,_⟩:=S'.ws;refine Or.inl ⟨rfl,_,rfl,_,rfl,Z.p,_,Z.dx,_,_,rfl,S'.ins,T.Czv,T.nzz,rfl,i,tot,congrArg (fun z=>[V.int z,V.int (tot:Int)]) (by omega),t40,fun p2 H2 v2 np g2 ep r2=>nx _ _ ⟨g.trans g2,?_⟩⟩;rw [List.range_succ,An];exact Paired.snoc (r.mono g2) ⟨p2,v2,rfl,ep,Ne.symm (qQ hw1 np),r2⟩
 rintro yf H2 ⟨g2,rF⟩;refine ⟨by show (m:Int).toNat≤m; omega,fun lf hlf=>?_⟩;have S2:=S1.mono g2;obtain ⟨vw2,hw2,_⟩:=S2.ws;have nf:lf≠Z.l:=Ne.symm (qQ hw2 hlf);have g3:=qy hlf (.lst yf);have ef:=qz (H:=H2) (a:=lf) (o:=.lst yf);have rF:PL2 Z.l lf K (upd H2 lf (.lst yf)) yf (outN m tot ss (us.take 0)).1:=Paired.mapP rF fun _ _ ⟨p,ys,e,a1,a2,a3⟩=>⟨p,ys,e,g3 _ _ a1,a2,qQ a1 hlf,a3.mono g3⟩
 have S3:=S2.mono g3;have gA:=g2.trans g3;have nlf:l2≠lf:=qQ (g2 _ _ e2) hlf;have nof:o2≠lf:=qQ (g2 _ _ f2) hlf;have hT:=gA.tup hT;have e2:=gA _ _ e2;have f2:=gA _ _ f2;have g0:=g1.trans gA;have nHf:H lf=none:=zx (g1.trans g2) hlf;generalize upd H2 lf (.lst yf)=H3 at *;clear g1 g3 S1 S2 hw hw2;have lvu:=r2.length;have kd3:=S3.kd;refine ⟨_,rfl,_,_,_,_,rfl,rfl,hT,rfl,l2,rfl,⟨_,SqL.of e2⟩,jz (n:=us.length) (fun i σ H'=>But4 lf Z.l Z.d Z.e H3 H'∧∃ (vf:List V) (u4:Option V),σ=[some (.ref pn),some (.ref Z.p),some (.ref t),some (.ref lf),u4]∧H' lf=some (.lst vf)∧PL2 Z.l lf K H' vf (outN m tot ss (us.take i)).1∧SkAt P w K a.czv H' Z m tot (outN m tot ss (us.take i)).2)
  ⟨But4.refl _ _ _ _ _,yf,_,rfl,ef,rF,S3⟩ ?_ ?_ ?_⟩
 case refine_2 =>
  rintro i σ H' hi ⟨g,_⟩;exact ⟨_,_,SqL.of (g.lst kd3 nlf nl e2),A4 (by omega)⟩
 case refine_3 =>
  rintro i σ H0 x H' hi ⟨g,vf,u4,rfl,er,rf,Si⟩ ⟨rfl,y1⟩;obtain ⟨u,eu,hU⟩:=r2.get (y1 _ (SqL.of (g.lst kd3 nlf nl e2)));have ei:us.take (i+1)=us.take i++[u]:=zZ eu;have li:(us.take i).length=i:=by rw [Ak]; omega
  have O:=Q3 hm (us.take i) (wf.take i) (tot:=tot) (Ar (Nat.add_le_add_left (filter_take _ _ _) _) ht);have oki:=ok i u eu;have wfu:=wf i u eu;rw [ei,Zw];generalize outN m tot ss (us.take i)=st at *;have lst:=O.len;rw [li] at lst;have lvf:=rf.length;have fin:∀ (p:Addr) (ys:List V) (f:List Rat) (sk:Sk) (H5:Hp),But3 Z.l Z.d Z.e H' H5→SkAt P w K a.czv H5 Z m tot sk→H5 p=some (.lst ys)→p≠Z.l→p≠lf→RL K H5 ys f→H5 lf=some (.lst vf)∧But4 lf Z.l Z.d Z.e H3 (upd H5 lf (.lst (vf++[.ref p])))∧PL2 Z.l lf K (upd H5 lf (.lst (vf++[.ref p]))) (vf++[.ref p]) (st.1++[f])∧SkAt P w K a.czv (upd H5 lf (.lst (vf++[.ref p]))) Z m tot sk:=fun p ys f sk H5 k S5 ep np nq rr=>by
   have er5:=k.lst Si.kd nf er;refine ⟨er5,(g.then3 k).upd,PL2.upd (Paired.snoc (rf.but3 k Si.kd) ⟨p,ys,rfl,ep,np,nq,rr⟩) er5,S5.upd nf er5⟩
  cases u with
  | sum c ts =>
   obtain ⟨t3,pc,pt,vs,rfl,h1,h2,h3,np,h4⟩:=hU;have npf:pt≠lf:=qQ (g2 _ _ h3) hlf;have h1:=g.tup kd3 ef (gA.tup h1);have h2:=g.tup kd3 ef (gA.tup h2);have h3:=g.lst kd3 npf np (gA _ _ h3);have h4:TL K H' vs ts:=Paired.mapP h4 fun _ _ ⟨t,r,e1,k1,k2⟩=>⟨t,r,e1,g.tup kd3 ef (gA.tup k1),g.tup kd3 ef (gA.tup k2)⟩
   refine ⟨_,rfl,_,_,_,_,rfl,rfl,h1,rfl,rfl,_,rfl,iteP rfl ?_⟩;refine ⟨_,rfl,.inl ⟨rfl,_,SqL.of er⟩,_,rfl,_,_,_,_,rfl,rfl,h1,rfl,_,rfl,_,_,_,_,rfl,rfl,h1,rfl,_,rfl,_,rfl,Z.p,_,Z.dx,_,_,rfl,Si.ins,T.Czv,T.nzz,rfl,pc,pt,lf,Z.l,vs,vf,c,ts,st.1,tot,rfl,h2,SqL.of h3,h4,SqL.of er,rf.one,fun x hx=>by rw [lst]; exact wfu.1 x hx,wfu.2.2,oki,t40,fun p5 H5 v5 np5 g5 e5 r5=>?_⟩;obtain ⟨vw5,hw5,_⟩:=Si.ws;obtain ⟨a1,a2,a3,a4⟩:=fin p5 v5 _ st.2 H5 g5.but3 (Si.mono g5) e5 (Ne.symm (qQ hw5 np5)) (Ne.symm (qQ er np5)) r5;exact ⟨lf,vf,_,rfl,rfl,a1,zj (by omega),a2,_,_,rfl,qz,a3,a4⟩
  | bend p0 =>
   obtain ⟨t3,rfl,h1⟩:=hU;have h1:=g.tup kd3 ef (gA.tup h1);have hp0:p0<st.1.length:=by rw [lst]; exact wfu
   obtain ⟨ve,ev,pe,ye,rfl,he,nel,nef,re⟩:=rf.getD hp0;have fo:=O.fo _ (in_at [] hp0);refine ⟨_,rfl,_,_,_,_,rfl,rfl,h1,rfl,rfl,_,rfl,iteN (by decide) ?_⟩;refine ⟨_,rfl,.inl ⟨rfl,_,SqL.of er⟩,_,rfl,Z.p,Z.dx,_,rfl,Si.ins,rfl,_,rfl,_,rfl,_,_,_,_,rfl,rfl,h1,rfl,lf,_,_,_,rfl,rfl,SqL.of er,atN ev,Z,pe,m,tot,st.2,_,rfl,Si,⟨pe,ye,rfl,he,nel,re⟩,fo.1,O.sk.len,by rw [O.sk.len]; exact O.sk.fit,t40,oki,fun p5 H5 k5 S5 f5 o5=>?_⟩;obtain ⟨_,y5,e5,h5,n5,r5⟩:=f5
   cases e5
   have n6:p5≠lf:=o5.elim (fun z=>z ▸ nef) fun z=>Ne.symm (qQ er z)
   obtain ⟨a1,a2,a3,a4⟩:=fin p5 y5 _ _ H5 k5 S5 h5 n5 n6 r5;exact ⟨lf,vf,_,rfl,rfl,a1,zj (by omega),a2,_,_,rfl,qz,a3,a4⟩
 rintro σ H' ⟨g,vf,u4,rfl,er,rf,Si⟩;refine ⟨⟨_,SqL.of (g.lst kd3 nlf nl e2),by omega⟩,?_⟩;rw [A5 (Nat.le_refl _)] at rf Si;have O:=Q3 hm us wf ht;have lst:=O.len;have lvf:=rf.length;have hT:=g.tup kd3 ef hT;have f2:=g.lst kd3 nof no f2;have lo2:(outV outs).length=outs.length:=by unfold outV; rw [Al]
 have kH:But3 Z.l Z.d Z.e H H':=fun b o h1 h2 h3 x=>g b o (qQ x nHf) h1 h2 h3 (g0 _ _ x)
 refine ⟨_,rfl,_,_,_,_,rfl,rfl,hT,rfl,o2,rfl,⟨_,SqL.of f2⟩,yy (n:=outs.length) (fun i ys H''=>H''=H'∧PLF Z.l K H' ys ((outs.take i).map fun o=>(outN m tot ss us).1.getD o [])) ⟨rfl,.nil⟩ (zj (by omega)) ?_ ?_ ?_⟩
 case refine_2 =>
  rintro i ys H'' hi ⟨rfl,_⟩;exact ⟨_,_,SqL.of f2,A4 (by omega)⟩
 case refine_3 =>
  rintro i m' ys H'' cc x H6 hi ⟨rfl,r⟩ ⟨rfl,y1⟩ nx _;obtain ⟨o,eo,rfl⟩:=out_at (y1 _ (SqL.of f2));have ho:=ol o (A8 eo);obtain ⟨ve,ev,he⟩:=rf.one.getD (i:=o) (by rw [lst]; exact ho);refine Or.inl ⟨rfl,_,rfl,_,rfl,lf,_,_,_,rfl,rfl,SqL.of er,atN ev,nx _ _ ⟨rfl,?_⟩⟩;rw [zZ eo,An];exact Paired.snoc r he
 rintro yo H'' ⟨rfl,r⟩;rw [A5 (Nat.le_refl _)] at r;refine ⟨⟨_,SqL.of f2,by omega⟩,fun D hD=>?_⟩;have j:=qy hD (.lst yo);exact q D yo _ (kH.trans j.but3) (Si.mono j) (kH.none Si.kd hD) qz (r.mono j)
theorem boot_sorted:bootBuiltins "sorted" = some (.builtin "sorted"):=PyProof.Rows.boot_sorted
theorem Z2 (x y:Rat):eqVs (TQ x) (TQ y)=decide (x=y):=by
 have e:eqVs (TQ x) (TQ y)=(eqV (.int x.num) (.int y.num)&&(eqV (.int (x.den:Int)) (.int (y.den:Int))&&true)):=rfl
 by_cases h:x=y
 ·subst h
  rw [decide_eq_true rfl];exact eqVs_self rfl
 ·rw [decide_eq_false h,e]
  have k:¬ (x.num=y.num∧(x.den:Int)=(y.den:Int)):=fun z=>h (Rat.ext z.1 (by omega))
  by_cases k1:x.num=y.num
  ·have k2:¬ (x.den:Int)=(y.den:Int):=fun z=>k ⟨k1,z⟩
   have:eqV (.int (x.den:Int)) (.int (y.den:Int))=false:=by
    unfold eqV
    simp
    omega
   rw [this]; simp
  ·have:eqV (.int x.num) (.int y.num)=false:=by
    unfold eqV
    simp
    omega
   rw [this]; simp
def FoS (K:As) (H:Hp) (v:V) (f:List Rat):Prop:=∃ p ys,v=.ref p∧(SqL K H p ys∨SqT K H p ys)∧RL K H ys f
theorem FoS.mono {H H':Hp} {v:V} {f:List Rat} (h:FoS K H v f) (g:Same H H'):FoS K H' v f:=by
 obtain ⟨p,ys,e,a,b⟩:=h;exact ⟨p,ys,e,a.elim (fun z=>.inl (g.seq z)) (fun z=>.inr (g.tup z)),b.mono g⟩
theorem dkL_keys:∀ (es:List (List Rat×Addr)) (n:Nat),(dkL n es).map (·.1)=((List.range es.length).map fun j=>((n+j:Nat):Int)).map Sum.inl
 | [],_=>rfl
 | e::es,n=>by
  show Sum.inl (n:Int)::(dkL (n+1) es).map _=_;rw [dkL_keys es (n+1),List.length_cons,List.range_succ_eq_map];rw [List.map_cons,List.map_cons,List.map_map,List.map_map,List.map_map]
  congr 1
  exact List.map_congr_left fun j _=>by show Sum.inl ((n+1+j:Nat):Int)=Sum.inl ((n+(j+1):Nat):Int); rw [show n+1+j=n+(j+1) by omega]
theorem down_one {ns ms:List Int} (p:ns.Perm ms) (h:ns.Pairwise (·≥·)) (k:ms.Pairwise (·≥·)):ns=ms:=List.Perm.eq_of_pairwise (le:=(·≥·)) (fun a b _ _ x y=>by omega) h k p
theorem up_one {ns ms:List Int} (p:ns.Perm ms) (h:ns.Pairwise (·≤·)) (k:ms.Pairwise (·≤·)):ns=ms:=List.Perm.eq_of_pairwise (le:=(·≤·)) (fun a b _ _ x y=>by omega) h k p
theorem down_range {m k:Nat} {ns:List Int} (p:ns.Perm ((List.range k).map fun j=>((m+j:Nat):Int))) (h:ns.Pairwise (·≥·)):ns.length=k∧∀ i,i<k→ns[i]?=some (((m+(k - 1 - i):Nat):Int)):=by
 have e:ns=((List.range k).map fun j=>((m+j:Nat):Int)).reverse:=by
  refine down_one (p.trans (List.reverse_perm _).symm) h ?_;rw [List.pairwise_reverse];exact List.pairwise_map.mpr (List.Pairwise.imp (fun {a b} (z:a<b)=>show ((m+b:Nat):Int)≥((m+a:Nat):Int) by omega) List.pairwise_lt_range)
 have l:((List.range k).map fun j=>((m+j:Nat):Int)).length=k:=by rw [Al,Aj]
 refine ⟨by rw [e,List.length_reverse,l],fun i hi=>?_⟩;rw [e,List.getElem?_reverse (by rw [l]; exact hi),l,List.getElem?_map,List.getElem?_range (by omega)];rfl
def spNeeded (P:Program) (w:World) (K:As) (C:Addr):Sp:=fun vs H Q _=>∃ (Z:SA) (lo:Addr) (m tot:Nat) (sk:Sk) (vo:List V) (fs:List (List Rat)),vs=[.ref Z.p,.ref lo]∧SkAt P w K C H Z m tot sk∧H lo=some (.lst vo)∧PLF Z.l K H vo fs∧fs.length≤12∧m+sk.bs.length≤tot∧tot≤40∧(∀ f∈fs,f.length=tot+1)∧(∀ f∈sk.bs,f.length=tot+1)∧∀ p H',H p=none→Same H H'→H' p=some (.lst (outV ((needD m sk.bs sk.bs.length fs).map (m+·))))→Q (.ref p) H'
theorem okx7 (T:Txt K mg a):FnOk P w K mg base CX0 1 a.fx7 a.dx7 ["sketch", "forms"] (spNeeded P w K a.czv):=by
 refine T.Fx7.ok v6 ?_ ?_
 ·walk_at "c"
 walk_at "b"
 obtain ⟨Z,lo,m,tot,sk,vo,fs,rfl,S,ho,rO,f12,hb,t40,lf,lb,q⟩:=h;have n0:∀ H:Hp,SqT K H a.gzk (TQ 0):=T.szk;refine ltX ?_
 intros
 refine ⟨_,body4 (by rfl)
  (ps_s 2 v6.nd (x4 qj))
  (ps_s 3 v6.nd (zy (j0) rfl T.m_list boot_list (pa_c (pv 1) qj)))
  (jW PassesOwn.never rfl (yq (pe_sortD rfl rfl T.m_sorted (yx (pv 0) rfl) pe_bl)) (pg_name (i:=4) v6.nd rfl (Or.inr rfl)) (qZ (ps_if (yk (qW (call_any rfl) rfl T.m_any boot_any (pa_c (jQ (N:=["form", "variable"]) (ix:=[none,some 4]) ⟨rfl,rfl,rfl,rfl,⟨rfl,trivial⟩,rfl,⟨⟨rfl,Or.inr (Or.inl rfl),kz rfl,rfl,Or.inl rfl⟩,trivial⟩⟩ rfl (yq (pv 3)) (fun _=>(pg_n 0 (show (["form", "variable"]:List Str).Nodup by decide +kernel))) (fun _ σ=>jJ rfl σ) (fun _=>yZ) (fun _=>(vV (op_neT (hu_of hr)) (pe_ix ix_seq (pv 0) (pe_op y9 (pv 1) qk)) (jj (v:=.ref a.gzk) rfl T.mzk rfl)))) qj))) (qX (jy (w5 (pv 2) (pv 4))) (qZ (jy (w5 (pv 3) (pe_dget (hu_of hr) (yx (pv 0) rfl) (pv 4)))))) zQ)))
  (zw (qW (call_sortedI) rfl T.m_sorted boot_sorted (pa_c (pv 2) qj))),?_⟩
 refine lt4 ?_
 intros
 have lvo:=PLF.length rO;obtain ⟨es,b1,b2,b3,b4⟩:=S.bs;have le:es.length=sk.bs.length:=by rw [← b1,Al]
 refine ⟨(by decide),fun lF hF=>?_⟩;have g1:=qy hF (.lst []);have eF:=qz (H:=H) (a:=lF) (o:=.lst []);refine ⟨_,rfl,lo,vo,rfl,.inl (SqL.of (g1 _ _ ho)),fun lS hS=>?_⟩;have g2:=qy hS (.lst vo);have eS:=qz (H:=upd H lF (.lst [])) (a:=lS) (o:=.lst vo);have nFS:lF≠lS:=qQ eF hS;have eF:=g2 _ _ eF;have nS:H lS=none:=zx g1 hS;have g:=g1.trans g2;generalize upd (upd H lF (.lst [])) lS (.lst vo)=H2 at *;clear g1 g2 hS;refine ⟨_,rfl,Z.p,_,Z.dx,_,_,rfl,g _ _ S.ins,T.Czv,T.nzx,rfl,Z.d,_,_,rfl,rfl,g _ _ b2,dkL_keys es m,by rw [dkL_len]; omega,fun lv ns pm pw hv=>?_⟩;obtain ⟨lns,ans⟩:=down_range pm pw;have g3:=qy hv (.lst (ns.map V.int));have ev:=qz (H:=H2) (a:=lv) (o:=.lst (ns.map V.int));have nvF:lv≠lF:=Ne.symm (qQ eF hv);have nvS:lv≠lS:=Ne.symm (qQ eS hv);have eF:=g3 _ _ eF;have eS:=g3 _ _ eS;have g:=g.trans g3;generalize upd H2 lv (.lst (ns.map V.int))=H3 at *;clear g3 hv;have lmv:(ns.map V.int).length=es.length:=by rw [Al]; exact lns
 refine ⟨lv,rfl,⟨_,SqL.of ev⟩,jz (n:=es.length) (fun i σ H'=>Same H H'∧H' lv=some (.lst (ns.map V.int))∧∃ (R:List Nat) (st:List (List Rat)) (vs:List V) (u4:Option V),σ=[some (.ref Z.p),some (.ref lo),some (.ref lF),some (.ref lS),u4]∧H' lF=some (.lst (outV (R.map (m+·))))∧H' lS=some (.lst vs)∧Paired (FoS K H) vs st∧(∀ f∈st,f.length=tot+1)∧R.length≤i∧st.length≤12+i∧needD m sk.bs sk.bs.length fs=needD m sk.bs (sk.bs.length - i) st++R.reverse)
  ⟨g,ev,[],fs,vo,_,rfl,eF,eS,Paired.mapP rO fun _ _ ⟨p,ys,e,h1,_,h2⟩=>⟨p,ys,e,.inl (SqL.of h1),h2⟩,lf,Nat.le_refl _,f12,by rw [Nat.sub_zero]; exact (List.append_nil _).symm⟩ ?_ ?_ ?_⟩
 case refine_2 =>
  rintro i σ H' hi ⟨g,ev,_⟩;exact ⟨_,_,SqL.of ev,A4 (by omega)⟩
 case refine_3 =>
  rintro i σ H0 x H' hi ⟨g,ev,R,st,vs,u4,rfl,eF,eS,rS,lst,lR,lst2,nd⟩ ⟨rfl,y1⟩;have ex:=y1 _ (SqL.of ev);rw [List.getElem?_map,ans i hi] at ex;have ex:V.int (((m+(es.length - 1 - i):Nat):Int))=x:=Ap ex;subst ex;obtain ⟨j,ej⟩:∃ j,j=es.length - 1 - i:=⟨_,rfl⟩;rw [← ej];have ejx:sk.bs.length - i=j+1:=by omega
  have hj:j<es.length:=by omega
  rw [ejx] at nd;have nd2:needD m sk.bs (j+1) st=if st.any (fun f=>decide (co f (m+j+1)≠0)) then needD m sk.bs j (st++[sk.bs.getD j []])++[j] else needD m sk.bs j st:=rfl
  rw [nd2] at nd;clear nd2;have lvs:=Paired.length rS;refine ⟨_,rfl,lS,rfl,⟨_,SqL.of eS⟩,yy (n:=st.length) (fun k ys H''=>H''=H'∧ys=((st.map fun f=>decide (co f (m+j+1)≠0)).take k).map V.bl) ⟨rfl,rfl⟩ (zj (by omega)) ?_ ?_ ?_⟩
  case refine_2 =>
   rintro k ys H'' hk ⟨rfl,_⟩;exact ⟨_,_,SqL.of eS,A4 (by omega)⟩
  case refine_3 =>
   rintro k m' ys H'' cc y H6 hk ⟨rfl,rfl⟩ ⟨rfl,y3⟩ nx _;obtain ⟨f,ef,hf⟩:=vy rS (y3 _ (SqL.of eS));obtain ⟨pf,yf,rfl,hs,rf⟩:=hf.mono g;have lff:=lst f (A8 ef);have lyf:=rf.length;obtain ⟨vq,eq,pq,rfl,hq⟩:=RL.getD (i:=m+j+1) rf (by omega);have ix:atI yf (((m+j:Nat):Int)+1)=some (.ref pq):=by
    rw [show ((m+j:Nat):Int)+1=((m+j+1:Nat):Int) by omega];exact atN eq
   have hq:SqT K _ pq (TQ (co f (m+j+1))):=hq;have ez:(st.map fun f=>decide (co f (m+j+1)≠0))[k]?=some (decide (co f (m+j+1)≠0)):=by rw [List.getElem?_map,ef]; rfl
   have fin:(((st.map fun f=>decide (co f (m+j+1)≠0)).take k).map V.bl++[V.bl (!eqVs (TQ (co f (m+j+1))) (TQ 0))])=((st.map fun f=>decide (co f (m+j+1)≠0)).take (k+1)).map V.bl:=by
    rw [zZ ez,An,Z2,decide_not];rfl
   refine Or.inl ⟨rfl,_,rfl,_,rfl,_,_,rfl,rfl,?_⟩
   rcases hs with hs | hs
   ·exact .inl ⟨pf,_,_,_,rfl,rfl,hs,ix,pq,a.gzk,_,_,rfl,rfl,hq,n0 _,rfl,rfl,nx _ _ ⟨rfl,fin⟩⟩
   ·exact .inr (.inl ⟨pf,_,_,_,rfl,rfl,hs,ix,pq,a.gzk,_,_,rfl,rfl,hq,n0 _,rfl,rfl,nx _ _ ⟨rfl,fin⟩⟩)
  rintro ys H'' ⟨rfl,rfl⟩;rw [A5 (by rw [Al]; exact Nat.le_refl _)];refine ⟨⟨_,SqL.of eS,by omega⟩,fun D hD=>?_⟩;have gD:=qy hD (.lst ((st.map fun f=>decide (co f (m+j+1)≠0)).map V.bl));have eD:=qz (H:=H'') (a:=D) (o:=.lst ((st.map fun f=>decide (co f (m+j+1)≠0)).map V.bl));have g:=g.trans gD;have ev:=gD _ _ ev;have eF:=gD _ _ eF;have eS:=gD _ _ eS;refine ⟨D,_,rfl,SqL.of eD,_,rfl,?_⟩;rw [List.any_map];have e0:(st.any (id ∘ fun f=>decide (co f (m+j+1)≠0)))=st.any fun f=>decide (co f (m+j+1)≠0):=rfl
  rw [e0];generalize upd H'' D (.lst ((st.map fun f=>decide (co f (m+j+1)≠0)).map V.bl))=H4 at *;obtain ⟨ex0,hex⟩:∃ x,es[j]?=some x:=⟨_,A4 hj⟩;have ebj:sk.bs[j]?=some ex0.1:=by rw [← b1,List.getElem?_map,hex]; rfl
  have ebg:sk.bs.getD j []=ex0.1:=zJ _ ebj
  cases hany:st.any fun f=>decide (co f (m+j+1)≠0) with
  | true =>
   rw [hany,if_pos rfl,ebg] at nd;obtain ⟨tv,t1,t2⟩:=b4 ex0 (A8 hex);have lo1:(outV (R.map (m+·))).length=R.length:=by unfold outV; rw [Al,Al]
   refine iteT ⟨_,rfl,.inl ⟨rfl,_,SqL.of eF⟩,_,rfl,lF,_,_,rfl,rfl,eF,zj (by omega),?_⟩;have eo:outV (R.map (m+·))++[V.int ((m+j:Nat):Int)]=outV ((R++[j]).map (m+·)):=by unfold outV; rw [An,An]; rfl
   rw [eo];have gF:=g.laid hF (.lst (outV ((R++[j]).map (m+·))));have ev5:upd H4 lF (.lst (outV ((R++[j]).map (m+·)))) lv=some (.lst (ns.map V.int)):=by rw [qJ nvF]; exact ev
   have eS5:upd H4 lF (.lst (outV ((R++[j]).map (m+·)))) lS=some (.lst vs):=by rw [qJ (Ne.symm nFS)]; exact eS
   have eF5:=qz (H:=H4) (a:=lF) (o:=.lst (outV ((R++[j]).map (m+·))));generalize upd H4 lF (.lst (outV ((R++[j]).map (m+·))))=H5 at *;refine ⟨_,rfl,.inl ⟨rfl,_,SqL.of eS5⟩,_,rfl,Z.p,_,Z.dx,_,_,rfl,gF _ _ S.ins,T.Czv,T.nzx,rfl,_,rfl,Z.d,.ref ex0.2,rfl,?_,lS,_,_,rfl,rfl,eS5,zj (by omega),?_⟩
   ·have z:=DGet.k (k:=Sum.inl (((m+j:Nat):Int))) (gF _ _ b2)
    rw [dkL_at,hex] at z;exact z
   ·refine ⟨gF.laid nS _,by rw [qJ nvS]; exact ev5,R++[j],st++[ex0.1],_,_,rfl,by rw [qJ nFS]; exact eF5,qz,Paired.snoc rS ⟨ex0.2,tv,rfl,.inr t1,t2⟩,fun f hf=>?_,by rw [Ad,A6]; omega,by rw [Ad,A6]; omega,?_⟩
    ·rcases Am.mp hf with z | z
     ·exact lst f z
     ·rw [Ae.mp z]; exact lb _ (A8 ebj)
    ·rw [show sk.bs.length - (i+1)=j by omega,List.reverse_append,nd,List.append_assoc]
     rfl
  | false =>
   rw [hany,if_neg (by decide)] at nd;refine iteF ⟨g,ev,R,st,vs,_,rfl,eF,eS,rS,lst,by omega,by omega,?_⟩;rw [show sk.bs.length - (i+1)=j by omega];exact nd
 rintro σ H' ⟨g,ev,R,st,vs,u4,rfl,eF,eS,rS,lst,lR,_,nd⟩;refine ⟨⟨_,SqL.of ev,by omega⟩,?_⟩;have e0:sk.bs.length - es.length=0:=by omega
 rw [e0] at nd;have nd:needD m sk.bs sk.bs.length fs=R.reverse:=nd;have eR:outV (R.map (m+·))=(R.map fun j=>((m+j:Nat):Int)).map V.int:=by unfold outV; rw [List.map_map,List.map_map]; rfl
 rw [eR] at eF;refine ⟨_,rfl,lF,_,rfl,SqL.of eF,by rw [Al]; omega,fun l ns' pm pw hl=>?_⟩;obtain ⟨n1,_⟩:=xQ (m:=m) (bs:=sk.bs) sk.bs.length fs;have en:ns'=((needD m sk.bs sk.bs.length fs).map fun j=>((m+j:Nat):Int)):=by
  refine up_one ?_ pw ?_
  ·rw [nd,List.map_reverse]
   exact pm.trans (List.reverse_perm _).symm
  ·exact List.pairwise_map.mpr (List.Pairwise.imp (fun {a b} (z:a<b)=>show ((m+a:Nat):Int)≤((m+b:Nat):Int) by omega) n1)
 have eO:ns'.map V.int=outV ((needD m sk.bs sk.bs.length fs).map (m+·)):=by rw [en]; unfold outV; rw [List.map_map,List.map_map]; rfl
 rw [eO];exact q l _ (zx g hl) (g.laid (zx g hl) _) qz
theorem hP8:deep partS≤8:=by decide
def plL (pl:List (Nat×Nat)):List (Key×V):=pl.map fun x=>(Sum.inl (x.1:Int),V.int (x.2:Int))
theorem plL_at (k:Nat):∀ pl:List (Nat×Nat),valV (plL pl) (Sum.inl (k:Int))=(plV pl k).map fun p:Nat=>V.int (p:Int)
 | []=>rfl
 | x::pl=>by
  have ih:=plL_at k pl;show valV ((Sum.inl (x.1:Int),V.int (x.2:Int))::plL pl) _=_;unfold plV at ih ⊢;rw [List.find?_cons]
  by_cases c:x.1=k
  ·rw [decide_eq_true c,v9 (by rw [c])]
   rfl
  ·rw [decide_eq_false c,vz (by intro z; have z:=Sum.inl.inj z; exact c (by omega))]
   exact ih
theorem plL_len (pl:List (Nat×Nat)):(plL pl).length=pl.length:=by unfold plL; rw [Al]
def prD (k:Rat×List (Nat×Rat)):Dat partS:=pD k.1 (k.2.map fun t=>((t.1:Int),t.2))
theorem prD_inj {k l:Rat×List (Nat×Rat)} (h:prD k=prD l):k=l:=by
 obtain ⟨h1,h2⟩:=pD_inj h;have e:k.2=l.2:=by
  have inj:∀ {xs ys:List (Nat×Rat)},(xs.map fun t=>((t.1:Int),t.2))=(ys.map fun t=>((t.1:Int),t.2))→xs=ys:=fun {xs}=>by
   induction xs with
   | nil=>intro ys e; cases ys with
    | nil=>rfl
    | cons _ _=>cases e
   | cons x xs ih=>intro ys e; cases ys with
    | nil=>cases e
    | cons y ys =>
     have e1:((x.1:Int),x.2)=((y.1:Int),y.2):=by injection e
     have e2:(xs.map fun t=>((t.1:Int),t.2))=(ys.map fun t=>((t.1:Int),t.2)):=by injection e
     have a:(x.1:Int)=(y.1:Int):=(Prod.mk.inj e1).1;have b:x.2=y.2:=(Prod.mk.inj e1).2;rw [ih e2,show x=y from Prod.ext (by omega) b]
  exact inj h2
 exact Prod.ext h1 e
abbrev SmE:=((Rat×List (Nat×Rat))×Nat)×Addr
def smL (es:List SmE):List (Dat partS×Addr×Int):=es.map fun x=>(prD x.1.1,x.2,(x.1.2:Int))
theorem smL_at (k:Rat×List (Nat×Rat)):∀ es:List SmE,atT (smL es) (prD k)=(smV (es.map (·.1)) k).map fun p:Nat=>(p:Int)
 | []=>rfl
 | x::es=>by
  have ih:=smL_at k es;unfold atT smV at ih ⊢;show (List.find? _ ((prD x.1.1,x.2,(x.1.2:Int))::smL es)).map _=(((x.1::es.map (·.1)).find? _).map _).map _;rw [List.find?_cons,List.find?_cons]
  by_cases c:x.1.1=k
  ·have h1:decide (x.1.1=k)=true:=decide_eq_true c
   have h2:decide (prD x.1.1=prD k)=true:=decide_eq_true (by rw [c]);dsimp only;rw [h1,h2];rfl
  ·have h1:decide (x.1.1=k)=false:=decide_eq_false c
   have h2:decide (prD x.1.1=prD k)=false:=decide_eq_false fun z=>c (prD_inj z)
   dsimp only;rw [h1,h2];exact ih
theorem nodup_pr:∀ {ks:List (Rat×List (Nat×Rat))},ks.Nodup→(ks.map prD).Nodup
 | [],_=>List.nodup_nil
 | k::ks,h=>by
  have h:=List.nodup_cons.mp h;refine List.nodup_cons.mpr ⟨fun z=>?_,nodup_pr h.2⟩;obtain ⟨g,hg,e⟩:=List.mem_map.mp z;exact h.1 (prD_inj e ▸ hg)
theorem tl_terms {H:Hp} {vs:List V} {ts:List (Nat×Rat)} (h:TL K H vs ts):TermL K H vs (ts.map fun t=>((t.1:Int),t.2)):=by
 induction h with
 | nil=>exact .nil
 | cons z _ ih =>
  obtain ⟨t,r,e,a,b⟩:=z;exact .cons ⟨t,r,e,a,b⟩ ih
def drF (Z:SA) (m:Nat):List (Str×V):=[("many",.int (m:Int)),("units",.ref Z.l),("places",.ref Z.d),("sums",.ref Z.e)]
structure DrAt (P:Program) (w:World) (K:As) (C:Addr) (H:Hp) (Z:SA) (m:Nat) (d:Dr):Prop where
 ins:H Z.p=some (.ins C Z.dx (drF Z m))
 us:∃ vu,H Z.l=some (.lst vu)∧UF Z.l K H vu d.us
 pl:H Z.d=some (.dK (plL d.pl))
 sm:∃ es:List SmE,es.map (·.1)=d.sm∧H Z.e=some (.ext (DicAt P w partS hP8 Z.e (smL es)))∧∀ x∈es,TrV K H partS (prD x.1.1) (.ref x.2)
 nd:(d.sm.map (·.1)).Nodup
section
variable {C:Addr} {H H':Hp} {Z:SA} {m:Nat} {d:Dr}
theorem DrAt.kd (h:DrAt P w K C H Z m d):Kd H Z.l Z.d Z.e:=by
 obtain ⟨vu,h1,_⟩:=h.us;obtain ⟨es,_,h3,_⟩:=h.sm;exact ⟨⟨_,h1⟩,⟨_,h.pl⟩,⟨_,h3⟩⟩
theorem DrAt.mono (h:DrAt P w K C H Z m d) (g:Same H H'):DrAt P w K C H' Z m d:=by
 obtain ⟨vu,h1,h2⟩:=h.us;obtain ⟨es,e1,e3,e4⟩:=h.sm;exact ⟨g _ _ h.ins,⟨vu,g _ _ h1,h2.mono g⟩,g _ _ h.pl,⟨es,e1,g _ _ e3,fun x hx=>(e4 x hx).mono g⟩,h.nd⟩
theorem keys_sm {es:List SmE} (nd:((es.map (·.1)).map (·.1)).Nodup) (e4:∀ x∈es,TrV K H partS (prD x.1.1) (.ref x.2)):KeysV K H partS (smL es):=by
 refine ⟨fun k hk=>?_,?_⟩
 ·obtain ⟨x,hx,rfl⟩:=List.mem_map.mp hk
  exact e4 x hx
 ·have e:(smL es).map (·.1)=((es.map (·.1)).map (·.1)).map prD:=by
   unfold smL;rw [List.map_map,List.map_map,List.map_map];rfl
  rw [e];exact nodup_pr nd
end
def spDrInit (P:Program) (w:World) (K:As) (C:Addr):Sp:=fun vs H Q _=>∃ (x dx:Addr) (m:Nat),vs=[.ref x,.int (m:Int)]∧H x=some (.ins C dx [])∧m≤6∧∀ (Z:SA) H',(∀ b u,b≠x→H b=some u→H' b=some u)→Z.p=x→H Z.l=none→H Z.d=none→H Z.e=none→DrAt P w K C H' Z m (dr0 m)→Q .non H'
theorem okz6 (T:Txt K mg a):FnOk P w K mg base CX0 1 a.fz6 a.dz6 ["self", "many"] (spDrInit P w K a.cz5):=by
 refine T.Fz6.ok scz6 ?_ ?_
 ·walk_at "c"
 walk_at "b"
 obtain ⟨x,dx,m,rfl,hx,m6,q⟩:=h;refine ltX ?_
 intros
 refine ⟨_,body4 (by rfl)
  (xX (pv 0) (pv 1) rfl)
  (xX (pv 0) (x4 qj) rfl)
  (xX (pv 0) (zy (call_dictL rfl) rfl T.m_dict boot_dict (pa_c (jQ (N:=["place"]) (ix:=[none]) ⟨rfl,rfl,rfl,rfl,trivial,rfl,trivial⟩ rfl (xq rfl T.m_range (pa_c (pv 1) qj)) (fun _=>(pg_n 0 (show (["place"]:List Str).Nodup by decide +kernel))) (fun _ σ=>jJ rfl σ) (fun _=>yZ) (fun _=>(yz (pa_c (pv 0) (pa_c (pv 0) qj))))) qj)) rfl)
  (xX (pv 0) (pe_dicT0 (sh:=partS) (h8:=by decide)) rfl),?_⟩
 refine lt4 ?_
 intros
 refine ⟨_,rfl,_,rfl,x,_,dx,[],rfl,hx,T.Cz5,T.nz7,by decide,?_⟩;have hx1:upd H x (.ins a.cz5 dx (putF "many" (.int (m:Int)) [])) x=some (.ins a.cz5 dx [("many",.int (m:Int))]):=qz;have but:∀ b u,b≠x→H b=some u→upd H x (.ins a.cz5 dx (putF "many" (.int (m:Int)) [])) b=some u:=fun b u hb e=>by rw [qJ hb]; exact e
 have back:∀ b,upd H x (.ins a.cz5 dx (putF "many" (.int (m:Int)) [])) b=none→H b=none:=fun b e=>by
  by_cases c:b=x
  ·rw [c,qz] at e; cases e
  ·rw [qJ c] at e; exact e
 generalize upd H x (.ins a.cz5 dx (putF "many" (.int (m:Int)) []))=H1 at *;refine ⟨(by decide),fun l hl=>?_⟩;have g1:=qy hl (.lst []);have el:=qz (H:=H1) (a:=l) (o:=.lst []);have nlx:l≠x:=Ne.symm (qQ hx1 hl);have nl0:=back l hl;refine ⟨_,rfl,x,_,dx,[("many",.int (m:Int))],rfl,g1 _ _ hx1,T.Cz5,T.nzc,(show 1<1000 by decide),?_⟩;have hx2:upd (upd H1 l (.lst [])) x (.ins a.cz5 dx (putF "units" (.ref l) [("many",.int (m:Int))])) x=some (.ins a.cz5 dx [("many",.int (m:Int)),("units",.ref l)]):=qz;have el2:upd (upd H1 l (.lst [])) x (.ins a.cz5 dx (putF "units" (.ref l) [("many",.int (m:Int))])) l=some (.lst []):=by rw [qJ nlx]; exact el
 have but2:∀ b u,b≠x→H b=some u→upd (upd H1 l (.lst [])) x (.ins a.cz5 dx (putF "units" (.ref l) [("many",.int (m:Int))])) b=some u:=fun b u hb e=>by rw [qJ hb]; exact g1 _ _ (but b u hb e)
 have back2:∀ b,upd (upd H1 l (.lst [])) x (.ins a.cz5 dx (putF "units" (.ref l) [("many",.int (m:Int))])) b=none→H b=none:=fun b e=>by
  by_cases c:b=x
  ·rw [c,qz] at e; cases e
  ·rw [qJ c] at e; exact back b (zx g1 e)
 generalize upd (upd H1 l (.lst [])) x (.ins a.cz5 dx (putF "units" (.ref l) [("many",.int (m:Int))]))=H2 at *;clear but back hx1 g1 el hl;refine ⟨_,rfl,(m:Int),rfl,by omega,by omega,yy (n:=m) (fun i ys H'=>Same H2 H'∧Paired (fun v kv=>∃ t,v=V.ref t∧SqT K H' t [kV kv.1,kv.2]) ys (plL ((List.range i).map fun k=>(k,k)))) ⟨Same.refl _,.nil⟩ (zj (by omega)) ?_ ?_ ?_⟩
 case refine_2 =>
  rintro i ys H' hi _;show i<(m:Int).toNat;omega
 case refine_3 =>
  rintro i m' ys H' c y H5 hi ⟨g,r⟩ ⟨rfl,rfl⟩ nx _;refine Or.inl ⟨rfl,_,rfl,_,rfl,yj,fun t ht=>nx _ _ ⟨g.trans (qy ht _),?_⟩⟩;have e:plL ((List.range (i+1)).map fun k=>(k,k))=plL ((List.range i).map fun k=>(k,k))++[(Sum.inl (i:Int),V.int (i:Int))]:=by
   rw [List.range_succ,An];unfold plL;rw [An];rfl
  rw [e];refine Paired.snoc (Paired.mapP r fun _ _ ⟨t1,a1,a2⟩=>⟨t1,a1,(qy ht _).tup a2⟩) ⟨t,rfl,?_⟩;rw [Int.zero_add];exact SqT.of qz
 rintro yp H3 ⟨g3,rP⟩;refine ⟨by show (m:Int).toNat≤m; omega,fun lp hp=>?_⟩;have j:=qy hp (.lst yp);have kl:(plL ((List.range m).map fun k=>(k,k))).length=m:=by rw [plL_len,Al,Aj]
 refine ⟨lp,yp,_,rfl,qz,Paired.mapP rP fun _ _ ⟨t1,a1,a2⟩=>⟨t1,a1,j.tup a2⟩,?_,by omega,fun d hd=>?_⟩
 ·have e:(plL ((List.range m).map fun k=>(k,k))).map (·.1)=(List.range m).map fun k:Nat=>(Sum.inl (k:Int):Key):=by
   unfold plL;rw [List.map_map,List.map_map];rfl
  rw [e];exact List.pairwise_map.mpr (List.Pairwise.imp (fun {a b} (z:a<b)=>fun h=>by have:=Sum.inl.inj h; omega) List.pairwise_lt_range)
 have g4:=(g3.trans j).trans (qy hd (.dK (plL ((List.range m).map fun k=>(k,k)))));have ed:=qz (H:=upd H3 lp (.lst yp)) (a:=d) (o:=.dK (plL ((List.range m).map fun k=>(k,k))));have ndx:d≠x:=Ne.symm (qQ ((g3.trans j) _ _ hx2) hd);have ndl:d≠l:=Ne.symm (qQ ((g3.trans j) _ _ el2) hd);have nd0:=back2 d (zx (g3.trans j) hd);have hx4:=g4 _ _ hx2;have el4:=g4 _ _ el2;generalize upd (upd H3 lp (.lst yp)) d (.dK (plL ((List.range m).map fun k=>(k,k))))=H4 at *;refine ⟨_,rfl,x,_,dx,[("many",.int (m:Int)),("units",.ref l)],rfl,hx4,T.Cz5,T.nz8,(show 2<1000 by decide),?_⟩;intro e he;have hen:H4 e=none:=by
  by_cases c:e=x
  ·rw [c,qz] at he; cases he
  ·rw [qJ c] at he; exact he
 have nex:e≠x:=Ne.symm (qQ hx4 hen);have ned:e≠d:=Ne.symm (qQ ed hen);have nel:e≠l:=Ne.symm (qQ el4 hen);have ne0:=back2 e (zx g4 hen);refine ⟨_,rfl,x,_,dx,[("many",.int (m:Int)),("units",.ref l),("places",.ref d)],rfl,(by rw [qJ (Ne.symm nex),qz]; rfl),T.Cz5,T.nzb,(show 3<1000 by decide),?_⟩;refine q ⟨x,dx,l,d,e⟩ _ (fun b u hb z=>?_) rfl nl0 nd0 ne0 ⟨qz,⟨[],?_,.nil⟩,?_,⟨[],rfl,?_,fun y hy=>(by cases hy)⟩,List.nodup_nil⟩
 ·have z2:=g4 _ _ (but2 b u hb z)
  rw [qJ hb,qJ (qQ z2 hen),qJ hb];exact z2
 ·show upd _ x _ l=_
  rw [qJ nlx,qJ (Ne.symm nel),qJ nlx];exact el4
 ·show upd _ x _ d=_
  rw [qJ ndx,qJ (Ne.symm ned),qJ ndx];exact ed
 ·show upd _ x _ e=_
  rw [qJ nex];exact qz
def spPut (P:Program) (w:World) (K:As) (C:Addr):Sp:=fun vs H Q _=>∃ (Z:SA) (v:V) (m:Nat) (d:Dr) (u:Un),vs=[.ref Z.p,v]∧DrAt P w K C H Z m d∧UnF Z.l K H v u∧d.us.length≤900∧∀ H',But3 Z.l Z.d Z.e H H'→DrAt P w K C H' Z m ⟨d.us++[u],d.pl,d.sm⟩→Q (.int ((m+d.us.length:Nat):Int)) H'
theorem okz9 (T:Txt K mg a):FnOk P w K mg base CX0 1 a.fz9 a.dz9 ["self", "unit"] (spPut P w K a.cz5):=by
 refine T.Fz9.ok scz9 ?_ ?_
 ·walk_at "c"
 walk_at "b"
 obtain ⟨Z,v,m,d,u,rfl,D,hU,l900,q⟩:=h;refine ⟨_,(qX (jy (w5 (yx (pv 0) rfl) (pv 1)))
   (qZ (zw (pe_op op_sub (pe_op y9 (yx (pv 0) rfl) (qW (zk) rfl T.m_len boot_len (pa_c (yx (pv 0) rfl) qj))) qk)))),?_⟩
 obtain ⟨vu,hu,rU⟩:=D.us;have lvu:=rU.length;obtain ⟨nld,nle,nde⟩:=D.kd.ne;refine ⟨_,rfl,Z.p,_,Z.dx,_,_,rfl,D.ins,T.Cz5,T.nzc,rfl,.inl ⟨rfl,_,SqL.of hu⟩,_,rfl,Z.l,vu,_,rfl,rfl,hu,zj (by omega),?_⟩;have k:But3 Z.l Z.d Z.e H (upd H Z.l (.lst (vu++[v]))):=fun b o h1 _ _ x=>by rw [qJ h1]; exact x
 have D2:DrAt P w K a.cz5 (upd H Z.l (.lst (vu++[v]))) Z m ⟨d.us++[u],d.pl,d.sm⟩:=by
  obtain ⟨es,e1,e3,e4⟩:=D.sm;exact ⟨k.ins D.kd D.ins,⟨_,qz,(UF.snoc rU hU).upd hu⟩,by rw [qJ (Ne.symm nld)]; exact D.pl,⟨es,e1,by rw [qJ (Ne.symm nle)]; exact e3,fun x hx=>k.trv D.kd _ (e4 x hx)⟩,D.nd⟩
 have q:=q _ k D2;have eu:=qz (H:=H) (a:=Z.l) (o:=.lst (vu++[v]));generalize upd H Z.l (.lst (vu++[v]))=H2 at *;refine ⟨_,rfl,Z.p,_,Z.dx,_,_,rfl,D2.ins,T.Cz5,T.nz7,rfl,_,rfl,Z.p,_,Z.dx,_,_,rfl,D2.ins,T.Cz5,T.nzc,rfl,_,_,rfl,.inl (SqL.of eu),_,_,rfl,rfl,_,_,rfl,rfl,?_⟩;dsimp only;rw [show (m:Int)+((vu++[v]).length:Int) - 1=((m+d.us.length:Nat):Int) by rw [Ad,A6]; omega];exact q
theorem xw {pl:List (Nat×Nat)} (s:Rat):∀ (r:List Rat) (k:Nat),zq pl (r++[s]) k=zq pl r k++(if s=0 then [] else [((plV pl (k+r.length)).getD 0,s)])
 | [],k=>by
  show (if s=0 then [] else [_])=[]++_;rw [List.nil_append];rfl
 | x::r,k=>by
  have ih:=xw (pl:=pl) s r (k+1);show (if x=0 then zq pl (r++[s]) (k+1) else _::zq pl (r++[s]) (k+1))=(if x=0 then zq pl r (k+1) else _::zq pl r (k+1))++_;rw [ih,List.length_cons,show k+1+r.length=k+(r.length+1) by omega]
  by_cases c:x=0
  ·rw [if_pos c,if_pos c]
  ·rw [if_neg c,if_neg c,List.cons_append]
theorem rix {H:Hp} {p:Addr} {ys:List V} {i:Int} {x:V} {Q:VK} (h:SqL K H p ys∨SqT K H p ys) (e:atI ys i=some x) (q:Q x H):rIx K (.ref p) (.int i) H Q:=h.elim (fun z=>.inl ⟨p,ys,i,x,rfl,rfl,z,e,q⟩) fun z=>.inr (.inl ⟨p,ys,i,x,rfl,rfl,z,e,q⟩)
theorem smV_none {sm:List ((Rat×List (Nat×Rat))×Nat)} {k:Rat×List (Nat×Rat)} (h:smV sm k=none):k∉sm.map (·.1):=fun z=>by
 obtain ⟨y,hy,ey⟩:=List.mem_map.mp z;unfold smV at h
 cases e:sm.find? fun x=>decide (x.1=k) with
 | none=>exact absurd ey (by simpa using List.find?_eq_none.mp e y hy)
 | some x=>rw [e] at h; cases h
theorem smV_last {sm:List ((Rat×List (Nat×Rat))×Nat)} {k:Rat×List (Nat×Rat)} {p:Nat} (h:smV sm k=none):smV (sm++[(k,p)]) k=some p:=by
 unfold smV at h ⊢;rw [List.find?_append]
 cases e:sm.find? fun x=>decide (x.1=k) with
 | none =>
  rw [Option.none_or,List.find?_cons];have:decide ((k,p).1=k)=true:=decide_eq_true rfl;rw [this];rfl
 | some x=>rw [e] at h; cases h
def spSeat (P:Program) (w:World) (K:As) (C:Addr):Sp:=fun vs H Q _=>∃ (Z:SA) (v:V) (m tot:Nat) (d:Dr) (f:List Rat),vs=[.ref Z.p,v]∧DrAt P w K C H Z m d∧FoS K H v f∧f.length=tot+1∧tot≤40∧(∀ k,co f (k+1)≠0→k∈d.pl.map (·.1))∧d.us.length≤800∧d.sm.length≤800∧∀ H',But3 Z.l Z.d Z.e H H'→DrAt P w K C H' Z m (seatF m d f).2→Q (.int ((seatF m d f).1:Int)) H'
theorem okza (T:Txt K mg a):FnOk P w K mg base CX0 2 a.fza a.dza ["self", "form"] (spSeat P w K a.cz5):=by
 refine T.Fza.ok Z3 ?_ ?_
 ·walk_at "c"
 walk_at "b"
 obtain ⟨Z,v,m,tot,d,f,rfl,D,hf,lf1,t40,hn,u800,s800,q⟩:=h;have n0:∀ H:Hp,SqT K H a.gzk (TQ 0):=T.szk;have n1:∀ H:Hp,SqT K H a.gzu (TQ 1):=T.szu;refine ltX ?_
 intros
 refine ⟨_,body5 (by rfl)
  (kq (i:=2) Z3.nd rfl (Or.inl rfl) (N:=["k", "share", "self"]) (ix:=[none,none,some 0]) ⟨rfl,rfl,rfl,rfl,⟨rfl,trivial⟩,rfl,⟨⟨rfl,Or.inr (Or.inl rfl),kz rfl,rfl,Or.inl rfl⟩,trivial⟩⟩ rfl (pi_enumS rfl T.m_enumerate (pa_c (Qk (ZZ.or sl_tup) (pv 1) (xY qk) po_none) qj)) (fun _=>(yJ rfl (zz (pg_n 0 (show (["k", "share", "self"]:List Str).Nodup by decide +kernel)) (zz (pg_n 1 (show (["k", "share", "self"]:List Str).Nodup by decide +kernel)) zV)))) (fun _ σ=>go_two rfl rfl (by decide) σ) (fun _=>(pif_one (zv (op_neT (hu_of hr)) (pv 1) (jj (v:=.ref a.gzk) rfl T.mzk rfl)))) (fun _=>(yz (pa_c (pe_dget (hu_of hr) (yx (pv 2) rfl) (pv 0)) (pa_c (pv 1) qj)))))
  (ps_if (PW.pt (pw_and (zv (op_eqT (hu_of hr)) (pe_ix ix_seq (pv 1) qk) (jj (v:=.ref a.gzk) rfl T.mzk rfl)) (pw_and (zv op_eq (qW (zk) rfl T.m_len boot_len (pa_c (pv 2) qj)) qk) (pw_and1 (zv (op_eqT (hu_of hr)) (pe_ix qK (pe_ix yV (pv 2) qk) qk) (jj (v:=.ref a.gzu) rfl T.mzu rfl)))))) (qZ (zw (pe_ix qK (pe_ix yV (pv 2) qk) qk))) zQ)
  (ps_s 3 Z3.nd (yz (pa_c (pe_ix ix_seq (pv 1) qk) (pa_c (zy (ww) rfl T.m_tuple boot_tuple (pa_c (pv 2) qj)) qj))))
  (ps_if (zv (op_notInD (sh:=partS) (h8:=by decide) hr.units) (pv 3) (yx (pv 0) rfl) (by with_unfolding_all rfl)) (qZ (vY (pe_meth (pv 0) T.Cz5 T.tz9 (okz9 T) (hr.mono (by decide)) T.bz9 .nil pass0 (pa_c (yz (pa_c jY (pa_c (pe_ix ix_seq (pv 1) qk) (pa_c (pv 2) qj)))) qj) (hst:=qq rfl _ _) (hpl:=qV rfl)) (pg_sub (yx (pv 0) rfl) (pv 3) (set_dicT (sh:=partS) (h8:=by decide) hr.units)))) zQ)
  (zw (pe_ix (ix_dicT (sh:=partS) (h8:=by decide) hr.units) (yx (pv 0) rfl) (pv 3))),?_⟩
 refine lt5 ?_
 intros
 obtain ⟨p,ys,rfl,hs,rf⟩:=id hf;have lys:=rf.length;have ltl:f.tail.length=tot:=by rw [List.length_tail,lf1]; rfl
 obtain ⟨vu0,hu0,_⟩:=D.us;change tSeq _ _ _ [some (.ref Z.p),some (.ref p),none,none] H;refine seq_cut fun N hN=>?_
 have rest:∀ (lt:Addr) (vt:List V) (H':Hp),Same H H'→H lt=none→H' lt=some (.lst vt)→TL K H' vt (zq d.pl f.tail 0)→N [some (.ref Z.p),some (.ref p),some (.ref lt),none] H':=by
  subst hN;intro lt vt H1 g nlt et rt;have D:=D.mono g;have hs:SqL K H1 p ys∨SqT K H1 p ys:=hs.elim (fun z=>.inl (g.seq z)) (fun z=>.inr (g.tup z));have rf:=rf.mono g;have kH:But3 Z.l Z.d Z.e H H1:=g.but3;obtain ⟨vu,hu,rU⟩:=D.us;have nll:lt≠Z.l:=Ne.symm (qQ hu0 nlt);clear g hu0;obtain ⟨v0,ev0,p0,rfl,hp0⟩:=RL.getD (i:=0) rf (by omega);have hp0:SqT K H1 p0 (TQ (co f 0)):=hp0;have ix0:atI ys 0=some (.ref p0):=atN ev0;unfold seatF at q;generalize zq d.pl f.tail 0=td at *;have ltd:vt.length=td.length:=rt.length;change tSeq _ _ _ [some (.ref Z.p),some (.ref p),some (.ref lt),none] H1;refine seq_cut fun N hN=>?_
  have tail:¬ (co f 0=0∧td.length=1∧(td.getD 0 (0,0)).2=1)→N [some (.ref Z.p),some (.ref p),some (.ref lt),none] H1:=by
   subst hN;intro c;rw [if_neg c] at q;change tSeq _ _ _ [some (.ref Z.p),some (.ref p),some (.ref lt),none] H1;refine ⟨_,rfl,rix hs ix0 ⟨_,rfl,lt,vt,rfl,.inl ⟨SqL.of et,fun t1 ht1=>⟨yj,fun t2 ht2=>?_⟩⟩⟩⟩;have j1:=qy ht1 (.tup vt);have j2:=qy ht2 (.tup [.ref p0,.ref t1]);have j:=j1.trans j2;have key:TrV K (upd (upd H1 t1 (.tup vt)) t2 (.tup [.ref p0,.ref t1])) partS (prD (co f 0,td)) (.ref t2):=trv_parts (SqT.of qz) (j.tup hp0) (j2.tup (SqT.of qz)) (tl_terms (rt.mono j));have D2:=D.mono j;have hs2:SqL K _ p ys∨SqT K _ p ys:=hs.elim (fun z=>.inl (j.seq z)) (fun z=>.inr (j.tup z));have hp2:=j.tup hp0;have et2:=j _ _ et;have rt2:=rt.mono j;have k2:=kH.trans j.but3;generalize upd (upd H1 t1 (.tup vt)) t2 (.tup [.ref p0,.ref t1])=H2 at *;clear j1 j2 j ht1 ht2 D hs rt rf hu rU hp0 et;obtain ⟨es,b1,b3,b4⟩:=D2.sm;have kv:=keys_sm (es:=es) (by rw [b1]; exact D2.nd) b4;have at1:=smL_at (co f 0,td) es;rw [b1] at at1;have les:es.length=d.sm.length:=by rw [← b1,Al]
   refine ⟨_,rfl,_,rfl,Z.p,_,Z.dx,_,_,rfl,D2.ins,T.Cz5,T.nzb,rfl,t2,Z.e,_,_,rfl,rfl,key,b3,kv,?_⟩
   cases hp:smV d.sm (co f 0,td) with
   | some r =>
    rw [hp] at at1 q;rw [at1];refine ⟨_,rfl,iteF ⟨_,rfl,Z.p,_,Z.dx,_,_,rfl,D2.ins,T.Cz5,T.nzb,rfl,_,rfl,Z.e,t2,_,_,_,rfl,rfl,key,b3,kv,at1,q H2 k2 D2⟩⟩
   | none =>
    rw [hp] at at1 q;rw [at1];refine ⟨_,rfl,iteT ⟨_,rfl,Z.p,Z.dx,_,rfl,D2.ins,rfl,_,rfl,rix hs2 ix0 ⟨_,rfl,(show 3≤sizeLine by decide),fun t3 ht3=>?_⟩⟩⟩;have j:=qy ht3 (.tup [.str "sum",.ref p0,.ref lt]);refine ⟨Z,.ref t3,m,d,.sum (co f 0) td,rfl,D2.mono j,⟨t3,p0,lt,vt,rfl,SqT.of qz,j.tup hp2,j _ _ et2,nll,rt2.mono j⟩,by omega,fun H4 k4 D4=>?_⟩;have key4:=k4.trv (D2.mono j).kd _ (key.mono j);have k5:=(k2.trans j.but3).trans k4;obtain ⟨es4,c1,c3,c4⟩:=D4.sm;have c1:es4.map (·.1)=d.sm:=c1;have kv4:=keys_sm (es:=es4) (by rw [c1]; exact D2.nd) c4;have at4:=smL_at (co f 0,td) es4;rw [c1,hp] at at4;have les4:es4.length=d.sm.length:=by rw [← c1,Al]
    refine ⟨_,rfl,Z.p,_,Z.dx,_,_,rfl,D4.ins,T.Cz5,T.nzb,rfl,_,rfl,Z.e,t2,prD (co f 0,td),_,_,rfl,rfl,rfl,key4,c3,kv4,at4,by unfold smL; rw [Al]; omega,?_⟩;have ek:smL es4++[(prD (co f 0,td),t2,((m+d.us.length:Nat):Int))]=smL (es4++[(((co f 0,td),m+d.us.length),t2)]):=by unfold smL; rw [An]; rfl
    rw [ek];change (fun H5=>_) (upd H4 Z.e (.ext (DicAt P w partS hP8 Z.e (smL (es4++[(((co f 0,td),m+d.us.length),t2)])))));have k6:But3 Z.l Z.d Z.e H4 (upd H4 Z.e (.ext (DicAt P w partS hP8 Z.e (smL (es4++[(((co f 0,td),m+d.us.length),t2)]))))):=fun b o _ _ h3 x=>by rw [qJ h3]; exact x
    obtain ⟨nld,nle,nde⟩:=D4.kd.ne;have b5:(es4++[(((co f 0,td),m+d.us.length),t2)]).map (·.1)=d.sm++[((co f 0,td),m+d.us.length)]:=by rw [An,c1]; rfl
    have D5:DrAt P w K a.cz5 (upd H4 Z.e (.ext (DicAt P w partS hP8 Z.e (smL (es4++[(((co f 0,td),m+d.us.length),t2)]))))) Z m ⟨d.us++[.sum (co f 0) td],d.pl,d.sm++[((co f 0,td),m+d.us.length)]⟩:=by
     obtain ⟨vu4,hu4,rU4⟩:=D4.us;refine ⟨k6.ins D4.kd D4.ins,⟨vu4,by rw [qJ nle]; exact hu4,k6.uf D4.kd rU4⟩,by rw [qJ nde]; exact D4.pl,⟨_,b5,qz,fun x hx=>?_⟩,?_⟩
     ·rcases Am.mp hx with z | z
      ·exact k6.trv D4.kd _ (c4 x z)
      ·rw [Ae.mp z]
       exact k6.trv D4.kd _ key4
     ·show ((d.sm++[((co f 0,td),m+d.us.length)]).map (·.1)).Nodup
      rw [An];exact List.nodup_append.mpr ⟨D2.nd,List.nodup_cons.mpr ⟨fun z=>(by cases z),List.nodup_nil⟩,fun x hx y hy=>by rw [Ae.mp hy]; exact fun z=>smV_none hp (by have z:x=(co f 0,td):=z; rw [← z]; exact hx)⟩
    have key5:=k6.trv D4.kd _ key4;have k7:=k5.trans k6;generalize upd H4 Z.e (.ext (DicAt P w partS hP8 Z.e (smL (es4++[(((co f 0,td),m+d.us.length),t2)]))))=H5 at *;obtain ⟨es5,d1,d3,d4⟩:=D5.sm;have kv5:=keys_sm (es:=es5) (by rw [d1]; exact D5.nd) d4;have at5:=smL_at (co f 0,td) es5;rw [d1,smV_last hp] at at5;refine ⟨_,rfl,Z.p,_,Z.dx,_,_,rfl,D5.ins,T.Cz5,T.nzb,rfl,_,rfl,Z.e,t2,_,_,_,rfl,rfl,key5,d3,kv5,at5,q H5 k7 D5⟩
  clear hN;refine ⟨_,rfl,rix hs ix0 ⟨p0,a.gzk,_,_,rfl,rfl,hp0,n0 _,rfl,rfl,_,rfl,?_⟩⟩;rw [Z2];refine iteD (fun c1=>?_) (fun c1=>iteF (tail fun z=>c1 z.1));refine ⟨_,rfl,_,_,rfl,.inl (SqL.of et),rfl,_,rfl,iteD (fun c2=>?_) (fun c2=>iteF (tail fun z=>c2 (congrArg V.int (by have:=z.2.1; omega))))⟩;have c2:td.length=1:=by have z:=V.int.inj c2; omega
  obtain ⟨x0,etd⟩:∃ t,td=[t]:=by
   match h:td,c2 with
   | [t],_=>exact ⟨t,rfl⟩
  subst etd
  cases rt with
  | @cons w0 _ wr _ hw0 rt' =>
  cases rt'
  obtain ⟨tt,r,rfl,k1,k2⟩:=hw0;refine ⟨_,rfl,lt,_,_,_,rfl,rfl,SqL.of et,at0,tt,_,_,_,rfl,rfl,k1,rfl,r,a.gzu,_,_,rfl,rfl,k2,n1 _,rfl,rfl,_,rfl,?_⟩;rw [Z2];refine iteD (fun c3=>?_) (fun c3=>tail fun z=>c3 z.2.2);rw [if_pos ⟨c1,rfl,c3⟩] at q;exact ⟨_,rfl,lt,_,_,_,rfl,rfl,SqL.of et,at0,tt,_,_,_,rfl,rfl,k1,rfl,q H1 kH D⟩
 clear hN;have drop1:RL K H (ys.drop 1) f.tail:=by
  cases rf with
  | nil=>exact .nil
  | cons _ r=>exact r
 rcases hs with hs | hs
 ·refine ⟨_,rfl,_,rfl,.inl ⟨_,_,rfl,hs,fun c hc=>?_⟩⟩
  rw [cut1];have g1:=qy hc (.lst (ys.drop 1));have ec:SqL K (upd H c (.lst (ys.drop 1))) c (ys.drop 1):=SqL.of qz;have rd:=drop1.mono g1;have D1:=D.mono g1;generalize upd H c (.lst (ys.drop 1))=H1 at *;refine ⟨c,rfl,.inl ⟨⟨_,ec⟩,yy (n:=tot) (fun i zs H'=>Same H1 H'∧TL K H' zs (zq d.pl (f.tail.take i) 0)) ⟨Same.refl _,.nil⟩ (zj (by omega)) ?_ ?_ ?_⟩⟩
  case refine_2 =>
   rintro i zs H' hi ⟨g,_⟩;exact ⟨_,_,(by first | exact g.seq ec | exact g.tup ec),A4 (by rw [List.length_drop]; omega)⟩
  case refine_3 =>
   rintro i m' zs H' cc x H3 hi ⟨g,r⟩ ⟨t,x2,ht,rfl,rfl,y1⟩ nx sk;obtain ⟨q0,e0,pq,rfl,hq⟩:=RL.get rd (y1 _ (by first | exact g.seq ec | exact g.tup ec));have g2:=qy ht (.tup [.int (i:Int),.ref pq]);have gg:=g.trans g2;have hq:=gg.tup hq;have es:=zZ e0;have li:(f.tail.take i).length=i:=by rw [Ak]; omega
   refine ⟨t,_,rfl,SqT.of qz,rfl,_,_,rfl,_,_,rfl,rfl,?_⟩;refine ⟨_,rfl,pq,a.gzk,_,_,rfl,rfl,hq,n0 _,rfl,rfl,_,rfl,?_⟩;rw [Z2]
   by_cases c0:q0=0
   ·refine Or.inr ⟨by rw [decide_eq_true c0]; rfl,sk _ ⟨gg,?_⟩⟩
    rw [es,xw,if_pos c0,List.append_nil];exact r.mono g2
   ·have hk:i∈d.pl.map (·.1):=hn i (by rw [← yW,zJ _ e0]; exact c0)
    obtain ⟨pp,ep,_⟩:=kY hk;refine Or.inl ⟨by rw [decide_eq_false c0]; rfl,_,rfl,Z.p,_,Z.dx,_,_,rfl,gg _ _ D1.ins,T.Cz5,T.nz8,rfl,_,rfl,Z.d,.int (pp:Int),rfl,?_,_,rfl,yj,fun t2 ht2=>nx _ _ ⟨gg.trans (qy ht2 _),?_⟩⟩
    ·have z:=DGet.k (k:=Sum.inl (i:Int)) (gg _ _ D1.pl)
     rw [plL_at,ep] at z;exact z
    ·rw [es,xw,if_neg c0,li,Nat.zero_add,ep]
     exact Paired.snoc ((r.mono g2).mono (qy ht2 _)) ⟨t2,pq,rfl,SqT.of qz,(qy ht2 _).tup hq⟩
  rintro zs H2 ⟨g2,r⟩;rw [A5 (by omega)] at r;refine ⟨⟨_,(by first | exact g2.seq ec | exact g2.tup ec),by rw [List.length_drop]; omega⟩,fun lt hlt=>?_⟩;exact rest lt zs _ ((g1.trans g2).trans (qy hlt _)) (zx (g1.trans g2) hlt) qz (r.mono (qy hlt _))
 ·refine ⟨_,rfl,_,rfl,.inr ⟨_,_,rfl,hs,?_,fun c hc=>?_⟩⟩
  ·have e1:HT.sIx ys.length 0 (some 1)=min 1 ys.length:=HT.sIx_nat _ _ 1
   rw [e1];omega
  rw [cut1];have g1:=qy hc (.tup (ys.drop 1));have ec:SqT K (upd H c (.tup (ys.drop 1))) c (ys.drop 1):=SqT.of qz;have rd:=drop1.mono g1;have D1:=D.mono g1;generalize upd H c (.tup (ys.drop 1))=H1 at *;refine ⟨c,rfl,.inr ⟨⟨_,ec⟩,yy (n:=tot) (fun i zs H'=>Same H1 H'∧TL K H' zs (zq d.pl (f.tail.take i) 0)) ⟨Same.refl _,.nil⟩ (zj (by omega)) ?_ ?_ ?_⟩⟩
  case refine_2 =>
   rintro i zs H' hi ⟨g,_⟩;exact ⟨_,_,(by first | exact g.seq ec | exact g.tup ec),A4 (by rw [List.length_drop]; omega)⟩
  case refine_3 =>
   rintro i m' zs H' cc x H3 hi ⟨g,r⟩ ⟨t,x2,ht,rfl,rfl,y1⟩ nx sk;obtain ⟨q0,e0,pq,rfl,hq⟩:=RL.get rd (y1 _ (by first | exact g.seq ec | exact g.tup ec));have g2:=qy ht (.tup [.int (i:Int),.ref pq]);have gg:=g.trans g2;have hq:=gg.tup hq;have es:=zZ e0;have li:(f.tail.take i).length=i:=by rw [Ak]; omega
   refine ⟨t,_,rfl,SqT.of qz,rfl,_,_,rfl,_,_,rfl,rfl,?_⟩;refine ⟨_,rfl,pq,a.gzk,_,_,rfl,rfl,hq,n0 _,rfl,rfl,_,rfl,?_⟩;rw [Z2]
   by_cases c0:q0=0
   ·refine Or.inr ⟨by rw [decide_eq_true c0]; rfl,sk _ ⟨gg,?_⟩⟩
    rw [es,xw,if_pos c0,List.append_nil];exact r.mono g2
   ·have hk:i∈d.pl.map (·.1):=hn i (by rw [← yW,zJ _ e0]; exact c0)
    obtain ⟨pp,ep,_⟩:=kY hk;refine Or.inl ⟨by rw [decide_eq_false c0]; rfl,_,rfl,Z.p,_,Z.dx,_,_,rfl,gg _ _ D1.ins,T.Cz5,T.nz8,rfl,_,rfl,Z.d,.int (pp:Int),rfl,?_,_,rfl,yj,fun t2 ht2=>nx _ _ ⟨gg.trans (qy ht2 _),?_⟩⟩
    ·have z:=DGet.k (k:=Sum.inl (i:Int)) (gg _ _ D1.pl)
     rw [plL_at,ep] at z;exact z
    ·rw [es,xw,if_neg c0,li,Nat.zero_add,ep]
     exact Paired.snoc ((r.mono g2).mono (qy ht2 _)) ⟨t2,pq,rfl,SqT.of qz,(qy ht2 _).tup hq⟩
  rintro zs H2 ⟨g2,r⟩;rw [A5 (by omega)] at r;refine ⟨⟨_,(by first | exact g2.seq ec | exact g2.tup ec),by rw [List.length_drop]; omega⟩,fun lt hlt=>?_⟩;exact rest lt zs _ ((g1.trans g2).trans (qy hlt _)) (zx (g1.trans g2) hlt) qz (r.mono (qy hlt _))
theorem bendP_count:∀ (us:List Un) (m:Nat),(bendP m us).length=(us.filter isB).length
 | [],_=>rfl
 | u::us,m=>by
  unfold bendP;rw [List.filter_cons]
  cases h:isB u
  ·exact bendP_count us (m+1)
  ·exact congrArg (·+1) (bendP_count us (m+1))
theorem need_pre {m:Nat} {bs:List (List Rat)} {R:List Nat} (up:R.Pairwise (·<·)) (lt:∀ j∈R,j<bs.length) (nd:∀ i∈R,∀ j,j<i→co (bs.getD i []) (m+j+1)≠0→j∈R) (n:Nat) :
  (R.take n).Pairwise (·<·)∧(∀ j∈R.take n,j<bs.length)∧∀ i∈R.take n,∀ j,j<i→co (bs.getD i []) (m+j+1)≠0→j∈R.take n:=by
 refine ⟨List.Pairwise.sublist (List.take_sublist n R) up,fun j hj=>lt j (List.mem_of_mem_take hj),fun i hi j hj hc=>?_⟩;have h:=nd i (List.mem_of_mem_take hi) j hj hc;rw [← List.take_append_drop n R] at h up
 rcases Am.mp h with z | z
 ·exact z
 ·have:=(List.pairwise_append.mp up).2.2 i hi j z
  omega
theorem need_keys {m tot:Nat} {ss:List (Rat×Rat)} {bs:List (List Rat)} {R:List Nat} {d:Dr} (I:DrI m ss bs R d) {f:List Rat} {n:Nat} (lw:Low f (m+n)) (h:∀ j,j<n→co f (m+j+1)≠0→j∈R):∀ k,co f (k+1)≠0→k∈d.pl.map (·.1):=fun k hc=>by
 rw [I.keys]
 by_cases c:k<m
 ·exact Am.mpr (.inl (List.mem_range.mpr c))
 ·have:k<m+n:=Nat.lt_of_not_le fun z=>hc (lw k z)
  refine Am.mpr (.inr (List.mem_map.mpr ⟨k - m,h (k - m) (by omega) ?_,by omega⟩))
  rwa [show m+(k - m)=k by omega]
theorem plV_no {pl:List (Nat×Nat)} {k:Nat} (h:k∉pl.map (·.1)):plV pl k=none:=by
 unfold plV
 cases e:pl.find? fun x=>decide (x.1=k) with
 | none=>rfl
 | some y =>
  have h1:=List.find?_some e;have h1:y.1=k:=by simpa using h1
  exact absurd (List.mem_map.mpr ⟨y,List.mem_of_find?_eq_some e,h1⟩) h
theorem SkAt.off {C:Addr} {H H':Hp} {Z:SA} {m tot:Nat} {sk:Sk} {l d e:Addr} (h:SkAt P w K C H Z m tot sk) (k:Kd H l d e) (g:But3 l d e H H') (n1:Z.l≠l) (n2:Z.d≠d) (n3:Z.e≠e):SkAt P w K C H' Z m tot sk:=by
 obtain ⟨vw,h1,h2⟩:=h.ws;obtain ⟨es,e1,e2,e3,e4⟩:=h.bs;obtain ⟨⟨x1,k1⟩,⟨x2,k2⟩,⟨x3,k3⟩⟩:=id k;refine ⟨g.ins k h.ins,⟨vw,g.lst k n1 h1,g.sl k h2⟩,⟨es,e1,?_,?_,fun x hx=>?_⟩,h.nd⟩
 ·exact g _ _ (ne_of e2 k1 (by intro z; cases z)) n2 (ne_of e2 k3 (by intro z; cases z)) e2
 ·exact g _ _ (ne_of e3 k1 (by intro z; cases z)) (ne_of e3 k2 (by intro z; cases z)) n3 e3
 ·obtain ⟨vs,a,b⟩:=e4 x hx
  exact ⟨vs,g.tup k a,g.rl k b⟩
def spSmaller (P:Program) (w:World) (K:As) (a:Adr):Sp:=fun vs H Q _=>∃ (pn pb:Addr) (m:Nat) (us:List Un) (outs:List Nat) (ss:List (Rat×Rat)),vs=[.ref pn,.ref pb]∧NetBox K a H pn pb m us outs ss∧NetOk m us outs∧ss.length=m∧us.length≤24∧totF m us≤40∧2*(us.filter isB).length+outs.length≤80∧OutOk m (totF m us) ss us∧∀ x H',Same H H'→Y7 K a H' x m (jV m us outs ss).2.us (jV m us outs ss).1→Q (.ref x) H'
theorem okxc (T:Txt K mg a):FnOk P w K mg base CX0 9 a.fxc a.dxc ["net", "box"] (spSmaller P w K a):=by
 refine T.Fxc.ok wX ?_ ?_
 ·walk_at "c"
 walk_at "b"
 obtain ⟨pn,pb,m,us,outs,ss,rfl,NB,ok,hm,l24,t40,few,oo,q⟩:=h;obtain ⟨lu,lo,mB,vk,vB,h1,h2,h3,h4,h5,h6,h7⟩:=NB;obtain ⟨wf,l80,b20,m1,m6,o1,o12,ol⟩:=ok;have SF:=smallF_ok (ss:=ss) hm wf ol (Ar t40 (by decide));have O:=Q3 (tot:=totF m us) hm us wf (Nat.le_refl _);have fit:=O.sk.fit;refine ltX ?_
 intros
 refine ⟨_,body7 (by rfl)
  (ps_s 2 wX.nd (pe_ix qK (xy (pv 0) T.Czm T.tzr (kJ T) (hr.mono (by decide)) T.bzr .nil pass0) qk))
  (ps_s 3 wX.nd (ZY T.Mzv (okzy T) (hr.mono (by decide)) rfl T.mzv T.bzy .nil pass0 (pa_c (pv 1) (pa_c (pe_op y9 (pv 2) (qW (zk) rfl T.m_len boot_len (pa_c (xy (pv 0) T.Czm T.tzn (okzn T) (hr.mono (by decide)) T.bzn .nil pass0) qj))) qj))))
  (ps_s 4 wX.nd (pe_c (okx8 T) hr T.mx8 T.Fx8.kp T.bx8 (pa_c (pv 0) (pa_c (pv 3) qj))))
  (ps_set (i:=5) wX.nd rfl (Or.inr rfl) (ZY T.Mz5 (okz6 T) (hr.mono (by decide)) rfl T.mz5 T.bz6 .nil pass0 (pa_c (pv 2) qj)))
  (jW PassesOwn.never rfl (yq (pe_c (okx7 T) hr T.mx7 T.Fx7.kp T.bx7 (pa_c (pv 3) (pa_c (pv 4) qj)))) (pg_n 6 wX.nd) (qZ (ps_dput (hu_of hr) (yx (pv 5) rfl) (pv 6) (pe_meth (pv 5) T.Cz5 T.tz9 (okz9 T) (hr.mono (by decide)) T.bz9 .nil pass0 (pa_c (yz (pa_c jY (pa_c (pe_meth (pv 5) T.Cz5 T.tza (okza T) (hr.mono (by decide)) T.bza .nil pass0 (pa_c (pe_dget (hu_of hr) (yx (pv 3) rfl) (pv 6)) qj) (hst:=qq rfl _ _) (hpl:=qV rfl)) qj))) qj) (hst:=qq rfl _ _) (hpl:=qV rfl)) rfl)))
  (kq (i:=7) wX.nd rfl (Or.inl rfl) (N:=["form", "draft"]) (ix:=[none,some 5]) ⟨rfl,rfl,rfl,rfl,⟨rfl,trivial⟩,rfl,⟨⟨rfl,Or.inr (Or.inl rfl),kz rfl,rfl,Or.inl rfl⟩,trivial⟩⟩ rfl (yq (pv 4)) (fun _=>(pg_n 0 (show (["form", "draft"]:List Str).Nodup by decide +kernel))) (fun _ σ=>jJ rfl σ) (fun _=>yZ) (fun _=>(pe_meth (pv 1) T.Cz5 T.tza (okza T) (hr.mono (by decide)) T.bza .nil pass0 (pa_c (pv 0) qj) (hst:=qq rfl _ _) (hpl:=qV rfl))))
  (zw (ZY T.Mzm (okzo T) (hr.mono (by decide)) rfl T.mzm T.bzo .nil pass0 (pa_c (pv 2) (pa_c (yx (pv 5) rfl) (pa_c (pv 7) qj))))),?_⟩
 refine lt7 ?_
 intros
 obtain ⟨d1,h1'⟩:=id h1;refine ⟨_,rfl,pn,d1,_,rfl,h1',rfl,pn,lu,lo,m,vk,us,outs,rfl,h1,h2,h3,l80,h4,fun t1 l1 o1' v1 H1 g1 ht1 _ _ _ _ _=>⟨t1,_,_,_,rfl,rfl,ht1,rfl,?_⟩⟩;clear ht1;have h1':=g1 _ _ h1';refine ⟨_,rfl,_,rfl,_,rfl,pn,d1,_,rfl,h1',rfl,pn,m,us,rfl,⟨lu,lo,vk,⟨d1,h1'⟩,g1.seq h2,h3.mono g1⟩,l24,fun pB H2 nB g2 eB=>⟨_,_,rfl,.inl (SqL.of eB),_,_,rfl,rfl,?_⟩⟩;have gA:=g1.trans g2;have nB:H pB=none:=zx g1 nB;have lb:(outV (bendP m us)).length=(us.filter isB).length:=by unfold outV; rw [Al,bendP_count]
 have h5:=h5.mono gA;have h6:=gA.seq h6;have h7:=h7.mono gA;have NH:Y7 K a H2 pn m us outs:=⟨lu,lo,vk,h1.mono gA,gA.seq h2,h3.mono gA,gA.seq h4⟩;clear g1 g2 h1 h2 h3 h4 h1' eB;intro xs dxs hxs hdxs nes;have gm:Same H2 (upd (upd H2 dxs (.own xs)) xs (.ins a.czv dxs [])):=(qy hdxs _).trans (qy (by rw [qJ (Ne.symm nes)]; exact hxs) _);refine ⟨xs,dxs,pb,mB,m,totF m us,vB,ss,congrArg (fun z=>[V.ref xs,V.ref pb,V.int z]) (show (m:Int)+((outV (bendP m us)).length:Int)=((totF m us:Nat):Int) by rw [lb]; unfold totF; omega),qz,h5.mono gm,gm.seq h6,h7.mono gm,fun Z H3 but eZ nzl nzd nze S=>⟨rfl,?_⟩⟩;have g3:Same H2 H3:=fun b u e=>but b u (qQ e hxs) (gm _ _ e)
 have nl0:H Z.l=none:=zx gA (zx gm nzl);have nd0:H Z.d=none:=zx gA (zx gm nzd);have ne0:H Z.e=none:=zx gA (zx gm nze);have g:=gA.trans g3;have NH:=NH.mono g3;subst eZ;clear gm but hxs hdxs nes g3 h5 h6 h7 nzl nzd nze gA;change tSeq _ _ _ [some (.ref pn),some (.ref pb),some (.int (m:Int)),some (.ref Z.p),none,none,none,none] H3;refine ⟨_,rfl,_,rfl,pn,Z,m,totF m us,us,outs,ss,rfl,NH,S,hm,wf,l80,o12,ol,Nat.le_refl _,t40,oo,fun lF vF H4 k4 S4 nF eF rF=>?_⟩;have nF:H lF=none:=zx g nF;have g4:Same H H4:=k4.same g nl0 nd0 ne0;clear g S k4 NH;change tSeq _ _ _ [some (.ref pn),some (.ref pb),some (.int (m:Int)),some (.ref Z.p),some (.ref lF),none,none,none] H4;refine ⟨_,rfl,?_⟩;intro xd dxd hxd hdxd ned;have gm:Same H4 (upd (upd H4 dxd (.own xd)) xd (.ins a.cz5 dxd [])):=(qy hdxd _).trans (qy (by rw [qJ (Ne.symm ned)]; exact hxd) _);refine ⟨xd,dxd,m,rfl,qz,m6,fun Y H5 but eY nyl nyd nye D=>⟨rfl,?_⟩⟩;have g5:Same H4 H5:=fun b u e=>but b u (qQ e hxd) (gm _ _ e)
 subst eY;have yl1:=zx gm nyl;have yd1:=zx gm nyd;have ye1:=zx gm nye;obtain ⟨vw4,hw4,_⟩:=S4.ws;obtain ⟨es4,_,hd4,he4,_⟩:=S4.bs;have n1:Z.l≠Y.l:=qQ hw4 yl1;have n2:Z.d≠Y.d:=qQ hd4 yd1;have n3:Z.e≠Y.e:=qQ he4 ye1;have nFl:lF≠Y.l:=qQ eF yl1;have rF:PLF Z.l K H5 vF (outsF m us outs ss)∧PLF Y.l K H5 vF (outsF m us outs ss):=⟨rF.mono g5,Paired.mapP rF fun _ _ ⟨p,ys,e,a1,_,a3⟩=>⟨p,ys,e,g5 _ _ a1,qQ a1 yl1,a3.mono g5⟩⟩;have S5:=S4.mono g5;have eF:=g5 _ _ eF;have nyl0:H Y.l=none:=zx g4 yl1;have nyd0:H Y.d=none:=zx g4 yd1;have nye0:H Y.e=none:=zx g4 ye1;have g:=g4.trans g5;clear gm but hxd hdxd ned g5 g4 S4 hw4 hd4 he4 nyl nyd nye yl1 yd1 ye1;obtain ⟨rF1,rF2⟩:=rF;change tSeq _ _ _ [some (.ref pn),some (.ref pb),some (.int (m:Int)),some (.ref Z.p),some (.ref lF),some (.ref Y.p),none,none] H5;have lfo:(outsF m us outs ss).length=outs.length:=by unfold outsF; rw [Al]
 have fo:∀ f∈outsF m us outs ss,f.length=totF m us+1∧Low f (m+(bsF m us ss).length):=fun f hf=>by
  obtain ⟨o,ho,rfl⟩:=List.mem_map.mp hf;exact O.fo _ (in_at [] (by rw [O.len]; exact ol o ho))
 have lvF:=rF1.length;obtain ⟨q1,q2,q3,q4⟩:=xQ (m:=m) (bs:=bsF m us ss) (bsF m us ss).length (outsF m us outs ss);have hb:m+(bsF m us ss).length≤totF m us:=fit;have okb:∀ (j:Nat) (f:List Rat),(bsF m us ss)[j]?=some f→f.length=totF m us+1∧Low f (m+j):=O.sk.ok;have nlen:=up_len _ _ q1 q2;have lfew:(bsF m us ss).length≤(us.filter isB).length:=O.few;have S5:SkAt P w K a.czv H5 Z m (totF m us) (outN m (totF m us) ss us).2:=S5;refine ⟨_,rfl,_,rfl,Z,lF,m,totF m us,_,vF,_,rfl,S5,eF,rF1,by omega,fit,t40,fun f hf=>(fo f hf).1,fun f hf=>?_,fun lN H6 nN g6 eN=>?_⟩
 ·obtain ⟨j,hj⟩:=Aa hf
  exact (O.sk.ok j f hj).1
 obtain ⟨vu5,hu5,_⟩:=D.us;have nNl:lN≠Y.l:=Ne.symm (qQ hu5 nN);have nN0:H lN=none:=zx g nN;have g:=g.trans g6;have S6:=S5.mono g6;have D6:=D.mono g6;have eF:=g6 _ _ eF;have rF2:=rF2.mono g6;have eN:H6 lN=some (.lst (outV ((needF m us outs ss).map (m+·)))):=eN;clear g6 S5 D rF1 hu5 nN;have lnV:(outV ((needF m us outs ss).map (m+·))).length=(needF m us outs ss).length:=by unfold outV; rw [Al,Al]
 have nlen:(needF m us outs ss).length≤(bsF m us ss).length:=nlen;refine ⟨_,rfl,⟨_,SqL.of eN⟩,jz (n:=(needF m us outs ss).length) (fun i σ H'=>Same H H'∧H' lN=some (.lst (outV ((needF m us outs ss).map (m+·))))∧H' lF=some (.lst vF)∧PLF Y.l K H' vF (outsF m us outs ss)∧SkAt P w K a.czv H' Z m (totF m us) (outN m (totF m us) ss us).2∧DrAt P w K a.cz5 H' Y m (drawF m (bsF m us ss) ((needF m us outs ss).take i))∧∃ u6,σ=[some (.ref pn),some (.ref pb),some (.int (m:Int)),some (.ref Z.p),some (.ref lF),some (.ref Y.p),u6,none])
  ⟨g,eN,eF,rF2,S6,D6,_,rfl⟩ ?_ ?_ ?_⟩
 case refine_2 =>
  rintro i σ H' hi ⟨g,eN,_⟩;exact ⟨_,_,SqL.of eN,A4 (by omega)⟩
 case refine_3 =>
  rintro i σ H0 x H' hi ⟨g,eN,eF,rF2,S6,D6,u6,rfl⟩ ⟨rfl,y1⟩;obtain ⟨v,ev,rfl⟩:=out_at (y1 _ (SqL.of eN));rw [List.getElem?_map] at ev;obtain ⟨j,ej,rfl⟩:∃ j,(needF m us outs ss)[i]?=some j∧m+j=v:=by
   cases z:(needF m us outs ss)[i]? with
   | none=>rw [z] at ev; cases ev
   | some j=>rw [z] at ev; exact ⟨j,rfl,Ap ev⟩
  have mj:=A8 ej;obtain ⟨a1,a2,a3⟩:=need_pre (m:=m) (bs:=bsF m us ss) q1 q2 q4 i;obtain ⟨I,lI⟩:=Qy (ss:=ss) hm hb (Ar t40 (by decide)) okb _ a1 a2 a3;have I:DrI m ss (bsF m us ss) ((needF m us outs ss).take i) (drawF m (bsF m us ss) ((needF m us outs ss).take i)):=I;have lI:(drawF m (bsF m us ss) ((needF m us outs ss).take i)).us.length≤2*((needF m us outs ss).take i).length:=lI;have lti:((needF m us outs ss).take i).length≤i:=by rw [Ak]; omega
  have hj:j<(bsF m us ss).length:=q2 j mj;have es:(needF m us outs ss).take (i+1)=(needF m us outs ss).take i++[j]:=zZ ej;have below:∀ r∈(needF m us outs ss).take i,r<j:=by
   have up1:((needF m us outs ss).take (i+1)).Pairwise (·<·):=List.Pairwise.sublist (List.take_sublist _ _) q1;rw [es] at up1;exact fun r hr=>(List.pairwise_append.mp up1).2.2 r hr j (Ae.mpr rfl)
  have ebj:(bsF m us ss)[j]?=some (bsF m us ss)[j]:=A4 hj;have ebg:(bsF m us ss).getD j []=(bsF m us ss)[j]:=zJ _ ebj;obtain ⟨lfj,lowj⟩:=okb j _ ebj;rw [← ebg] at lfj lowj;have inR:∀ r,r<j→co ((bsF m us ss).getD j []) (m+r+1)≠0→r∈(needF m us outs ss).take i:=fun r hr hc=>by
   have a4:=(need_pre (m:=m) (bs:=bsF m us ss) q1 q2 q4 (i+1)).2.2;have h:=a4 j (by show j∈(needF m us outs ss).take (i+1); rw [es]; exact Am.mpr (.inr (Ae.mpr rfl))) r hr hc;have h:r∈(needF m us outs ss).take (i+1):=h;rw [es] at h
   rcases Am.mp h with z | z
   ·exact z
   ·have:=Ae.mp z; omega
  have hk:=need_keys (tot:=totF m us) I lowj inR;have nk:m+j∉(drawF m (bsF m us ss) ((needF m us outs ss).take i)).pl.map (·.1):=fun z=>by
   rw [I.keys] at z
   rcases Am.mp z with y | y
   ·have:=List.mem_range.mp y; omega
   ·obtain ⟨r,hr,e⟩:=List.mem_map.mp y
    have:=below r hr;have e:m+r=m+j:=e;omega
  rw [es,Y5];unfold putB;have lS:=I.sml;obtain ⟨es6,b1,b2,b3,b4⟩:=S6.bs;obtain ⟨ex0,hex⟩:∃ x,es6[j]?=some x:=by
   have:es6.length=(bsF m us ss).length:=by
    have b1:es6.map (·.1)=bsF m us ss:=b1;rw [← b1,Al]
   exact ⟨_,A4 (by omega)⟩
  have eb0:(bsF m us ss).getD j []=ex0.1:=by
   have b1:es6.map (·.1)=bsF m us ss:=b1;rw [← b1];exact zJ _ (by rw [List.getElem?_map,hex]; rfl)
  obtain ⟨tv,t1,t2⟩:=b4 ex0 (A8 hex);obtain ⟨J,s1,s2,s3,s4,_⟩:=Zk hm I hb (Ar t40 (by decide)) lfj (lowj.mono (by omega)) hk;generalize hd0:drawF m (bsF m us ss) ((needF m us outs ss).take i)=d0 at *;rw [eb0] at lfj lowj hk s1 s2 s3 s4 J inR ⊢;refine ⟨_,rfl,Y.p,Y.dx,_,rfl,D6.ins,rfl,_,rfl,Y.p,Y.dx,_,rfl,D6.ins,rfl,_,rfl,Z.p,_,Z.dx,_,_,rfl,S6.ins,T.Czv,T.nzx,rfl,_,rfl,Z.d,.ref ex0.2,rfl,?_,Y,.ref ex0.2,m,totF m us,d0,ex0.1,rfl,D6,⟨ex0.2,tv,rfl,.inr t1,t2⟩,lfj,t40,hk,by omega,by omega,fun H7 k7 D7=>⟨yj,fun t3 ht3=>?_⟩⟩
  ·have z:=DGet.k (k:=Sum.inl (((m+j:Nat):Int))) b2
   rw [dkL_at,hex] at z;exact z
  have j3:=qy ht3 (.tup [.str "bend",.int ((seatF m d0 ex0.1).1:Int)]);have k8:But3 Y.l Y.d Y.e H' (upd H7 t3 (.tup [.str "bend",.int ((seatF m d0 ex0.1).1:Int)])):=k7.trans j3.but3;have ut:UnF Y.l K (upd H7 t3 (.tup [.str "bend",.int ((seatF m d0 ex0.1).1:Int)])) (.ref t3) (.bend (seatF m d0 ex0.1).1):=⟨t3,rfl,SqT.of qz⟩;have D8:=D7.mono j3;have kd6:=D6.kd;generalize upd H7 t3 (.tup [.str "bend",.int ((seatF m d0 ex0.1).1:Int)])=H8 at *;clear j3 k7 D7 ht3;generalize seatF m d0 ex0.1=r at *;refine ⟨Y,.ref t3,m,r.2,.bend r.1,rfl,D8,ut,by omega,fun H9 k9 D9=>?_⟩;have k9:=k8.trans k9;have lpl:r.2.pl.length≤900:=by
   have e:r.2.pl.length=(r.2.pl.map (·.1)).length:=by rw [Al]
   rw [e,J.keys,Ad,Aj,Al];omega
  refine ⟨_,rfl,Y.p,_,Y.dx,_,_,rfl,D9.ins,T.Cz5,T.nz8,rfl,_,rfl,Y.d,_,rfl,DPut.k (k:=Sum.inl (((m+j:Nat):Int))) D9.pl (by rw [plL_len]; exact zj (by show r.2.pl.length≤1000; omega)),?_⟩;have epl:putK (plL r.2.pl) (Sum.inl (((m+j:Nat):Int))) (V.int ((m+r.2.us.length:Nat):Int))=plL (r.2.pl++[(m+j,m+r.2.us.length)]):=by
   rw [putK_new _ (by rw [plL_at,plV_no (by rw [s2]; exact nk)]; rfl)];unfold plL;rw [An];rfl
  have epl':putK (plL (⟨r.2.us++[.bend r.1],r.2.pl,r.2.sm⟩:Dr).pl) (Sum.inl (((m+j:Nat):Int))) (V.int ((m+r.2.us.length:Nat):Int))=plL (r.2.pl++[(m+j,m+r.2.us.length)]):=epl;rw [epl'];have k10:But3 Y.l Y.d Y.e H9 (upd H9 Y.d (.dK (plL (r.2.pl++[(m+j,m+r.2.us.length)])))):=fun b o _ h2 _ x=>by rw [qJ h2]; exact x
  obtain ⟨nld,nle,nde⟩:=D9.kd.ne;obtain ⟨vu9,hu9,rU9⟩:=D9.us;obtain ⟨es9,f1,f3,f4⟩:=D9.sm;have kA:=k9.trans k10;exact ⟨kA.same g nyl0 nyd0 nye0,kA.lst kd6 nNl eN,kA.lst kd6 nFl eF,kA.pl kd6 rF2,S6.off kd6 kA n1 n2 n3,⟨k10.ins D9.kd D9.ins,⟨vu9,by rw [qJ nld]; exact hu9,k10.uf D9.kd rU9⟩,qz,⟨es9,f1,by rw [qJ (Ne.symm nde)]; exact f3,fun x hx=>k10.trv D9.kd _ (f4 x hx)⟩,D9.nd⟩,_,rfl⟩
 rintro σ H' ⟨g,eN,eF,rF2,S6,D6,u6,rfl⟩;refine ⟨⟨_,SqL.of eN,by omega⟩,?_⟩;rw [A5 (Nat.le_refl _)] at D6;obtain ⟨I,lI⟩:=Qy (ss:=ss) hm hb (Ar t40 (by decide)) okb _ q1 q2 q4;have I:DrI m ss (bsF m us ss) (needF m us outs ss) (drawF m (bsF m us ss) (needF m us outs ss)):=I;have lI:(drawF m (bsF m us ss) (needF m us outs ss)).us.length≤2*(needF m us outs ss).length:=lI;have hkO:∀ f∈outsF m us outs ss,∀ k,co f (k+1)≠0→k∈(drawF m (bsF m us ss) (needF m us outs ss)).pl.map (·.1):=fun f hf=>need_keys (tot:=totF m us) I (fo f hf).2 fun r hr hc=>q3 f hf r hr hc
 clear S6 eN;change tSeq _ _ _ [some (.ref pn),some (.ref pb),some (.int (m:Int)),some (.ref Z.p),some (.ref lF),some (.ref Y.p),u6,none] H';refine ⟨_,rfl,lF,rfl,⟨_,SqL.of eF⟩,yy (n:=outs.length) (fun i ys H''=>Same H H''∧H'' lF=some (.lst vF)∧PLF Y.l K H'' vF (outsF m us outs ss)∧DrAt P w K a.cz5 H'' Y m (yQ m (drawF m (bsF m us ss) (needF m us outs ss)) ((outsF m us outs ss).take i)).2∧ys=outV (yQ m (drawF m (bsF m us ss) (needF m us outs ss)) ((outsF m us outs ss).take i)).1) ⟨g,eF,rF2,D6,rfl⟩ (zj (by omega)) ?_ ?_ ?_⟩
 case refine_2 =>
  rintro i ys H'' hi ⟨_,eF,_⟩;exact ⟨_,_,SqL.of eF,A4 (by omega)⟩
 case refine_3 =>
  rintro i m' ys H'' cc x H9 hi ⟨g,eF,rF2,D6,rfl⟩ ⟨rfl,y1⟩ nx _;obtain ⟨f,ef,pf,yf,rfl,hpf,npf,rpf⟩:=vy rF2 (y1 _ (SqL.of eF));have mf:=A8 ef;obtain ⟨J,p1,p2,p3,p4,_⟩:=Q5 hm I hb (Ar t40 (by decide)) ((outsF m us outs ss).take i) fun f hf=>⟨(fo f (List.mem_of_mem_take hf)).1,(fo f (List.mem_of_mem_take hf)).2,hkO f (List.mem_of_mem_take hf)⟩
  have lS:=J.sml;have lti:((outsF m us outs ss).take i).length≤i:=by rw [Ak]; omega
  rw [zZ ef,QJ] at nx;unfold seatsS at nx;generalize yQ m (drawF m (bsF m us ss) (needF m us outs ss)) ((outsF m us outs ss).take i)=st at *;refine Or.inl ⟨rfl,_,rfl,Y.p,Y.dx,_,rfl,D6.ins,rfl,_,rfl,Y,.ref pf,m,totF m us,st.2,f,rfl,D6,⟨pf,yf,rfl,.inl (SqL.of hpf),rpf⟩,(fo f mf).1,t40,by rw [p1]; exact hkO f mf,by omega,by omega,fun H7 k7 D7=>nx _ _ ⟨k7.same g nyl0 nyd0 nye0,k7.lst D6.kd nFl eF,k7.pl D6.kd rF2,D7,?_⟩⟩;unfold outV;rw [An];rfl
 rintro ys H'' ⟨g,eF,rF2,D6,rfl⟩;rw [A5 (by omega)] at D6 ⊢;refine ⟨⟨_,SqL.of eF,by omega⟩,fun lO hO=>?_⟩;have j:=qy hO (.lst (outV (yQ m (drawF m (bsF m us ss) (needF m us outs ss)) (outsF m us outs ss)).1));have eO:=qz (H:=H'') (a:=lO) (o:=.lst (outV (yQ m (drawF m (bsF m us ss) (needF m us outs ss)) (outsF m us outs ss)).1));have D7:=D6.mono j;have g:=g.trans j;generalize upd H'' lO (.lst (outV (yQ m (drawF m (bsF m us ss) (needF m us outs ss)) (outsF m us outs ss)).1))=H8 at *;clear j D6 rF2 eF;obtain ⟨vu8,hu8,rU8⟩:=D7.us;change (fun σ H=>_) [some (V.ref pn),some (V.ref pb),some (V.int (m:Int)),some (V.ref Z.p),some (V.ref lF),some (V.ref Y.p),u6,some (V.ref lO)] H8;refine ⟨_,rfl,_,rfl,Y.p,_,Y.dx,_,_,rfl,D7.ins,T.Cz5,T.nzc,rfl,_,rfl,?_⟩;intro xn dxn hxn hdxn nen;have gm:Same H8 (upd (upd H8 dxn (.own xn)) xn (.ins a.czm dxn [])):=(qy hdxn _).trans (qy (by rw [qJ (Ne.symm nen)]; exact hxn) _);obtain ⟨z1,z2,z3,z4,z5,_⟩:=SF;refine ⟨xn,dxn,Y.l,lO,m,vu8,(jV m us outs ss).2.us,(jV m us outs ss).1,rfl,qz,gm.seq (SqL.of hu8),rU8.un.mono gm,gm.seq (SqL.of eO),⟨z1,by omega,by omega,m1,m6,by omega,by omega,z5⟩,fun lu' lo' vk' H9 but _ _ nt eu' eo' rk'=>⟨rfl,?_⟩⟩;exact q xn H9 (g.trans fun b u e=>but b u (qQ e hxn) (gm _ _ e)) ⟨lu',lo',vk',nt,SqL.of eu',rk',SqL.of eo'⟩
def Lone (f:List Rat):Prop:=co f 0=0∧∃ k,co f (k+1)=1∧∀ j,j≠k→co f (j+1)=0
theorem lone_lone {i n:Nat} (h:i<n):Lone (loneF i n):=⟨rfl,i,by rw [co_lone,if_pos ⟨rfl,h⟩],fun j hj=>by rw [co_lone,if_neg fun z=>hj z.1]⟩
theorem len_sub {α:Type} [DecidableEq α]:∀ {G F:List α},G.Nodup→(∀ g∈G,g∈F)→G.length≤F.length
 | [],_,_,_=>Nat.zero_le _
 | g::G,F,nd,h=>by
  have nd:=List.nodup_cons.mp nd;have hg:=h g Af;have:=len_sub (G:=G) (F:=F.erase g) nd.2 fun x hx=>(List.mem_erase_of_ne (fun z:x=g=>nd.1 (z ▸ hx))).mpr (h x (A9 _ hx))
  rw [List.length_erase_of_mem hg] at this;have p:0<F.length:=List.length_pos_of_mem hg;rw [List.length_cons];omega
def Cnt (n:Nat) (st:List (List Rat)×Sk):Prop:=∃ F:List (List Rat),(∀ f∈st.1,¬ Lone f→f∈F)∧st.2.bs.length+F.length≤n∧∀ f∈st.2.bs,f∈st.1
theorem outN_cnt {m tot:Nat} {ss:List (Rat×Rat)} (hm:ss.length=m):∀ us:List Un,WfN m us→m+(us.filter isB).length≤tot→Cnt us.length (outN m tot ss us) :=
 vj (fun _ ht=>⟨[],fun f hf nl=>by
   obtain ⟨k,hk,rfl⟩:=List.mem_map.mp hf;have e:([]:List Un).filter isB=[]:=rfl;rw [e] at ht;have ht:m+0≤tot:=ht;exact absurd (lone_lone (by have:=List.mem_range.mp hk; omega)) nl,Nat.le_refl _,fun f hf=>(by cases hf)⟩) fun us u ih wf ht=>by
  obtain ⟨wf1,wfu⟩:=wf.left;rw [List.filter_append,Ad] at ht;obtain ⟨F,f1,f2,f3⟩:=ih wf1 (by omega);have O:=Q3 hm us wf1 (tot:=tot) (by omega);rw [Zw,Ad,A6];generalize outN m tot ss us=st at *;have more:∀ g,Cnt (us.length+1) (st.1++[g],st.2):=fun g=>by
   refine ⟨F++[g],fun f hf nl=>?_,by rw [Ad,A6]; show st.2.bs.length+_≤_; omega,fun f hf=>Am.mpr (.inl (f3 f hf))⟩
   rcases Am.mp hf with z | z
   ·exact Am.mpr (.inl (f1 f z nl))
   ·exact Am.mpr (.inr z)
  cases u with
  | sum c ts=>exact more _
  | bend p =>
   have hp:p<m+us.length:=wfu;have fp:=in_at (xs:=st.1) (p:=p) [] (by rw [O.len]; exact hp);have few:=O.few;have hb:([Un.bend p].filter isB).length=1:=rfl;rw [hb] at ht;show Cnt (us.length+1) (st.1++[(bendF m tot st.2 (st.1.getD p [])).1],(bendF m tot st.2 (st.1.getD p [])).2);unfold bendF
   by_cases c1:loS (st.1.getD p []) st.2.ws<0
   ·rw [if_pos c1]
    by_cases c2:0<hiS (st.1.getD p []) st.2.ws
    ·rw [if_pos c2]
     cases hq:posF st.2.bs (st.1.getD p []) m with
     | some r=>exact more _
     | none =>
      refine ⟨F,fun f hf nl=>?_,by show (st.2.bs++[_]).length+_≤_; rw [Ad,A6]; omega,fun f hf=>?_⟩
      ·rcases Am.mp hf with z | z
       ·exact f1 f z nl
       ·rw [Ae.mp z] at nl
        exact absurd (lone_lone (by omega)) nl
      ·rcases Am.mp hf with z | z
       ·exact Am.mpr (.inl (f3 f z))
       ·rw [Ae.mp z]; exact Am.mpr (.inl fp)
    ·rw [if_neg c2]; exact more _
   ·rw [if_neg c1]; exact more _
theorem loS_snoc {f:List Rat} {ws:List (Rat×Rat)} {x:Rat×Rat} (h:Low f ws.length):loS f (ws++[x])=loS f ws∧hiS f (ws++[x])=hiS f ws:=by
 unfold loS hiS;rw [Ad,A6];have e:co f (ws.length+1)=0:=h _ (Nat.le_refl _)
 constructor
 ·show co f 0+(sumF _ ws.length+_)=_
  dsimp only;rw [e,Rat.zero_mul,Rat.add_zero]
  congr 1
  exact jK fun k hk=>by unfold loW; rw [jk,if_pos hk]
 ·show co f 0+(sumF _ ws.length+_)=_
  dsimp only;rw [e,Rat.zero_mul,Rat.add_zero]
  congr 1
  exact jK fun k hk=>by unfold hiW; rw [jk,if_pos hk]
structure Spn (m:Nat) (ss:List (Rat×Rat)) (sk:Sk):Prop where
 ins:∀ k,k<m→sk.ws.getD k (0,0)=ss.getD k (0,0)
 var:∀ (j:Nat) (f:List Rat),sk.bs[j]?=some f→loS f sk.ws<0∧0<hiS f sk.ws∧sk.ws.getD (m+j) (0,0)=(0,hiS f sk.ws)
 nd:sk.bs.Nodup
theorem outN_spn {m tot:Nat} {ss:List (Rat×Rat)} (hm:ss.length=m):∀ us:List Un,WfN m us→m+(us.filter isB).length≤tot→Spn m ss (outN m tot ss us).2 :=
 vj (fun _ _=>⟨fun _ _=>rfl,fun j f h=>wZ h,List.nodup_nil⟩) fun us u ih wf ht=>by
  obtain ⟨wf1,wfu⟩:=wf.left;rw [List.filter_append,Ad] at ht;have S:=ih wf1 (by omega);have O:=Q3 hm us wf1 (tot:=tot) (by omega);rw [Zw];generalize outN m tot ss us=st at *
  cases u with
  | sum c ts=>exact S
  | bend p =>
   have hp:p<m+us.length:=wfu;have fp:=O.fo _ (in_at (xs:=st.1) (p:=p) [] (by rw [O.len]; exact hp));show Spn m ss (bendF m tot st.2 (st.1.getD p [])).2;have sl:=O.sk.len;unfold bendF
   by_cases c1:loS (st.1.getD p []) st.2.ws<0
   ·rw [if_pos c1]
    by_cases c2:0<hiS (st.1.getD p []) st.2.ws
    ·rw [if_pos c2]
     cases hq:posF st.2.bs (st.1.getD p []) m with
     | some r=>exact S
     | none =>
      refine ⟨fun k hk=>?_,fun j f hf=>?_,List.nodup_append.mpr ⟨S.nd,List.nodup_cons.mpr ⟨fun z=>(by cases z),List.nodup_nil⟩,fun x hx y hy=>by rw [Ae.mp hy]; exact fun z=>posF_none hq (z ▸ hx)⟩⟩
      ·show (st.2.ws++[_]).getD k (0,0)=_
       rw [jk,if_pos (by omega)]; exact S.ins k hk
      ·change (st.2.bs++[_])[j]?=some f at hf
       show loS f (st.2.ws++[_])<0∧0<hiS f (st.2.ws++[_])∧(st.2.ws++[_]).getD (m+j) (0,0)=(0,hiS f (st.2.ws++[_]))
       rcases xj hf with ⟨h1,h2⟩ | ⟨h1,h2⟩
       ·obtain ⟨a1,a2,a3⟩:=S.var j f h2
        have lw:=(O.sk.ok j f h2).2;obtain ⟨e1,e2⟩:=loS_snoc (x:=(0,hiS (st.1.getD p []) st.2.ws)) (lw.mono (by omega:m+j≤st.2.ws.length));rw [e1,e2,jk,if_pos (by omega)];exact ⟨a1,a2,a3⟩
       ·subst h1 h2
        obtain ⟨e1,e2⟩:=loS_snoc (x:=(0,hiS (st.1.getD p []) st.2.ws)) (fp.2.mono (by omega:m+st.2.bs.length≤st.2.ws.length));rw [e1,e2,jk,if_neg (by omega),if_pos (by omega)];exact ⟨c1,c2,rfl⟩
    ·rw [if_neg c2]; exact S
   ·rw [if_neg c1]; exact S
theorem needD_led {m:Nat} {bs:List (List Rat)}:∀ (n:Nat) (st:List (List Rat)),∀ j∈needD m bs n st,∃ f,co f (m+j+1)≠0∧(f∈st∨∃ i∈needD m bs n st,j<i∧f=bs.getD i [])
 | 0,_,j,h=>by cases h
 | n+1,st,j,h=>by
  unfold needD at h ⊢
  by_cases c:st.any (fun f=>decide (co f (m+n+1)≠0))=true
  ·rw [if_pos c] at h ⊢
   rcases Am.mp h with z | z
   ·obtain ⟨f,h1,h2⟩:=needD_led n (st++[bs.getD n []]) j z
    have lj:=(xQ (m:=m) (bs:=bs) n (st++[bs.getD n []])).2.1 j z;refine ⟨f,h1,?_⟩
    rcases h2 with y | ⟨i,hi,lt,e⟩
    ·rcases Am.mp y with x | x
     ·exact .inl x
     ·exact .inr ⟨n,Am.mpr (.inr (Ae.mpr rfl)),lj,Ae.mp x⟩
    ·exact .inr ⟨i,Am.mpr (.inl hi),lt,e⟩
   ·rw [Ae.mp z]
    obtain ⟨f,hf,hc⟩:=List.any_eq_true.mp c;exact ⟨f,of_decide_eq_true hc,.inl hf⟩
  ·rw [if_neg c] at h ⊢
   exact needD_led n st j h
def Cnd (d:Dr) (f:List Rat):Prop:=co f 0=0∧(zq d.pl f.tail 0).length=1∧((zq d.pl f.tail 0).getD 0 (0,0)).2=1
def kQ (d:Dr) (f:List Rat) (p:Nat):Prop:=(Cnd d f∧p=((zq d.pl f.tail 0).getD 0 (0,0)).1)∨(¬ Cnd d f∧((co f 0,zq d.pl f.tail 0),p)∈d.sm)
def Kns (d:Dr) (f:List Rat):Prop:=∀ k,co f (k+1)≠0→k∈d.pl.map (·.1)
theorem plV_ext {pl:List (Nat×Nat)} {x:Nat×Nat} {k:Nat} (h:k∈pl.map (·.1)):plV (pl++[x]) k=plV pl k:=by
 obtain ⟨p,e,_⟩:=kY h;unfold plV at e ⊢;rw [List.find?_append]
 cases z:pl.find? fun x=>decide (x.1=k) with
 | none=>rw [z] at e; cases e
 | some y=>rfl
theorem termsD_ext {pl:List (Nat×Nat)} {x:Nat×Nat}:∀ {r:List Rat} {k:Nat},(∀ i,r.getD i 0≠0→k+i∈pl.map (·.1))→zq (pl++[x]) r k=zq pl r k
 | [],_,_=>rfl
 | s::r,k,h=>by
  have hr:∀ i,r.getD i 0≠0→(k+1)+i∈pl.map (·.1):=fun i hi=>by
   have:=h (i+1) hi
   rwa [show k+(i+1)=k+1+i by omega] at this
  show (if s=0 then zq (pl++[x]) r (k+1) else ((plV (pl++[x]) k).getD 0,s)::zq (pl++[x]) r (k+1))=(if s=0 then zq pl r (k+1) else ((plV pl k).getD 0,s)::zq pl r (k+1));rw [termsD_ext hr]
  by_cases c:s=0
  ·rw [if_pos c,if_pos c]
  ·rw [if_neg c,if_neg c,plV_ext (show k∈pl.map (·.1) from h 0 c)]
theorem Kns.tail {d:Dr} {f:List Rat} (h:Kns d f):∀ i,f.tail.getD i 0≠0→0+i∈d.pl.map (·.1):=fun i hi=>by rw [Nat.zero_add]; exact h i (by rwa [yW] at hi)
theorem kQ.grow {d e:Dr} {f:List Rat} {p:Nat} (h:kQ d f p) (hn:Kns d f) (hp:e.pl=d.pl∨∃ x,e.pl=d.pl++[x]) (hs:∀ x∈d.sm,x∈e.sm):kQ e f p:=by
 have et:zq e.pl f.tail 0=zq d.pl f.tail 0:=by
  rcases hp with z | ⟨x,z⟩
  ·rw [z]
  ·rw [z]; exact termsD_ext hn.tail
 unfold kQ Cnd at h ⊢;rw [et];exact h.imp id fun z=>⟨z.1,hs _ z.2⟩
theorem Kns.grow {d e:Dr} {f:List Rat} (hn:Kns d f) (hp:e.pl=d.pl∨∃ x,e.pl=d.pl++[x]):Kns e f:=fun k hc=>by
 have:=hn k hc
 rcases hp with z | ⟨x,z⟩
 ·rw [z]; exact this
 ·rw [z,An]; exact Am.mpr (.inl this)
theorem Q4 {pl:List (Nat×Nat)}:∀ {r:List Rat} {k i:Nat},r.getD i 0≠0→((plV pl (k+i)).getD 0,r.getD i 0)∈zq pl r k
 | [],_,i,h=>absurd rfl h
 | s::r,k,0,h=>by
  have h:s≠0:=h;show ((plV pl k).getD 0,s)∈(if s=0 then _ else _);rw [if_neg h];exact Af
 | s::r,k,i+1,h=>by
  have ih:=Q4 (pl:=pl) (r:=r) (k:=k+1) (i:=i) h;rw [show k+1+i=k+(i+1) by omega] at ih;show _∈(if s=0 then zq pl r (k+1) else _::zq pl r (k+1))
  by_cases c:s=0
  ·rw [if_pos c]; exact ih
  ·rw [if_neg c]; exact A9 _ ih
theorem wJ {pl:List (Nat×Nat)} (up:pl.Pairwise fun a b=>a.1<b.1∧a.2<b.2) {a b:Nat×Nat} (ha:a∈pl) (hb:b∈pl) (e:a.2=b.2):a=b:=by
 rcases Nat.lt_trichotomy a.1 b.1 with l | l | l
 ·have:=up_mem up ha hb l; omega
 ·exact Prod.ext l e
 ·have:=up_mem up hb ha l; omega
theorem up_same_key {pl:List (Nat×Nat)} (up:pl.Pairwise fun a b=>a.1<b.1∧a.2<b.2) {a b:Nat×Nat} (ha:a∈pl) (hb:b∈pl) (e:a.1=b.1):a=b:=by
 induction up with
 | nil=>cases ha
 | @cons x xs h1 _ ih =>
  rcases List.mem_cons.mp ha with p | p <;> rcases List.mem_cons.mp hb with q | q
  ·rw [p,q]
  ·have:=(h1 b q).1; rw [p] at e; omega
  ·have:=(h1 a p).1; rw [q] at e; omega
  ·exact ih p q
theorem terms_inj {d:Dr} {f g:List Rat} {tot:Nat} (up:d.pl.Pairwise fun a b=>a.1<b.1∧a.2<b.2) (lf:f.length=tot+1) (lg:g.length=tot+1) (hf:Kns d f) (hg:Kns d g) (e0:co f 0=co g 0) (et:zq d.pl f.tail 0=zq d.pl g.tail 0):f=g:=by
 have one:∀ {f g:List Rat},Kns d f→Kns d g→zq d.pl f.tail 0=zq d.pl g.tail 0→∀ k,co f (k+1)≠0→co g (k+1)=co f (k+1):=fun {f g} hf hg et k hc=>by
  have hc':f.tail.getD k 0≠0:=by rwa [yW]
  have mem:=Q4 (pl:=d.pl) (r:=f.tail) (k:=0) (i:=k) hc';obtain ⟨p,ep,hp⟩:=kY (hf k hc);rw [Nat.zero_add,ep,et] at mem;obtain ⟨_,i,h1,h2⟩:=vx hg.tail _ mem;rw [Nat.zero_add] at h2;have:=wJ up hp h2 rfl;have ek:k=i:=congrArg Prod.fst this;subst ek;rw [yW,yW] at h1;exact h1
 refine List.ext_getElem (by rw [lf,lg]) fun k h1 h2=>?_
 have ef:co f k=f[k]:=zJ _ (A4 h1);have eg:co g k=g[k]:=zJ _ (A4 h2);rw [← ef,← eg]
 cases k with
 | zero=>exact e0
 | succ k =>
  by_cases c:co f (k+1)=0
  ·by_cases c':co g (k+1)=0
   ·rw [c,c']
   ·exact one hg hf et.symm k c'
  ·exact (one hf hg et k c).symm
theorem cnd_var {d:Dr} {f:List Rat} (hn:Kns d f) (c:Cnd d f):∃ k,(k,((zq d.pl f.tail 0).getD 0 (0,0)).1)∈d.pl∧co f (k+1)=1∧∀ j,co f (j+1)≠0→(plV d.pl j).getD 0=((zq d.pl f.tail 0).getD 0 (0,0)).1:=by
 obtain ⟨c1,c2,c3⟩:=c;obtain ⟨t,et⟩:∃ t,zq d.pl f.tail 0=[t]:=by
  match h:zq d.pl f.tail 0,c2 with
  | [t],_=>exact ⟨t,rfl⟩
 rw [et] at c3 ⊢;have c3:t.2=1:=c3;obtain ⟨_,i,h1,h2⟩:=vx hn.tail t (by rw [et]; exact Ae.mpr rfl);rw [Nat.zero_add] at h2;refine ⟨i,h2,by rw [← yW,h1,c3],fun j hj=>?_⟩;have mem:=Q4 (pl:=d.pl) (r:=f.tail) (k:=0) (i:=j) (by rwa [yW]);rw [Nat.zero_add,et] at mem;have:=Ae.mp mem;exact congrArg Prod.fst this
theorem cnd_of {d:Dr} {f:List Rat} (h:Lone f) (hn:Kns d f) (up:d.pl.Pairwise fun a b=>a.1<b.1∧a.2<b.2):Cnd d f:=by
 obtain ⟨h0,k,h1,h2⟩:=h;have hk:f.tail.getD k 0≠0:=by rw [yW,h1]; decide
 have mem:=Q4 (pl:=d.pl) (r:=f.tail) (k:=0) (i:=k) hk;rw [yW,h1] at mem;have all:∀ t∈zq d.pl f.tail 0,t=((plV d.pl (0+k)).getD 0,(1:Rat)):=fun t ht=>by
  obtain ⟨n,i,a,b⟩:=vx hn.tail t ht;have ei:i=k:=by
   by_cases c:i=k
   ·exact c
   ·rw [yW,h2 i c] at a; exact absurd a.symm n
  subst ei;obtain ⟨p,ep,hp⟩:=kY (hn i (by rw [h1]; decide));rw [Nat.zero_add] at b ⊢;have:=up_same_key up b hp rfl;rw [ep];refine Prod.ext ?_ (by rw [← a,yW,h1]);exact congrArg Prod.snd this
 have nd:=nodup_up (Zj up hn.tail);unfold Cnd;generalize zq d.pl f.tail 0=ts at *;have l1:ts.length=1:=by
  match ts,mem,all,nd with
  | [t],_,_,_=>rfl
  | t::u::r,_,all,nd =>
   have a:=all t Af;have b:=all u (A9 _ Af);rw [a,b] at nd;have:=(List.nodup_cons.mp nd).1;exact absurd (Af) this
 refine ⟨h0,l1,?_⟩
 match ts,l1,all with
 | [t],_,all=>rw [show ([t].getD 0 ((0:Nat),(0:Rat)))=t from rfl,all t Af]
structure DrK (m tot:Nat) (bs:List (List Rat)) (R:List Nat) (S:List (List Rat)) (d:Dr):Prop where
 pls:∀ x∈d.pl,x.2<m∨(m≤x.2∧∃ p,d.us[x.2 - m]?=some (.bend p))
 bnd:∀ (k p:Nat),d.us[k]?=some (.bend p)→∃ j∈R,(m+j,m+k)∈d.pl∧kQ d (bs.getD j []) p∧Kns d (bs.getD j [])
 led:∀ j∈R,∃ (k p:Nat),d.us[k]?=some (.bend p)∧(m+j,m+k)∈d.pl∧kQ d (bs.getD j []) p
 sms:∀ (k:Nat) (c:Rat) (ts:List (Nat×Rat)),d.us[k]?=some (.sum c ts)→((c,ts),m+k)∈d.sm
 src:∀ x∈d.sm,∃ f∈S,f.length=tot+1∧Kns d f∧¬ Cnd d f∧x.1=(co f 0,zq d.pl f.tail 0)
 nd:(d.sm.map (·.1)).Nodup
 cnt:d.us.length=d.sm.length+(d.us.filter isB).length
 idn:∀ k,k<m→(k,k)∈d.pl
theorem smV_mem {sm:List ((Rat×List (Nat×Rat))×Nat)} {k:Rat×List (Nat×Rat)} {p:Nat} (h:smV sm k=some p):(k,p)∈sm:=by
 unfold smV at h
 cases e:sm.find? fun x=>decide (x.1=k) with
 | none=>rw [e] at h; cases h
 | some y =>
  rw [e] at h;have h:y.2=p:=Ap h;have e1:=List.find?_some e;have e1:y.1=k:=by simpa using e1
  rw [← e1,← h];exact List.mem_of_find?_eq_some e
theorem seatK {m tot:Nat} {ss:List (Rat×Rat)} {bs:List (List Rat)} {R:List Nat} {S:List (List Rat)} {d:Dr} (I:DrI m ss bs R d) (Q:DrK m tot bs R S d) {f:List Rat} (hl:f.length=tot+1) (hn:Kns d f):DrK m tot bs R (S++[f]) (seatF m d f).2∧kQ (seatF m d f).2 f (seatF m d f).1∧(∀ x∈d.sm,x∈(seatF m d f).2.sm):=by
 have wider:DrK m tot bs R (S++[f]) d:=⟨Q.pls,Q.bnd,Q.led,Q.sms,fun x hx=>by
  obtain ⟨g,a,b⟩:=Q.src x hx;exact ⟨g,Am.mpr (.inl a),b⟩,Q.nd,Q.cnt,Q.idn⟩
 unfold seatF
 by_cases c:co f 0=0∧(zq d.pl f.tail 0).length=1∧((zq d.pl f.tail 0).getD 0 (0,0)).2=1
 ·rw [if_pos c]
  exact ⟨wider,.inl ⟨c,rfl⟩,fun x hx=>hx⟩
 ·rw [if_neg c]
  cases h:smV d.sm (co f 0,zq d.pl f.tail 0) with
  | some p=>exact ⟨wider,.inr ⟨c,smV_mem h⟩,fun x hx=>hx⟩
  | none =>
   have gs:∀ x∈d.sm,x∈d.sm++[((co f 0,zq d.pl f.tail 0),m+d.us.length)]:=fun x hx=>Am.mpr (.inl hx)
   have old:∀ {k:Nat} {p:Nat},(d.us++[Un.sum (co f 0) (zq d.pl f.tail 0)])[k]?=some (.bend p)→d.us[k]?=some (.bend p):=fun z=>by
    rcases xj z with ⟨_,y⟩ | ⟨_,y⟩
    ·exact y
    ·cases y
   have new:∀ {k:Nat} {u:Un},d.us[k]?=some u→(d.us++[Un.sum (co f 0) (zq d.pl f.tail 0)])[k]?=some u:=fun z=>by rw [List.getElem?_append_left (A1.mp z).1]; exact z
   refine ⟨⟨fun x hx=>?_,fun k p e=>?_,fun j hj=>?_,fun k c' ts e=>?_,fun x hx=>?_,?_,?_,Q.idn⟩,.inr ⟨c,Am.mpr (.inr (Ae.mpr rfl))⟩,gs⟩
   ·exact (Q.pls x hx).imp id fun ⟨a,p,b⟩=>⟨a,p,new b⟩
   ·obtain ⟨j,a1,a2,a3,a4⟩:=Q.bnd k p (old e)
    exact ⟨j,a1,a2,a3.grow a4 (.inl rfl) gs,a4⟩
   ·obtain ⟨k,p,a1,a2,a3⟩:=Q.led j hj
    obtain ⟨j',b1,b2,b3,b4⟩:=Q.bnd k p a1;have ej:j'=j:=by
     have:=wJ I.up b2 a2 rfl;have:m+j'=m+j:=congrArg Prod.fst this;omega
    subst ej;exact ⟨k,p,new a1,a2,a3.grow b4 (.inl rfl) gs⟩
   ·rcases xj e with ⟨h1,h2⟩ | ⟨h1,h2⟩
    ·exact gs _ (Q.sms k c' ts h2)
    ·cases h2
     subst h1;exact Am.mpr (.inr (Ae.mpr rfl))
   ·rcases Am.mp hx with z | z
    ·obtain ⟨g,a,b⟩:=Q.src x z
     exact ⟨g,Am.mpr (.inl a),b⟩
    ·rw [Ae.mp z]
     exact ⟨f,Am.mpr (.inr (Ae.mpr rfl)),hl,hn,c,rfl⟩
   ·show ((d.sm++[((co f 0,zq d.pl f.tail 0),m+d.us.length)]).map (·.1)).Nodup
    rw [An];exact List.nodup_append.mpr ⟨Q.nd,List.nodup_cons.mpr ⟨fun z=>(by cases z),List.nodup_nil⟩,fun x hx y hy=>by rw [Ae.mp hy]; exact fun z=>smV_none h (by have z:x=(co f 0,zq d.pl f.tail 0):=z; rw [← z]; exact hx)⟩
   ·show (d.us++[Un.sum (co f 0) (zq d.pl f.tail 0)]).length=(d.sm++[((co f 0,zq d.pl f.tail 0),m+d.us.length)]).length+((d.us++[Un.sum (co f 0) (zq d.pl f.tail 0)]).filter isB).length
    have:=Q.cnt;rw [Ad,Ad,List.filter_append,Ad,A6,A6];show d.us.length+1=d.sm.length+1+((d.us.filter isB).length+0);omega
theorem putK {m tot:Nat} {ss:List (Rat×Rat)} {bs:List (List Rat)} {R:List Nat} {S:List (List Rat)} {d:Dr} (I:DrI m ss bs R d) (Q:DrK m tot bs R S d) {j p:Nat} (hs:kQ d (bs.getD j []) p) (hn:Kns d (bs.getD j [])):DrK m tot bs (R++[j]) S ⟨d.us++[.bend p],d.pl++[(m+j,m+d.us.length)],d.sm⟩:=by
 have gp:∀ {f:List Rat},Kns d f→Kns ⟨d.us++[.bend p],d.pl++[(m+j,m+d.us.length)],d.sm⟩ f:=fun h=>h.grow (.inr ⟨_,rfl⟩)
 have gs:∀ {f:List Rat} {q:Nat},Kns d f→kQ d f q→kQ ⟨d.us++[.bend p],d.pl++[(m+j,m+d.us.length)],d.sm⟩ f q:=fun h k=>k.grow h (.inr ⟨_,rfl⟩) fun x hx=>hx
 have new:∀ {k:Nat} {u:Un},d.us[k]?=some u→(d.us++[Un.bend p])[k]?=some u:=fun z=>by rw [List.getElem?_append_left (A1.mp z).1]; exact z
 have last:(d.us++[Un.bend p])[d.us.length]?=some (.bend p):=by rw [A0 (Nat.le_refl _),Nat.sub_self]; rfl
 refine ⟨fun x hx=>?_,fun k q e=>?_,fun i hi=>?_,fun k c ts e=>?_,fun x hx=>?_,Q.nd,?_,fun k hk=>Am.mpr (.inl (Q.idn k hk))⟩
 ·rcases Am.mp hx with z | z
  ·exact (Q.pls x z).imp id fun ⟨a,q,b⟩=>⟨a,q,new b⟩
  ·rw [Ae.mp z]
   refine .inr ⟨by show m≤m+_; omega,p,?_⟩;show (d.us++[_])[m+d.us.length - m]?=_;rw [show m+d.us.length - m=d.us.length by omega];exact last
 ·rcases xj e with ⟨h1,h2⟩ | ⟨h1,h2⟩
  ·obtain ⟨i,a1,a2,a3,a4⟩:=Q.bnd k q h2
   exact ⟨i,Am.mpr (.inl a1),Am.mpr (.inl a2),gs a4 a3,gp a4⟩
  ·cases h2
   subst h1;exact ⟨j,Am.mpr (.inr (Ae.mpr rfl)),Am.mpr (.inr (Ae.mpr rfl)),gs hn hs,gp hn⟩
 ·rcases Am.mp hi with z | z
  ·obtain ⟨k,q,a1,a2,a3⟩:=Q.led i z
   obtain ⟨j',b1,b2,b3,b4⟩:=Q.bnd k q a1;have ej:j'=i:=by
    have:=wJ I.up b2 a2 rfl;have:m+j'=m+i:=congrArg Prod.fst this;omega
   subst ej;exact ⟨k,q,new a1,Am.mpr (.inl a2),gs b4 a3⟩
  ·rw [Ae.mp z]
   exact ⟨d.us.length,p,last,Am.mpr (.inr (Ae.mpr rfl)),gs hn hs⟩
 ·rcases xj e with ⟨h1,h2⟩ | ⟨h1,h2⟩
  ·exact Q.sms k c ts h2
  ·cases h2
 ·obtain ⟨f,a1,a2,a3,a4,a5⟩:=Q.src x hx
  have et:zq (d.pl++[(m+j,m+d.us.length)]) f.tail 0=zq d.pl f.tail 0:=termsD_ext a3.tail;refine ⟨f,a1,a2,gp a3,fun z=>a4 ?_,?_⟩
  ·unfold Cnd at z ⊢
   rw [et] at z;exact z
  ·show x.1=(co f 0,zq (d.pl++[(m+j,m+d.us.length)]) f.tail 0)
   rw [et];exact a5
 ·show (d.us++[Un.bend p]).length=d.sm.length+((d.us++[Un.bend p]).filter isB).length
  have:=Q.cnt;rw [Ad,List.filter_append,Ad,A6];show d.us.length+1=d.sm.length+((d.us.filter isB).length+1);omega
theorem drawK {m tot:Nat} {ss:List (Rat×Rat)} {bs:List (List Rat)} (hm:ss.length=m) (hb:m+bs.length≤tot) (ht:tot≤99) (ok:∀ (j:Nat) (f:List Rat),bs[j]?=some f→f.length=tot+1∧Low f (m+j)) :
  ∀ R:List Nat,R.Pairwise (·<·)→(∀ j∈R,j<bs.length)→(∀ i∈R,∀ j,j<i→co (bs.getD i []) (m+j+1)≠0→j∈R)→DrK m tot bs R (R.map fun j=>bs.getD j []) (drawF m bs R) :=
 vj (fun _ _ _=>⟨fun x hx=>by
   obtain ⟨k,hk,rfl⟩:=List.mem_map.mp hx;exact .inl (List.mem_range.mp hk),fun k p e=>wZ e,fun j hj=>(by cases hj),fun k c ts e=>wZ e,fun x hx=>(by cases hx),List.nodup_nil,rfl,fun k hk=>List.mem_map.mpr ⟨k,List.mem_range.mpr hk,rfl⟩⟩) fun R j ih up lt nd=>by
  obtain ⟨u1,_,u2⟩:=List.pairwise_append.mp up;have below:∀ i∈R,i<j:=fun i hi=>u2 i hi j (Ae.mpr rfl)
  have back:∀ i,i∈R++[j]→i≠j→i∈R:=fun i hi hn=>(Am.mp hi).elim id fun k=>absurd (Ae.mp k) hn
  have lt1:∀ i∈R,i<bs.length:=fun i hi=>lt i (Am.mpr (.inl hi))
  have nd1:∀ i∈R,∀ k,k<i→co (bs.getD i []) (m+k+1)≠0→k∈R:=fun i hi k hk hc=>back k (nd i (Am.mpr (.inl hi)) k hk hc) (by have:=below i hi; omega)
  have Q:=ih u1 lt1 nd1;obtain ⟨I,_⟩:=Qy hm hb ht ok R u1 lt1 nd1;have hj:=lt j (Am.mpr (.inr (Ae.mpr rfl)));have ej:bs[j]?=some bs[j]:=A4 hj;have eg:bs.getD j []=bs[j]:=zJ _ ej;obtain ⟨hl,lw⟩:=ok j _ ej;rw [← eg] at hl lw;have hk:Kns (drawF m bs R) (bs.getD j []):=need_keys (tot:=tot) I lw fun r hr hc=>back r (nd j (Am.mpr (.inr (Ae.mpr rfl))) r hr hc) (by omega)
  rw [Y5,An];obtain ⟨J,s1,s2,s3,s4,_⟩:=Zk hm I hb ht hl (lw.mono (by omega)) hk;obtain ⟨Q1,q1,_⟩:=seatK I Q hl hk;have hk1:Kns (seatF m (drawF m bs R) (bs.getD j [])).2 (bs.getD j []):=hk.grow (.inl s2);unfold putB;exact putK J Q1 q1 hk1
theorem seatsK {m tot:Nat} {ss:List (Rat×Rat)} {bs:List (List Rat)} {R:List Nat} {S:List (List Rat)} {d:Dr} (hm:ss.length=m) (I:DrI m ss bs R d) (hb:m+bs.length≤tot) (ht:tot≤99) (Q:DrK m tot bs R S d) :
  ∀ fs:List (List Rat),(∀ f∈fs,f.length=tot+1∧Low f (m+bs.length)∧Kns d f)→DrK m tot bs R (S++fs) (yQ m d fs).2∧∀ (i:Nat) (f:List Rat),fs[i]?=some f→∃ o,(yQ m d fs).1[i]?=some o∧kQ (yQ m d fs).2 f o :=
 vj (fun _=>⟨by rw [List.append_nil]; exact Q,fun i f h=>wZ h⟩) fun fs f ih h=>by
  obtain ⟨Q1,q1⟩:=ih fun g hg=>h g (Am.mpr (.inl hg))
  obtain ⟨J,p1,p2,p3,_⟩:=Q5 hm I hb ht fs fun g hg=>h g (Am.mpr (.inl hg))
  obtain ⟨hl,lw,hn⟩:=h f (Am.mpr (.inr (Ae.mpr rfl)));have hn1:Kns (yQ m d fs).2 f:=hn.grow (.inl p1);rw [QJ,← List.append_assoc];unfold seatsS;obtain ⟨Q2,q2,q3⟩:=seatK J Q1 hl hn1;obtain ⟨_,_,s2,_⟩:=Zk hm J hb ht hl lw hn1;refine ⟨Q2,fun i g e=>?_⟩;show ∃ o,((yQ m d fs).1++[_])[i]?=some o∧_
  rcases xj e with ⟨h1,h2⟩ | ⟨h1,h2⟩
  ·obtain ⟨o,a1,a2⟩:=q1 i g h2
   have kg:Kns (yQ m d fs).2 g:=(h g (Am.mpr (.inl (A8 h2)))).2.2.grow (.inl p1);exact ⟨o,by rw [List.getElem?_append_left (A1.mp a1).1]; exact a1,a2.grow kg (.inl s2) q3⟩
  ·subst h1 h2
   exact ⟨_,by rw [← p3,A0 (Nat.le_refl _),Nat.sub_self]; rfl,q2⟩
theorem getD_pre {α:Type} {xs:List α} {x d:α} {p:Nat} (h:p<xs.length):(xs++[x]).getD p d=xs.getD p d:=by rw [jk,if_pos h]
theorem spanU_ext {vs:List (Rat×Rat)} {v:Rat×Rat} {u:Un} (h:WfU vs.length u):spanU (vs++[v]) u=spanU vs u:=by
 cases u with
 | bend p =>
  have h:p<vs.length:=h;show (bentQ ((vs++[v]).getD p (0,0)).1,bentQ ((vs++[v]).getD p (0,0)).2)=_;rw [getD_pre h]; rfl
 | sum c ts =>
  show ts.foldl (vZ (vs++[v])) (c,c)=ts.foldl (vZ vs) (c,c);have h':=h.1;clear h;generalize (c,c)=z
  induction ts generalizing z with
  | nil=>rfl
  | cons t ts ih =>
   rw [List.foldl_cons,List.foldl_cons,ih fun x hx=>h' x (A9 _ hx)]
   congr 1
   unfold vZ;rw [getD_pre (h' t Af)]
theorem spanN_at {m:Nat} {ss:List (Rat×Rat)} (hx:ss.length=m):∀ us:List Un,WfN m us→(∀ (i:Nat) (u:Un),us[i]?=some u→(spanN ss us).getD (m+i) (0,0)=spanU (spanN ss us) u)∧∀ k,k<m→(spanN ss us).getD k (0,0)=ss.getD k (0,0) :=
 vj (fun _=>⟨fun i u h=>wZ h,fun _ _=>rfl⟩) fun us v ih wf=>by
  obtain ⟨wf1,wfv⟩:=wf.left;obtain ⟨ih1,ih2⟩:=ih wf1;have lw:(spanN ss us).length=m+us.length:=by rw [Zx,hx]
  rw [spanN_snoc];refine ⟨fun i u h=>?_,fun k hk=>by rw [getD_pre (by omega)]; exact ih2 k hk⟩
  rcases xj h with ⟨h1,h2⟩ | ⟨h1,h2⟩
  ·rw [getD_pre (by omega),ih1 i u h2,spanU_ext ((wf1 i u h2).mono (by omega))]
  ·subst h1 h2
   rw [jk,if_neg (by omega),if_pos (by omega),spanU_ext (by rw [lw]; exact wfv)]
def loK (ws:List (Rat×Rat)) (k:Nat) (s:Rat):Rat:=if s<0 then (ws.getD k (0,0)).2 else (ws.getD k (0,0)).1
def hiK (ws:List (Rat×Rat)) (k:Nat) (s:Rat):Rat:=if s<0 then (ws.getD k (0,0)).1 else (ws.getD k (0,0)).2
theorem termsD_span {pl:List (Nat×Nat)} {sp ws:List (Rat×Rat)}:∀ {r:List Rat} {k:Nat} {c d:Rat},(∀ i,r.getD i 0≠0→sp.getD ((plV pl (k+i)).getD 0) (0,0)=ws.getD (k+i) (0,0))→(zq pl r k).foldl (vZ sp) (c,d)=(c+sumF (fun i=>r.getD i 0*loK ws (k+i) (r.getD i 0)) r.length,d+sumF (fun i=>r.getD i 0*hiK ws (k+i) (r.getD i 0)) r.length)
 | [],_,c,d,_=>by show (c,d)=(c+0,d+0); rw [Rat.add_zero,Rat.add_zero]
 | s::r,k,c,d,h=>by
  have hr:∀ i,r.getD i 0≠0→sp.getD ((plV pl (k+1+i)).getD 0) (0,0)=ws.getD (k+1+i) (0,0):=fun i hi=>by
   have:=h (i+1) hi
   rwa [show k+(i+1)=k+1+i by omega] at this
  have e1:sumF (fun i=>(s::r).getD i 0*loK ws (k+i) ((s::r).getD i 0)) (s::r).length=s*loK ws k s+sumF (fun i=>r.getD i 0*loK ws (k+1+i) (r.getD i 0)) r.length:=by
   rw [List.length_cons,ZQ];show s*loK ws (k+0) s+_=_
   congr 1
   exact jK fun i _=>by show r.getD i 0*loK ws (k+(i+1)) (r.getD i 0)=_; rw [show k+(i+1)=k+1+i by omega]
  have e2:sumF (fun i=>(s::r).getD i 0*hiK ws (k+i) ((s::r).getD i 0)) (s::r).length=s*hiK ws k s+sumF (fun i=>r.getD i 0*hiK ws (k+1+i) (r.getD i 0)) r.length:=by
   rw [List.length_cons,ZQ];show s*hiK ws (k+0) s+_=_
   congr 1
   exact jK fun i _=>by show r.getD i 0*hiK ws (k+(i+1)) (r.getD i 0)=_; rw [show k+(i+1)=k+1+i by omega]
  rw [e1,e2];unfold zq
  by_cases z:s=0
  ·rw [if_pos z,termsD_span hr,z]
   refine Prod.ext ?_ ?_ <;> dsimp only <;> grind
  ·have e3:sp.getD ((plV pl k).getD 0) (0,0)=ws.getD k (0,0):=h 0 z
   have e4:vZ sp (c,d) ((plV pl k).getD 0,s)=(c+s*loK ws k s,d+s*hiK ws k s):=by
    unfold vZ turnQ loK hiK;rw [show (((plV pl k).getD 0,s):Nat×Rat).1=(plV pl k).getD 0 from rfl,e3]
    by_cases y:s<0
    ·simp only [if_pos y]
    ·simp only [if_neg y]
   rw [if_neg z,List.foldl_cons,e4,termsD_span hr];refine Prod.ext ?_ ?_ <;> dsimp only <;> grind
theorem ends_tail {tot:Nat} {f:List Rat} {ws:List (Rat×Rat)} (hl:f.length=tot+1) (hy:ws.length≤tot) (lw:Low f ws.length):loS f ws=co f 0+sumF (fun i=>f.tail.getD i 0*loK ws (0+i) (f.tail.getD i 0)) f.tail.length∧hiS f ws=co f 0+sumF (fun i=>f.tail.getD i 0*hiK ws (0+i) (f.tail.getD i 0)) f.tail.length:=by
 unfold loS hiS;rw [List.length_tail,hl]
 constructor
 ·congr 1
  rw [sumF_more (n:=ws.length) (m:=tot+1 - 1) (by omega) fun k hk _=>by rw [yW,lw k hk]; grind];exact jK fun k _=>by rw [yW,Nat.zero_add]; rfl
 ·congr 1
  rw [sumF_more (n:=ws.length) (m:=tot+1 - 1) (by omega) fun k hk _=>by rw [yW,lw k hk]; grind];exact jK fun k _=>by rw [yW,Nat.zero_add]; rfl
theorem draft_span {m tot:Nat} {ss ws:List (Rat×Rat)} {bs:List (List Rat)} {R:List Nat} {S:List (List Rat)} {d:Dr} (hm:ss.length=m) (I:DrI m ss bs R d) (Q:DrK m tot bs R S d) (S0:Spn m ss ⟨ws,bs⟩) (wl:ws.length=m+bs.length) (hb:m+bs.length≤tot) (rl:∀ j∈R,j<bs.length) (ok:∀ (j:Nat) (f:List Rat),bs[j]?=some f→f.length=tot+1∧Low f (m+j)) :
  ∀ q,q<m+d.us.length→(∀ v,(v,q)∈d.pl→(spanN ss d.us).getD q (0,0)=ws.getD v (0,0))∧(∀ f,f.length=tot+1→Low f (m+bs.length)→Kns d f→((co f 0,zq d.pl f.tail 0),q)∈d.sm→(spanN ss d.us).getD q (0,0)=(loS f ws,hiS f ws)):=by
 intro q
 induction q using Nat.strongRecOn with
 | ind q ih =>
  intro hq;obtain ⟨A,B⟩:=spanN_at hm d.us I.wf;have fold:∀ f,f.length=tot+1→Low f (m+bs.length)→Kns d f→(∀ x∈zq d.pl f.tail 0,x.1<q)→(zq d.pl f.tail 0).foldl (vZ (spanN ss d.us)) (co f 0,co f 0)=(loS f ws,hiS f ws):=fun f hl lw hn lt=>by
   obtain ⟨e1,e2⟩:=ends_tail (tot:=tot) (ws:=ws) hl (by omega) (by rw [wl]; exact lw);rw [e1,e2];refine termsD_span fun i hi=>?_
   have mem:=Q4 (pl:=d.pl) (k:=0) hi;obtain ⟨p,ep,hp⟩:=kY (hn.tail i hi);have l:=lt _ mem;rw [ep] at l ⊢;have l:p<q:=l;exact (ih p l (by omega)).1 _ hp
  have two:∀ f,f.length=tot+1→Low f (m+bs.length)→Kns d f→((co f 0,zq d.pl f.tail 0),q)∈d.sm→(spanN ss d.us).getD q (0,0)=(loS f ws,hiS f ws):=fun f hl lw hn mem=>by
   obtain ⟨a,b⟩:=I.sm _ mem;have a:m≤q:=a;have b:d.us[q - m]?=some (.sum (co f 0) (zq d.pl f.tail 0)):=b;have w:=I.wf _ _ b;rw [show m+(q - m)=q by omega] at w;have e:=A _ _ b;rw [show m+(q - m)=q by omega] at e;rw [e];exact fold f hl lw hn w.1
  refine ⟨fun v hv=>?_,two⟩
  rcases Q.pls _ hv with c | ⟨c,p,e⟩
  ·have c:q<m:=c
   have:=wJ I.up hv (Q.idn q c) rfl;have:v=q:=congrArg Prod.fst this;subst this;rw [B v c]; exact (S0.ins v c).symm
  ·have c:m≤q:=c
   have e:d.us[q - m]?=some (.bend p):=e;obtain ⟨j,j1,j2,j3,j4⟩:=Q.bnd _ _ e;rw [show m+(q - m)=q by omega] at j2;have:=wJ I.up hv j2 rfl;have:v=m+j:=congrArg Prod.fst this;subst this;have wp:=I.wf _ _ e;have wp:p<m+(q - m):=wp;have ee:=A _ _ e;rw [show m+(q - m)=q by omega] at ee;obtain ⟨g,ej⟩:∃ g,bs[j]?=some g:=⟨_,A4 (rl j j1)⟩;have eg:bs.getD j []=g:=zJ _ ej;obtain ⟨hl,lw⟩:=ok j _ ej;obtain ⟨s1,s2,s3⟩:=S0.var j _ ej;have s3:ws.getD (m+j) (0,0)=(0,hiS g ws):=s3;rw [eg] at j3 j4;have lw:Low g (m+bs.length):=lw.mono (by have:=rl j j1; omega);have es:(spanN ss d.us).getD p (0,0)=(loS g ws,hiS g ws):=by
    rcases j3 with ⟨cn,ep⟩ | ⟨_,mem⟩
    ·obtain ⟨k,hk,_,_⟩:=cnd_var j4 cn
     rw [← ep] at hk;obtain ⟨c1,c2,c3⟩:=cn;have f:=fold _ hl lw j4
     match h:zq d.pl g.tail 0,c2 with
     | [t],_ =>
      rw [h] at c3 ep f;have ep:p=t.1:=ep;have c3:t.2=1:=c3;have f:=f fun x hx=>by rw [Ae.mp hx,← ep]; omega
      rw [← f,c1];show _=vZ _ (0,0) t;unfold vZ turnQ;rw [c3,if_neg (by decide),← ep];refine Prod.ext ?_ ?_ <;> dsimp only <;> grind
    ·exact (ih p (by omega) (by omega)).2 _ hl lw j4 mem
   rw [ee,s3];show (bentQ ((spanN ss d.us).getD p (0,0)).1,bentQ ((spanN ss d.us).getD p (0,0)).2)=_;rw [es];show (bentQ (loS g ws),bentQ (hiS g ws))=_;rw [bent_neg (by have s1:loS g ws<0:=s1; grind),bent_pos (by have s2:0<hiS g ws:=s2; grind)]
theorem seat_inj {m tot:Nat} {ss:List (Rat×Rat)} {bs:List (List Rat)} {R:List Nat} {S:List (List Rat)} {d:Dr} (I:DrI m ss bs R d) (Q:DrK m tot bs R S d) {f g:List Rat} {p:Nat} (lf:f.length=tot+1) (lg:g.length=tot+1) (kf:Kns d f) (kg:Kns d g) (hf:kQ d f p) (hg:kQ d g p):f=g:=by
 have mix:∀ {f g:List Rat},Kns d f→Cnd d f→p=((zq d.pl f.tail 0).getD 0 (0,0)).1→((co g 0,zq d.pl g.tail 0),p)∈d.sm→False:=fun {f g} kf cf ep mem=>by
  obtain ⟨k,hk,_,_⟩:=cnd_var kf cf;rw [← ep] at hk;obtain ⟨a,b⟩:=I.sm _ mem;have a:m≤p:=a
  rcases Q.pls _ hk with c | ⟨_,q,c⟩
  ·have c:p<m:=c
   omega
  ·rw [show d.us[(k,p).2 - m]?=d.us[p - m]? from rfl,show d.us[p - m]?=some _ from b] at c
   cases c
 rcases hf with ⟨cf,ef⟩ | ⟨cf,mf⟩
 ·rcases hg with ⟨cg,eg⟩ | ⟨cg,mg⟩
  ·refine terms_inj I.up lf lg kf kg (by rw [cf.1,cg.1]) ?_
   obtain ⟨_,f2,f3⟩:=cf;obtain ⟨_,g2,g3⟩:=cg
   match h:zq d.pl f.tail 0,f2,h':zq d.pl g.tail 0,g2 with
   | [t],_,[u],_ =>
    rw [h] at ef f3;rw [h'] at eg g3;have ef:p=t.1:=ef;have eg:p=u.1:=eg;have f3:t.2=1:=f3;have g3:u.2=1:=g3;rw [show t=u from Prod.ext (by rw [← ef,← eg]) (by rw [f3,g3])]
  ·exact (mix kf cf ef mg).elim
 ·rcases hg with ⟨cg,eg⟩ | ⟨cg,mg⟩
  ·exact (mix kg cg eg mf).elim
  ·obtain ⟨_,a⟩:=I.sm _ mf
   obtain ⟨_,b⟩:=I.sm _ mg;have a:d.us[p - m]?=some (.sum (co f 0) (zq d.pl f.tail 0)):=a;have b:d.us[p - m]?=some (.sum (co g 0) (zq d.pl g.tail 0)):=b;rw [a] at b;have b:=Ap b
   injection b with b1 b2
   exact terms_inj I.up lf lg kf kg b1 b2
theorem key_one {α β:Type} {xs:List (α×β)} (nd:(xs.map (·.1)).Nodup) {a:α} {p q:β} (hp:(a,p)∈xs) (hq:(a,q)∈xs):p=q:=by
 induction xs with
 | nil=>cases hp
 | cons x xs ih =>
  rw [List.map_cons] at nd;obtain ⟨n1,n2⟩:=List.nodup_cons.mp nd
  rcases List.mem_cons.mp hp with y | y <;> rcases List.mem_cons.mp hq with z | z
  ·rw [← y] at z; exact (congrArg Prod.snd z).symm
  ·exact absurd (List.mem_map.mpr ⟨_,z,by rw [← y]⟩) n1
  ·exact absurd (List.mem_map.mpr ⟨_,y,by rw [← z]⟩) n1
  ·exact ih n2 y z
def refs:Un→Nat→Prop
 | .sum _ ts,q=>∃ t∈ts,t.1=q
 | .bend p,q=>p=q
structure Nrm (m:Nat) (us:List Un) (outs:List Nat) (ss:List (Rat×Rat)) (us0:List Un):Prop where
 len:us.length≤us0.length
 few:(us.filter isB).length≤(us0.filter isB).length
 nd:us.Nodup
 sum:∀ (k:Nat) (c:Rat) (ts:List (Nat×Rat)),us[k]?=some (.sum c ts)→(ts.map (·.1)).Pairwise (·<·)∧(∀ t∈ts,t.2≠0∧(t.1<m∨m≤t.1∧∃ p,us[t.1 - m]?=some (.bend p)))∧¬ (c=0∧ts.length=1∧(ts.getD 0 (0,0)).2=1)
 bnd:∀ (k p:Nat),us[k]?=some (.bend p)→((spanN ss us).getD p (0,0)).1<0∧0<((spanN ss us).getD p (0,0)).2
 lead:∀ (k:Nat) (u:Un),us[k]?=some u→m+k∈outs∨∃ i v,k<i∧us[i]?=some v∧refs v (m+k)
theorem refs_lt {m i q:Nat} {us:List Un} {v:Un} (wf:WfN m us) (e:us[i]?=some v) (h:refs v q):q<m+i:=by
 have w:=wf i v e
 cases v with
 | sum c ts=>obtain ⟨t,ht,rfl⟩:=h; exact w.1 t ht
 | bend p=>have h:p=q:=h; rw [← h]; exact w
theorem small_nrm {m:Nat} {us:List Un} {outs:List Nat} {ss:List (Rat×Rat)} (hm:ss.length=m) (wf:WfN m us) (ol:∀ o∈outs,o<m+us.length) (ht:totF m us≤99):Nrm m (jV m us outs ss).2.us (jV m us outs ss).1 ss us:=by
 have O:=Q3 (tot:=totF m us) hm us wf (Nat.le_refl _);obtain ⟨F,c1,c2,c3⟩:=outN_cnt (tot:=totF m us) hm us wf (Nat.le_refl _);have SP:=outN_spn (tot:=totF m us) hm us wf (Nat.le_refl _);have hb:m+(bsF m us ss).length≤totF m us:=O.sk.fit;have okb:=O.sk.ok;have wl:=O.sk.len;have few:=O.few;have fin:∀ f∈outsF m us outs ss,f∈(outN m (totF m us) ss us).1:=fun f hf=>by
  obtain ⟨o,ho,rfl⟩:=List.mem_map.mp hf;exact in_at [] (by rw [O.len]; exact ol o ho)
 have fo:∀ f∈outsF m us outs ss,f.length=totF m us+1∧Low f (m+(bsF m us ss).length):=fun f hf=>O.fo _ (fin f hf)
 obtain ⟨n1,n2,n3,n4⟩:=xQ (m:=m) (bs:=bsF m us ss) (bsF m us ss).length (outsF m us outs ss);have led:=needD_led (m:=m) (bs:=bsF m us ss) (bsF m us ss).length (outsF m us outs ss);obtain ⟨I,l1⟩:=Qy hm hb ht okb _ n1 n2 n4;have Q:=drawK hm hb ht okb _ n1 n2 n4;have hn:∀ f∈outsF m us outs ss,Kns (drawF m (bsF m us ss) (needD m (bsF m us ss) (bsF m us ss).length (outsF m us outs ss))) f:=fun f hf=>need_keys (tot:=totF m us) I (fo f hf).2 fun j hj hc=>n3 f hf j hj hc
 have ha:∀ f∈outsF m us outs ss,f.length=totF m us+1∧Low f (m+(bsF m us ss).length)∧Kns (drawF m (bsF m us ss) (needD m (bsF m us ss) (bsF m us ss).length (outsF m us outs ss))) f:=fun f hf=>⟨(fo f hf).1,(fo f hf).2,hn f hf⟩
 obtain ⟨J,p1,p2,p3,p4,_⟩:=Q5 hm I hb ht (outsF m us outs ss) ha;obtain ⟨Z,z1⟩:=seatsK hm I hb ht Q (outsF m us outs ss) ha;have hn':∀ f∈outsF m us outs ss,Kns (yQ m (drawF m (bsF m us ss) (needD m (bsF m us ss) (bsF m us ss).length (outsF m us outs ss))) (outsF m us outs ss)).2 f:=fun f hf=>(hn f hf).grow (.inl p1)
 show Nrm m (yQ m (drawF m (bsF m us ss) (needD m (bsF m us ss) (bsF m us ss).length (outsF m us outs ss))) (outsF m us outs ss)).2.us (yQ m (drawF m (bsF m us ss) (needD m (bsF m us ss) (bsF m us ss).length (outsF m us outs ss))) (outsF m us outs ss)).1 ss us;have nl:=up_len _ _ n1 n2;generalize needD m (bsF m us ss) (bsF m us ss).length (outsF m us outs ss)=R at *;generalize yQ m (drawF m (bsF m us ss) R) (outsF m us outs ss)=D at *;obtain ⟨os,d⟩:=D;dsimp only at *;clear p1 p2 I Q hn ha;have SP:Spn m ss ⟨(outN m (totF m us) ss us).2.ws,bsF m us ss⟩:=SP;have wl:(outN m (totF m us) ss us).2.ws.length=m+(bsF m us ss).length:=wl;have c2:(bsF m us ss).length+F.length≤us.length:=c2;have few:(bsF m us ss).length≤(us.filter isB).length:=few;have c3:∀ f∈bsF m us ss,f∈(outN m (totF m us) ss us).1:=c3;have okb:∀ (j:Nat) (f:List Rat),(bsF m us ss)[j]?=some f→f.length=totF m us+1∧Low f (m+j):=okb;have span:=draft_span hm J Z SP wl hb n2 okb;have bat:∀ j∈R,(bsF m us ss)[j]?=some ((bsF m us ss).getD j []):=fun j hj=>by
  have e:=A4 (n2 j hj);rw [e,zJ _ e]
 have hit:∀ (f:List Rat) (p j k:Nat),Kns d f→kQ d f p→(m+j,m+k)∈d.pl→co f (m+j+1)≠0→p=m+k∨∃ i v,k<i∧d.us[i]?=some v∧refs v (m+k):=fun f p j k kf hs hp hc=>by
  obtain ⟨q,eq,hq⟩:=kY (kf _ hc);have e:q=m+k:=congrArg Prod.snd (up_same_key J.up hq hp rfl);subst e
  rcases hs with ⟨cf,ep⟩ | ⟨_,mem⟩
  ·obtain ⟨_,_,_,h3⟩:=cnd_var kf cf
   have h3:=h3 _ hc;rw [eq,← ep] at h3;exact .inl h3.symm
  ·obtain ⟨a,b⟩:=J.sm _ mem
   have mt:=Q4 (pl:=d.pl) (r:=f.tail) (k:=0) (i:=m+j) (by rw [yW]; exact hc);rw [Nat.zero_add,eq] at mt;have rf:refs (.sum (co f 0) (zq d.pl f.tail 0)) (m+k):=⟨_,mt,rfl⟩;have lt:=refs_lt J.wf b rf;exact .inr ⟨_,_,by omega,b,rf⟩
 refine ⟨?_,?_,?_,?_,?_,?_⟩
 ·have e:=Z.cnt
  have eb:=J.bnd;have k:(d.sm.map (·.1)).length≤(F.map fun f=>(co f 0,zq d.pl f.tail 0)).length:=len_sub Z.nd fun x hx=>by
   obtain ⟨y,hy,rfl⟩:=List.mem_map.mp hx;obtain ⟨f,h1,h2,h3,h4,h5⟩:=Z.src y hy;rw [h5];refine List.mem_map.mpr ⟨f,c1 f ?_ (fun z=>h4 (cnd_of z h3 J.up)),rfl⟩
   rcases Am.mp h1 with z | z
   ·obtain ⟨j,hj,rfl⟩:=List.mem_map.mp z
    exact c3 _ (A8 (bat j hj))
   ·exact fin f z
  rw [Al,Al] at k;omega
 ·have:=J.bnd
  omega
 ·refine List.pairwise_iff_getElem.mpr fun i k hi hk lt ne=>?_
  have ek:=A4 hk;have e:=A4 hi;rw [ne] at e;generalize d.us[k]=u at *
  cases u with
  | sum c ts =>
   have:=key_one Z.nd (Z.sms _ _ _ e) (Z.sms _ _ _ ek);omega
  | bend p =>
   obtain ⟨j,a1,a2,a3,a4⟩:=Z.bnd _ _ e;obtain ⟨j',b1,b2,b3,b4⟩:=Z.bnd _ _ ek;have eb:=seat_inj J Z (okb _ _ (bat j a1)).1 (okb _ _ (bat j' b1)).1 a4 b4 a3 b3;have ej:j=j':=by
    have x:=bat j a1;have y:=bat j' b1;rw [← eb] at y;have g1:=(A1.mp x).1;exact (List.getElem?_inj g1 SP.nd).mp (by rw [x,y])
   subst ej;have:=up_same_key J.up a2 b2 rfl;have:m+i=m+k:=congrArg Prod.snd this;omega
 ·intro k c ts e
  obtain ⟨f,h1,h2,h3,h4,h5⟩:=Z.src _ (Z.sms _ _ _ e);have h5:(c,ts)=(co f 0,zq d.pl f.tail 0):=h5;have hc:c=co f 0:=congrArg Prod.fst h5;have hts:ts=zq d.pl f.tail 0:=congrArg Prod.snd h5;subst hc hts;refine ⟨Zj J.up h3.tail,fun t ht=>?_,h4⟩;obtain ⟨a,i,b,c⟩:=vx h3.tail t ht;exact ⟨a,Z.pls _ c⟩
 ·intro k p e
  obtain ⟨j,a1,a2,a3,a4⟩:=Z.bnd _ _ e;have wp:p<m+k:=J.wf _ _ e;have lk:=(A1.mp e).1;obtain ⟨s1,s2,s3⟩:=SP.var j _ (bat j a1);obtain ⟨hl,lw⟩:=okb _ _ (bat j a1);have lw:=lw.mono (by have:=n2 j a1; omega:m+j≤m+(bsF m us ss).length);have sp:=span p (by omega)
  rcases a3 with ⟨cn,ep⟩ | ⟨_,mem⟩
  ·obtain ⟨i,h1,h2,h3⟩:=cnd_var a4 cn
   rw [← ep] at h1;rw [sp.1 i h1];have zero:∀ x,x≠i→co ((bsF m us ss).getD j []) (x+1)=0:=fun x hx=>by
    by_cases z:co ((bsF m us ss).getD j []) (x+1)=0
    ·exact z
    ·have y:=h3 x z
     obtain ⟨q,eq,hq⟩:=kY (a4 x z);rw [eq,← ep] at y;have y:q=p:=y;subst y;exact absurd (congrArg Prod.fst (wJ J.up hq h1 rfl)) hx
   have il:i<m+(bsF m us ss).length:=Nat.lt_of_not_le fun z=>by
    have:=lw i z;rw [h2] at this;exact absurd this (by decide)
   have e1:loS ((bsF m us ss).getD j []) (outN m (totF m us) ss us).2.ws=((outN m (totF m us) ss us).2.ws.getD i (0,0)).1:=by
    unfold loS;rw [cn.1,sumF_one (i:=i) (by omega) fun x _ hx=>by rw [zero x hx,Rat.zero_mul]];unfold loW;rw [h2,if_neg (by decide)];grind
   have e2:hiS ((bsF m us ss).getD j []) (outN m (totF m us) ss us).2.ws=((outN m (totF m us) ss us).2.ws.getD i (0,0)).2:=by
    unfold hiS;rw [cn.1,sumF_one (i:=i) (by omega) fun x _ hx=>by rw [zero x hx,Rat.zero_mul]];unfold hiW;rw [h2,if_neg (by decide)];grind
   dsimp only at s1 s2;rw [e1] at s1;rw [e2] at s2;exact ⟨s1,s2⟩
  ·rw [sp.2 _ hl lw a4 mem]
   exact ⟨s1,s2⟩
 ·intro k u e
  have lk:=(A1.mp e).1
  cases u with
  | sum c ts =>
   have mem:=Z.sms _ _ _ e;obtain ⟨f,h1,h2,h3,h4,h5⟩:=Z.src _ mem;have h5:(c,ts)=(co f 0,zq d.pl f.tail 0):=h5;rw [h5] at mem;have here:∀ p,kQ d f p→p=m+k:=fun p hs=>by
    rcases hs with ⟨z,_⟩ | ⟨_,z⟩
    ·exact absurd z h4
    ·exact key_one Z.nd z mem
   rcases Am.mp h1 with z | z
   ·obtain ⟨j,hj,rfl⟩:=List.mem_map.mp z
    obtain ⟨i,p,a1,a2,a3⟩:=Z.led j hj;have hp:=here p a3;have wp:p<m+i:=J.wf _ _ a1;exact .inr ⟨i,_,by omega,a1,hp⟩
   ·obtain ⟨i,hi⟩:=List.mem_iff_getElem?.mp z
    obtain ⟨o,b1,b2⟩:=z1 i f hi;rw [← here o b2];exact .inl (A8 b1)
  | bend p =>
   obtain ⟨j,a1,a2,a3,a4⟩:=Z.bnd _ _ e;obtain ⟨f,h1,h2⟩:=led j a1
   rcases h2 with z | ⟨i,hi,lt,rfl⟩
   ·obtain ⟨i,hi⟩:=List.mem_iff_getElem?.mp z
    obtain ⟨o,b1,b2⟩:=z1 i f hi
    rcases hit f o j k (hn' f z) b2 a2 h1 with y | y
    ·rw [← y]; exact .inl (A8 b1)
    ·exact .inr y
   ·obtain ⟨i',p',b1,b2,b3⟩:=Z.led i hi
    obtain ⟨i2,d1,d2,d3,d4⟩:=Z.bnd _ _ b1;have ei:i2=i:=by
     have:=wJ J.up d2 b2 rfl;have:m+i2=m+i:=congrArg Prod.fst this;omega
    subst ei
    rcases hit _ p' j k d4 b3 a2 h1 with y | y
    ·have wp:p'<m+i':=J.wf _ _ b1
     exact .inr ⟨i',_,by omega,b1,y⟩
    ·exact .inr y
def SumSpOk (sp:List (Rat×Rat)) (c:Rat) (ts:List (Nat×Rat)):Prop:=∀ (j:Nat) (y:Nat×Rat),ts[j]?=some y→SmQ 6500 ((ts.take j).foldl (vZ sp) (c,c)).1∧SmQ 6500 ((ts.take j).foldl (vZ sp) (c,c)).2∧SmQ 6500 y.2∧SmQ 6500 (turnQ (sp.getD y.1 (0,0)) y.2).1∧SmQ 6500 (turnQ (sp.getD y.1 (0,0)) y.2).2∧SmQ 6500 (y.2*(turnQ (sp.getD y.1 (0,0)) y.2).1)∧SmQ 6500 (y.2*(turnQ (sp.getD y.1 (0,0)) y.2).2)
def SpanOk (ss:List (Rat×Rat)) (us:List Un):Prop:=∀ (i:Nat) (c:Rat) (ts:List (Nat×Rat)),us[i]?=some (.sum c ts)→SumSpOk (spanN ss (us.take i)) c ts
def G2 (g:Nat×Nat) (s:Rat×Rat):Prop:=Gq g s.1∧Gq g s.2
theorem G2.turn {g:Nat×Nat} {s:Rat×Rat} (h:G2 g s) (q:Rat):G2 g (turnQ s q):=by
 unfold turnQ
 split
 ·exact ⟨h.2,h.1⟩
 ·exact h
theorem step_G {S:Nat} {g:Nat×Nat} {c s v:Rat} {B:Rat} (h:Zq (c*(S:Rat))) (hs:∃ n:Int,s*(S:Rat)=(n:Rat)*(g.1:Rat)) (hv:Gq g v) (hb:absQ c≤B):Zq ((c+s*v)*(S:Rat))∧absQ (c+s*v)≤B+absQ s*(g.2:Rat)∧Zq (s*v*(S:Rat))∧absQ (s*v)≤absQ s*(g.2:Rat):=by
 obtain ⟨n,e⟩:=hs;have z:Zq (s*v*(S:Rat)):=by
  have:s*v*(S:Rat)=v*(s*(S:Rat)):=by grind
  rw [this,e];have:v*((n:Rat)*(g.1:Rat))=v*(g.1:Rat)*(n:Rat):=by grind
  rw [this];exact hv.1.mul (Zq.int n)
 have c1:=abs_add c (s*v);have c3:=abs_mul s v;have c2:=le_mul (jx s) hv.2;refine ⟨?_,by grind,z,by grind⟩;have:(c+s*v)*(S:Rat)=c*(S:Rat)+s*v*(S:Rat):=by grind
 rw [this];exact h.add z
theorem foldS_G {S:Nat} {g:Nat→Nat×Nat} {sp:List (Rat×Rat)}:∀ (ts:List (Nat×Rat)) (c d B:Rat),Zq (c*(S:Rat))→Zq (d*(S:Rat))→absQ c≤B→absQ d≤B→(∀ x∈ts,(∃ n:Int,x.2*(S:Rat)=(n:Rat)*((g x.1).1:Rat))∧G2 (g x.1) (sp.getD x.1 (0,0)))→(Zq ((ts.foldl (vZ sp) (c,d)).1*(S:Rat))∧absQ (ts.foldl (vZ sp) (c,d)).1≤B+tsum g ts)∧(Zq ((ts.foldl (vZ sp) (c,d)).2*(S:Rat))∧absQ (ts.foldl (vZ sp) (c,d)).2≤B+tsum g ts)
 | [],c,d,B,h1,h2,b1,b2,_=>by
  have e:B+tsum g []=B:=by show B+0=B; rw [Rat.add_zero]
  rw [e];exact ⟨⟨h1,b1⟩,⟨h2,b2⟩⟩
 | x::ts,c,d,B,h1,h2,b1,b2,hx=>by
  obtain ⟨hs,hv⟩:=hx x Af;have hv:=hv.turn x.2;obtain ⟨p1,p2,_⟩:=step_G h1 hs hv.1 b1;obtain ⟨q1,q2,_⟩:=step_G h2 hs hv.2 b2;have k:=foldS_G ts _ _ _ p1 q1 p2 q2 fun y hy=>hx y (A9 _ hy)
  have e:B+tsum g (x::ts)=B+absQ x.2*((g x.1).2:Rat)+tsum g ts:=by show B+(absQ x.2*((g x.1).2:Rat)+tsum g ts)=_; grind
  rw [e];exact k
theorem span_G {m:Nat} {g:Nat→Nat×Nat} {ss:List (Rat×Rat)} (hx:ss.length=m) (gx:∀ k,k<m→G2 (g k) (ss.getD k (0,0))):∀ us:List Un,WfN m us→GN m us g→∀ p,p<m+us.length→G2 (g p) ((spanN ss us).getD p (0,0)) :=
 vj (fun _ _ p hp=>gx p hp) fun us u ih wf G p hp=>by
  obtain ⟨wf1,wfu⟩:=wf.left;rw [Ad,A6] at hp;have I:=ih wf1 G.left;have lw:(spanN ss us).length=m+us.length:=by rw [Zx,hx]
  rw [spanN_snoc,jk,lw]
  by_cases c:p<m+us.length
  ·rw [if_pos c]; exact I p c
  ·have ep:p=m+us.length:=by omega
   subst ep;rw [if_neg c,if_pos rfl]
   cases u with
   | sum c ts =>
    obtain ⟨a1,a2,a3⟩:=G.sum us.length c ts (by rw [A0 (Nat.le_refl _),Nat.sub_self]; rfl);obtain ⟨⟨b1,b2⟩,⟨d1,d2⟩⟩:=foldS_G (g:=g) (sp:=spanN ss us) ts c c (absQ c) a1 a1 Rat.le_refl Rat.le_refl fun y hy=>⟨a2 y hy,I y.1 (wfu.1 y hy)⟩
    exact ⟨⟨b1,Rat.le_trans b2 a3⟩,⟨d1,Rat.le_trans d2 a3⟩⟩
   | bend q =>
    have k:=I q wfu;have l:=G.mono _ _ (Nat.le_of_lt (show q<m+us.length from wfu));exact ⟨(k.1.up l).bent,(k.2.up l).bent⟩
theorem span_ok {m:Nat} {g:Nat→Nat×Nat} {ss:List (Rat×Rat)} {us:List Un} (hx:ss.length=m) (gx:∀ k,k<m→G2 (g k) (ss.getD k (0,0))) (wf:WfN m us) (G:GN m us g):SpanOk ss us:=fun i c ts e j y ey=>by
 have hi:=(A1.mp e).1;have I:=span_G hx gx (us.take i) (wf.take i) (G.take i);have li:(us.take i).length=i:=by rw [Ak]; omega
 rw [li] at I;obtain ⟨a1,a2,a3⟩:=G.sum i c ts e;have wfu:=wf i _ e;have my:=A8 ey;obtain ⟨⟨b1,b2⟩,⟨d1,d2⟩⟩:=foldS_G (g:=g) (sp:=spanN ss (us.take i)) (ts.take j) c c (absQ c) a1 a1 Rat.le_refl Rat.le_refl fun y hy=>⟨a2 y (List.mem_of_mem_take hy),I y.1 (wfu.1 y (List.mem_of_mem_take hy))⟩
 have b3:=tsum_take g ts j;have b4:=tsum_mem (g:=g) my;have b5:=jx c;have gy:=(I y.1 (wfu.1 y my)).turn y.2;have hs:=a2 y my;obtain ⟨_,_,p1,p2⟩:=step_G a1 hs gy.1 Rat.le_refl;obtain ⟨_,_,q1,q2⟩:=step_G a1 hs gy.2 Rat.le_refl;obtain ⟨n,en⟩:=hs;have s0:absQ y.2≤((g (m+i)).2:Rat):=by
  have a:=le_mul (jx y.2) (xK (G.ok y.1).2.2.1);have o:((1:Nat):Rat)=1:=rfl;rw [o] at a;grind
 have ok:=G.ok (m+i);exact ⟨Gq.sm ⟨b1,by grind⟩ ok,Gq.sm ⟨d1,by grind⟩ ok,Gq.sm ⟨by rw [en]; exact (Zq.int n).mul (Zq.nat _),s0⟩ ok,gy.1.sm (G.ok _),gy.2.sm (G.ok _),Gq.sm ⟨p1,by grind⟩ ok,Gq.sm ⟨q1,by grind⟩ ok⟩
def w6 (K:As) (H:Hp) (t:Addr) (many:Nat) (us:List Un) (outs:List Nat):Prop:=∃ lu lo vu,SqT K H t [.int (many:Int),.ref lu,.ref lo]∧H lu=some (.lst vu)∧UL false K H vu us∧H lo=some (.lst (outV outs))
theorem w6.mono {K:As} {H H':Hp} {t:Addr} {many:Nat} {us:List Un} {outs:List Nat} (h:w6 K H t many us outs) (g:Same H H'):w6 K H' t many us outs:=by
 obtain ⟨lu,lo,vu,h1,h2,h3,h4⟩:=h;exact ⟨lu,lo,vu,g.tup h1,g _ _ h2,h3.mono g,g _ _ h4⟩
theorem rep_bl (n:Nat):List.replicate n (V.bl true)=(List.replicate n true).map V.bl:=by rw [List.map_replicate]
theorem rep_all (n:Nat):(List.replicate n true).all id=true:=by
 induction n with
 | zero=>rfl
 | succ n ih=>rw [List.replicate_succ,List.all_cons,ih]; rfl
def spIsQS (K:As):Sp:=fun vs H Q _=>∃ (p:Addr) (x:Rat),vs=[.ref p]∧SqT K H p (TQ x)∧∀ H',Same H H'→Q (.bl true) H'
theorem okyq (T:Txt K mg a):FnOk P w K mg base CX0 1 a.fyq a.dyq ["_law_found"] (spIsQS K):=by
 refine T.Fyq.ok scyq ?_ ?_
 ·walk_at "c"
 walk_at "b"
 obtain ⟨p,x,rfl,hp,q⟩:=h;refine ⟨_,(qX (ps_if (PW.pt (pw_or (j6 (yk (qW (jX) rfl T.m_isinstance boot_isinstance (pa_c (pv 0) (pa_c (vW (v:=.ty "tuple") rfl T.m_tuple boot_tuple rfl) qj))))) (wj (zv op_ne (qW (zk) rfl T.m_len boot_len (pa_c (pv 0) qj)) qk))))
    (qZ (zw pe_bl))
    zQ)
   (qZ (zw (qW (call_all rfl) rfl T.m_all boot_all (pa_c (jQ (N:=["_law_part_here"]) (ix:=[none]) ⟨rfl,rfl,rfl,rfl,trivial,rfl,trivial⟩ rfl (pi_tup (pv 0)) (fun _=>(pg_n 0 (show (["_law_part_here"]:List Str).Nodup by decide +kernel))) (fun _ σ=>jJ rfl σ) (fun _=>yZ) (fun _=>(pe_and (qW (jX) rfl T.m_isinstance boot_isinstance (pa_c (pv 0) (pa_c (vW (v:=.ty "int") rfl T.m_int boot_int rfl) qj))) (pe_one (pe_not (qW (jX) rfl T.m_isinstance boot_isinstance (pa_c (pv 0) (pa_c (vW (v:=.ty "bool") rfl T.m_bool boot_bool rfl) qj)))))))) qj))))),?_⟩
 refine ⟨_,rfl,_,_,_,rfl,IsI.tupTup hp,_,rfl,iteF ⟨_,rfl,_,_,rfl,.inr hp,rfl,_,rfl,iteF ?_⟩⟩;refine ⟨_,rfl,p,rfl,⟨_,hp⟩,yy (n:=2) (fun i ys H'=>H'=H∧ys=List.replicate i (V.bl true)) ⟨rfl,rfl⟩ (zj (by decide)) ?_ ?_ ?_⟩
 ·rintro ys H1 ⟨rfl,rfl⟩
  refine ⟨⟨_,hp,Nat.le_refl _⟩,fun D hD=>?_⟩;rw [rep_bl];refine ⟨D,_,rfl,SqL.of qz,?_⟩;rw [rep_all];exact q _ (qy hD _)
 ·rintro i ys H' hi ⟨rfl,rfl⟩
  exact ⟨_,_,hp,A4 (by show i<2; omega)⟩
 ·rintro i m' ys H' c v H2 hi ⟨rfl,rfl⟩ ⟨rfl,y1⟩ nx _
  have hx:=y1 _ hp;obtain ⟨k,rfl⟩:∃ k:Int,v=.int k:=by
   match i,hi,hx with
   | 0,_,hx=>exact ⟨_,(Ap hx).symm⟩
   | 1,_,hx=>exact ⟨_,(Ap hx).symm⟩
  exact Or.inl ⟨rfl,_,rfl,_,_,_,rfl,IsI.intInt k,_,rfl,iteT ⟨_,rfl,_,_,_,rfl,IsI.intBool k,_,rfl,nx _ _ ⟨rfl,by rw [List.replicate_succ']; rfl⟩⟩⟩
def spSumSpanL (K:As):Sp:=fun vs H Q _=>∃ (v:V) (lf:Addr) (vf:List V) (c:Rat) (ts:List (Nat×Rat)) (sp:List (Rat×Rat)),vs=[v,.ref lf]∧UnAt false K H v (.sum c ts)∧SqL K H lf vf∧SL K H vf sp∧(∀ x∈ts,x.1<sp.length)∧SumSpOk sp c ts∧RetSide K H Q (sumSp sp c ts)
theorem okyw (T:Txt K mg a):FnOk P w K mg base CX0 3 a.fyw a.dyw ["_law_unit_here", "_law_known"] (spSumSpanL K):=by
 refine T.Fyw.ok zK ?_ ?_
 ·walk_at "c"
 walk_at "b"
 obtain ⟨v,lf,vf,c,ts,sp,rfl,⟨t0,pc,pt,vt,rfl,h0,hc,ht,rt⟩,hf,rf,wf,sok,q⟩:=h;have ht:SqL K H pt vt:=ht;refine ltX ?_
 intros
 refine ⟨_,body4 (by rfl)
  (ps_s 2 zK.nd (pe_ix qK (pv 0) qk))
  (ps_s 3 zK.nd (pe_ix qK (pv 0) qk))
  (jW PassesOwn.never rfl (yq (pe_ix qK (pv 0) qk)) (yJ rfl (zz (pg_n 4 zK.nd) (zz (pg_n 5 zK.nd) zV))) (qX (ps_s 6 zK.nd (pe_ix yV (pv 1) (pv 4))) (qX (ps_if (zv op_lt (pe_ix qK (pv 5) qk) qk) (qZ (ps_s 6 zK.nd (yz (pa_c (pe_ix qK (pv 6) qk) (pa_c (pe_ix qK (pv 6) qk) qj))))) zQ) (qX (ps_s 2 zK.nd (pe_c (okyy T) hr T.myy T.Fyy.kp T.byy (pa_c (pv 2) (pa_c (pe_c (okym T) hr T.mym T.Fym.kp T.bym (pa_c (pv 5) (pa_c (pe_ix qK (pv 6) qk) qj))) qj)))) (qZ (ps_s 3 zK.nd (pe_c (okyy T) hr T.myy T.Fyy.kp T.byy (pa_c (pv 3) (pa_c (pe_c (okym T) hr T.mym T.Fym.kp T.bym (pa_c (pv 5) (pa_c (pe_ix qK (pv 6) qk) qj))) qj)))))))))
  (zw (yz (pa_c (pv 2) (pa_c (pv 3) qj)))),?_⟩
 refine lt4 ?_
 intros
 have lt:=rt.length;refine ⟨_,rfl,_,_,_,_,rfl,rfl,h0,rfl,?_⟩;refine ⟨_,rfl,_,_,_,_,rfl,rfl,h0,rfl,?_⟩;refine ⟨_,rfl,_,_,_,_,rfl,rfl,h0,rfl,pt,rfl,⟨_,ht⟩,jz (n:=ts.length) (fun i σ H'=>Same H H'∧∃ p1 p2 u5 u6 u7,σ=[some (.ref t0),some (.ref lf),some (.ref p1),some (.ref p2),u5,u6,u7]∧SqT K H' p1 (TQ ((ts.take i).foldl (vZ sp) (c,c)).1)∧SqT K H' p2 (TQ ((ts.take i).foldl (vZ sp) (c,c)).2))
  ⟨Same.refl _,pc,pc,_,_,_,rfl,hc,hc⟩ ?_ ?_ ?_⟩
 ·rintro σ H' ⟨g,p1,p2,u5,u6,u7,rfl,h1,h2⟩
  refine ⟨⟨_,g.seq ht,by omega⟩,?_⟩;rw [A5 (Nat.le_refl _)] at h1 h2;refine ⟨_,rfl,_,rfl,yj,fun t hn=>?_⟩;have g2:=qy hn (.tup [.ref p1,.ref p2]);exact q t _ (g.trans g2) ⟨t,p1,p2,rfl,SqT.of qz,g2.tup h1,g2.tup h2⟩
 ·rintro i σ H' hi ⟨g,_⟩
  exact ⟨_,_,g.seq ht,A4 (by omega)⟩
 ·rintro i σ H0 x H' hi ⟨g,p1,p2,u5,u6,u7,rfl,h1,h2⟩ ⟨rfl,y1⟩
  obtain ⟨x0,ex,tt,r,rfl,k1,k2⟩:=rt.get (y1 _ (g.seq ht));have k1:=g.tup k1;have k2:=g.tup k2;have hx:=wf x0 (A8 ex);obtain ⟨ve,ev,he⟩:=rf.getD hx;have szA:=sok i x0 ex;rw [zZ ex,List.foldl_append];show _;refine ⟨tt,_,rfl,k1,rfl,_,_,rfl,_,_,rfl,rfl,?_⟩;refine ⟨_,rfl,_,rfl,lf,_,_,_,rfl,rfl,g.seq hf,atN ev,?_⟩;obtain ⟨pe,pL,pH,rfl,hE0,eL0,eH0⟩:=he.mono g;refine ⟨_,rfl,_,_,_,_,rfl,rfl,k2,rfl,_,_,rfl,rfl,_,rfl,iteD (fun c0=>?_) (fun c0=>?_)⟩
  ·refine ⟨_,rfl,_,_,_,_,rfl,rfl,hE0,rfl,_,rfl,_,_,_,_,rfl,rfl,hE0,rfl,yj,fun t5 ht5=>?_⟩
   have g1:=qy ht5 (.tup [.ref pH,.ref pL]);have hE:=SqT.of (K:=K) (qz (H:=H') (a:=t5) (o:=.tup [.ref pH,.ref pL]));have tq:turnQ (sp.getD x0.1 (0,0)) x0.2=((sp.getD x0.1 (0,0)).2,(sp.getD x0.1 (0,0)).1):=if_pos ((num_neg _).mp c0);have eL:SqT K (upd H' t5 (.tup [.ref pH,.ref pL])) pH (TQ (turnQ (sp.getD x0.1 (0,0)) x0.2).1):=by rw [tq]; exact g1.tup eH0
   have eH:SqT K (upd H' t5 (.tup [.ref pH,.ref pL])) pL (TQ (turnQ (sp.getD x0.1 (0,0)) x0.2).2):=by rw [tq]; exact g1.tup eL0
   generalize upd H' t5 (.tup [.ref pH,.ref pL])=H1 at *;generalize hpl:pH=pl at *;generalize hph:pL=ph at *;obtain ⟨z1,z2,z3,z4,z5,z6,z7⟩:=szA;refine ⟨_,rfl,_,rfl,_,rfl,_,_,_,_,rfl,rfl,hE,rfl,r,pl,x0.2,_,rfl,g1.tup k2,eL,z3,z4,fun p4 H4 g4 e4=>?_⟩;refine ⟨p1,p4,_,_,rfl,(g1.trans g4).tup h1,SqT.of e4,z1,z6,fun p5 H5 g5 e5=>?_⟩;have g45:=g4.trans g5;refine ⟨_,rfl,_,rfl,_,rfl,_,_,_,_,rfl,rfl,g45.tup hE,rfl,r,ph,x0.2,_,rfl,(g1.trans g45).tup k2,g45.tup eH,z3,z5,fun p6 H6 g6 e6=>?_⟩;refine ⟨p2,p6,_,_,rfl,(g1.trans (g45.trans g6)).tup h2,SqT.of e6,z2,z7,fun p7 H7 g7 e7=>?_⟩;exact ⟨g.trans (g1.trans (g45.trans (g6.trans g7))),p5,p7,_,_,_,rfl,SqT.of ((g6.trans g7) _ _ e5),SqT.of e7⟩
  ·have g1:=Same.refl H'
   have hE:=hE0;have tq:turnQ (sp.getD x0.1 (0,0)) x0.2=sp.getD x0.1 (0,0):=if_neg fun z=>c0 ((num_neg _).mpr z)
   have eL:SqT K H' pL (TQ (turnQ (sp.getD x0.1 (0,0)) x0.2).1):=by rw [tq]; exact eL0
   have eH:SqT K H' pH (TQ (turnQ (sp.getD x0.1 (0,0)) x0.2).2):=by rw [tq]; exact eH0
   generalize hpl:pL=pl at *;generalize hph:pH=ph at *;obtain ⟨z1,z2,z3,z4,z5,z6,z7⟩:=szA;refine ⟨_,rfl,_,rfl,_,rfl,_,_,_,_,rfl,rfl,hE,rfl,r,pl,x0.2,_,rfl,g1.tup k2,eL,z3,z4,fun p4 H4 g4 e4=>?_⟩;refine ⟨p1,p4,_,_,rfl,(g1.trans g4).tup h1,SqT.of e4,z1,z6,fun p5 H5 g5 e5=>?_⟩;have g45:=g4.trans g5;refine ⟨_,rfl,_,rfl,_,rfl,_,_,_,_,rfl,rfl,g45.tup hE,rfl,r,ph,x0.2,_,rfl,(g1.trans g45).tup k2,g45.tup eH,z3,z5,fun p6 H6 g6 e6=>?_⟩;refine ⟨p2,p6,_,_,rfl,(g1.trans (g45.trans g6)).tup h2,SqT.of e6,z2,z7,fun p7 H7 g7 e7=>?_⟩;exact ⟨g.trans (g1.trans (g45.trans (g6.trans g7))),p5,p7,_,_,_,rfl,SqT.of ((g6.trans g7) _ _ e5),SqT.of e7⟩
def spSpansL (K:As):Sp:=fun vs H Q _=>∃ (lu lS:Addr) (vu vS:List V) (many:Nat) (us:List Un) (ss:List (Rat×Rat)),vs=[.ref lu,.ref lS]∧SqL K H lu vu∧UL false K H vu us∧SqL K H lS vS∧SL K H vS ss∧WfN many us∧us.length≤80∧SpanOk ss us∧ss.length=many∧many≤6∧∀ p H' vr,H p=none→Same H H'→H' p=some (.lst vr)→SL K H' vr (spanN ss us)→Q (.ref p) H'
theorem two_of {K:As} {H:Hp} {vs:List V} {x y:Rat} (h:RL K H vs [x,y]):∃ pa pb,vs=[.ref pa,.ref pb]∧SqT K H pa (TQ x)∧SqT K H pb (TQ y):=by
 cases h with
 | cons h1 t =>
  cases t with
  | cons h2 t =>
   cases t
   obtain ⟨pa,rfl,ha⟩:=h1;obtain ⟨pb,rfl,hb⟩:=h2;exact ⟨pa,pb,rfl,ha,hb⟩
theorem tq_bent (q:Rat):[V.int (if (0:Int)>q.num then 0 else q.num),V.int (if 0<q.num then (q.den:Int) else 1)]=TQ (bentQ q):=by
 unfold bentQ
 by_cases k:0<q.num
 ·rw [if_pos k,if_neg (show ¬ (0:Int)>q.num by omega),if_pos ((num_pos q).mp k)]
 ·rw [if_neg k,if_neg (fun z=>k ((num_pos q).mpr z))]
  by_cases k2:(0:Int)>q.num
  ·rw [if_pos k2]; rfl
  ·rw [if_neg k2,show q.num=0 by omega]; rfl
theorem okyx (T:Txt K mg a):FnOk P w K mg base CX0 4 a.fyx a.dyx ["_law_units", "_law_sides_here"] (spSpansL K):=by
 refine T.Fyx.ok xW ?_ ?_
 ·walk_at "c"
 walk_at "b"
 obtain ⟨lu,lS,vu,vS,many,us,ss,rfl,hu,rU,hS,rS0,wf,l12,sok,lss,m6,q⟩:=h;refine ltX ?_
 intros
 refine ⟨_,body3 (by rfl)
  (kq (i:=2) xW.nd rfl (Or.inl rfl) (N:=["_law_side"]) (ix:=[none]) ⟨rfl,rfl,rfl,rfl,trivial,rfl,trivial⟩ rfl (yq (pv 1)) (fun _=>(pg_n 0 (show (["_law_side"]:List Str).Nodup by decide +kernel))) (fun _ σ=>jJ rfl σ) (fun _=>yZ) (fun _=>(zy (ww) rfl T.m_tuple boot_tuple (pa_c (pv 0) qj))))
  (jW PassesOwn.never rfl (yq (pv 0)) (pg_n 3 xW.nd) (qZ (ps_if (zv op_eq (pe_ix qK (pv 3) qk) jY) (qZ (jy (w5 (pv 2) (pe_c (okyw T) hr T.myw T.Fyw.kp T.byw (pa_c (pv 3) (pa_c (pv 2) qj)))))) (qX (ps_s 4 xW.nd (pe_ix yV (pv 2) (pe_ix qK (pv 3) qk))) (qZ (jy (w5 (pv 2) (zy (ww) rfl T.m_tuple boot_tuple (pa_c (jQ (N:=["_law_end"]) (ix:=[none]) ⟨rfl,rfl,rfl,rfl,trivial,rfl,trivial⟩ rfl (pi_tup (pv 4)) (fun _=>(pg_n 0 (show (["_law_end"]:List Str).Nodup by decide +kernel))) (fun _ σ=>jJ rfl σ) (fun _=>yZ) (fun _=>(yz (pa_c (qW (call_max2 rfl) rfl T.m_max boot_max (pa_c (pe_ix qK (pv 0) qk) (pa_c qk qj))) (pa_c (pe_ix yV (x4 (pa_c qk (pa_c (pe_ix qK (pv 0) qk) qj))) (zy (vQ) rfl T.m_int boot_int (pa_c (vV op_gt (pe_ix qK (pv 0) qk) qk) qj))) qj))))) qj)))))))))
  (zw (pv 2)),?_⟩
 refine lt3 ?_
 intros
 have lvu:=rU.length;have lvS:=rS0.length;refine ⟨_,rfl,lS,rfl,⟨_,hS⟩,yy (n:=ss.length) (fun i ys H'=>H'=H∧ys=vS.take i) ⟨rfl,rfl⟩ (zj (by omega)) ?_ ?_ ?_⟩
 case refine_2 =>
  rintro i ys H' hi ⟨rfl,rfl⟩;exact ⟨_,_,hS,A4 (by omega)⟩
 case refine_3 =>
  rintro i m' ys H' c x H2 hi ⟨rfl,rfl⟩ ⟨rfl,y1⟩ nx _;have ex:=y1 _ hS;obtain ⟨sd,es,p,pl,ph,rfl,hp,h1,h2⟩:=rS0.get ex;exact Or.inl ⟨rfl,_,rfl,p,_,rfl,.inr ⟨hp,nx _ _ ⟨rfl,by rw [zZ ex]⟩⟩⟩
 rintro ys H1 ⟨rfl,rfl⟩;rw [A5 (by omega)];refine ⟨⟨_,hS,by omega⟩,fun lf hlf=>?_⟩;have g0:=qy hlf (.lst vS);refine ⟨_,rfl,lu,rfl,⟨_,g0.seq hu⟩,jz (n:=us.length) (fun i σ H'=>Same H1 H'∧∃ (vr:List V) (u3 u4:Option V),σ=[some (.ref lu),some (.ref lS),some (.ref lf),u3,u4]∧H' lf=some (.lst vr)∧SL K H' vr (spanN ss (us.take i)))
  ⟨g0,vS,_,_,rfl,qz,rS0.mono g0⟩ ?_ ?_ ?_⟩
 ·rintro σ H' ⟨g,vr,u3,u4,rfl,er,rS⟩
  refine ⟨⟨_,g.seq hu,by omega⟩,?_⟩;rw [A5 (Nat.le_refl _)] at rS;exact ⟨_,rfl,q lf H' vr hlf g er rS⟩
 ·rintro i σ H' hi ⟨g,_⟩
  exact ⟨_,_,g.seq hu,A4 (by omega)⟩
 ·rintro i σ H0 x H' hi ⟨g,vr,u3,u4,rfl,er,rS⟩ ⟨rfl,y1⟩
  obtain ⟨u,eu,hU⟩:=rU.get (y1 _ (g.seq hu));have hU:=hU.mono g;have wu:=wf i u eu;have lsp:(spanN ss (us.take i)).length=many+i:=by rw [Zx,Ak]; omega
  have lvr:=rS.length;have fin:∀ (p:Addr) (H3:Hp),Same H' H3→Z8 K H3 (.ref p) (spanU (spanN ss (us.take i)) u)→Same H1 (upd H3 lf (.lst (vr++[.ref p])))∧upd H3 lf (.lst (vr++[.ref p])) lf=some (.lst (vr++[.ref p]))∧SL K (upd H3 lf (.lst (vr++[.ref p]))) (vr++[.ref p]) (spanN ss (us.take (i+1))):=fun p H3 g3 hp=>by
   have er3:=g3 _ _ er;refine ⟨(g.trans g3).laid hlf _,qz,?_⟩;rw [zZ eu,spanN_snoc];exact SL.upd_lst ((rS.mono g3).snoc hp) er3
  cases u with
  | sum c ts =>
   obtain ⟨t,zs,et,hk⟩:=Y3 hU;subst et;refine ⟨_,rfl,_,_,_,_,rfl,rfl,hk,at0,rfl,_,rfl,iteP rfl ?_⟩;refine ⟨_,rfl,.inl ⟨rfl,_,SqL.of er⟩,_,rfl,_,rfl,_,lf,vr,c,ts,_,rfl,hU,SqL.of er,rS,fun x hx=>by rw [lsp]; exact wu.1 x hx,sok i c ts eu,fun p H3 g3 hp=>?_⟩;obtain ⟨f1,f4,f5⟩:=fin p H3 g3 hp;exact ⟨lf,vr,_,rfl,rfl,g3 _ _ er,zj (by omega),f1,_,_,_,rfl,f4,f5⟩
  | bend p0 =>
   obtain ⟨t3,rfl,h1⟩:=hU;have hp0:p0<(spanN ss (us.take i)).length:=by rw [lsp]; exact wu
   obtain ⟨ve,ev,pe,pL,pH,rfl,hE,eL,eH⟩:=rS.getD hp0;refine ⟨_,rfl,_,_,_,_,rfl,rfl,h1,rfl,rfl,_,rfl,iteN (by decide) ?_⟩;refine ⟨_,rfl,_,rfl,_,_,_,_,rfl,rfl,h1,rfl,lf,_,_,_,rfl,rfl,SqL.of er,atN ev,?_⟩
   simp only [spanU] at fin
   generalize (spanN ss (us.take i)).getD p0 (0,0)=ee at *;refine ⟨_,rfl,.inl ⟨rfl,_,SqL.of er⟩,_,rfl,pe,rfl,⟨_,hE⟩,yy (n:=2) (fun j ys H3=>Same H' H3∧RL K H3 ys ([bentQ ee.1,bentQ ee.2].take j)) ⟨Same.refl _,.nil⟩ (zj (by decide)) ?_ ?_ ?_⟩
   ·rintro ys H3 ⟨g3,r3⟩
    refine ⟨⟨_,g3.tup hE,Nat.le_refl _⟩,fun D hD=>?_⟩;obtain ⟨pa,pb,rfl,ha,hb⟩:=two_of r3;have g4:=qy hD (.lst [.ref pa,.ref pb]);refine ⟨D,_,rfl,.inl ⟨SqL.of qz,fun t5 h5=>?_⟩⟩;have g5:=qy h5 (.tup [.ref pa,.ref pb]);have g45:=g4.trans g5;obtain ⟨f1,f4,f5⟩:=fin t5 _ (g3.trans g45) ⟨t5,pa,pb,rfl,SqT.of qz,g45.tup ha,g45.tup hb⟩;exact ⟨lf,vr,_,rfl,rfl,(g3.trans g45) _ _ er,zj (by omega),f1,_,_,_,rfl,f4,f5⟩
   ·rintro j ys H3 hj ⟨g3,_⟩
    exact ⟨_,_,g3.tup hE,A4 (by show j<2; omega)⟩
   ·rintro j m' ys H3 c x H4 hj ⟨g3,r3⟩ ⟨rfl,y3⟩ nx _
    have hx:=y3 _ (g3.tup hE);obtain ⟨qe,pq,rfl,he,ej⟩:∃ (qe:Rat) (pq:Addr),x=.ref pq∧SqT K H4 pq (TQ qe)∧[bentQ ee.1,bentQ ee.2][j]?=some (bentQ qe):=by
     match j,hj,hx with
     | 0,_,hx=>exact ⟨ee.1,pL,(Ap hx).symm,g3.tup eL,rfl⟩
     | 1,_,hx=>exact ⟨ee.2,pH,(Ap hx).symm,g3.tup eH,rfl⟩
    refine Or.inl ⟨rfl,_,rfl,_,_,_,_,rfl,rfl,he,rfl,_,_,rfl,_,rfl,_,_,_,_,rfl,rfl,he,rfl,yj,fun l hl=>?_⟩;have g5:=qy hl (.lst [.int 1,.int (qe.den:Int)]);refine ⟨_,rfl,_,_,_,_,rfl,rfl,g5.tup he,rfl,_,_,rfl,rfl,.inr ⟨_,rfl,l,_,_,.int (if 0<qe.num then (qe.den:Int) else 1),rfl,rfl,SqL.of qz,?_,yj,fun t ht=>nx _ _ ?_⟩⟩
    ·try dsimp only
     by_cases k:0<qe.num
     ·rw [decide_eq_true k,if_pos k]; rfl
     ·rw [decide_eq_false k,if_neg k]; rfl
    ·try dsimp only
     rw [tq_bent];have g6:=g5.trans (qy ht (.tup (TQ (bentQ qe))));refine ⟨g3.trans g6,?_⟩;rw [zZ ej];exact (r3.mono g6).snoc ⟨t,rfl,SqT.of qz⟩
theorem iteB {b:Bool} {A B:Prop} (hb:b=true) (h:B):if (!b)=true then A else B:=by
 subst hb;exact iteF h
theorem flat_out (bt:List Nat):(outV bt).all flatV=true:=List.all_eq_true.mpr fun v hv=>by
 obtain ⟨n,_,rfl⟩:=List.mem_map.mp hv;rfl
theorem in_out {n:Nat} {bt:List Nat} (h:n∈bt):inV (.int (n:Int)) (outV bt)=true:=List.any_eq_true.mpr ⟨_,List.mem_map.mpr ⟨n,h,rfl⟩,by unfold eqV; exact beq_self_eq_true _⟩
def spSumNormal (K:As):Sp:=fun vs H Q _=>∃ (v:V) (lb:Addr) (c:Rat) (ts:List (Nat×Rat)) (bt:List Nat),vs=[v,.ref lb]∧UnAt false K H v (.sum c ts)∧SqL K H lb (outV bt)∧ts.length<64∧(ts.map (·.1)).Pairwise (·<·)∧(∀ t∈ts,t.2≠0∧t.1∈bt)∧¬ (c=0∧ts.length=1∧(ts.getD 0 (0,0)).2=1)∧∀ H',Same H H'→Q (.bl true) H'
theorem okyz (T:Txt K mg a):FnOk P w K mg base CX0 2 a.fyz a.dyz ["_law_unit_here", "_law_bent"] (spSumNormal K):=by
 refine T.Fyz.ok vK ?_ ?_
 ·walk_at "c"
 walk_at "b"
 obtain ⟨v,lb,c,ts,bt,rfl,⟨t0,pc,pt,vt,rfl,h0,hc,ht,rt⟩,hb,l64,up,all,no,q⟩:=h;have ht:SqL K H pt vt:=ht;have lt:=rt.length;refine ltX ?_
 intros
 refine ⟨_,body4 (by rfl)
  (kq (i:=2) vK.nd rfl (Or.inl rfl) (N:=["_law_place", "_law_share"]) (ix:=[none,none]) ⟨rfl,rfl,rfl,rfl,trivial,rfl,trivial⟩ rfl (yq (pe_ix qK (pv 0) qk)) (fun _=>(yJ rfl (zz (pg_n 0 (show (["_law_place", "_law_share"]:List Str).Nodup by decide +kernel)) (zz (pg_n 1 (show (["_law_place", "_law_share"]:List Str).Nodup by decide +kernel)) zV)))) (fun _ σ=>go_two rfl rfl (by decide) σ) (fun _=>yZ) (fun _=>(pv 0)))
  (ps_if (PW.pt (pw_or (zv (op_neL (hu_of hr)) (pv 2) (pe_sortSet rfl rfl T.m_sorted rfl T.m_set (pv 2))) (wj (j6 (yk (pe_c (okyq T) hr T.myq T.Fyq.kp T.byq (pa_c (pe_ix qK (pv 0) qk) qj))))))) (qZ (zw pe_bl)) zQ)
  (jW PassesOwn.never rfl (yq (pe_ix qK (pv 0) qk)) (yJ rfl (zz (pg_n 3 vK.nd) (zz (pg_n 4 vK.nd) zV))) (qZ (ps_if (PW.pt (pw_or (zv op_notIn_seq (pv 3) (pv 1) (by with_unfolding_all rfl)) (pw_or (j6 (yk (pe_c (okyq T) hr T.myq T.Fyq.kp T.byq (pa_c (pv 4) qj)))) (wj (zv op_eq (pe_ix qK (pv 4) qk) qk))))) (qZ (zw pe_bl)) zQ)))
  (zw (pe_or (vV (op_neT (hu_of hr)) (pe_ix qK (pv 0) qk) (yz (pa_c qk (pa_c qk qj)))) (pe_or (vV op_ne (qW (zk) rfl T.m_len boot_len (pa_c (pv 2) qj)) qk) (pe_one (vV (op_neT (hu_of hr)) (pe_ix qK (pe_ix yV (pe_ix qK (pv 0) qk) qk) qk) (yz (pa_c qk (pa_c qk qj)))))))),?_⟩
 refine lt4 ?_
 intros
 refine ⟨_,rfl,_,_,_,_,rfl,rfl,h0,rfl,pt,rfl,⟨_,ht⟩,yy (n:=ts.length) (fun i ys H'=>H'=H∧ys=outV ((ts.map (·.1)).take i)) ⟨rfl,rfl⟩ (zj (by omega)) ?_ ?_ ?_⟩
 case refine_2 =>
  rintro i ys H' hi ⟨rfl,_⟩;exact ⟨_,_,ht,A4 (by omega)⟩
 case refine_3 =>
  rintro i m' ys H' cc x H2 hi ⟨rfl,rfl⟩ ⟨rfl,y1⟩ nx _;obtain ⟨x0,ex,tt,r,rfl,k1,k2⟩:=rt.get (y1 _ ht);refine ⟨tt,_,rfl,k1,rfl,_,_,rfl,_,_,rfl,rfl,Or.inl ⟨rfl,_,rfl,nx _ _ ⟨rfl,?_⟩⟩⟩;rw [zZ (by rw [List.getElem?_map,ex]; rfl:(ts.map (·.1))[i]?=some x0.1)];unfold outV;rw [An];rfl
 rintro ys H1 ⟨rfl,rfl⟩;rw [A5 (by rw [Al]; omega)];refine ⟨⟨_,ht,by omega⟩,fun lp hlp=>?_⟩;have g1:=qy hlp (.lst (outV (ts.map (·.1))));have ep:=qz (H:=H1) (a:=lp) (o:=.lst (outV (ts.map (·.1))));have h0:=g1.tup h0;have hc:=g1.tup hc;have ht:=g1.seq ht;have rt:=rt.mono g1;have hb:=g1.seq hb;generalize upd H1 lp (.lst (outV (ts.map (·.1))))=H2 at *
 try dsimp only
 change tSeq _ _ _ [some (.ref t0),some (.ref lb),some (.ref lp),none,none] H2;have en:outV (ts.map (·.1))=((ts.map (·.1)).map fun n:Nat=>(n:Int)).map V.int:=by unfold outV; rw [List.map_map (g:=V.int)]; rfl
 obtain ⟨zs,hzs⟩:∃ zs:List Int,zs=(ts.map (·.1)).map fun n:Nat=>(n:Int):=⟨_,rfl⟩
 have upI:((ts.map (·.1)).map fun n:Nat=>(n:Int)).Pairwise (·<·):=List.pairwise_map.mpr (up.imp fun h=>Int.ofNat_lt.mpr h);have lz:zs.length<64:=by rw [hzs,Al,Al]; exact l64
 rw [← hzs] at en upI;have ndI:zs.Nodup:=List.Pairwise.imp (fun h=>Int.ne_of_lt h) upI;refine ⟨_,rfl,_,rfl,lp,zs,rfl,by rw [← en]; exact SqL.of ep,lz,ndI,fun l ns pm pw hl=>?_⟩;have e:ns=zs:=List.Perm.eq_of_pairwise (fun x y _ _ h1 h2=>Int.le_antisymm h1 h2) pw (upI.imp fun h=>Int.le_of_lt h) pm;subst e;rw [← en];have g3:=qy hl (.lst (outV (ts.map (·.1))));have e3:=qz (H:=H2) (a:=l) (o:=.lst (outV (ts.map (·.1))));have ep:=g3 _ _ ep;have h0:=g3.tup h0;have hc:=g3.tup hc;have ht:=g3.seq ht;have rt:=rt.mono g3;have hb:=g3.seq hb;have g:=g1.trans g3;generalize upd H2 l (.lst (outV (ts.map (·.1))))=H3 at *;refine ⟨lp,l,_,_,rfl,rfl,SqL.of ep,SqL.of e3,flat_out _,flat_out _,_,rfl,iteB (eqVs_self (flat_out _)) ?_⟩;refine ⟨_,rfl,_,_,_,_,rfl,rfl,h0,rfl,pc,c,rfl,hc,fun H4 g4=>⟨_,rfl,iteF ?_⟩⟩;have ep:=g4 _ _ ep;have h0:=g4.tup h0;have hc:=g4.tup hc;have ht:=g4.seq ht;have rt:=rt.mono g4;have hb:=g4.seq hb;have g:=g.trans g4;clear g1 g3 g4 e3 hl pm pw upI hlp
 try dsimp only
 change tSeq _ _ _ [some (.ref t0),some (.ref lb),some (.ref lp),none,none] H4;refine ⟨_,rfl,_,_,_,_,rfl,rfl,h0,rfl,pt,rfl,⟨_,ht⟩,jz (n:=ts.length) (fun i σ H'=>Same H4 H'∧∃ (u3 u4:Option V),σ=[some (.ref t0),some (.ref lb),some (.ref lp),u3,u4]) ⟨Same.refl _,_,_,rfl⟩ ?_ ?_ ?_⟩
 case refine_2 =>
  rintro i σ H' hi ⟨g5,_⟩;exact ⟨_,_,g5.seq ht,A4 (by omega)⟩
 case refine_3 =>
  rintro i σ H0 x H' hi ⟨g5,u3,u4,rfl⟩ ⟨rfl,y1⟩;obtain ⟨x0,ex,tt,r,rfl,k1,k2⟩:=rt.get (y1 _ (g5.seq ht));obtain ⟨n0,inb⟩:=all x0 (A8 ex);refine ⟨tt,_,rfl,g5.tup k1,rfl,_,_,rfl,_,_,rfl,rfl,?_⟩;refine ⟨_,rfl,_,rfl,lb,_,rfl,.inl (g5.seq hb),rfl,flat_out _,_,rfl,iteB (in_out inb) ?_⟩;refine ⟨_,rfl,r,x0.2,rfl,g5.tup k2,fun H6 g6=>⟨_,rfl,iteF ?_⟩⟩;refine ⟨_,rfl,_,_,_,_,rfl,rfl,(g5.trans g6).tup k2,rfl,rfl,_,rfl,iteN (fun z=>n0 ?_) ⟨g5.trans g6,_,_,rfl⟩⟩;exact Rat.num_eq_zero.mp (V.int.inj z)
 rintro σ H5 ⟨g5,u3,u4,rfl⟩;refine ⟨⟨_,g5.seq ht,by omega⟩,?_⟩;have ep:=g5 _ _ ep;have h0:=g5.tup h0;have hc:=g5.tup hc;have ht:=g5.seq ht;have rt:=rt.mono g5;have g:=g.trans g5;refine ⟨_,rfl,_,_,_,_,rfl,rfl,h0,rfl,yj,fun z hz=>?_⟩;have g6:=qy hz (.tup [.int 0,.int 1]);have ez:=qz (H:=H5) (a:=z) (o:=.tup [.int 0,.int 1]);have ep:=g6 _ _ ep;have h0:=g6.tup h0;have hc:=g6.tup hc;have ht:=g6.seq ht;have rt:=rt.mono g6;have g:=g.trans g6;generalize upd H5 z (.tup [.int 0,.int 1])=H6 at *;refine ⟨pc,z,_,TQ 0,rfl,rfl,hc,SqT.of ez,rfl,rfl,_,rfl,?_⟩;rw [Z2]
 by_cases c0:c=0
 ·rw [decide_eq_true c0]
  refine iteF ⟨_,rfl,_,_,rfl,.inl (SqL.of ep),rfl,_,rfl,?_⟩
  by_cases c1:ts.length=1
  ·refine iteNS (congrArg V.int (by rw [kZ,Al,c1]; rfl)) ?_
   obtain ⟨x0,ex0⟩:∃ x,ts[0]?=some x:=⟨_,A4 (by omega)⟩;obtain ⟨v0,ev0⟩:∃ v,vt[0]?=some v:=⟨_,A4 (by omega)⟩;obtain ⟨x1,ex1,tt,r,rfl,k1,k2⟩:=rt.get ev0;have e1:x1=x0:=Ap (ex1.symm.trans ex0);subst e1;have n1:x1.2≠1:=fun z=>no ⟨c0,c1,by rw [zJ _ ex1]; exact z⟩
   refine ⟨_,rfl,_,_,_,_,rfl,rfl,h0,rfl,_,_,_,_,rfl,rfl,ht,atN ev0,_,_,_,_,rfl,rfl,k1,rfl,yj,fun y hy=>?_⟩;have g7:=qy hy (.tup [.int 1,.int 1]);refine ⟨r,y,_,TQ 1,rfl,rfl,g7.tup k2,SqT.of qz,rfl,rfl,?_⟩;rw [Z2,decide_eq_false n1];exact q _ (g.trans g7)
  ·have e:(!decide (V.int ((outV (ts.map (·.1))).length:Int)=V.int 1))=true:=by
    rw [kZ,Al,decide_eq_false fun z=>c1 (by have:=V.int.inj z; omega)];rfl
   rw [e];exact iteT (q _ g)
 ·rw [decide_eq_false c0]
  exact iteT (q _ g)
theorem bendP_mem {p:Nat}:∀ (us:List Un) (many j:Nat),us[j]?=some (.bend p)→many+j∈bendP many us
 | [],_,j,h=>by cases j <;> cases h
 | u::us,many,0,h=>by
  have e:u=.bend p:=Ap h;subst e;exact Af
 | u::us,many,j+1,h=>by
  have k:=bendP_mem us (many+1) j h;rw [show many+1+j=many+(j+1) by omega] at k;unfold bendP
  split
  ·exact A9 _ k
  ·exact k
structure Nor (m:Nat) (us:List Un) (ss:List (Rat×Rat)):Prop where
 sum:∀ (k:Nat) (c:Rat) (ts:List (Nat×Rat)),us[k]?=some (.sum c ts)→(ts.map (·.1)).Pairwise (·<·)∧(∀ t∈ts,t.2≠0∧(t.1<m∨m≤t.1∧∃ p,us[t.1 - m]?=some (.bend p)))∧¬ (c=0∧ts.length=1∧(ts.getD 0 (0,0)).2=1)
 bnd:∀ (k p:Nat),us[k]?=some (.bend p)→((spanN ss us).getD p (0,0)).1<0∧0<((spanN ss us).getD p (0,0)).2
def spNormal (K:As):Sp:=fun vs H Q _=>∃ (t ls:Addr) (many:Nat) (us:List Un) (outs:List Nat) (vS:List V) (ss:List (Rat×Rat)),vs=[.ref t,.ref ls]∧w6 K H t many us outs∧SqL K H ls vS∧SL K H vS ss∧ss.length=many∧many≤6∧WfN many us∧us.length≤24∧SpanOk ss us∧Nor many us ss∧∀ H',Same H H'→Q (.bl true) H'
theorem okx3 (T:Txt K mg a):FnOk P w K mg base CX0 5 a.fx3 a.dx3 ["_law_found", "_law_sides_here"] (spNormal K):=by
 refine T.Fx3.ok zW ?_ ?_
 ·walk_at "c"
 walk_at "b"
 obtain ⟨t,ls,many,us,outs,vS,ss,rfl,⟨lu,lo,vu,ht,eu,rU,eo⟩,hl,rS,lss,m6,wf,l24,sok,nor,q⟩:=h;have lvu:=UL.length rU;refine ltX ?_
 intros
 refine ⟨_,body5 (by rfl)
  (vY (pv 0) (yJ rfl (zz (pg_n 2 zW.nd) (zz (pg_n 3 zW.nd) (zz (pg_n 4 zW.nd) zV)))))
  (ps_s 5 zW.nd (pe_c (okyx T) hr T.myx T.Fyx.kp T.byx (pa_c (pv 3) (pa_c (pv 1) qj))))
  (ps_s 6 zW.nd (zy (call_list_rng rfl) rfl T.m_list boot_list (pa_c (zy (call_range1) rfl T.m_range boot_range (pa_c (pv 2) qj)) qj)))
  (jW PassesOwn.never rfl (pi_enum rfl T.m_enumerate (pa_c (pv 3) qj)) (yJ rfl (zz (pg_n 7 zW.nd) (zz (pg_n 8 zW.nd) zV))) (qZ (ps_if (zv op_eq (pe_ix qK (pv 8) qk) jY) (qX (jy (w5 (pv 6) (pe_op y9 (pv 2) (pv 7)))) (qZ (ps_if (PW.pt (pw_or (zv op_ge (pe_ix qK (pe_ix qK (pe_ix yV (pv 5) (pe_ix qK (pv 8) qk)) qk) qk) qk) (wj (zv op_le (pe_ix qK (pe_ix qK (pe_ix yV (pv 5) (pe_ix qK (pv 8) qk)) qk) qk) qk)))) (qZ (zw pe_bl)) zQ))) (qZ (ps_if (j6 (yk (pe_c (okyz T) hr T.myz T.Fyz.kp T.byz (pa_c (pv 8) (pa_c (pv 6) qj))))) (qZ (zw pe_bl)) zQ)))))
  (zw pe_bl),?_⟩
 refine lt5 ?_
 intros
 refine ⟨_,rfl,t,_,rfl,ht,rfl,_,_,rfl,_,_,rfl,_,_,rfl,rfl,?_⟩
 try dsimp only
 change tSeq _ _ _ [some (.ref t),some (.ref ls),some (.int (many:Int)),some (.ref lu),some (.ref lo),none,none,none,none] H;refine ⟨_,rfl,_,rfl,lu,ls,vu,vS,many,us,ss,rfl,SqL.of eu,rU,hl,rS,wf,by omega,sok,lss,m6,fun le H1 ve _ g1 ee re=>?_⟩
 try dsimp only
 change tSeq _ _ _ [some (.ref t),some (.ref ls),some (.int (many:Int)),some (.ref lu),some (.ref lo),some (.ref le),none,none,none] H1;refine ⟨_,rfl,many,rfl,fun pr hpr=>⟨pr,many,rfl,qz,by omega,fun lb hlb=>?_⟩⟩;have k2:=qy hpr (.ext (RngAt pr many));have g2:=g1.trans k2;have ee:=k2 _ _ ee;have re:=re.mono k2;have lre:=re.length;have lsp:(spanN ss us).length=many+us.length:=by rw [Zx,lss]
 generalize upd H1 pr (.ext (RngAt pr many))=H2 at *;have er:(List.range many).map (fun k:Nat=>V.int (k:Int))=outV (List.range many++bendP many (us.take 0)):=by rw [List.take_zero]; unfold bendP outV; rw [List.append_nil]
 rw [er];have nel:le≠lb:=qQ ee hlb;have k3:=qy hlb (.lst (outV (List.range many++bendP many (us.take 0))))
 try dsimp only
 change tSeq _ _ _ [some (.ref t),some (.ref ls),some (.int (many:Int)),some (.ref lu),some (.ref lo),some (.ref le),some (.ref lb),none,none] _;refine ⟨_,rfl,lu,rfl,⟨_,SqL.of ((g2.trans k3) _ _ eu)⟩,jz (n:=us.length) (fun i σ H'=>Same H2 H'∧H' lb=some (.lst (outV (List.range many++bendP many (us.take i))))∧∃ (u7 u8:Option V),σ=[some (.ref t),some (.ref ls),some (.int (many:Int)),some (.ref lu),some (.ref lo),some (.ref le),some (.ref lb),u7,u8])
  ⟨k3,qz,_,_,rfl⟩ ?_ ?_ ?_⟩
 case refine_1 =>
  rintro σ H' ⟨g,_,u7,u8,rfl⟩;exact ⟨⟨_,SqL.of ((g2.trans g) _ _ eu),by omega⟩,q _ (g2.trans g)⟩
 case refine_2 =>
  rintro i σ H' hi ⟨g,_⟩;exact ⟨_,_,SqL.of ((g2.trans g) _ _ eu),A4 (by omega)⟩
 rintro i σ H' x H3 hi ⟨g,eb,u7,u8,rfl⟩ ⟨p,x2,hp,rfl,rfl,y1⟩;obtain ⟨u,ex,hu⟩:=UL.get rU (y1 _ (SqL.of ((g2.trans g) _ _ eu)));have j:=qy hp (.tup [.int (i:Int),x2]);have gj:=g.trans j;have hu:=hu.mono (g2.trans gj);have wu:=wf i u ex;have eb:=j _ _ eb;have re:=re.mono gj;have ee:=gj _ _ ee;refine ⟨p,_,rfl,SqT.of qz,rfl,_,_,rfl,_,_,rfl,rfl,?_⟩;generalize upd H' p (.tup [.int (i:Int),x2])=H4 at *;have es:us.take (i+1)=us.take i++[u]:=zZ ex;have li:(us.take i).length=i:=by rw [Ak]; omega
 have lbp:(outV (List.range many++bendP many (us.take i))).length≤900:=by
  have:=bendP_len (us.take i) many;rw [kZ,Ad,Aj];omega
 cases u with
 | bend p0 =>
  obtain ⟨tu,rfl,h1⟩:=hu;have hp0:p0<many+i:=wu;obtain ⟨b1,b2⟩:=nor.bnd i p0 ex;obtain ⟨ve0,ev,pe,pL,pH,rfl,hE,eL,eH⟩:=re.getD (i:=p0) (by omega);refine ⟨_,rfl,_,_,_,_,rfl,rfl,h1,rfl,rfl,_,rfl,iteP rfl ?_⟩;refine ⟨_,rfl,.inl ⟨rfl,_,SqL.of eb⟩,_,rfl,_,rfl,_,_,rfl,rfl,lb,_,_,rfl,rfl,eb,zj (by omega),?_⟩;have g5:Same H2 (upd H4 lb (.lst (outV (List.range many++bendP many (us.take i))++[.int ((many:Int)+(i:Int))]))):=gj.laid hlb _;have e5:=qz (H:=H4) (a:=lb) (o:=.lst (outV (List.range many++bendP many (us.take i))++[.int ((many:Int)+(i:Int))]));have nl:∀ {p:Addr} {xs:List V},SqT K H4 p xs→SqT K (upd H4 lb (.lst (outV (List.range many++bendP many (us.take i))++[.int ((many:Int)+(i:Int))]))) p xs:=fun h=>SqT.upd_lst h eb
  have eE:(outV (List.range many++bendP many (us.take i))++[.int ((many:Int)+(i:Int))])=outV (List.range many++bendP many (us.take (i+1))):=by
   rw [es,QZ,li];show _=outV (List.range many++(bendP many (us.take i)++[many+i]));rw [← List.append_assoc];unfold outV;rw [An (l₂:=[many+i])];show _++[V.int ((many:Int)+(i:Int))]=_++[V.int ((many+i:Nat):Int)];rw [show (many:Int)+(i:Int)=((many+i:Nat):Int) by omega]
  have ee5:upd H4 lb (.lst (outV (List.range many++bendP many (us.take i))++[.int ((many:Int)+(i:Int))])) le=some (.lst ve):=by rw [qJ nel]; exact ee
  have h1:=nl h1;have hE:=nl hE;have eL:=nl eL;have eH:=nl eH;rw [eE] at g5 e5 ee5 h1 hE eL eH ⊢;clear nl;generalize upd H4 lb (.lst (outV (List.range many++bendP many (us.take (i+1)))))=H5 at *;refine ⟨_,rfl,_,rfl,_,_,_,_,rfl,rfl,h1,rfl,le,_,_,_,rfl,rfl,SqL.of ee5,atN ev,_,_,_,_,rfl,rfl,hE,rfl,_,_,_,_,rfl,rfl,eL,rfl,_,_,rfl,rfl,_,rfl,iteN (fun z=>?_) ?_⟩
  ·have:=(num_neg _).mpr b1
   omega
  refine ⟨_,rfl,_,rfl,_,_,_,_,rfl,rfl,h1,rfl,le,_,_,_,rfl,rfl,SqL.of ee5,atN ev,_,_,_,_,rfl,rfl,hE,rfl,_,_,_,_,rfl,rfl,eH,rfl,_,_,rfl,rfl,_,rfl,iteN (fun z=>?_) ?_⟩
  ·have:=(num_pos _).mpr b2
   omega
  exact ⟨g5,e5,_,_,rfl⟩
 | sum c ts =>
  obtain ⟨s1,s2,s3⟩:=nor.sum i c ts ex;obtain ⟨tu,zs,et,hk⟩:=Y3 hu;subst et;refine ⟨_,rfl,_,_,_,_,rfl,rfl,hk,at0,rfl,_,rfl,iteN (show ¬ (V.str "sum" = V.str "bend") by decide) ?_⟩;have lts:ts.length<64:=by
   have:=up_len (many+i) (ts.map (·.1)) s1 fun j hj=>by
    obtain ⟨y,hy,rfl⟩:=List.mem_map.mp hj;exact wu.1 y hy
   rw [Al] at this;omega
  refine ⟨_,rfl,_,rfl,_,lb,c,ts,_,rfl,hu,SqL.of eb,lts,s1,fun x hx=>⟨(s2 x hx).1,?_⟩,s3,fun H5 g5=>⟨_,rfl,iteF ⟨gj.trans g5,?_,_,_,rfl⟩⟩⟩
  ·have wx:=wu.1 x hx
   rcases (s2 x hx).2 with z | ⟨z,p,e⟩
   ·exact Am.mpr (.inl (List.mem_range.mpr z))
   ·refine Am.mpr (.inr ?_)
    have k:=bendP_mem (us.take i) many (x.1 - many) (by rw [A2 (by omega)]; exact e)
    rwa [show many+(x.1 - many)=x.1 by omega] at k
  ·rw [es,QZ]
   show H5 lb=some (.lst (outV (List.range many++(bendP many (us.take i)++[]))));rw [List.append_nil];exact g5 _ _ eb
def led (kvs:List (Key×V)) (q:Nat):Prop:=(valV kvs (Sum.inl (q:Int))).isSome=true
theorem Z1 {kvs:List (Key×V)} {q p:Nat} {v:V} (h:led kvs q∨q=p):led (L2.putK kvs (Sum.inl (p:Int)) v) q:=by
 unfold led;rw [valV_put]
 split
 ·rfl
 ·rename_i c
  rcases h with z | z
  ·exact z
  ·exact absurd (by rw [z]) c
theorem putK_le {kvs:List (Key×V)} {k:Key} {v:V}:(L2.putK kvs k v).length≤kvs.length+1:=by
 unfold L2.putK
 split
 ·rw [Al]; omega
 ·rw [Ad]; exact Nat.le_refl _
def spAllLead (K:As):Sp:=fun vs H Q _=>∃ (t:Addr) (many:Nat) (us:List Un) (outs:List Nat),vs=[.ref t]∧w6 K H t many us outs∧WfN many us∧us.length≤80∧outs.length≤12∧(∀ (k:Nat) (u:Un),us[k]?=some u→many+k∈outs∨∃ i v,k<i∧us[i]?=some v∧refs v (many+k))∧∀ H',Same H H'→Q (.bl true) H'
theorem okyi (T:Txt K mg a):FnOk P w K mg base CX0 1 a.fyi a.dyi ["_law_found"] (spAllLead K):=by
 refine T.Fyi.ok yw ?_ ?_
 ·walk_at "c"
 walk_at "b"
 obtain ⟨t,many,us,outs,rfl,⟨lu,lo,vu,ht,eu,rU,eo⟩,wf,l80,o12,lead,q⟩:=h;have lvu:=UL.length rU;have lov:(outV outs).length=outs.length:=kZ outs;refine ltX ?_
 intros
 refine ⟨_,body5 (by rfl)
  (vY (pv 0) (yJ rfl (zz (pg_n 1 yw.nd) (zz (pg_n 2 yw.nd) (zz (pg_n 3 yw.nd) zV)))))
  (ps_s 4 yw.nd pe_dnewK)
  (jW PassesOwn.never rfl (yq (pv 3)) (pg_n 5 yw.nd) (qZ (ps_dput (hu_of hr) (pv 4) (pv 5) pe_bl rfl)))
  (jW PassesOwn.never rfl (pi_revR rfl T.m_reversed (pa_c (zy (call_range1) rfl T.m_range boot_range (pa_c (qW (zk) rfl T.m_len boot_len (pa_c (pv 2) qj)) qj)) qj) (hs:=qq rfl _ _)) (pg_n 6 yw.nd) (qX (ps_if (pt_cmp (pc_dnotin (hu_of hr) (pe_op y9 (pv 1) (pv 6)) (pv 4))) (qZ (zw pe_bl)) zQ) (qZ (ps_if (zv op_eq (pe_ix qK (pe_ix yV (pv 2) (pv 6)) qk) jY) (qZ (ps_dput (hu_of hr) (pv 4) (pe_ix qK (pe_ix yV (pv 2) (pv 6)) qk) pe_bl rfl)) (qZ (jW PassesOwn.never rfl (yq (pe_ix qK (pe_ix yV (pv 2) (pv 6)) qk)) (yJ rfl (zz (pg_n 5 yw.nd) (zz (pg_n 7 yw.nd) zV))) (qZ (ps_dput (hu_of hr) (pv 4) (pv 5) pe_bl rfl))))))))
  (zw pe_bl),?_⟩
 refine lt5 ?_
 intros
 refine ⟨_,rfl,t,_,rfl,ht,rfl,_,_,rfl,_,_,rfl,_,_,rfl,rfl,?_⟩
 try dsimp only
 change tSeq _ _ _ [some (.ref t),some (.int (many:Int)),some (.ref lu),some (.ref lo),none,none,none,none] H;refine fun ld hld=>?_
 have g1:=qy hld (.dK [])
 try dsimp only
 change tSeq _ _ _ [some (.ref t),some (.int (many:Int)),some (.ref lu),some (.ref lo),some (.ref ld),none,none,none] _;refine ⟨_,rfl,lo,rfl,⟨_,SqL.of (g1 _ _ eo)⟩,jz (n:=outs.length) (fun i σ H'=>Same H H'∧∃ (kvs:List (Key×V)) (u5:Option V),σ=[some (.ref t),some (.int (many:Int)),some (.ref lu),some (.ref lo),some (.ref ld),u5,none,none]∧H' ld=some (.dK kvs)∧kvs.length≤i∧∀ o∈outs.take i,led kvs o)
  ⟨g1,[],_,rfl,qz,Nat.le_refl _,fun o ho=>by rw [List.take_zero] at ho; cases ho⟩ ?_ ?_ ?_⟩
 case refine_2 =>
  rintro i σ H' hi ⟨g,_⟩;exact ⟨_,_,SqL.of (g _ _ eo),A4 (by omega)⟩
 case refine_3 =>
  rintro i σ H0 x H' hi ⟨g,kvs,u5,rfl,ed,lk,al⟩ ⟨rfl,y1⟩;obtain ⟨o,eo',rfl⟩:=out_at (y1 _ (SqL.of (g _ _ eo)));refine ⟨_,rfl,_,rfl,ld,_,rfl,DPut.k (k:=Sum.inl (o:Int)) ed (zj (by omega)),g.laid hld _,_,_,rfl,qz,?_,fun p hp=>?_⟩
  ·have:=putK_le (kvs:=kvs) (k:=Sum.inl (o:Int)) (v:=.bl true)
   omega
  ·rw [zZ eo'] at hp
   rcases Am.mp hp with z | z
   ·exact Z1 (.inl (al p z))
   ·exact Z1 (.inr (Ae.mp z))
 rintro σ H2 ⟨g2,kvs,u5,rfl,ed,lk,al⟩;rw [A5 (Nat.le_refl _)] at al;refine ⟨⟨_,SqL.of (g2 _ _ eo),by omega⟩,?_⟩
 try dsimp only
 change tSeq _ _ _ [some (.ref t),some (.int (many:Int)),some (.ref lu),some (.ref lo),some (.ref ld),u5,none,none] H2;refine ⟨_,rfl,_,_,rfl,.inl (SqL.of (g2 _ _ eu)),us.length,congrArg (fun z=>[V.int z]) (show (vu.length:Int)=(us.length:Int) by omega),fun pr hpr=>⟨pr,us.length,rfl,qz,by omega,?_⟩⟩;have k3:=qy hpr (.ext (RngAt pr us.length));have g3:=g2.trans k3;have ed:=k3 _ _ ed;generalize upd H2 pr (.ext (RngAt pr us.length))=H3 at *;refine jz (n:=us.length) (fun i σ H'=>Same H H'∧∃ (kvs:List (Key×V)) (u5 u6 u7:Option V),σ=[some (.ref t),some (.int (many:Int)),some (.ref lu),some (.ref lo),some (.ref ld),u5,u6,u7]∧H' ld=some (.dK kvs)∧kvs.length≤12+101*i∧(∀ o∈outs,led kvs o)∧∀ (j:Nat) (v:Un) (p:Nat),us.length≤j+i→us[j]?=some v→refs v p→led kvs p)
  ⟨g3,kvs,_,_,_,rfl,ed,by omega,al,fun j v p hj ej _=>by have:=(A1.mp ej).1; omega⟩ ?_ ?_ ?_
 ·rintro σ H' ⟨g,kvs,u5,u6,u7,rfl,_⟩
  exact ⟨Nat.le_refl _,q _ g⟩
 ·rintro i σ H' hi _
  exact hi
 rintro i σ H0 x H' hi ⟨g,kvs,u5,u6,u7,rfl,ed,lk,al,ar⟩ ⟨rfl,rfl⟩;obtain ⟨k,hk⟩:∃ k:Nat,k=us.length - 1 - i:=⟨_,rfl⟩;rw [show ((us.length:Int) - 1) - (i:Int)=(k:Int) by omega];obtain ⟨u,ex⟩:∃ u,us[k]?=some u:=⟨_,A4 (by omega)⟩;obtain ⟨v,ev⟩:∃ v,vu[k]?=some v:=⟨_,A4 (by omega)⟩;have hu:UnAt false K H v u:=by
  obtain ⟨u',e',h'⟩:=UL.get rU ev;rw [ex] at e';have e:u=u':=Ap e';rw [e];exact h'
 have here:led kvs (many+k):=by
  rcases lead k u ex with z | ⟨i',v',lt,e',r⟩
  ·exact al _ z
  ·exact ar i' v' _ (by omega) e' r
 have hget:=DGet.k (k:=Sum.inl (((many+k:Nat):Int))) ed;have ei:(valV kvs (Sum.inl (((many+k:Nat):Int)))).isSome=true:=here;rw [show ((many+k:Nat):Int)=(many:Int)+(k:Int) by omega] at hget ei;refine ⟨_,rfl,_,rfl,_,_,rfl,rfl,_,rfl,ld,_,rfl,hget,_,rfl,iteB ei ?_⟩;have evk:atI vu (k:Int)=some v:=atN ev;have step:∀ (j:Nat) (v':Un) (p:Nat),us.length≤j+(i+1)→us[j]?=some v'→refs v' p→(j=k∧v'=u)∨led kvs p:=fun j v' p hj ej r=>by
  by_cases c:j=k
  ·subst c
   exact .inl ⟨rfl,Ap (ej.symm.trans ex)⟩
  ·exact .inr (ar j v' p (by omega) ej r)
 cases u with
 | bend p0 =>
  obtain ⟨tu,rfl,h1⟩:=hu;refine ⟨_,rfl,_,rfl,lu,_,_,_,rfl,rfl,SqL.of (g _ _ eu),evk,_,_,_,_,rfl,rfl,g.tup h1,rfl,rfl,_,rfl,iteP rfl ?_⟩;refine ⟨_,rfl,_,rfl,_,rfl,lu,_,_,_,rfl,rfl,SqL.of (g _ _ eu),evk,_,_,_,_,rfl,rfl,g.tup h1,rfl,ld,_,rfl,DPut.k (k:=Sum.inl (p0:Int)) ed (Nat.lt_of_le_of_lt (show kvs.length≤10000 by omega) (by decide)),g.laid hld _,_,_,_,_,rfl,qz,?_,fun o ho=>Z1 (.inl (al o ho)),fun j v' p hj ej r=>?_⟩
  ·have:=putK_le (kvs:=kvs) (k:=Sum.inl (p0:Int)) (v:=.bl true)
   omega
  ·rcases step j v' p hj ej r with ⟨_,rfl⟩ | z
   ·exact Z1 (.inr (show p0=p from r).symm)
   ·exact Z1 (.inl z)
 | sum c ts =>
  obtain ⟨tu,pc,pt,vs,rfl,h1,h2,h3,h4⟩:=hu;have h3:SqL K H pt vs:=h3;have lts:=h4.length;have l100:ts.length≤100:=(wf k _ ex).2.2;refine ⟨_,rfl,_,rfl,lu,_,_,_,rfl,rfl,SqL.of (g _ _ eu),evk,_,_,_,_,rfl,rfl,g.tup h1,rfl,rfl,_,rfl,iteN (by decide) ?_⟩;refine ⟨_,rfl,_,rfl,lu,_,_,_,rfl,rfl,SqL.of (g _ _ eu),evk,_,_,_,_,rfl,rfl,g.tup h1,rfl,pt,rfl,⟨_,g.seq h3⟩,?_⟩;refine jz (n:=ts.length) (fun j σ H4=>Same H H4∧∃ (kv2:List (Key×V)) (u5 u7:Option V),σ=[some (.ref t),some (.int (many:Int)),some (.ref lu),some (.ref lo),some (.ref ld),u5,some (.int (k:Int)),u7]∧H4 ld=some (.dK kv2)∧kv2.length≤12+101*i+j∧(∀ p,led kvs p→led kv2 p)∧∀ x∈ts.take j,led kv2 x.1)
   ⟨g,kvs,_,_,rfl,ed,by omega,fun _ z=>z,fun x hx=>by rw [List.take_zero] at hx; cases hx⟩ ?_ ?_ ?_
  ·rintro σ H4 ⟨g4,kv2,v5,v7,rfl,e4,l4,a4,b4⟩
   rw [A5 (Nat.le_refl _)] at b4;refine ⟨⟨_,g4.seq h3,by omega⟩,g4,kv2,_,_,_,rfl,e4,by omega,fun o ho=>a4 o (al o ho),fun j v' p hj ej r=>?_⟩
   rcases step j v' p hj ej r with ⟨_,rfl⟩ | z
   ·obtain ⟨x,hx,rfl⟩:=r
    exact b4 x hx
   ·exact a4 p z
  ·rintro j σ H4 hj ⟨g4,_⟩
   exact ⟨_,_,g4.seq h3,A4 (by omega)⟩
  ·rintro j σ H40 y H4 hj ⟨g4,kv2,v5,v7,rfl,e4,l4,a4,b4⟩ ⟨rfl,y3⟩
   obtain ⟨x0,ex0,tt,r,rfl,k1,k2⟩:=h4.get (y3 _ (g4.seq h3));refine ⟨tt,_,rfl,g4.tup k1,rfl,_,_,rfl,_,_,rfl,rfl,?_⟩;refine ⟨_,rfl,_,rfl,ld,_,rfl,DPut.k (k:=Sum.inl (x0.1:Int)) e4 (Nat.lt_of_le_of_lt (show kv2.length≤10000 by omega) (by decide)),g4.laid hld _,_,_,_,rfl,qz,?_,fun p hp=>Z1 (.inl (a4 p hp)),fun x hx=>?_⟩
   ·have:=putK_le (kvs:=kv2) (k:=Sum.inl (x0.1:Int)) (v:=.bl true)
    omega
   ·rw [zZ ex0] at hx
    rcases Am.mp hx with z | z
    ·exact Z1 (.inl (b4 x z))
    ·exact Z1 (.inr (congrArg Prod.fst (Ae.mp z)))
theorem rat_eqB {K:As} {H:Hp} {n:Nat} {p r:Addr} {x y:Rat} (hp:SqT K H p (TQ x)) (hq:SqT K H r (TQ y)):EqB K H (n+1) (.ref p) (.ref r) (decide (x=y)):=by
 rw [← Z2,← x6 (TQ x) (TQ y) (fun j=>match (TQ x)[j]?,(TQ y)[j]? with | some a,some b=>eqV a b | _,_=>true) fun j a b e1 e2=>by rw [e1,e2]];refine .tup hp hq fun j a b e1 e2=>?_
 rw [e1,e2]
 match j,e1,e2 with
 | 0,e1,e2=>cases e1; cases e2; exact .flat rfl rfl
 | 1,e1,e2=>cases e1; cases e2; exact .flat rfl rfl
theorem term_eqB {K:As} {H:Hp} {n:Nat} {v w:V} {x y:Nat×Rat} (h:Y6 K H v x) (k:Y6 K H w y):EqB K H (n+2) v w (decide (x=y)):=by
 obtain ⟨t,r,rfl,h1,h2⟩:=h;obtain ⟨t',r',rfl,k1,k2⟩:=k;have z:=EqB.tup (n:=n+1) (e:=fun j=>if j=0 then eqV (.int (x.1:Int)) (.int (y.1:Int)) else decide (x.2=y.2)) h1 k1 fun j a b e1 e2=>by
  match j,e1,e2 with
  | 0,e1,e2=>cases e1; cases e2; exact .flat rfl rfl
  | 1,e1,e2=>cases e1; cases e2; exact rat_eqB h2 k2
 have e:(((List.range (min [V.int (x.1:Int),.ref r].length [V.int (y.1:Int),.ref r'].length)).all fun j=>if j=0 then eqV (.int (x.1:Int)) (.int (y.1:Int)) else decide (x.2=y.2))&&([V.int (x.1:Int),.ref r].length==[V.int (y.1:Int),.ref r'].length))=decide (x=y):=by
  show ((eqV (.int (x.1:Int)) (.int (y.1:Int))&&(decide (x.2=y.2)&&true))&&true)=_;show ((((x.1:Int)==(y.1:Int))&&(decide (x.2=y.2)&&true))&&true)=_;rw [Bool.and_true,Bool.and_true]
  by_cases c:x=y
  ·subst c
   rw [beq_self_eq_true,decide_eq_true rfl,decide_eq_true rfl];rfl
  ·rw [decide_eq_false c]
   by_cases c1:x.1=y.1
   ·rw [decide_eq_false fun z=>c (Prod.ext c1 z),Bool.and_false]
   ·rw [beq_false_of_ne (show (x.1:Int)≠(y.1:Int) by omega),Bool.false_and]
 rw [e] at z;exact z
theorem unit_unlike {K:As} {H:Hp} {n:Nat} {v w:V} {u u':Un} (ne:u≠u') (h:UnAt false K H v u) (k:UnAt false K H w u'):EqB K H (n+4) v w false:=by
 cases u with
 | sum c ts =>
  obtain ⟨t,pc,pt,vs,rfl,h1,h2,h3,h4⟩:=h;have h3:SqL K H pt vs:=h3
  cases u' with
  | bend p =>
   obtain ⟨t',rfl,k1⟩:=k;exact EqB.tup (n:=n+3) (e:=fun _=>false) h1 k1 fun j a b e1 e2=>by
    match j,e1,e2 with
    | 0,e1,e2=>cases e1; cases e2; exact EqB.flat (x:=.str "sum") (y:=.str "bend") rfl rfl
    | 1,e1,e2=>cases e1; cases e2; exact .tInt h2
  | sum c' ts' =>
   obtain ⟨t',pc',pt',vs',rfl,k1,k2,k3,k4⟩:=k;have k3:SqL K H pt' vs':=k3;obtain ⟨b,hb,he⟩:∃ b,EqB K H (n+3) (.ref pt) (.ref pt') b∧(b=true→ts=ts'):=by
    by_cases hl:vs.length=vs'.length
    ·refine ⟨_,EqB.lst (n:=n+2) (e:=fun j=>decide (ts[j]?=ts'[j]?)) h3 k3 hl fun j x y e1 e2=>?_,fun z=>?_⟩
     ·obtain ⟨x0,f1,g1⟩:=h4.get e1
      obtain ⟨y0,f2,g2⟩:=k4.get e2;have:=term_eqB (n:=n) g1 g2
      rwa [show decide (x0=y0)=decide (ts[j]?=ts'[j]?) by rw [f1,f2]; exact decide_eq_decide.mpr ⟨fun z=>by rw [z],fun z=>Ap z⟩] at this
     ·have l1:=h4.length
      have l2:=k4.length;refine List.ext_getElem? fun j=>?_
      by_cases c:j<vs.length
      ·exact of_decide_eq_true (List.all_eq_true.mp z j (List.mem_range.mpr c))
      ·rw [List.getElem?_eq_none (by omega),List.getElem?_eq_none (by omega)]
    ·exact ⟨false,.lens h3 k3 hl,fun z=>by cases z⟩
   have z:=EqB.tup (n:=n+3) (e:=fun j=>if j=0 then true else if j=1 then decide (c=c') else b) h1 k1 fun j x y e1 e2=>by
    match j,e1,e2 with
    | 0,e1,e2=>cases e1; cases e2; exact EqB.flat (x:=.str "sum") (y:=.str "sum") rfl rfl
    | 1,e1,e2=>cases e1; cases e2; exact rat_eqB h2 k2
    | 2,e1,e2=>cases e1; cases e2; exact hb
   have e:(((List.range (min [V.str "sum",.ref pc,.ref pt].length [V.str "sum",.ref pc',.ref pt'].length)).all fun j=>if j=0 then true else if j=1 then decide (c=c') else b)&&([V.str "sum",.ref pc,.ref pt].length==[V.str "sum",.ref pc',.ref pt'].length))=false:=by
    show ((true&&(decide (c=c')&&(b&&true)))&&true)=false
    by_cases c1:c=c'
    ·cases b with
     | true=>exact absurd (by rw [c1,he rfl]) ne
     | false=>simp
    ·rw [decide_eq_false c1]; rfl
   rw [e] at z;exact z
 | bend p =>
  obtain ⟨t,rfl,h1⟩:=h
  cases u' with
  | sum c ts =>
   obtain ⟨t',pc,pt,vs,rfl,k1,k2,_⟩:=k;exact EqB.tup (n:=n+3) (e:=fun _=>false) h1 k1 fun j a b e1 e2=>by
    match j,e1,e2 with
    | 0,e1,e2=>cases e1; cases e2; exact EqB.flat (x:=.str "bend") (y:=.str "sum") rfl rfl
    | 1,e1,e2=>cases e1; cases e2; exact .intT k2
  | bend p' =>
   obtain ⟨t',rfl,k1⟩:=k;have z:=EqB.tup (n:=n+3) (e:=fun j=>if j=0 then true else eqV (.int (p:Int)) (.int (p':Int))) h1 k1 fun j a b e1 e2=>by
    match j,e1,e2 with
    | 0,e1,e2=>cases e1; cases e2; exact EqB.flat (x:=.str "bend") (y:=.str "bend") rfl rfl
    | 1,e1,e2=>cases e1; cases e2; exact .flat rfl rfl
   have e:(((List.range (min [V.str "bend",.int (p:Int)].length [V.str "bend",.int (p':Int)].length)).all fun j=>if j=0 then true else eqV (.int (p:Int)) (.int (p':Int)))&&([V.str "bend",.int (p:Int)].length==[V.str "bend",.int (p':Int)].length))=false:=by
    show ((true&&(((p:Int)==(p':Int))&&true))&&true)=false;rw [beq_false_of_ne (show (p:Int)≠(p':Int) from fun z=>ne (by rw [show p=p' by omega]))];rfl
   rw [e] at z;exact z
def spCountB (K:As):Sp:=fun vs H Q _=>∃ (t:Addr) (many:Nat) (us:List Un) (outs:List Nat),vs=[.ref t]∧w6 K H t many us outs∧us.length≤80∧∀ H',Same H H'→Q (.int ((us.filter isB).length:Int)) H'
theorem okyj (T:Txt K mg a):FnOk P w K mg base CX0 1 a.fyj a.dyj ["_law_told"] (spCountB K):=by
 refine T.Fyj.ok scyj ?_ ?_
 ·walk_at "c"
 walk_at "b"
 obtain ⟨t,many,us,outs,rfl,⟨lu,lo,vu,ht,eu,rU,eo⟩,l80,q⟩:=h;refine ⟨_,(qZ (zw (qW (zk) rfl T.m_len boot_len (pa_c (jQ (N:=["_law_unit_here"]) (ix:=[none]) ⟨rfl,rfl,rfl,rfl,trivial,rfl,trivial⟩ rfl (yq (pe_ix qK (pv 0) qk)) (fun _=>(pg_n 0 (show (["_law_unit_here"]:List Str).Nodup by decide +kernel))) (fun _ σ=>jJ rfl σ) (fun _=>(pif_one (zv op_eq (pe_ix qK (pv 0) qk) jY))) (fun _=>(pv 0))) qj)))),?_⟩;have lvu:=UL.length rU;refine ⟨_,rfl,_,_,_,_,rfl,rfl,ht,rfl,lu,rfl,⟨_,SqL.of eu⟩,yy (n:=us.length) (fun i ys H'=>H'=H∧ys.length=((us.take i).filter isB).length) ⟨rfl,rfl⟩ (zj (by omega)) ?_ ?_ ?_⟩
 case refine_2 =>
  rintro i ys H' hi ⟨rfl,_⟩;exact ⟨_,_,SqL.of eu,A4 (by omega)⟩
 case refine_3 =>
  rintro i m' ys H' cc x H3 hi ⟨rfl,ly⟩ ⟨rfl,y1⟩ nx sk;obtain ⟨u0,ex,hU⟩:=UL.get rU (y1 _ (SqL.of eu));obtain ⟨tt,zs,rfl,htt⟩:=Y3 hU;refine ⟨_,rfl,_,_,_,_,rfl,rfl,htt,at0,rfl,_,rfl,?_⟩
  cases hb:isB u0 with
  | true =>
   refine Or.inl ⟨by rfl,_,rfl,nx _ _ ⟨rfl,?_⟩⟩;rw [zZ ex,List.filter_append,Ad,Ad,ly,List.filter_cons_of_pos hb];rfl
  | false =>
   refine Or.inr ⟨by rfl,sk _ ⟨rfl,?_⟩⟩;rw [zZ ex,List.filter_append,Ad,ly,List.filter_cons_of_neg (by rw [hb]; exact Bool.false_ne_true)];rfl
 rintro ys H3 ⟨rfl,ly⟩;rw [A5 (Nat.le_refl _)] at ly;refine ⟨⟨_,SqL.of eu,by omega⟩,fun lb hlb=>⟨_,_,rfl,.inl (SqL.of qz),?_⟩⟩;rw [ly];exact q _ (qy hlb _)
theorem cutT (vs:List V) {n:Nat} (h:n≤vs.length):cutV vs none (some (n:Int))=vs.take n:=by
 unfold cutV;rw [HT.sIx_none,HT.sIx_nat,List.drop_zero,Nat.min_eq_left h];rfl
def spRight62 (K:As):Sp:=fun vs H Q _=>∃ (t1 t2 ls:Addr) (many:Nat) (us us':List Un) (outs outs':List Nat) (vS:List V) (ss:List (Rat×Rat)),vs=[.ref t1,.ref t2,.ref ls]∧w6 K H t1 many us outs∧w6 K H t2 many us' outs'∧us.length≤80∧us'.length≤24∧outs'.length≤12∧SqL K H ls vS∧SL K H vS ss∧ss.length=many∧many≤6∧WfN many us'∧SpanOk ss us'∧Nrm many us' outs' ss us∧∀ H',Same H H'→Q (.bl true) H'
theorem Y1 (T:Txt K mg a):FnOk P w K mg base CX0 6 a.fyr a.dyr ["_law_told", "_law_found", "_law_sides_here"] (spRight62 K):=by
 refine T.Fyr.ok ZJ ?_ ?_
 ·walk_at "c"
 walk_at "b"
 obtain ⟨t1,t2,ls,many,us,us',outs,outs',vS,ss,rfl,T1,T2,l80,l24,o12,hl,rS,lss,m6,wf,sok,nm,q⟩:=h;obtain ⟨lu,lo,vu,ht,eu,rU,eo⟩:=id T1;obtain ⟨lu',lo',vu',ht',eu',rU',eo'⟩:=id T2;have lv:=UL.length rU;have lv':=UL.length rU';have n1:=nm.len;have n2:=nm.few;refine ltX ?_
 intros
 refine ⟨_,body3 (by rfl)
  (ps_if (PW.pt (pw_or (zv op_gt (qW (zk) rfl T.m_len boot_len (pa_c (pe_ix qK (pv 1) qk) qj)) (qW (zk) rfl T.m_len boot_len (pa_c (pe_ix qK (pv 0) qk) qj))) (wj (zv op_gt (pe_c (okyj T) hr T.myj T.Fyj.kp T.byj (pa_c (pv 1) qj)) (pe_c (okyj T) hr T.myj T.Fyj.kp T.byj (pa_c (pv 0) qj)))))) (qZ (zw pe_bl)) zQ)
  (jW PassesOwn.never rfl (pi_enum rfl T.m_enumerate (pa_c (pe_ix qK (pv 1) qk) qj)) (yJ rfl (zz (pg_n 3 ZJ.nd) (zz (pg_n 4 ZJ.nd) zV))) (qZ (ps_if (zv (op_inB hr.units) (pv 4) (Qk ZZ (pe_ix qK (pv 1) qk) po_none (xY (pv 3))) (by with_unfolding_all rfl)) (qZ (zw pe_bl)) zQ)))
  (zw (pe_and (pe_c (okx3 T) hr T.mx3 T.Fx3.kp T.bx3 (pa_c (pv 1) (pa_c (pv 2) qj))) (pe_one (pe_c (okyi T) hr T.myi T.Fyi.kp T.byi (pa_c (pv 1) qj))))),?_⟩
 refine lt3 ?_
 intros
 refine ⟨_,rfl,_,_,_,_,rfl,rfl,ht',rfl,_,_,rfl,.inl (SqL.of eu'),_,rfl,_,_,_,_,rfl,rfl,ht,rfl,_,_,rfl,.inl (SqL.of eu),_,_,rfl,rfl,_,rfl,iteN (by omega) ?_⟩;refine ⟨_,rfl,t2,many,us',outs',rfl,T2,by omega,fun H1 g1=>⟨_,rfl,t1,many,us,outs,rfl,T1.mono g1,l80,fun H2 g2=>⟨_,_,rfl,rfl,_,rfl,iteN (by omega) ?_⟩⟩⟩;have g:=g1.trans g2;have T2:=T2.mono g;have ht':=g.tup ht';have eu':=g _ _ eu';have rU':=rU'.mono g;have hl:=g.seq hl;have rS:=rS.mono g;clear g1 g2 T1 ht eu rU eo eo'
 try dsimp only
 change tSeq _ _ _ [some (.ref t1),some (.ref t2),some (.ref ls),none,none] H2;refine ⟨_,rfl,_,_,_,_,rfl,rfl,ht',rfl,lu',rfl,⟨_,SqL.of eu'⟩,jz (n:=us'.length) (fun i σ H'=>Same H2 H'∧∃ (u3 u4:Option V),σ=[some (.ref t1),some (.ref t2),some (.ref ls),u3,u4]) ⟨Same.refl _,_,_,rfl⟩ ?_ ?_ ?_⟩
 case refine_2 =>
  rintro i σ H' hi ⟨k,_⟩;exact ⟨_,_,SqL.of (k _ _ eu'),A4 (by omega)⟩
 case refine_3 =>
  rintro i σ H' x H3 hi ⟨k,u3,u4,rfl⟩ ⟨p,x2,hp,rfl,rfl,y1⟩;have ex2:=y1 _ (SqL.of (k _ _ eu'));obtain ⟨u,ex,hu⟩:=UL.get rU' ex2;have j:=qy hp (.tup [.int (i:Int),x2]);have kj:=k.trans j;refine ⟨p,_,rfl,SqT.of qz,rfl,_,_,rfl,_,_,rfl,rfl,?_⟩;generalize upd H' p (.tup [.int (i:Int),x2])=H4 at *;refine ⟨_,rfl,_,rfl,_,_,_,_,rfl,rfl,kj.tup ht',rfl,_,rfl,_,rfl,_,_,rfl,SqL.of (kj _ _ eu'),fun lc hlc=>?_⟩;rw [show cutV vu' none (some (i:Int))=vu'.take i from cutT vu' (by omega)];have j5:=qy hlc (.lst (vu'.take i));have k5:=kj.trans j5;refine ⟨lc,_,rfl,SqL.of qz,fun v hv=>?_,_,rfl,iteF ⟨k5,_,_,rfl⟩⟩;obtain ⟨m,em⟩:=List.mem_iff_getElem?.mp hv;have lm:m<i:=by
   have:=(A1.mp em).1;rw [Ak] at this;omega
  rw [A2 lm] at em;obtain ⟨u0,ex0,hu0⟩:=UL.get rU' em;refine unit_unlike (n:=4) (fun z=>?_) (hu0.mono k5) (hu.mono k5);subst z;have:=(List.getElem?_inj (by omega) nm.nd).mp (ex0.trans ex.symm);omega
 rintro σ H3 ⟨k,u3,u4,rfl⟩;refine ⟨⟨_,SqL.of (k _ _ eu'),by omega⟩,?_⟩;have T2:=T2.mono k;refine ⟨_,rfl,_,rfl,t2,ls,many,us',outs',vS,ss,rfl,T2,k.seq hl,rS.mono k,lss,m6,wf,l24,sok,⟨nm.sum,nm.bnd⟩,fun H5 g5=>⟨_,rfl,iteT ?_⟩⟩;exact ⟨_,rfl,t2,many,us',outs',rfl,T2.mono g5,wf,by omega,o12,nm.lead,fun H6 g6=>q _ (g.trans (k.trans (g5.trans g6)))⟩
theorem mv_int (l d p:Nat):(p:Int)+(d:Int)*(if (decide ((p:Int)≥(l:Int)))=true then 1 else 0)=((mvP l d p:Nat):Int):=by
 unfold mvP
 by_cases k:p<l
 ·rw [if_pos k,if_neg (by rw [decide_eq_true_eq]; omega)]; omega
 ·rw [if_neg k,if_pos (by rw [decide_eq_true_eq]; omega)]; omega
def twU (m:Nat) (us:List Un):List Un:=us++us.map (mvU m us.length)
def twO (m:Nat) (us:List Un) (outs:List Nat):List Nat:=outs++outs.map (mvP m us.length)
def spTwice (K:As):Sp:=fun vs H Q _=>∃ (t:Addr) (many:Nat) (us:List Un) (outs:List Nat),vs=[.ref t]∧w6 K H t many us outs∧WfN many us∧us.length≤12∧outs.length≤12∧∀ r H',Same H H'→w6 K H' r many (twU many us) (twO many us outs)→Q (.ref r) H'
theorem okx1 (T:Txt K mg a):FnOk P w K mg base CX0 1 a.fx1 a.dx1 ["_law_told"] (spTwice K):=by
 refine T.Fx1.ok jv ?_ ?_
 ·walk_at "c"
 walk_at "b"
 obtain ⟨t,l,us,outs,rfl,⟨l1,l2,v1,ht,e1,r1,e2⟩,wf,l12,o12,q⟩:=h;have lv:=UL.length r1;have lov:(outV outs).length=outs.length:=kZ outs;refine ltX ?_
 intros
 refine ⟨_,body5 (by rfl)
  (vY (pv 0) (yJ rfl (zz (pg_name (i:=1) jv.nd rfl (Or.inr rfl)) (zz (pg_n 2 jv.nd) (zz (pg_n 3 jv.nd) zV)))))
  (ps_set (i:=4) jv.nd rfl (Or.inr rfl) (qW (zk) rfl T.m_len boot_len (pa_c (pv 2) qj)))
  (ps_s 5 jv.nd (zy (j0) rfl T.m_list boot_list (pa_c (pv 2) qj)))
  (jW PassesOwn.never rfl (yq (pv 2)) (pg_n 6 jv.nd) (qZ (ps_if (zv op_eq (pe_ix qK (pv 6) qk) jY) (qZ (jy (w5 (pv 5) (yz (pa_c jY (pa_c (pe_op y9 (pe_ix qK (pv 6) qk) (pe_op yK (pv 4) (zy (vQ) rfl T.m_int boot_int (pa_c (vV op_ge (pe_ix qK (pv 6) qk) (pv 1)) qj)))) qj)))))) (qX (kq (i:=7) jv.nd rfl (Or.inl rfl) (N:=["_law_at", "_law_share", "_law_more", "_law_many_here"]) (ix:=[none,none,some 4,some 1]) ⟨rfl,rfl,rfl,rfl,⟨rfl,⟨rfl,trivial⟩⟩,rfl,⟨⟨rfl,Or.inr (Or.inl rfl),kz rfl,rfl,Or.inl rfl⟩,⟨⟨rfl,Or.inr (Or.inl rfl),kz rfl,rfl,Or.inl rfl⟩,trivial⟩⟩⟩ rfl (yq (pe_ix qK (pv 6) qk)) (fun _=>(yJ rfl (zz (pg_n 0 (show (["_law_at", "_law_share", "_law_more", "_law_many_here"]:List Str).Nodup by decide +kernel)) (zz (pg_n 1 (show (["_law_at", "_law_share", "_law_more", "_law_many_here"]:List Str).Nodup by decide +kernel)) zV)))) (fun _ σ=>go_two rfl rfl (by decide) σ) (fun _=>yZ) (fun _=>(yz (pa_c (pe_op y9 (pv 0) (pe_op yK (pv 2) (zy (vQ) rfl T.m_int boot_int (pa_c (vV op_ge (pv 0) (pv 3)) qj)))) (pa_c (pv 1) qj))))) (qZ (jy (w5 (pv 5) (yz (pa_c jY (pa_c (pe_ix qK (pv 6) qk) (pa_c (pv 7) qj)))))))))))
  (zw (yz (pa_c (pv 1) (pa_c (pv 5) (pa_c (pe_op op_cat (pv 3) (jQ (N:=["_law_place", "_law_more", "_law_many_here"]) (ix:=[none,some 4,some 1]) ⟨rfl,rfl,rfl,rfl,⟨rfl,⟨rfl,trivial⟩⟩,rfl,⟨⟨rfl,Or.inr (Or.inl rfl),kz rfl,rfl,Or.inl rfl⟩,⟨⟨rfl,Or.inr (Or.inl rfl),kz rfl,rfl,Or.inl rfl⟩,trivial⟩⟩⟩ rfl (yq (pv 3)) (fun _=>(pg_n 0 (show (["_law_place", "_law_more", "_law_many_here"]:List Str).Nodup by decide +kernel))) (fun _ σ=>jJ rfl σ) (fun _=>yZ) (fun _=>(pe_op y9 (pv 0) (pe_op yK (pv 1) (zy (vQ) rfl T.m_int boot_int (pa_c (vV op_ge (pv 0) (pv 2)) qj))))))) qj))))),?_⟩
 refine lt5 ?_
 intros
 refine ⟨_,rfl,t,_,rfl,ht,rfl,_,_,rfl,_,_,rfl,_,_,rfl,rfl,?_⟩;refine ⟨_,rfl,_,_,rfl,.inl (SqL.of e1),?_⟩;refine ⟨_,rfl,l1,v1,rfl,.inl (SqL.of e1),fun lf hlf=>?_⟩;rw [lv];have g0:=qy hlf (.lst v1);have ef:=qz (H:=H) (a:=lf) (o:=.lst v1);change tSeq _ _ _ [some (.ref t),some (.int (l:Int)),some (.ref l1),some (.ref l2),some (.int (us.length:Int)),some (.ref lf),none,none] (upd H lf (.lst v1));obtain ⟨d,hd⟩:∃ d,d=us.length:=⟨_,rfl⟩;rw [← hd];refine ⟨_,rfl,l1,rfl,⟨_,SqL.of (g0 _ _ e1)⟩,jz (n:=us.length) (fun i σ H'=>Same H H'∧∃ (vn:List V) (u6 u7:Option V),σ=[some (.ref t),some (.int (l:Int)),some (.ref l1),some (.ref l2),some (.int (d:Int)),some (.ref lf),u6,u7]∧H' lf=some (.lst (v1++vn))∧UF lf K H' vn ((us.take i).map (mvU l d)))
  ⟨g0,[],_,_,rfl,by rw [List.append_nil]; exact ef,.nil⟩ ?_ ?_ ?_⟩
 case refine_2 =>
  rintro i σ H' hi ⟨g,_⟩;exact ⟨_,_,SqL.of (g _ _ e1),A4 (by omega)⟩
 case refine_1 =>
  rintro σ H' ⟨g,vn,u6,u7,rfl,eu,rU⟩;rw [A5 (Nat.le_refl _)] at rU;refine ⟨⟨_,SqL.of (g _ _ e1),by omega⟩,?_⟩;refine ⟨_,rfl,_,rfl,_,rfl,_,rfl,l2,rfl,⟨_,SqL.of (g _ _ e2)⟩,yy (n:=outs.length) (fun i ys H2=>H2=H'∧ys=outV ((outs.take i).map (mvP l d))) ⟨rfl,rfl⟩ (zj (by omega)) ?_ ?_ ?_⟩
  ·rintro ys H2 ⟨rfl,rfl⟩
   rw [A5 (Nat.le_refl _)];refine ⟨⟨_,SqL.of (g _ _ e2),by omega⟩,fun D hD=>?_⟩;have k1:=qy hD (.lst (outV (outs.map (mvP l d))));have lm:(outV (outs.map (mvP l d))).length=outs.length:=by rw [kZ,Al]
   refine ⟨l2,D,outV outs,_,rfl,rfl,k1 _ _ (g _ _ e2),qz,le1000 (by omega),fun lq hlq=>⟨(show 3≤sizeLine by decide),fun t3 ht3=>?_⟩⟩;rw [outV_append] at *;have k2:=qy hlq (.lst (outV (outs++outs.map (mvP l d))));have k3:=qy ht3 (.tup [.int (l:Int),.ref lf,.ref lq]);have k:=k1.trans (k2.trans k3);refine q t3 _ (g.trans k) ⟨lf,lq,_,SqT.of qz,k _ _ eu,?_,k3 _ _ ?_⟩
   ·unfold twU
    rw [← hd];exact UL.append (r1.mono (g.trans k)) (rU.un.mono k)
   ·unfold twO
    rw [← hd];exact qz
  ·rintro i ys H2 hi ⟨rfl,_⟩
   exact ⟨_,_,SqL.of (g _ _ e2),A4 (by omega)⟩
  ·rintro i m' ys H2 cc x H3 hi ⟨rfl,rfl⟩ ⟨rfl,y1⟩ nx _
   obtain ⟨o,eo,rfl⟩:=out_at (y1 _ (SqL.of (g _ _ e2)));refine Or.inl ⟨rfl,_,rfl,_,rfl,_,rfl,_,rfl,_,_,rfl,rfl,.inr ⟨_,rfl,_,_,rfl,rfl,IntMulOk.of_left (intBits_le_64 (by omega) (by omega)),_,_,rfl,rfl,nx _ _ ⟨rfl,?_⟩⟩⟩;rw [zZ eo,An,← outV_append];refine congrArg (fun z=>outV _++[V.int z]) ?_;exact mv_int l d o
 rintro i σ H0 x H' hi ⟨g,vn,u6,u7,rfl,eu,rU⟩ ⟨rfl,y1⟩;obtain ⟨u,ex,hu⟩:=UL.get r1 (y1 _ (SqL.of (g _ _ e1)));have hu:=hu.mono g;have wu:=wf i u ex;have lvu:=UF.length rU;have lti:((us.take i).map (mvU l d)).length≤400:=by rw [Al,Ak]; omega
 have lap:(v1++vn).length≤900:=by rw [Ad]; omega
 have fin:∀ (p:Addr) (H3:Hp),Same H' H3→UnF lf K H3 (.ref p) (mvU l d u)→Same H (upd H3 lf (.lst ((v1++vn)++[.ref p])))∧upd H3 lf (.lst ((v1++vn)++[.ref p])) lf=some (.lst (v1++(vn++[.ref p])))∧UF lf K (upd H3 lf (.lst ((v1++vn)++[.ref p]))) (vn++[.ref p]) ((us.take (i+1)).map (mvU l d)):=fun p H3 g3 hp=>by
  refine ⟨(g.trans g3).laid hlf _,by rw [qz,List.append_assoc],?_⟩;rw [zZ ex,An];exact UF.upd ((rU.mono g3).snoc hp) (g3 _ _ eu)
 cases u with
 | bend p =>
  obtain ⟨tu,rfl,h1⟩:=hu;refine ⟨_,rfl,_,_,_,_,rfl,rfl,h1,rfl,rfl,_,rfl,iteP rfl ?_⟩;refine ⟨_,rfl,.inl ⟨rfl,_,SqL.of eu⟩,_,rfl,_,_,_,_,rfl,rfl,h1,rfl,_,rfl,_,rfl,_,_,_,_,rfl,rfl,h1,rfl,_,rfl,_,_,rfl,rfl,.inr ⟨_,rfl,_,_,rfl,rfl,IntMulOk.of_left (intBits_le_64 (by omega) (by omega)),_,_,rfl,rfl,yj,fun t2 ht2=>?_⟩⟩;dsimp only at ht2 ⊢;rw [show (p:Int)+(d:Int)*_=((mvP l d p:Nat):Int) from mv_int l d p];have g2:=qy ht2 (.tup [.str "bend",.int (mvP l d p:Nat)]);refine ⟨lf,v1++vn,_,rfl,rfl,g2 _ _ eu,zj (by omega),?_⟩;obtain ⟨k1,k2,k3⟩:=fin t2 _ g2 ⟨t2,rfl,SqT.of qz⟩;exact ⟨k1,_,_,_,rfl,k2,k3⟩
 | sum c ts =>
  obtain ⟨tu,pc,pt,vs,rfl,h1,h2,h3,h4⟩:=hu;have l100:ts.length≤100:=wu.2.2;have lvs:=h4.length;refine ⟨_,rfl,_,_,_,_,rfl,rfl,h1,rfl,rfl,_,rfl,iteN (by decide) ?_⟩;refine ⟨_,rfl,_,_,_,_,rfl,rfl,h1,rfl,pt,rfl,⟨_,h3⟩,yy (n:=ts.length) (fun i ys H3=>Same H' H3∧TL K H3 ys ((ts.take i).map fun x=>(mvP l d x.1,x.2))) ⟨Same.refl _,.nil⟩ (zj (by omega)) ?_ ?_ ?_⟩
  ·rintro ys H3 ⟨g3,r3⟩
   rw [A5 (Nat.le_refl _)] at r3;refine ⟨⟨_,g3.seq h3,by omega⟩,fun D hD=>?_⟩;have g4:=qy hD (.lst ys);have g34:=g3.trans g4;have eu4:=g34 _ _ eu;have nD:D≠lf:=Ne.symm (qQ (g3 _ _ eu) hD);refine ⟨_,rfl,.inl ⟨rfl,_,SqL.of eu4⟩,_,rfl,_,_,_,_,rfl,rfl,g34.tup h1,rfl,_,rfl,(show 3≤sizeLine by decide),fun t2 ht2=>?_⟩;have g5:=qy ht2 (.tup [.str "sum",.ref pc,.ref D]);have k:=g34.trans g5;refine ⟨lf,v1++vn,_,rfl,rfl,g5 _ _ eu4,zj (by omega),?_⟩;obtain ⟨k1,k2,k3⟩:=fin t2 _ k ⟨t2,pc,D,ys,rfl,SqT.of qz,k.tup h2,g5 _ _ qz,nD,r3.mono (g4.trans g5)⟩;exact ⟨k1,_,_,_,rfl,k2,k3⟩
  ·rintro i ys H3 hi ⟨g3,_⟩
   exact ⟨_,_,g3.seq h3,A4 (by omega)⟩
  ·rintro i m' ys H3 cc x H4 hi ⟨g3,r3⟩ ⟨rfl,y1⟩ nx _
   obtain ⟨x0,ex0,tt,rr,rfl,k1,k2⟩:=h4.get (y1 _ (g3.seq h3));have k1:=g3.tup k1;have k2:=g3.tup k2;refine ⟨tt,_,rfl,k1,rfl,_,_,rfl,_,_,rfl,rfl,Or.inl ⟨rfl,_,rfl,_,rfl,_,rfl,_,rfl,_,_,rfl,rfl,.inr ⟨_,rfl,_,_,rfl,rfl,IntMulOk.of_left (intBits_le_64 (by omega) (by omega)),_,_,rfl,rfl,_,rfl,yj,fun t4 ht4=>?_⟩⟩⟩;dsimp only at ht4 ⊢;rw [show (x0.1:Int)+(d:Int)*_=((mvP l d x0.1:Nat):Int) from mv_int l d x0.1];have g4:=qy ht4 (.tup [.int (mvP l d x0.1:Nat),.ref rr]);refine nx _ _ ⟨g3.trans g4,?_⟩;rw [zZ ex0,An];exact Paired.snoc (r3.mono g4) ⟨t4,rr,rfl,SqT.of qz,g4.tup k2⟩
theorem shr_mv {l d:Nat} {u:Un} (h:ShrU u):ShrU (mvU l d u):=by
 cases u with
 | sum c ts =>
  obtain ⟨a1,a2,a3⟩:=h;refine ⟨a1,fun x hx=>?_,by rw [Al]; exact a3⟩;obtain ⟨y,hy,rfl⟩:=List.mem_map.mp hx;exact a2 y hy
 | bend p=>trivial
theorem in_getD {α:Type} {xs:List α} {d:α} {k:Nat} (h:k<xs.length):xs.getD k d∈xs:=in_at d h
structure Nz (m:Nat) (us:List Un) (outs:List Nat):Prop where
 ok:NetOk m us outs
 m3:m≤3
 l24:us.length≤24
 b8:(us.filter isB).length≤8
 o6:outs.length≤6
 gn:∃ g,GN m us g∧∀ k,k<m→g k=(D0^2,2^70)
theorem Nz.drawn {m:Nat} {us:List Un} {outs:List Nat} (ok:NetOk m us outs) (o3:outs.length≤3) (m3:m≤3) (l12:us.length≤12) (b4:(us.filter isB).length≤4) (shr:∀ u∈us,ShrU u):Nz m us outs :=
 ⟨ok,m3,by omega,by omega,by omega,g0 m,g0_net ok.1 shr (by omega),fun k hk=>by unfold g0; rw [if_pos hk]⟩
theorem Nz.twice {m:Nat} {us:List Un} {outs:List Nat} (ok:NetOk m us outs) (o3:outs.length≤3) (m3:m≤3) (l12:us.length≤12) (b4:(us.filter isB).length≤4) (shr:∀ u∈us,ShrU u):Nz m (twU m us) (twO m us outs):=by
 obtain ⟨wf,l80,b20,m1,m6,o1,o12,ol⟩:=ok;have lu:(twU m us).length=us.length+us.length:=by unfold twU; rw [Ad,Al]
 have lo:(twO m us outs).length=outs.length+outs.length:=by unfold twO; rw [Ad,Al]
 have lb:((twU m us).filter isB).length=(us.filter isB).length+(us.filter isB).length:=by unfold twU; rw [List.filter_append,Ad,bends_mv]
 have wf2:WfN m (twU m us):=wf.behind wf rfl;refine ⟨⟨wf2,by omega,by omega,m1,m6,by omega,by omega,fun o ho=>?_⟩,m3,by omega,by omega,by omega,g0 m,g0_net wf2 (fun u hu=>?_) (by omega),fun k hk=>by unfold g0; rw [if_pos hk]⟩
 ·rw [lu]
  unfold twO at ho
  rcases Am.mp ho with z | z
  ·have:=ol o z; omega
  ·obtain ⟨y,hy,rfl⟩:=List.mem_map.mp z
   have:=mvP_lt (l:=m) (d:=us.length) (ol y hy);omega
 ·unfold twU at hu
  rcases Am.mp hu with z | z
  ·exact shr u z
  ·obtain ⟨y,hy,rfl⟩:=List.mem_map.mp z
   exact shr_mv (shr y hy)
theorem side_gq {m:Nat} {ss:List (Rat×Rat)} (hm:ss.length=m) (sz:∀ s∈ss,s.1≤s.2∧Bs 1 64 s) {g:Nat→Nat×Nat} (hg:∀ k,k<m→g k=(D0^2,2^70)) (k:Nat) (hk:k<m):Gq (g k) (ss.getD k (0,0)).1∧Gq (g k) (ss.getD k (0,0)).2:=by
 rw [hg k hk];have b:=(sz _ (in_getD (d:=(0,0)) (by omega:k<ss.length))).2;exact ⟨b.1.gq (Nat.pow_dvd_pow _ (by decide)) (Ac (by decide) (by decide)),b.2.gq (Nat.pow_dvd_pow _ (by decide)) (Ac (by decide) (by decide))⟩
theorem Nz.small {m:Nat} {us:List Un} {outs:List Nat} {ss:List (Rat×Rat)} (h:Nz m us outs) (hm:ss.length=m) (sz:∀ s∈ss,s.1≤s.2∧Bs 1 64 s) :
  OutOk m (totF m us) ss us∧totF m us≤40∧Nz m (jV m us outs ss).2.us (jV m us outs ss).1∧SpanOk ss (jV m us outs ss).2.us∧Nrm m (jV m us outs ss).2.us (jV m us outs ss).1 ss us:=by
 obtain ⟨⟨wf,l80,b20,m1,m6,o1,o12,ol⟩,m3,l24,b8,o6,g,G,hg⟩:=h;have ht:totF m us≤40:=by unfold totF; omega
 obtain ⟨ok,g',G',eg⟩:=small_G (outs:=outs) hm wf ol (Ar ht (by decide)) G (side_gq hm sz hg);obtain ⟨s1,s2,s3,s4,s5,_⟩:=smallF_ok (ss:=ss) hm wf ol (Ar ht (by decide));have hg':∀ k,k<m→g' k=(D0^2,2^70):=fun k hk=>by rw [eg k hk,hg k hk]
 exact ⟨ok,ht,⟨⟨s1,by omega,by omega,m1,m6,by omega,by omega,s5⟩,m3,by omega,by omega,by omega,g',G',hg'⟩,span_ok hm (side_gq hm sz hg') s1 G',small_nrm hm wf ol (Ar ht (by decide))⟩
def spLaw (K:As):Sp:=fun vs H Q _=>∃ (a:Addr) (ns:List Int),vs=[.ref a]∧SqL K H a (ns.map V.int)∧ns.length≤63∧∀ H',Q (.bl true) H'
theorem okyh (T:Txt K mg a):FnOk P w K mg base CX0 10 a.fyh a.dyh ["_law_script"] (spLaw K):=by
 refine T.Fyh.ok scyh ?_ ?_
 ·walk_at "c"
 walk_at "b"
 obtain ⟨sa,ns,rfl,hS,h63,q⟩:=h;refine ltX ?_
 intros
 refine ⟨_,body9 (by rfl)
  (ps_s 1 scyh.nd (pe_c (okyo T) hr T.myo T.Fyo.kp T.byo (pa_c (pv 0) (pa_c qk (pa_c qk qj)))))
  (ps_if (zv op_eq (pe_op vJ (pe_c (Y2 T) hr T.myn T.Fyn.kp T.byn (pa_c (pe_op y9 (qW (zk) rfl T.m_len boot_len (pa_c (pv 0) qj)) (qW (call_sum rfl) rfl T.m_sum boot_sum (pa_c (jQ (N:=["_law_cell"]) (ix:=[none]) ⟨rfl,rfl,rfl,rfl,trivial,rfl,trivial⟩ rfl (yq (Qk ZZ (pv 0) po_none (xY qk))) (fun _=>(pg_n 0 (show (["_law_cell"]:List Str).Nodup by decide +kernel))) (fun _ σ=>jJ rfl σ) (fun _=>yZ) (fun _=>(pe_op vJ (pv 0) qk))) qj))) (pa_c qk qj))) qk) qk) (qZ (ps_s 1 scyh.nd (pe_c (okx1 T) hr T.mx1 T.Fx1.kp T.bx1 (pa_c (pv 1) qj)))) zQ)
  (ps_s 2 scyh.nd (ZY T.Mzm (okzo T) (hr.mono (by decide)) rfl T.mzm T.bzo .nil pass0 (pa_c (pe_ix qK (pv 1) qk) (pa_c (zy (j0) rfl T.m_list boot_list (pa_c (pe_ix qK (pv 1) qk) qj)) (pa_c (zy (j0) rfl T.m_list boot_list (pa_c (pe_ix qK (pv 1) qk) qj)) qj)))))
  (ps_s 3 scyh.nd (pe_c (okyu T) hr T.myu T.Fyu.kp T.byu (pa_c (pv 0) (pa_c qk (pa_c (pe_ix qK (pv 1) qk) qj)))))
  (ps_s 4 scyh.nd (pe_c (okyu T) hr T.myu T.Fyu.kp T.byu (pa_c (pv 0) (pa_c qk (pa_c (pe_ix qK (pv 1) qk) qj)))))
  (ps_s 5 scyh.nd (pe_c (okxc T) hr T.mxc T.Fxc.kp T.bxc (pa_c (pv 2) (pa_c (ZY T.Mz0 (okz1 T) (hr.mono (by decide)) rfl T.mz0 T.bz1 .nil pass0 (pa_c (zy (j0) rfl T.m_list boot_list (pa_c (pv 3) qj)) qj)) qj))))
  (ps_if (j6 (yk (pe_c (Y1 T) hr T.myr T.Fyr.kp T.byr (pa_c (pv 1) (pa_c (xy (pv 5) T.Czm T.tzr (kJ T) (hr.mono (by decide)) T.bzr .nil pass0) (pa_c (pv 3) qj)))))) (qZ (zw pe_bl)) zQ)
  (ps_if (j6 (yk (pe_c (Y1 T) hr T.myr T.Fyr.kp T.byr (pa_c (pv 1) (pa_c (xy (pe_c (okxc T) hr T.mxc T.Fxc.kp T.bxc (pa_c (pv 2) (pa_c (ZY T.Mz0 (okz1 T) (hr.mono (by decide)) rfl T.mz0 T.bz1 .nil pass0 (pa_c (zy (j0) rfl T.m_list boot_list (pa_c (pv 4) qj)) qj)) qj))) T.Czm T.tzr (kJ T) (hr.mono (by decide)) T.bzr .nil pass0) (pa_c (pv 4) qj)))))) (qZ (zw pe_bl)) zQ)
  (zw (pe_c (Y1 T) hr T.myr T.Fyr.kp T.byr (pa_c (xy (pv 5) T.Czm T.tzr (kJ T) (hr.mono (by decide)) T.bzr .nil pass0) (pa_c (xy (pe_c (okxc T) hr T.mxc T.Fxc.kp T.bxc (pa_c (pv 5) (pa_c (ZY T.Mz0 (okz1 T) (hr.mono (by decide)) rfl T.mz0 T.bz1 .nil pass0 (pa_c (zy (j0) rfl T.m_list boot_list (pa_c (pv 4) qj)) qj)) qj))) T.Czm T.tzr (kJ T) (hr.mono (by decide)) T.bzr .nil pass0) (pa_c (pv 4) qj))))),?_⟩
 refine lt9 ?_
 intros
 refine ⟨_,rfl,sa,ns,0,4,rfl,hS,fun m0 us0 outs0 t0 lu0 lo0 vu0 H1 nok o3 n3 l12 shr nbz g1 ht nlu eu rU nlo eo=>?_⟩;have hS:=g1.seq hS;have T0:w6 K H1 t0 m0 us0 outs0:=⟨lu0,lo0,vu0,ht,eu,rU,eo⟩;have b4:(us0.filter isB).length≤4:=nbz.elim (fun z=>by omega) fun z=>z.2
 clear g1 ht eu rU eo nlu nlo;dsimp only;change tSeq _ _ _ [some (.ref sa),some (.ref t0),none,none,none,none] H1;refine seq_cut fun N hN=>?_
 have rest:∀ (t:Addr) (m:Nat) (us:List Un) (outs:List Nat) (H':Hp),Same H1 H'→w6 K H' t m us outs→Nz m us outs→N [some (.ref sa),some (.ref t),none,none,none,none] H':=by
  subst hN;intro t m us outs H2 g T1 nz;have hS:=g.seq hS;clear g T0 nok o3 n3 l12 shr nbz b4 m0 us0 outs0 t0;obtain ⟨lu,lo,vu,ht,eu,rU,eo⟩:=T1;have m3:=nz.m3
  try dsimp only
  change tSeq _ _ _ [some (.ref sa),some (.ref t),none,none,none,none] H2;refine ⟨_,rfl,_,_,_,_,rfl,rfl,ht,rfl,_,rfl,_,_,_,_,rfl,rfl,ht,rfl,lu,vu,rfl,.inl (SqL.of eu),fun l3 h3=>?_⟩;have k3:=qy h3 (.lst vu);have e3:=qz (H:=H2) (a:=l3) (o:=.lst vu);refine ⟨_,rfl,_,_,_,_,rfl,rfl,k3.tup ht,rfl,lo,_,rfl,.inl (SqL.of (k3 _ _ eo)),fun l4 h4=>?_⟩;have k4:=qy h4 (.lst (outV outs));have e4:=qz (H:=upd H2 l3 (.lst vu)) (a:=l4) (o:=.lst (outV outs));have e3:=k4 _ _ e3;have k:=k3.trans k4;have ht:=k.tup ht;have eu:=k _ _ eu;have rU:=rU.mono k;have eo:=k _ _ eo;have hS:=k.seq hS;generalize upd (upd H2 l3 (.lst vu)) l4 (.lst (outV outs))=H3 at *;clear k k3 k4 h3 h4;intro xn dxn hxn hdxn nen;have gm:Same H3 (upd (upd H3 dxn (.own xn)) xn (.ins a.czm dxn [])):=(qy hdxn _).trans (qy (by rw [qJ (Ne.symm nen)]; exact hxn) _);refine ⟨xn,dxn,l3,l4,m,vu,us,outs,rfl,qz,SqL.of (gm _ _ e3),rU.mono gm,SqL.of (gm _ _ e4),nz.ok,fun lu2 lo2 vk H4 but _ _ hN ek eo2 rk=>⟨rfl,?_⟩⟩;have k:Same H3 H4:=fun b u e=>but b u (qQ e hxn) (gm _ _ e)
  have T1:w6 K H4 t m us outs:=⟨lu,lo,vu,k.tup ht,k _ _ eu,rU.mono k,k _ _ eo⟩;have hS:=k.seq hS;have NH:Y7 K a H4 xn m us outs:=⟨lu2,lo2,vk,hN,SqL.of ek,rk,SqL.of eo2⟩;clear k gm but hxn hdxn e3 e4 ht eu rU eo hN ek eo2 rk nen;obtain ⟨lu,lo,vu,ht,eu,rU,eo⟩:=id T1
  try dsimp only
  change tSeq _ _ _ [some (.ref sa),some (.ref t),some (.ref xn),none,none,none] H4;refine ⟨_,rfl,_,rfl,_,_,_,_,rfl,rfl,ht,rfl,sa,ns,0,m,rfl,hS,by omega,fun ss vS pS H5 lss szs _ g5 eS rS=>?_⟩;refine ⟨_,rfl,_,rfl,_,_,_,_,rfl,rfl,g5.tup ht,rfl,sa,ns,1,m,rfl,g5.seq hS,by omega,fun ss2 vS2 pS2 H6 lss2 szs2 _ g6 eS2 rS2=>?_⟩;have k:=g5.trans g6;have T1:=T1.mono k;have NH:=NH.mono k;have hS:=k.seq hS;have eS:=g6 _ _ eS;have rS:=rS.mono g6;have sz:∀ s∈ss,s.1≤s.2∧Bs 1 64 s:=fun s hs=>⟨(szs s hs).1,(szs s hs).2.1⟩
  have sz2:∀ s∈ss2,s.1≤s.2∧Bs 1 64 s:=fun s hs=>⟨(szs2 s hs).1,(szs2 s hs).2.1⟩
  clear k g5 g6 ht eu rU eo szs szs2;have m1:1≤m:=nz.ok.2.2.2.1;have ol:=nz.ok.2.2.2.2.2.2.2;have l24:=nz.l24;have b8:=nz.b8;have o6:=nz.o6;obtain ⟨oo,t40,nzL,so,nm⟩:=nz.small lss sz;obtain ⟨oo2,_,nzB,so2,nm2⟩:=nz.small lss2 sz2;obtain ⟨oo3,t40L,nzA,so3,nm3⟩:=nzL.small lss2 sz2;have o6L:=nzL.o6;have o6B:=nzB.o6;have o6A:=nzA.o6
  try dsimp only
  change tSeq _ _ _ [some (.ref sa),some (.ref t),some (.ref xn),some (.ref pS),some (.ref pS2),none] H6;refine ⟨_,rfl,_,rfl,pS,vS,rfl,.inl (SqL.of eS),fun lc hlc=>?_⟩;have k7:=qy hlc (.lst vS);have ec:=qz (H:=H6) (a:=lc) (o:=.lst vS);have rc:=rS.mono k7;have hh:=k7;generalize upd H6 lc (.lst vS)=G7 at *;intro xb dxb hxb hdxb neb;have gm:Same G7 (upd (upd G7 dxb (.own xb)) xb (.ins a.cz0 dxb [])):=(qy hdxb _).trans (qy (by rw [qJ (Ne.symm neb)]; exact hxb) _);refine ⟨xb,dxb,lc,vS,ss,rfl,qz,SqL.of (gm _ _ ec),rc.mono gm,by omega,by omega,fun s hs=>⟨(sz s hs).1,(sz s hs).2.1.s9 (by decide) (by decide),(sz s hs).2.2.s9 (by decide) (by decide)⟩,fun mB vB H7 but _ hB eB rB=>⟨rfl,?_⟩⟩;have k7:Same H6 H7:=hh.trans fun b u e=>but b u (qQ e hxb) (gm _ _ e)
  clear hh gm but hxb hdxb neb ec rc hlc;have NB:NetBox K a H7 xn xb m us outs ss:=by
   obtain ⟨lu',lo',vk',a1,a2,a3,a4⟩:=NH.mono k7;exact ⟨lu',lo',mB,vk',vB,a1,a2,a3,a4,hB,SqL.of eB,rB⟩
  refine ⟨xn,xb,m,us,outs,ss,rfl,NB,nz.ok,lss,l24,t40,by omega,oo,fun xL H8 g8 NL=>?_⟩;have k:=k7.trans g8;have T1:=T1.mono k;have NH:=NH.mono k;have hS:=k.seq hS;have eS:=k _ _ eS;have rS:=rS.mono k;have eS2:=k _ _ eS2;have rS2:=rS2.mono k;clear k k7 g8 NB hB eB rB;generalize hsm:jV m us outs ss=sm at *
  try dsimp only
  change tSeq _ _ _ [some (.ref sa),some (.ref t),some (.ref xn),some (.ref pS),some (.ref pS2),some (.ref xL)] H8;obtain ⟨luL,loL,vkL,a1,a2,a3,a4⟩:=id NL;obtain ⟨dL,a1'⟩:=id a1;refine ⟨_,rfl,_,rfl,xL,dL,_,rfl,a1',rfl,xL,luL,loL,m,vkL,sm.2.us,sm.1,rfl,a1,a2,a3,nzL.ok.2.1,a4,fun t2 l2 o2 vu2 H9 g9 ht2 _ e2 ru2 _ eo2=>?_⟩;have T2:w6 K H9 t2 m sm.2.us sm.1:=⟨l2,o2,vu2,ht2,e2,(ru2 xL _ a1').un,eo2⟩;refine ⟨_,rfl,t,t2,pS,m,us,sm.2.us,outs,sm.1,vS,ss,rfl,T1.mono g9,T2,by omega,nzL.l24,by omega,SqL.of (g9 _ _ eS),rS.mono g9,lss,by omega,nzL.ok.1,so,nm,fun H10 g10=>⟨_,rfl,iteF ?_⟩⟩;have k:=g9.trans g10;have T1:=T1.mono k;have NH:=NH.mono k;have NL:=NL.mono k;have hS:=k.seq hS;have eS2:=k _ _ eS2;have rS2:=rS2.mono k;clear k g9 g10 T2 ht2 e2 ru2 eo2 a1 a2 a3 a4 a1' eS rS
  try dsimp only
  change tSeq _ _ _ [some (.ref sa),some (.ref t),some (.ref xn),some (.ref pS),some (.ref pS2),some (.ref xL)] H10;refine ⟨_,rfl,_,rfl,_,rfl,pS2,vS2,rfl,.inl (SqL.of eS2),fun lc hlc=>?_⟩;have k11:=qy hlc (.lst vS2);have ec:=qz (H:=H10) (a:=lc) (o:=.lst vS2);have rc:=rS2.mono k11;have hh:=k11;generalize upd H10 lc (.lst vS2)=G11 at *;intro xb dxb hxb hdxb neb;have gm:Same G11 (upd (upd G11 dxb (.own xb)) xb (.ins a.cz0 dxb [])):=(qy hdxb _).trans (qy (by rw [qJ (Ne.symm neb)]; exact hxb) _);refine ⟨xb,dxb,lc,vS2,ss2,rfl,qz,SqL.of (gm _ _ ec),rc.mono gm,by omega,by omega,fun s hs=>⟨(sz2 s hs).1,(sz2 s hs).2.1.s9 (by decide) (by decide),(sz2 s hs).2.2.s9 (by decide) (by decide)⟩,fun mB vB H11 but _ hB eB rB=>⟨rfl,?_⟩⟩;have k11:Same H10 H11:=hh.trans fun b u e=>but b u (qQ e hxb) (gm _ _ e)
  clear hh gm but hxb hdxb neb ec rc hlc;have NB:NetBox K a H11 xn xb m us outs ss2:=by
   obtain ⟨lu',lo',vk',a1,a2,a3,a4⟩:=NH.mono k11;exact ⟨lu',lo',mB,vk',vB,a1,a2,a3,a4,hB,SqL.of eB,rB⟩
  refine ⟨xn,xb,m,us,outs,ss2,rfl,NB,nz.ok,lss2,l24,t40,by omega,oo2,fun xB H12 g12 NBx=>?_⟩;have k:=k11.trans g12;have T1:=T1.mono k;have NH:=NH.mono k;have NL:=NL.mono k;have hS:=k.seq hS;have eS2:=k _ _ eS2;have rS2:=rS2.mono k;clear k k11 g12 NB hB eB rB;generalize hsm2:jV m us outs ss2=sm2 at *;obtain ⟨luB,loB,vkB,a1,a2,a3,a4⟩:=id NBx;obtain ⟨dB,a1'⟩:=id a1;refine ⟨xB,dB,_,rfl,a1',rfl,xB,luB,loB,m,vkB,sm2.2.us,sm2.1,rfl,a1,a2,a3,nzB.ok.2.1,a4,fun t2 l2 o2 vu2 H13 g13 ht2 _ e2 ru2 _ eo2=>?_⟩;have T2:w6 K H13 t2 m sm2.2.us sm2.1:=⟨l2,o2,vu2,ht2,e2,(ru2 xB _ a1').un,eo2⟩;refine ⟨_,rfl,t,t2,pS2,m,us,sm2.2.us,outs,sm2.1,vS2,ss2,rfl,T1.mono g13,T2,by omega,nzB.l24,by omega,SqL.of (g13 _ _ eS2),rS2.mono g13,lss2,by omega,nzB.ok.1,so2,nm2,fun H14 g14=>⟨_,rfl,iteF ?_⟩⟩;have k:=g13.trans g14;have T1:=T1.mono k;have NH:=NH.mono k;have NL:=NL.mono k;have hS:=k.seq hS;have eS2:=k _ _ eS2;have rS2:=rS2.mono k;clear k g13 g14 T2 ht2 e2 ru2 eo2 a1 a2 a3 a4 a1' NBx
  try dsimp only
  change tSeq _ _ _ [some (.ref sa),some (.ref t),some (.ref xn),some (.ref pS),some (.ref pS2),some (.ref xL)] H14;obtain ⟨luL,loL,vkL,a1,a2,a3,a4⟩:=id NL;obtain ⟨dL,a1'⟩:=id a1;refine ⟨_,rfl,xL,dL,_,rfl,a1',rfl,xL,luL,loL,m,vkL,sm.2.us,sm.1,rfl,a1,a2,a3,nzL.ok.2.1,a4,fun t2 l2 o2 vu2 H15 g15 ht2 _ e2 ru2 _ eo2=>?_⟩;have T2:w6 K H15 t2 m sm.2.us sm.1:=⟨l2,o2,vu2,ht2,e2,(ru2 xL _ a1').un,eo2⟩;have NL:=NL.mono g15;have eS2:=g15 _ _ eS2;have rS2:=rS2.mono g15;clear ht2 e2 ru2 eo2 a1 a2 a3 a4 a1' T1 NH hS g15;refine ⟨_,rfl,_,rfl,pS2,vS2,rfl,.inl (SqL.of eS2),fun lc hlc=>?_⟩;have k15:=qy hlc (.lst vS2);have ec:=qz (H:=H15) (a:=lc) (o:=.lst vS2);have rc:=rS2.mono k15;have hh:=k15;generalize upd H15 lc (.lst vS2)=G15 at *;intro xb dxb hxb hdxb neb;have gm:Same G15 (upd (upd G15 dxb (.own xb)) xb (.ins a.cz0 dxb [])):=(qy hdxb _).trans (qy (by rw [qJ (Ne.symm neb)]; exact hxb) _);refine ⟨xb,dxb,lc,vS2,ss2,rfl,qz,SqL.of (gm _ _ ec),rc.mono gm,by omega,by omega,fun s hs=>⟨(sz2 s hs).1,(sz2 s hs).2.1.s9 (by decide) (by decide),(sz2 s hs).2.2.s9 (by decide) (by decide)⟩,fun mB vB H16 but _ hB eB rB=>⟨rfl,?_⟩⟩;have k15:Same H15 H16:=hh.trans fun b u e=>but b u (qQ e hxb) (gm _ _ e)
  clear hh gm but hxb hdxb neb ec rc hlc;have NB:NetBox K a H16 xL xb m sm.2.us sm.1 ss2:=by
   obtain ⟨lu',lo',vk',a1,a2,a3,a4⟩:=NL.mono k15;exact ⟨lu',lo',mB,vk',vB,a1,a2,a3,a4,hB,SqL.of eB,rB⟩
  have b8L:=nzL.b8;refine ⟨xL,xb,m,sm.2.us,sm.1,ss2,rfl,NB,nzL.ok,lss2,nzL.l24,t40L,by omega,oo3,fun xA H17 g17 NA=>?_⟩;have k:=k15.trans g17;generalize hsm3:jV m sm.2.us sm.1 ss2=sm3 at *;obtain ⟨luA,loA,vkA,c1,c2,c3,c4⟩:=NA;obtain ⟨dA,c1'⟩:=id c1;refine ⟨xA,dA,_,rfl,c1',rfl,xA,luA,loA,m,vkA,sm3.2.us,sm3.1,rfl,c1,c2,c3,nzA.ok.2.1,c4,fun t3 l3 o3 vu3 H18 g18 ht3 _ e3 ru3 _ eo3=>?_⟩;have T3:w6 K H18 t3 m sm3.2.us sm3.1:=⟨l3,o3,vu3,ht3,e3,(ru3 xA _ c1').un,eo3⟩;have g:=k.trans g18;have l24L:=nzL.l24;exact ⟨_,rfl,t2,t3,pS2,m,sm.2.us,sm3.2.us,sm.1,sm3.1,vS2,ss2,rfl,T2.mono g,T3,by omega,nzA.l24,by omega,SqL.of (g _ _ eS2),rS2.mono g,lss2,by omega,nzA.ok.1,so3,nm3,fun H19 _=>q _⟩
 clear hN;refine ⟨_,rfl,_,_,rfl,.inl hS,_,rfl,_,rfl,_,_,rfl,hS,fun c2 hc2=>?_⟩;obtain ⟨ks,eks,hks⟩:=cut_ints ns none (some 3);rw [eks];have j2:=qy hc2 (.lst (ks.map V.int));have e2:=qz (H:=H1) (a:=c2) (o:=.lst (ks.map V.int));generalize upd H1 c2 (.lst (ks.map V.int))=H2 at *;refine ⟨c2,rfl,⟨_,SqL.of e2⟩,yy (n:=ks.length) (fun i ys H''=>H''=H2∧∃ zs:List Int,ys=zs.map V.int) ⟨rfl,[],rfl⟩ (zj (by omega)) ?_ ?_ ?_⟩
 case refine_2 =>
  rintro i ys H'' hi ⟨rfl,_⟩;exact ⟨_,_,SqL.of e2,A4 (by rw [Al]; omega)⟩
 case refine_3 =>
  rintro i m' ys H'' cc x H6 hi ⟨rfl,zs,rfl⟩ ⟨rfl,y1⟩ nx _;obtain ⟨z,ez,rfl⟩:=int_at (y1 _ (SqL.of e2));exact Or.inl ⟨rfl,_,rfl,_,_,rfl,rfl,(by show (0:Int)<1000; decide),nx _ _ ⟨rfl,zs++[z%1000],by rw [An]; rfl⟩⟩
 rintro ys H3 ⟨rfl,zs,rfl⟩;refine ⟨⟨_,SqL.of e2,by rw [Al]; omega⟩,fun D hD=>⟨D,zs,rfl,SqL.of qz,_,_,rfl,rfl,_,_,rfl,fun v _ _=>⟨_,_,rfl,rfl,(by show (0:Int)<2; decide),rfl,_,rfl,?_⟩⟩⟩;have j3:=j2.trans (qy hD (.lst (zs.map V.int)));have T3:=T0.mono j3;refine iteD (fun _=>?_) (fun _=>rest t0 m0 us0 outs0 _ j3 T3 (Nz.drawn nok o3 n3 l12 b4 shr));exact ⟨_,rfl,t0,m0,us0,outs0,rfl,T3,nok.1,l12,by omega,fun r H5 g5 T5=>rest r m0 _ _ H5 (j3.trans g5) T5 (Nz.twice nok o3 n3 l12 b4 shr)⟩
end
theorem PF.mk {K:As} {h:Heap} {mg:Str→Option Value} {x:Str} {st:Stmt} (p:PF K x st) (X:K.In h) (G:h.Ns mainGlobals mg):∃ f fd,Fun K x x st f fd∧mg x=some (.ref f):=by
 obtain ⟨f,a,_,_,_,_,_,_,_,_,_,_,l,c,k⟩:=p;exact ⟨f,_,fun_mk l c k,PySem.W.mg_of X G a⟩
theorem PM.mk {K:As} {C:Addr} {m q:Str} {st:Stmt} (p:PM K C m q st):∃ f fd,Fun K m q st f fd∧PySem.W.findIn K (.ref C) m=some (some (.ref f))∧PySem.W.isFn K (.ref f)=true∧PySem.W.keepIn K (.ref f)=true:=by
 obtain ⟨f,a,i,_,_,_,_,_,_,_,_,_,l,c,k⟩:=p;exact ⟨f,_,fun_mk l c k,a,i,k⟩
theorem fb1 {K:As} {x q:Str} {st:Stmt} {f:Addr} {fd:FuncData} {p0:Str} (F:Fun K x q st f fd) (h:∀ (kV doc pm:Value) (an:Option Addr) (cdv ct u0:Value),bindArgs (PySem.W.fnOf x q (x5 st) (zY st) (qY st) .none kV doc pm an cdv ct) ⟨[u0],[]⟩=pure [(p0,u0)]:=by intros; rfl):Binds K fd [p0] []:=F.binds fun a b c d e f us hl=>match us,hl with | [u0],_=>h a b c d e f u0
theorem fb2 {K:As} {x q:Str} {st:Stmt} {f:Addr} {fd:FuncData} {p0 p1:Str} (F:Fun K x q st f fd) (h:∀ (kV doc pm:Value) (an:Option Addr) (cdv ct u0 u1:Value),bindArgs (PySem.W.fnOf x q (x5 st) (zY st) (qY st) .none kV doc pm an cdv ct) ⟨[u0,u1],[]⟩=pure [(p0,u0),(p1,u1)]:=by intros; rfl):Binds K fd [p0,p1] []:=F.binds fun a b c d e f us hl=>match us,hl with | [u0,u1],_=>h a b c d e f u0 u1
theorem fb3 {K:As} {x q:Str} {st:Stmt} {f:Addr} {fd:FuncData} {p0 p1 p2:Str} (F:Fun K x q st f fd) (h:∀ (kV doc pm:Value) (an:Option Addr) (cdv ct u0 u1 u2:Value),bindArgs (PySem.W.fnOf x q (x5 st) (zY st) (qY st) .none kV doc pm an cdv ct) ⟨[u0,u1,u2],[]⟩=pure [(p0,u0),(p1,u1),(p2,u2)]:=by intros; rfl):Binds K fd [p0,p1,p2] []:=F.binds fun a b c d e f us hl=>match us,hl with | [u0,u1,u2],_=>h a b c d e f u0 u1 u2
theorem fb4 {K:As} {x q:Str} {st:Stmt} {f:Addr} {fd:FuncData} {p0 p1 p2 p3:Str} (F:Fun K x q st f fd) (h:∀ (kV doc pm:Value) (an:Option Addr) (cdv ct u0 u1 u2 u3:Value),bindArgs (PySem.W.fnOf x q (x5 st) (zY st) (qY st) .none kV doc pm an cdv ct) ⟨[u0,u1,u2,u3],[]⟩=pure [(p0,u0),(p1,u1),(p2,u2),(p3,u3)]:=by intros; rfl):Binds K fd [p0,p1,p2,p3] []:=F.binds fun a b c d e f us hl=>match us,hl with | [u0,u1,u2,u3],_=>h a b c d e f u0 u1 u2 u3
theorem all_mk {l:PySem.W.OpenLaw} {w:World} {K:As} {h:Heap} {mg:Str→Option Value} {fa:Addr} (X:K.In h) (G:h.Ns mainGlobals mg) (hfa:mg "law" = some (.ref fa)) (pins:Pins K) :
  ∃ fd:FuncData,(∀ (s:Shared) (v:Value),BindsTo s fd ⟨[v],[]⟩ [("_law_script",v)])∧∀ base:Heap,K.In base→base.Ns mainGlobals mg→FnOk l.prog w K mg base CX0 10 fa fd ["_law_script"] (spLaw K):=by
 refine pins _ ?_;intro CC_Box CC_Net CC_Sketch CC_Draft tk_MOST_BENDS tk_MOST_UNITS tk_MOST_OUTS tk_MOST_INS gg_NOUGHT go_NOUGHT gn_NOUGHT gs_NOUGHT gt0_NOUGHT gt1_NOUGHT gg_ONE go_ONE gn_ONE gs_ONE gt0_ONE gt1_ONE tk_MOST_SIDES gBox gNet gSketch gDraft z0 z1 z2 z3 z4 z5 z6 z7 z8 z9 z10 z11 z12 z13 z14 z15 z16 z17 z18 z19 z20 pgBox hdBox poBox saBox mkBox kcBox naBox_sides pgNet hdNet poNet saNet mkNet kcNet naNet_many naNet_units naNet_outs pgSketch hdSketch poSketch saSketch mkSketch kcSketch naSketch_widths naSketch_bent_forms naSketch_variables naSketch_total pgDraft hdDraft poDraft saDraft mkDraft kcDraft naDraft_many naDraft_units naDraft_places naDraft_sums qMOST_BENDS qMOST_UNITS qMOST_OUTS qMOST_INS qNOUGHT qlNOUGHT qONE qlONE qMOST_SIDES h0 h1 h2 h3 h4 h5 h6 h7 h8 h9 h10 h11 h12 h13 h14 h15 h16 h17 h18 h19 h20 h21 h22 h23 h24 h25 h26 h27 h28 h29 h30 h31 h32 h33 h34 h35 h36 h37 h38 h39 h40 h41 h42 h43 h44 h45 h46 h47 h48 h49 h50 h51 h52 h53 h54;obtain ⟨_,_,F0,m0⟩:=h0.mk X G;obtain ⟨_,_,F1,m1⟩:=h1.mk X G;obtain ⟨_,_,F2,m2⟩:=h2.mk X G;obtain ⟨_,_,F3,m3⟩:=h3.mk X G;obtain ⟨_,_,F4,m4⟩:=h4.mk X G;obtain ⟨_,_,F5,m5⟩:=h5.mk X G;obtain ⟨_,_,F6,m6⟩:=h6.mk X G;obtain ⟨_,_,F7,m7⟩:=h7.mk X G;obtain ⟨_,_,F8,m8⟩:=h8.mk X G;obtain ⟨_,_,F9,m9⟩:=h9.mk X G;obtain ⟨_,_,F10,m10⟩:=h10.mk X G;obtain ⟨_,_,F11,m11⟩:=h11.mk X G;obtain ⟨_,_,F12,m12⟩:=h12.mk X G;obtain ⟨_,_,F13,m13⟩:=h13.mk X G;obtain ⟨_,_,F14,m14⟩:=h14.mk X G;obtain ⟨_,_,F15,m15⟩:=h15.mk X G;obtain ⟨_,_,F16,m16⟩:=h16.mk X G;obtain ⟨_,_,F17,m17⟩:=h17.mk X G
 obtain ⟨_,_,F18,m18⟩:=h18.mk X G;obtain ⟨_,_,F19,a19,i19,k19⟩:=h19.mk;obtain ⟨_,_,F20,m20⟩:=h20.mk X G;obtain ⟨_,_,F21,m21⟩:=h21.mk X G;obtain ⟨_,_,F22,a22,i22,k22⟩:=h22.mk;obtain ⟨_,_,F23,a23,i23,k23⟩:=h23.mk;obtain ⟨_,_,F24,m24⟩:=h24.mk X G;obtain ⟨_,_,F25,a25,i25,k25⟩:=h25.mk;obtain ⟨_,_,F26,m26⟩:=h26.mk X G;obtain ⟨_,_,F27,m27⟩:=h27.mk X G;obtain ⟨_,_,F28,m28⟩:=h28.mk X G;obtain ⟨_,_,F29,m29⟩:=h29.mk X G;obtain ⟨_,_,F30,m30⟩:=h30.mk X G;obtain ⟨_,_,F31,m31⟩:=h31.mk X G;obtain ⟨_,_,F32,m32⟩:=h32.mk X G;obtain ⟨_,_,F33,m33⟩:=h33.mk X G;obtain ⟨_,_,F34,a34,i34,k34⟩:=h34.mk;obtain ⟨_,_,F35,m35⟩:=h35.mk X G;obtain ⟨_,_,F36,a36,i36,k36⟩:=h36.mk;obtain ⟨_,_,F37,m37⟩:=h37.mk X G;obtain ⟨_,_,F38,a38,i38,k38⟩:=h38.mk;obtain ⟨_,_,F39,a39,i39,k39⟩:=h39.mk;obtain ⟨_,_,F40,a40,i40,k40⟩:=h40.mk;obtain ⟨_,_,F41,m41⟩:=h41.mk X G;obtain ⟨_,_,F42,m42⟩:=h42.mk X G;obtain ⟨_,_,F43,m43⟩:=h43.mk X G;obtain ⟨_,_,F44,m44⟩:=h44.mk X G;obtain ⟨_,_,F45,m45⟩:=h45.mk X G;obtain ⟨_,_,F46,m46⟩:=h46.mk X G;obtain ⟨_,_,F47,m47⟩:=h47.mk X G;obtain ⟨_,_,F48,m48⟩:=h48.mk X G;obtain ⟨_,_,F49,m49⟩:=h49.mk X G;obtain ⟨_,_,F50,m50⟩:=h50.mk X G;obtain ⟨_,_,F51,m51⟩:=h51.mk X G;obtain ⟨_,_,F52,m52⟩:=h52.mk X G;obtain ⟨_,_,F53,a53,i53,k53⟩:=h53.mk;obtain ⟨_,_,F54,m54⟩:=h54.mk X G;have e:=hfa.symm.trans m54
 cases e
 have T:Txt K mg ⟨_,_,_,_,_,_,_,_,_,_,_,_,_,_,_,_,_,_,_,_,_,_,_,_,_,_,_,_,_,_,_,_,_,_,_,_,_,_,_,_,_,_,_,_,_,_,_,_,_,_,_,_,_,_,_,_,_,_,_,_,_,_,_,_,_,_,_,_,_,_,_,_,_,_,_,_,_,_,_,_,_,_,_,_,_,_,_,_,_,_,_,_,_,_,_,_,_,_,_,_,_,_,_,_,_,_,_,_,_,_,CC_Box,CC_Net,CC_Sketch,CC_Draft,tk_MOST_BENDS,tk_MOST_UNITS,tk_MOST_OUTS,tk_MOST_INS,gg_NOUGHT,gg_ONE,tk_MOST_SIDES⟩:=⟨F0,m0,fb2 F0,F1,m1,fb2 F1,F2,m2,fb2 F2,F3,m3,fb3 F3,F4,m4,fb2 F4,F5,m5,fb2 F5,F6,m6,fb2 F6,F7,m7,fb4 F7,F8,m8,fb3 F8,F9,m9,fb2 F9,F10,m10,fb1 F10,F11,m11,fb1 F11,F12,m12,fb2 F12,F13,m13,fb1 F13,F14,m14,fb2 F14,F15,m15,fb3 F15,F16,m16,fb2 F16,F17,m17,fb2 F17,F18,m18,fb2 F18,F19,⟨mkNet,a19,i19,kcNet⟩,fb4 F19,F20,m20,fb2 F20,F21,m21,fb3 F21,F22,⟨a22,i22,k22⟩,fb1 F22,F23,⟨mkSketch,a23,i23,kcSketch⟩,fb3 F23,F24,m24,fb1 F24,F25,⟨a25,i25,k25⟩,fb1 F25,F26,m26,fb2 F26,F27,m27,fb2 F27,F28,m28,fb2 F28,F29,m29,fb2 F29,F30,m30,fb3 F30,F31,m31,fb4 F31,F32,m32,fb2 F32,F33,m33,fb2 F33,F34,⟨a34,i34,k34⟩,fb2 F34,F35,m35,fb2 F35,F36,⟨mkDraft,a36,i36,kcDraft⟩,fb2 F36,F37,m37,fb2 F37,F38,⟨a38,i38,k38⟩,fb2 F38,F39,⟨a39,i39,k39⟩,fb2 F39,F40,⟨a40,i40,k40⟩,fb1 F40,F41,m41,fb2 F41,F42,m42,fb2 F42,F43,m43,fb2 F43,F44,m44,fb2 F44,F45,m45,fb1 F45,F46,m46,fb2 F46,F47,m47,fb2 F47,F48,m48,fb1 F48,F49,m49,fb1 F49,F50,m50,fb3 F50,F51,m51,fb1 F51,F52,m52,fb1 F52,F53,⟨mkBox,a53,i53,kcBox⟩,fb2 F53,F54,m54,fb1 F54,PySem.W.mg_none_of X G z0,PySem.W.mg_none_of X G z1,PySem.W.mg_none_of X G z2,PySem.W.mg_none_of X G z3,PySem.W.mg_none_of X G z4,PySem.W.mg_none_of X G z5,PySem.W.mg_none_of X G z6,PySem.W.mg_none_of X G z7,PySem.W.mg_none_of X G z8,PySem.W.mg_none_of X G z9,PySem.W.mg_none_of X G z10,PySem.W.mg_none_of X G z11,PySem.W.mg_none_of X G z12,PySem.W.mg_none_of X G z13,PySem.W.mg_none_of X G z14,PySem.W.mg_none_of X G z15,PySem.W.mg_none_of X G z16,PySem.W.mg_none_of X G z17,PySem.W.mg_none_of X G z18,PySem.W.mg_none_of X G z19,PySem.W.mg_none_of X G z20,⟨pgBox,hdBox,poBox,saBox⟩,PySem.W.mg_of X G gBox,naBox_sides,⟨pgNet,hdNet,poNet,saNet⟩,PySem.W.mg_of X G gNet,naNet_many,naNet_units,naNet_outs,⟨pgSketch,hdSketch,poSketch,saSketch⟩,PySem.W.mg_of X G gSketch,naSketch_widths,naSketch_bent_forms,naSketch_variables,naSketch_total,⟨pgDraft,hdDraft,poDraft,saDraft⟩,PySem.W.mg_of X G gDraft,naDraft_many,naDraft_units,naDraft_places,naDraft_sums,PySem.W.mg_of X G qMOST_BENDS,PySem.W.mg_of X G qMOST_UNITS,PySem.W.mg_of X G qMOST_OUTS,PySem.W.mg_of X G qMOST_INS,PySem.W.mg_of X G qNOUGHT,fun _=>.inr ⟨_,_,_,qlNOUGHT,rfl,rfl,(by show 2≤sizeLine; decide),(.cons ⟨_,rfl⟩ (.cons ⟨_,rfl⟩ .nil))⟩,PySem.W.mg_of X G qONE,fun _=>.inr ⟨_,_,_,qlONE,rfl,rfl,(by show 2≤sizeLine; decide),(.cons ⟨_,rfl⟩ (.cons ⟨_,rfl⟩ .nil))⟩,PySem.W.mg_of X G qMOST_SIDES⟩
 obtain ⟨_,_,_,_,_,_,_,_,_,rfl,_,_⟩:=F54.ex;exact ⟨_,fun s v=>.of_eq rfl,fun base _ _=>okyh T⟩
theorem walk {l:PySem.W.OpenLaw} {q:Program} {loose:List Str} {XP:(Str→Option Value)→Heap→Prop} {YP:World→Heap→Prop} {d:DefRec} {K:Params→As} (hn:l.most=some 63) (hdf:d.params.defaults=[])
  (hY:∀ (w:World) (h:Heap),YP w h→(K w.params).In h)
  (F:∀ (w:World) (mg:Str→Option Value) (fa:Addr) (h:Heap),(K w.params).In h→h.Ns mainGlobals mg→mg d.name=some (.ref fa)→∃ fd:FuncData,(∀ (s:Shared) (u:Value),BindsTo s fd ⟨[u],[]⟩ [("_law_script",u)])∧∀ base:Heap,(K w.params).In base→base.Ns mainGlobals mg→FnOk l.prog w (K w.params) mg base CX0 10 fa fd ["_law_script"] (spLaw (K w.params))) :
  PySem.W.WalkO q loose XP YP l.row.toRowW d [] (fun f vs=>PySem.call f vs) :=
 L2.walk_of (n:=63) (k:=10) (x := "_law_script") (CX:=fun _=>CX0) (sp:=fun w=>spLaw (K w.params)) hn (by decide) hdf ⟨rfl,by decide,by decide⟩ hY F (fun _ _ a ns hl _ hS=>⟨a,ns,rfl,hS,hl,fun _=>rfl⟩) fun _ _ _ _ _ z=>z
end BP
open PySem PySem.W PyProof.Rows
set_option maxRecDepth 100000 in
theorem PySem.Challenge.cw_bendproof_k62_smaller_is_normal_holds : PySem.Challenge.rw_bendproof_k62_smaller_is_normal.Holds := by
 refine BP.early fun hd hn hY hP=>BP.walk (l:=PySem.Challenge.rw_bendproof_k62_smaller_is_normal) rfl hd hY fun w mg fa h KX G hmg=>?_
 rw [hn] at hmg;exact BP.all_mk KX G hmg (hP w)
